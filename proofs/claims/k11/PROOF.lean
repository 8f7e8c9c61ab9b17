import PyProof.Rows.All
import Wide.All
import OpenK.AllK
import Wide.FinOn
import Lean
import PyProof.EqAt
import PyProof.EqKinds
import PyProof.TupleCall
import PySem.Challenge.RW_lapwork_k11_loops_refused
-- CHANGE: your row's module here, as the last of these rows
set_option Elab.async false
set_option linter.all false
set_option maxRecDepth 100000
namespace L2
open PySem PySem.Spec PyProof.Rows
abbrev Key := Sum Int Str
def keyIs : Key → Value → Bool
  | .inl k, v => Value.isInt k v
  | .inr x, v => Value.isStrOf x v
def keyH (w : World) : Key → Int
  | .inl k => hashInt k
  | .inr x => hashStr w x
theorem keyIs_shape : ∀ {k : Key} {v : Value}, keyIs k v = true → (∃ i t, k = Sum.inl i ∧ v = Value.int i t) ∨ (∃ x t, k = Sum.inr x ∧ v = Value.str x t)
  | .inl i, v, h => by
    obtain ⟨t, e⟩ := Value.isInt_shape (k := i) (v := v) h
    exact .inl ⟨i, t, rfl, e⟩
  | .inr x, v, h => by
    obtain ⟨t, e⟩ := Value.isStrOf_shape (x := x) (v := v) h
    exact .inr ⟨x, t, rfl, e⟩
theorem keyIs_int (i : Int) (t : Tok) : keyIs (.inl i) (.int i t) = true := by simp [keyIs, Value.isInt]
theorem keyIs_str (x : Str) (t : Tok) : keyIs (.inr x) (.str x t) = true := by simp [keyIs, Value.isStrOf]
theorem key_ll (a b : Int) : decide ((Sum.inl a : Key) = Sum.inl b) = (a == b) := by
  by_cases e : a = b
  · subst e; simp
  · have h : ¬ (Sum.inl a : Key) = Sum.inl b := fun q => e (Sum.inl.inj q)
    rw [decide_eq_false h]
    exact (beq_eq_false_iff_ne.mpr e).symm
theorem key_rr (a b : Str) : decide ((Sum.inr a : Key) = Sum.inr b) = decide (a = b) := by
  by_cases e : a = b
  · subst e; simp
  · have h : ¬ (Sum.inr a : Key) = Sum.inr b := fun q => e (Sum.inr.inj q)
    rw [decide_eq_false h, decide_eq_false e]
theorem key_lr (a : Int) (b : Str) : decide ((Sum.inl a : Key) = Sum.inr b) = false := decide_eq_false (fun q => nomatch q)
theorem key_rl (a : Str) (b : Int) : decide ((Sum.inr a : Key) = Sum.inl b) = false := decide_eq_false (fun q => nomatch q)
def mixKind (prog : Program) (w : World) : PySem.KeyKind prog w Key where
  is := keyIs
  hash := keyH w
  inj := fun v a b ha hb => by
    rcases keyIs_shape ha with ⟨i, t, rfl, rfl⟩ | ⟨x, t, rfl, rfl⟩
    · rcases keyIs_shape hb with ⟨j, u, rfl, e⟩ | ⟨y, u, rfl, e⟩
      · injection e with e1 _; rw [e1]
      · exact nomatch e
    · rcases keyIs_shape hb with ⟨j, u, rfl, e⟩ | ⟨y, u, rfl, e⟩
      · exact nomatch e
      · injection e with e1 _; rw [e1]
  byValue := fun k v h => by
    rcases keyIs_shape h with ⟨i, t, rfl, rfl⟩ | ⟨x, t, rfl, rfl⟩ <;> rfl
  pyHash := fun hv h => by
    rcases keyIs_shape hv with ⟨i, t, rfl, rfl⟩ | ⟨x, t, rfl, rfl⟩
    · exact wpAny_pyHash_int h
    · exact wpAny_pyHash_str h
  eqBool := fun hu hv h => by
    rcases keyIs_shape hu with ⟨i, t, rfl, rfl⟩ | ⟨x, t, rfl, rfl⟩
    · rcases keyIs_shape hv with ⟨j, u, rfl, rfl⟩ | ⟨y, u, rfl, rfl⟩
      · rw [key_ll] at h; exact wpAny_eqBool_int h
      · rw [key_lr] at h; exact SeqAt.EqAt.int_str i t y u _ _ _ _ h
    · rcases keyIs_shape hv with ⟨j, u, rfl, rfl⟩ | ⟨y, u, rfl, rfl⟩
      · rw [key_rl] at h; exact SeqAt.EqAt.str_int x t j u _ _ _ _ h
      · rw [key_rr] at h; exact wpAny_eqBool_str h
  «strs» := fun k x t v h => by
    rcases keyIs_shape h with ⟨i, u, rfl, e⟩ | ⟨y, u, rfl, e⟩
    · exact nomatch e
    · injection e with e1 _
      subst e1
      cases v <;> rfl
theorem mixKind_int (prog : Program) (w : World) (i : Int) (t : Tok) : (mixKind prog w).is (.inl i) (.int i t) = true := keyIs_int i t
theorem mixKind_str (prog : Program) (w : World) (x : Str) (t : Tok) : (mixKind prog w).is (.inr x) (.str x t) = true := keyIs_str x t
end L2
namespace L2
open PySem PySem.Spec PyProof.Rows
inductive V where
  | non | bl (b : Bool) | int (i : Int) | str (x : Str) | byt (b : Array UInt8) | flt (b : UInt64) | ref (a : Addr) | ty (n : String)
  deriving DecidableEq
def RelV : V → Value → Prop
  | .non, u => u = Value.none
  | .bl b, u => u = Value.bool b
  | .int i, u => ∃ t, u = Value.int i t
  | .str x, u => ∃ t, u = Value.str x t
  | .byt b, u => ∃ t, u = Value.bytes b t
  | .flt b, u => ∃ t, u = Value.float b t
  | .ref a, u => u = Value.ref a
  | .ty n, u => u = Value.type n
abbrev Vals : List V → List Value → Prop := Paired RelV
theorem Vals.length {xs : List V} {us : List Value} (r : Vals xs us) : xs.length = us.length := Paired.length r
theorem Vals.get : ∀ {xs : List V} {us : List Value} {i : Nat} {x : V}, Vals xs us → xs[i]? = some x → ∃ u, us[i]? = some u ∧ RelV x u
  | _, _, _, _, .nil, e => by simp at e
  | _, _, 0, _, .cons r _, e => by simp at e; subst e; exact ⟨_, rfl, r⟩
  | _, _, i + 1, x, .cons _ t, e => by
    obtain ⟨u, h1, h2⟩ := Vals.get (i := i) (x := x) t (by simpa using e)
    exact ⟨u, by simpa using h1, h2⟩
theorem Vals.append : ∀ {xs ys : List V} {us ws : List Value}, Vals xs us → Vals ys ws → Vals (xs ++ ys) (us ++ ws)
  | _, _, _, _, .nil, s => s
  | _, _, _, _, .cons r t, s => .cons r (Vals.append t s)
theorem Vals.take : ∀ {xs : List V} {us : List Value} (n : Nat), Vals xs us → Vals (xs.take n) (us.take n)
  | _, _, 0, _ => .nil
  | _, _, _ + 1, .nil => .nil
  | _, _, n + 1, .cons r t => .cons r (Vals.take n t)
theorem Vals.drop : ∀ {xs : List V} {us : List Value} (n : Nat), Vals xs us → Vals (xs.drop n) (us.drop n)
  | _, _, 0, r => r
  | _, _, _ + 1, .nil => .nil
  | _, _, n + 1, .cons _ t => Vals.drop n t
def RelO : Option V → Option Value → Prop
  | some v, some u => RelV v u
  | none, none => True
  | _, _ => False
def KV {κ : Type} : List (κ × V) → List (κ × Value) → Prop := Paired fun (p : κ × V) (q : κ × Value) => p.1 = q.1 ∧ RelV p.2 q.2
def kV : Key → V
  | .inl i => .int i
  | .inr x => .str x
inductive HO where
  | lst (xs : List V)
  | tup (xs : List V)
  | dK (kvs : List (Key × V)) | dT (kvs : List (List Key × V))
  | set (S : Int → Bool) (n : Nat)
  | ins (C dx : Addr) (fs : List (Str × V))
  | own (x : Addr)
  | xd (fs : List (Str × V))
  | met (f x : Addr)
  | rng (lo hi : Int)
  | frz (o : Obj) (u : HO)
  | tbl (ps : Array Value)
  | ext (φ : Heap → Prop)
abbrev Hp := Addr → Option HO
def upd (H : Hp) (a : Addr) (o : HO) : Hp := fun b => if b = a then some o else H b
theorem upd_same {H : Hp} {a : Addr} {o : HO} : upd H a o a = some o := by unfold upd; rw [if_pos rfl]
theorem upd_ne {H : Hp} {a b : Addr} {o : HO} (h : b ≠ a) : upd H a o b = H b := by unfold upd; rw [if_neg h]
theorem upd_upd {H : Hp} {a : Addr} {o u : HO} : upd (upd H a o) a u = upd H a u := by
  funext b; unfold upd; split <;> rfl
theorem ne_of {H : Hp} {a b : Addr} {o u : HO} (h : H a = some o) (h' : H b = some u) (d : o ≠ u) : a ≠ b := by
  intro e; subst e; rw [h] at h'; exact d (Option.some.inj h')
theorem ne_of_none {H : Hp} {a b : Addr} {o : HO} (h : H a = some o) (h' : H b = none) : a ≠ b := by
  intro e; subst e; rw [h] at h'; cases h'
section
variable (P : Program) (w : World)
def ObjOk (H : Hp) (h : Heap) (a : Addr) : HO → Prop
  | .lst xs => xs.length ≤ sizeLine ∧ ∃ (its : List Value) (n : Nat), Vals xs its ∧ h.get? a = some { cls := .type "list", data := .seq its.toArray n }
  | .tup xs => xs.length ≤ sizeLine ∧ ∃ its : List Value, Vals xs its ∧ IsTup h a its.toArray
  | .dK kvs => kvs.length ≤ sizeLine ∧ (a == sysModules) = false ∧ ∃ vs, KV kvs vs ∧ h.DictOf (mixKind P w) a vs
  | .dT kvs => kvs.length ≤ sizeLine ∧ (a == sysModules) = false ∧ ∃ xs : List (List Key × Addr × Value),
      Paired (fun (p : List Key × V) (q : List Key × Addr × Value) => p.1 = q.1 ∧ H q.2.1 = some (.tup (p.1.map kV)) ∧ RelV p.2 q.2.2) kvs xs ∧
      ∃ o es ep, h.get? a = some o ∧ o.ExactDict ∧ o.data = .dict es ep ∧ es.toList = xs.map (entryOfKey (tupleKind (mixKind P w))) ∧ (xs.map (·.1)).Nodup
  | .set S n => h.SetOf (intKind P w) a S n
  | .ins C dx fs => H dx = some (.own a) ∧ fs.length ≤ 1000 ∧ dx ≠ a ∧ h.get? a = some (PySem.W.instObj C dx) ∧
      ∃ mA, h.Ns1 dx mA ∧ (∀ f, RelO (fs.lookup f) (mA f)) ∧ PySem.Within mA (fs.map (·.1))
  | .own _ => ∃ o, h.get? a = some o
  | .xd fs => ∃ mA, h.Ns1 a mA ∧ ∀ f, RelO (fs.lookup f) (mA f)
  | .rng lo hi => ∃ t u v, h.get? a = some { cls := .type "range", data := .fields #[.int lo t, .int hi u, .int 1 v] }
  | .frz o u => h.get? a = some o ∧ ObjOk H h a u
  | .tbl ps => h.get? a = some { cls := .none, data := .fields ps }
  | .met f x => h.get? a = some (PySem.W.methodObj (.ref f) (.ref x))
  | .ext φ => φ h ∧ (∃ o, h.get? a = some o) ∧ ∀ h1 h2 : Heap, φ h1 → (∀ o, h1.get? a = some o → h2.get? a = some o) → φ h2
def HOk (H : Hp) (h : Heap) : Prop := ∀ a o, H a = some o → ObjOk P w H h a o
end
section
variable {P : Program} {w : World} {H H' : Hp} {h h' : Heap} {a : Addr} {o : HO}
theorem ObjOk.lt (x : ObjOk P w H h a o) : a < h.objs.size := by
  cases o with
  | lst xs => obtain ⟨_, _, _, _, e⟩ := x; exact Heap.lt_size e
  | tup xs => obtain ⟨_, _, _, p⟩ := x; exact p.lt
  | dK kvs => obtain ⟨_, _, _, _, o, _, _, e, _⟩ := x; exact Heap.lt_size e
  | dT kvs => obtain ⟨_, _, _, _, o, _, _, e, _⟩ := x; exact Heap.lt_size e
  | set S n => obtain ⟨o, _, _, _, e, _⟩ := x; exact Heap.lt_size e
  | ins C dx fs => obtain ⟨_, _, _, e, _⟩ := x; exact Heap.lt_size e
  | own y => obtain ⟨_, e⟩ := x; exact Heap.lt_size e
  | xd fs => obtain ⟨_, ⟨_, _, _, e, _⟩, _⟩ := x; exact Heap.lt_size e
  | rng lo hi => obtain ⟨_, _, _, e⟩ := x; exact Heap.lt_size e
  | frz ob u => obtain ⟨e, _⟩ := x; exact Heap.lt_size e
  | tbl ps => exact Heap.lt_size (show h.get? a = some _ from x)
  | met f y => exact Heap.lt_size (show h.get? a = some _ from x)
  | ext φ => obtain ⟨_, ⟨_, e⟩, _⟩ := x; exact Heap.lt_size e
theorem Paired.mapP {α β : Type} {F G : α → β → Prop} : ∀ {l₁ : List α} {l₂ : List β}, Paired F l₁ l₂ → (∀ a b, F a b → G a b) → Paired G l₁ l₂
  | _, _, .nil, _ => .nil
  | _, _, .cons r t, f => .cons (f _ _ r) (Paired.mapP t f)
theorem ObjOk.stay (x : ObjOk P w H h a o) (k : ∀ b u, (b = a ∨ H b = some (.own a)) → h.get? b = some u → h'.get? b = some u)
    (ho : ∀ b, H b = some (.own a) → H' b = some (.own a)) (ht : ∀ b xs, H b = some (.tup xs) → H' b = some (.tup xs)) : ObjOk P w H' h' a o := by
  induction o with
  | lst xs => obtain ⟨z, its, n, r, e⟩ := x; exact ⟨z, its, n, r, k _ _ (.inl rfl) e⟩
  | tup xs => obtain ⟨z, its, r, ob, e, c⟩ := x; exact ⟨z, its, r, ob, k _ _ (.inl rfl) e, c⟩
  | dK kvs => obtain ⟨z, y, vs, r, ob, es, ep, e, c⟩ := x; exact ⟨z, y, vs, r, ob, es, ep, k _ _ (.inl rfl) e, c⟩
  | dT kvs =>
    obtain ⟨z, y, xs, r, ob, es, ep, e, c⟩ := x
    exact ⟨z, y, xs, Paired.mapP r fun p q z => ⟨z.1, ht _ _ z.2.1, z.2.2⟩, ob, es, ep, k _ _ (.inl rfl) e, c⟩
  | set S n => obtain ⟨ob, es, ep, t, e, c⟩ := x; exact ⟨ob, es, ep, t, k _ _ (.inl rfl) e, c⟩
  | ins C dx fs =>
    obtain ⟨d, z, ne, e, mA, ⟨od, es, ep, e2, c⟩, r⟩ := x
    exact ⟨ho _ d, z, ne, k _ _ (.inl rfl) e, mA, ⟨od, es, ep, k _ _ (.inr d) e2, c⟩, r⟩
  | own y => obtain ⟨ob, e⟩ := x; exact ⟨ob, k _ _ (.inl rfl) e⟩
  | xd fs => obtain ⟨mA, ⟨od, es, ep, e, c⟩, r⟩ := x; exact ⟨mA, ⟨od, es, ep, k _ _ (.inl rfl) e, c⟩, r⟩
  | rng lo hi => obtain ⟨t, u, v, e⟩ := x; exact ⟨t, u, v, k _ _ (.inl rfl) e⟩
  | frz ob u ih => obtain ⟨e, q⟩ := x; exact ⟨k _ _ (.inl rfl) e, ih q⟩
  | tbl ps =>
    have e : h.get? a = some { cls := .none, data := .fields ps } := x
    show h'.get? a = some { cls := .none, data := .fields ps }
    exact k a _ (.inl rfl) e
  | met f y =>
    have e : h.get? a = some (PySem.W.methodObj (.ref f) (.ref y)) := x
    show h'.get? a = some (PySem.W.methodObj (.ref f) (.ref y))
    exact k a _ (.inl rfl) e
  | ext φ => obtain ⟨p, ⟨o, e⟩, st⟩ := x; exact ⟨st _ _ p fun o q => k _ _ (.inl rfl) q, ⟨o, k _ _ (.inl rfl) e⟩, st⟩
theorem HOk.lt (x : HOk P w H h) (e : H a = some o) : a < h.objs.size := (x a o e).lt
theorem HOk.fresh (x : HOk P w H h) (e : h.objs.size ≤ a) : H a = none := by
  cases q : H a with
  | none => rfl
  | some u => exact absurd (Nat.lt_of_lt_of_le (x.lt q) e) (Nat.lt_irrefl _)
theorem HOk.kept (x : HOk P w H h) (k : ∀ b u, h.get? b = some u → h'.get? b = some u) : HOk P w H h' := fun a o e =>
  (x a o e).stay (fun b u _ q => k b u q) (fun _ q => q) fun _ _ q => q
theorem HOk.laid (x : HOk P w H h) (k : ∀ b u, h.get? b = some u → h'.get? b = some u) (hp : h.objs.size ≤ a) (new : ObjOk P w (upd H a o) h' a o) : HOk P w (upd H a o) h' := fun b u e => by
  have hn := x.fresh hp
  by_cases hb : b = a
  · subst hb; rw [upd_same] at e; cases e; exact new
  · rw [upd_ne hb] at e
    exact (x b u e).stay (fun c v _ q => k c v q) (fun c q => by rw [upd_ne (ne_of_none q hn)]; exact q) fun c xs q => by rw [upd_ne (ne_of_none q hn)]; exact q
end
def Rd (H : Hp) (a : Addr) (u : HO) : Prop := H a = some u ∨ ∃ o, H a = some (.frz o u)
theorem Rd.ok {P : Program} {w : World} {H : Hp} {h : Heap} {a : Addr} {u : HO} (r : Rd H a u) (x : HOk P w H h) : ObjOk P w H h a u := by
  rcases r with r | ⟨o, r⟩
  · exact x a u r
  · obtain ⟨_, q⟩ := x a _ r
    exact q
def Mut : Option HO → Prop
  | some (.lst _) => True
  | some (.dK _) => True
  | some (.dT _) => True
  | some (.set _ _) => True
  | some (.ins _ _ _) => True
  | some (.ext _) => True
  | _ => False
section
variable {P : Program} {w : World} {H : Hp} {h h' : Heap} {x e : Addr} {o' : HO}
theorem HOk.write (ok : HOk P w H h) (mu : Mut (H x)) (he : e = x ∨ H e = some (.own x)) (k : ∀ b u, b ≠ e → h.get? b = some u → h'.get? b = some u) (heo : ∃ u, h'.get? e = some u)
    (new : ObjOk P w (upd H x o') h' x o') : HOk P w (upd H x o') h' := fun b u q => by
  have nown : ∀ c y, H c = some (.own y) → c ≠ x := fun c y r z => by subst z; rw [r] at mu; exact mu
  have ntup : ∀ c xs, H c = some (.tup xs) → c ≠ x := fun c xs r z => by subst z; rw [r] at mu; exact mu
  by_cases hb : b = x
  · subst hb; rw [upd_same] at q; cases q; exact new
  · rw [upd_ne hb] at q
    by_cases hbe : b = e
    · have q' : H b = some (.own x) := by
        rcases he with z | z
        · exact absurd (hbe.trans z) hb
        · rw [hbe]; exact z
      rw [q] at q'; cases q'
      obtain ⟨v, hv⟩ := heo
      exact ⟨v, by rw [hbe]; exact hv⟩
    · refine (ok b u q).stay (fun c v hc r => k c v ?_ r) (fun c r => by rw [upd_ne (nown c b r)]; exact r) fun c xs r => by rw [upd_ne (ntup c xs r)]; exact r
      rcases hc with rfl | hc
      · exact hbe
      · rintro rfl
        rcases he with z | z
        · exact nown c b hc z
        · rw [hc] at z; cases z; exact hb rfl
end
structure Un (fs ex : List Addr) (H H' : Hp) (h h' : Heap) : Prop where
  keep : ∀ b o, h.get? b = some o → H b = none → b ∉ fs → b ∉ ex → h'.get? b = some o
  slot : ∀ b o, h.get? b = some o → H b = none → b ∈ fs → b ∉ ex → ∃ sl, h'.get? b = some { o with slots := sl }
  free : ∀ b o, h.get? b = some o → H b = none → b ∉ ex → H' b = none
  there : ∀ b o, h.get? b = some o → b ∉ ex → ∃ o', h'.get? b = some o'
  tups : ∀ b xs, H b = some (.tup xs) → H' b = some (.tup xs)
  frzs : ∀ b o u, H b = some (.frz o u) → H' b = some (.frz o u)
  tbls : ∀ b ps, H b = some (.tbl ps) → ∃ more, H' b = some (.tbl (ps ++ more))
section
variable {fs fs' ex ex' : List Addr} {H H1 H2 : Hp} {h h1 h2 h' : Heap} {a x e : Addr} {o : HO}
theorem Un.any (u : Un fs ex H H1 h h1) {b : Addr} {ob : Obj} (q : h.get? b = some ob) (n : H b = none) (hx : b ∉ ex) : ∃ sl, h1.get? b = some { ob with slots := sl } := by
  by_cases hb : b ∈ fs
  · exact u.slot b ob q n hb hx
  · exact ⟨ob.slots, u.keep b ob q n hb hx⟩
theorem Un.kept (k : ∀ b u, h.get? b = some u → h'.get? b = some u) : Un fs ex H H h h' :=
  ⟨fun b ob q _ _ _ => k b ob q, fun b ob q _ _ _ => ⟨ob.slots, k b ob q⟩, fun _ _ _ n _ => n, fun b ob q _ => ⟨ob, k b ob q⟩, fun _ _ q => q, fun _ _ _ q => q, fun _ ps q => ⟨#[], by rw [q]; simp⟩⟩
theorem Un.refl : Un fs ex H H h h := Un.kept fun _ _ q => q
theorem Un.laid (k : ∀ b u, h.get? b = some u → h'.get? b = some u) (hp : h.objs.size ≤ a) (hn : H a = none) : Un fs ex H (upd H a o) h h' where
  keep := fun b u q _ _ _ => k b u q
  slot := fun b u q _ _ _ => ⟨u.slots, k b u q⟩
  free := fun b u q n _ => by rw [upd_ne (Nat.ne_of_lt (Nat.lt_of_lt_of_le (Heap.lt_size q) hp))]; exact n
  there := fun b u q _ => ⟨u, k b u q⟩
  tups := fun b xs q => by rw [upd_ne (ne_of_none q hn)]; exact q
  frzs := fun b u xs q => by rw [upd_ne (ne_of_none q hn)]; exact q
  tbls := fun b ps q => ⟨#[], by rw [upd_ne (ne_of_none q hn), q]; simp⟩
theorem Un.write (mu : Mut (H x)) (he : e = x ∨ H e = some (.own x)) (k : ∀ b u, b ≠ e → h.get? b = some u → h'.get? b = some u) (heo : ∃ u, h'.get? e = some u) : Un fs ex H (upd H x o) h h' := by
  have hx : ∀ b, H b = none → b ≠ x := fun b n z => by subst z; rw [n] at mu; exact mu
  have hb : ∀ b, H b = none → b ≠ e := fun b n z => by
    subst z
    rcases he with r | r
    · exact hx b n r
    · rw [n] at r; cases r
  have hm : ∀ b u, H b = some u → ¬ Mut (some u) → b ≠ x := fun b u q nm z => by subst z; rw [q] at mu; exact nm mu
  refine ⟨fun b u q n _ _ => k b u (hb b n) q, fun b u q n _ _ => ⟨u.slots, k b u (hb b n) q⟩, fun b u q n _ => by rw [upd_ne (hx b n)]; exact n, fun b u q _ => ?_,
    fun b xs q => by rw [upd_ne (hm b _ q fun z => z)]; exact q, fun b u xs q => by rw [upd_ne (hm b _ q fun z => z)]; exact q, fun b ps q => ⟨#[], by rw [upd_ne (hm b _ q fun z => z), q]; simp⟩⟩
  by_cases hbe : b = e
  · subst hbe; exact heo
  · exact ⟨u, k b u hbe q⟩
end
def trk (h : Heap) (H : Hp) : List Addr := (List.range h.objs.size).filter fun a => (H a).isSome
def hidT (h : Heap) (H : Hp) : Heap := PySem.W.hideAll h (trk h H)
theorem hidT_size (h : Heap) (H : Hp) : (hidT h H).objs.size = h.objs.size := PySem.W.hideAll_size _ _
theorem hidT_get {h : Heap} {H : Hp} {b : Addr} {o : Obj} (e : h.get? b = some o) (n : H b = none) : (hidT h H).get? b = some o :=
  PySem.W.hideAll_get _ e fun hm => by
    have q : (H b).isSome = true := (List.mem_filter.mp hm).2
    rw [n] at q; simp at q
theorem of_hidT {h : Heap} {H : Hp} {b : Addr} {o : Obj} (e : (hidT h H).get? b = some o) : h.get? b = some o ∧ H b = none := by
  have e' : h.get? b = some o := PySem.W.of_hideAll (trk h H) e
  refine ⟨e', ?_⟩
  cases q : H b with
  | none => rfl
  | some x =>
    have hm : b ∈ trk h H := List.mem_filter.mpr ⟨List.mem_range.mpr (Heap.lt_size e'), by simp [q]⟩
    have z : (hidT h H).get? b = none := PySem.W.hideAll_none (trk h H) hm
    rw [z] at e; cases e
end L2
namespace L2
open PySem PySem.Spec PyProof.Rows
structure Mod (K : PySem.W.Frag) (mg : Str → Option Value) (base : Heap) : Prop where
  kin : K.In base
  glob : base.Ns mainGlobals mg
  blt : ∃ mb, base.Ns builtinsNs mb ∧ ∀ x : Str, x ≠ "__name__" → mb x = bootBuiltins x
  nolimit : base.NoLimit
structure Cx where
  prog : Program
  w : World
  K : PySem.W.Frag
  mg : Str → Option Value
  base : Heap
  A : Around
  N : List Str
  s₀ : Shared
  H₀ : Hp
  env : Env
  outer : List Env
  stack : List Env
  ex : List Addr
  fn : Str → Bool
  calm : Bool
  pn : List (Addr × Obj)
  xe : Value → Shared → Prop
def frs (l : List Env) : List Addr := l.filterMap (·.frame)
abbrev Cx.fs (X : Cx) : List Addr := frs X.outer
def Vis (sc : Scope) (x : Str) : Prop := sc.names.lookup x = some .local ∨ sc.names.lookup x = some .cell ∨ sc.names.lookup x = some .free
def Loc (sc : Scope) (x : Str) : Prop := sc.names.lookup x = some .local ∨ sc.names.lookup x = some .cell
def Look (env : Env) (h : Heap) (m : Str → Option Value) (x : Str) (u : Value) : Prop :=
  (env.kindOf x = some .local ∧ m x = some u) ∨ ((env.kindOf x = some .cell ∨ env.kindOf x = some .free) ∧ ∃ c, env.cells.lookup x = some c ∧ h.IsCell c (some u))
structure Cx.Ok (X : Cx) : Prop where
  mod : Mod X.K X.mg X.base
  kind : X.env.scope.kind = .function
  glob : X.env.globals = mainGlobals
  blt : X.env.builtins = builtinsNs
  above : X.s₀.heap.objs.size ≤ X.env.locals
  inj : ∀ x y c, X.env.cells.lookup x = some c → X.env.cells.lookup y = some c → x = y
  has : ∀ x, (X.env.kindOf x = some .cell ∨ X.env.kindOf x = some .free) → ∃ c, X.env.cells.lookup x = some c
  cab : ∀ x c, X.fn x = true → X.env.cells.lookup x = some c → X.s₀.heap.objs.size ≤ c
  hd : X.calm = true → X.A.handled = none
  frames : X.A.frames = some X.stack
  stk : X.stack = X.outer ∨ (X.stack = X.env :: X.outer ∧ X.env.frame = some X.env.locals)
  exf : ∀ b ∈ X.ex, b ≠ X.env.locals ∧ ∀ x c, X.env.cells.lookup x = some c → c ≠ b
  bs : ∀ b o, X.base.get? b = some o → X.s₀.heap.get? b = some o ∧ X.H₀ b = none
  bsz : X.base.objs.size ≤ X.s₀.heap.objs.size
  noex : ∀ b o, X.base.get? b = some o → b ∉ X.ex
  exfs : ∀ b ∈ X.ex, b ∉ X.fs
  funs : X.s₀.heap.FunFrames X.base X.outer
  frf : ∀ b ∈ X.fs, X.H₀ b = none
structure Inv (X : Cx) (pins : List (Addr × Obj)) (σ : List (Option V)) (H : Hp) (s : Shared) : Prop where
  ok : X.Ok
  os : s.os = X.s₀.os
  bare : AllBare s.gens
  base : Un X.fs X.ex X.H₀ H X.s₀.heap s.heap
  loc : ∃ m, s.heap.Ns X.env.locals m ∧ ∀ (i : Nat) (x : Str) (v : V), X.N[i]? = some x → σ[i]? = some (some v) → Vis X.env.scope x → ∃ u, RelV v u ∧ Look X.env s.heap m x u
  cell : ∀ x c, X.env.cells.lookup x = some c → ∃ v, s.heap.IsCell c v
  free : H X.env.locals = none
  freeC : ∀ x c, X.env.cells.lookup x = some c → H c = none
  pin : ∀ p ∈ X.pn ++ pins, s.heap.get? p.1 = some p.2 ∧ H p.1 = none ∧ p.1 ≠ X.env.locals ∧ p.1 ∉ X.fs ∧ ∀ v, p.2.data ≠ .cell v
  hok : HOk X.prog X.w H s.heap
  len : σ.length = X.N.length
section
variable {X : Cx} {pins : List (Addr × Obj)} {σ : List (Option V)} {H H' : Hp} {s : Shared} {h' : Heap}
theorem Cx.Ok.nofr (ok : X.Ok) {b : Addr} {o : Obj} (e : X.base.get? b = some o) : b ∉ X.fs := fun hb => by
  have := (ok.funs.mem hb).1
  rw [e] at this; cases this
theorem Inv.bs (I : Inv X pins σ H s) : ∀ b o, X.base.get? b = some o → s.heap.get? b = some o ∧ H b = none := fun b o e =>
  ⟨I.base.keep b o (I.ok.bs b o e).1 (I.ok.bs b o e).2 (I.ok.nofr e) (I.ok.noex b o e), I.base.free b o (I.ok.bs b o e).1 (I.ok.bs b o e).2 (I.ok.noex b o e)⟩
theorem Inv.bk (I : Inv X pins σ H s) : ∀ b o, X.base.get? b = some o → s.heap.get? b = some o := fun b o e => (I.bs b o e).1
theorem Inv.mod (I : Inv X pins σ H s) : Mod X.K X.mg X.base := I.ok.mod
theorem Inv.kIn (I : Inv X pins σ H s) : X.K.In s.heap := I.ok.mod.kin.keeps I.bk
theorem Inv.lt (I : Inv X pins σ H s) : X.env.locals < s.heap.objs.size := let ⟨_, hn, _⟩ := I.loc; hn.lt
theorem Inv.sz (I : Inv X pins σ H s) : X.s₀.heap.objs.size ≤ s.heap.objs.size := Nat.le_trans I.ok.above (Nat.le_of_lt I.lt)
theorem Inv.nofs (I : Inv X pins σ H s) {a : Addr} (h : s.heap.objs.size ≤ a) : a ∉ X.fs := fun hb => by
  obtain ⟨_, o, ho, _⟩ := I.ok.funs.mem hb
  exact absurd (Nat.lt_of_lt_of_le (Heap.lt_size ho) (Nat.le_trans I.sz h)) (Nat.lt_irrefl _)
theorem Inv.cne (I : Inv X pins σ H s) : ∀ x c, X.env.cells.lookup x = some c → c ≠ X.env.locals := fun x c e z => by
  obtain ⟨v, o, ho, hd⟩ := I.cell x c e
  obtain ⟨m, ⟨o', es, ep, ho', hd', _⟩, _⟩ := I.loc
  rw [z, ho'] at ho; cases ho; rw [hd'] at hd; cases hd
theorem Inv.funs (I : Inv X pins σ H s) : s.heap.FunFrames X.base X.outer := by
  have all : ∀ (l : List Env), (∀ b ∈ frs l, b ∈ X.fs) → X.s₀.heap.FunFrames X.base l → s.heap.FunFrames X.base l := by
    intro l
    induction l with
    | nil => intro _ _; trivial
    | cons env r ih =>
      intro hs hl
      obtain ⟨hk, ⟨L, o, hf, hn, ho, hd⟩, hr⟩ := hl
      have hL : L ∈ X.fs := hs L (by unfold frs; rw [List.filterMap_cons, hf]; exact List.mem_cons_self)
      obtain ⟨sl, e⟩ := I.base.slot L o ho (I.ok.frf L hL) hL fun z => I.ok.exfs L z hL
      exact ⟨hk, ⟨L, _, hf, hn, e, hd⟩, ih (fun b hb => hs b (by unfold frs; rw [List.filterMap_cons, hf]; exact List.mem_cons_of_mem _ hb)) hr⟩
  exact all X.outer (fun _ hb => hb) I.ok.funs
theorem Inv.stack (I : Inv X pins σ H s) : s.heap.FunFrames X.base X.stack := by
  rcases I.ok.stk with e | ⟨e, hf⟩
  · rw [e]; exact I.funs
  · rw [e]
    obtain ⟨m, hn, _⟩ := I.loc
    refine .cons (by rw [I.ok.kind]; decide) hf hn ?_ I.funs
    exact Heap.get?_none_of_le (Nat.le_trans I.ok.bsz I.ok.above)
theorem Inv.stkSub (I : Inv X pins σ H s) : ∀ b ∈ frs X.stack, b ∈ X.env.locals :: X.fs := fun b hb => by
  rcases I.ok.stk with e | ⟨e, hf⟩
  · rw [e] at hb; exact List.mem_cons_of_mem _ hb
  · rw [e] at hb
    unfold frs at hb
    rw [List.filterMap_cons, hf] at hb
    exact hb
theorem Inv.stkFree (I : Inv X pins σ H s) : ∀ b ∈ frs X.stack, H b = none := fun b hb => by
  rcases List.mem_cons.mp (I.stkSub b hb) with e | hb
  · rw [e]; exact I.free
  · obtain ⟨_, o, ho, _⟩ := I.ok.funs.mem hb
    exact I.base.free b o ho (I.ok.frf b hb) fun z => I.ok.exfs b z hb
theorem Inv.step {g' : Array GenState} {t' : Nat} {d' : Drawn} {ch : List Addr} (I : Inv X pins σ H s)
    (hch : ∀ b ∈ ch, (b ∈ X.ex ∨ X.s₀.heap.get? b = none) ∧ b ≠ X.env.locals ∧ (∀ x c, X.env.cells.lookup x = some c → c ≠ b) ∧ ∀ p ∈ X.pn ++ pins, p.1 ≠ b)
    (keep : ∀ b o, b ≠ X.env.locals → b ∉ X.fs → b ∉ ch → s.heap.get? b = some o → H b = none → h'.get? b = some o)
    (slot : ∀ b o, b ≠ X.env.locals → b ∈ X.fs → b ∉ ch → s.heap.get? b = some o → H b = none → ∃ sl, h'.get? b = some { o with slots := sl }) (free : ∀ b o, b ∉ ch → s.heap.get? b = some o → H b = none → H' b = none)
    (there : ∀ b o, b ∉ ch → s.heap.get? b = some o → ∃ o', h'.get? b = some o')
    (tups : ∀ b xs, H b = some (.tup xs) → H' b = some (.tup xs)) (frzs : ∀ b o u, H b = some (.frz o u) → H' b = some (.frz o u)) (tbls : ∀ b ps, H b = some (.tbl ps) → ∃ more, H' b = some (.tbl (ps ++ more)))
    (ns : ∀ m, s.heap.Ns X.env.locals m → h'.Ns X.env.locals m) (hok : HOk X.prog X.w H' h') (hg : AllBare g') :
    Inv X pins σ H' { s with heap := h', gens := g', drawn := d', toks := t' } := by
  have neL : ∀ b o, X.s₀.heap.get? b = some o → b ≠ X.env.locals := fun b o e => Nat.ne_of_lt (Nat.lt_of_lt_of_le (Heap.lt_size e) I.ok.above)
  have neC : ∀ b o, X.s₀.heap.get? b = some o → b ∉ X.ex → b ∉ ch := fun b o e hx hb => by
    rcases (hch b hb).1 with z | z
    · exact hx z
    · rw [z] at e; cases e
  have cellK : ∀ x c, X.env.cells.lookup x = some c → ∀ v, s.heap.IsCell c v → h'.IsCell c v := fun x c e v ⟨o, ho, hd⟩ => by
    have nch : c ∉ ch := fun z => (hch c z).2.2.1 x c e rfl
    by_cases hc : c ∈ X.fs
    · obtain ⟨sl, q⟩ := slot c o (I.cne x c e) hc nch ho (I.freeC x c e)
      exact ⟨_, q, hd⟩
    · exact ⟨o, keep c o (I.cne x c e) hc nch ho (I.freeC x c e), hd⟩
  refine ⟨I.ok, I.os, hg, ⟨fun b o e n hb hx => ?_, fun b o e n hb hx => ?_, fun b o e n hx => ?_, fun b o e hx => ?_, fun b xs e => tups b xs (I.base.tups b xs e), fun b o xs e => frzs b o xs (I.base.frzs b o xs e), fun b ps e => ?_⟩, ?_, fun x c e => ?_, ?_, fun x c e => ?_, fun p hp => ?_, hok, I.len⟩
  · exact keep b o (neL b o e) hb (neC b o e hx) (I.base.keep b o e n hb hx) (I.base.free b o e n hx)
  · obtain ⟨sl, e1⟩ := I.base.slot b o e n hb hx
    obtain ⟨sl', e2⟩ := slot b _ (neL b o e) hb (neC b o e hx) e1 (I.base.free b o e n hx)
    exact ⟨sl', e2⟩
  · obtain ⟨o', e1⟩ := I.base.there b o e hx
    exact free b o' (neC b o e hx) e1 (I.base.free b o e n hx)
  · obtain ⟨o', e1⟩ := I.base.there b o e hx
    exact there b o' (neC b o e hx) e1
  · obtain ⟨m1, e1⟩ := I.base.tbls b ps e
    obtain ⟨m2, e2⟩ := tbls b _ e1
    exact ⟨m1 ++ m2, by rw [e2, Array.append_assoc]⟩
  · obtain ⟨m, hn, hl⟩ := I.loc
    refine ⟨m, ns m hn, fun i x v e1 e2 e3 => ?_⟩
    obtain ⟨u, r, l⟩ := hl i x v e1 e2 e3
    refine ⟨u, r, ?_⟩
    rcases l with l | ⟨k, c, e, z⟩
    · exact .inl l
    · exact .inr ⟨k, c, e, cellK x c e _ z⟩
  · obtain ⟨v, z⟩ := I.cell x c e
    exact ⟨v, cellK x c e v z⟩
  · obtain ⟨m, ⟨o, _, _, ho, _⟩, _⟩ := I.loc
    exact free _ o (fun z => (hch _ z).2.1 rfl) ho I.free
  · obtain ⟨v, o, ho, hd⟩ := I.cell x c e
    exact free c o (fun z => (hch c z).2.2.1 x c e rfl) ho (I.freeC x c e)
  · obtain ⟨e, n, ne, nf, d⟩ := I.pin p hp
    have nch : p.1 ∉ ch := fun z => (hch p.1 z).2.2.2 p hp rfl
    exact ⟨keep p.1 p.2 ne nf nch e n, free p.1 p.2 nch e n, ne, nf, d⟩
theorem Inv.un {t' : Nat} (I : Inv X pins σ H s) (u : Un X.fs [] H H' s.heap h') (hok : HOk X.prog X.w H' h') : Inv X pins σ H' { s with heap := h', toks := t' } := by
  obtain ⟨m, ⟨o, es, ep, ho, r⟩, _⟩ := id I.loc
  obtain ⟨sl, hL⟩ := u.any ho I.free (by simp)
  exact I.step (g' := s.gens) (d' := s.drawn) (ch := []) (fun _ z => nomatch z) (fun b o _ hb _ e n => u.keep b o e n hb (by simp)) (fun b o _ hb _ e n => u.slot b o e n hb (by simp)) (fun b o _ e n => u.free b o e n (by simp)) (fun b o _ e => u.there b o e (by simp)) u.tups u.frzs u.tbls (fun m' hm => by
    obtain ⟨o', es', ep', ho', r'⟩ := hm
    rw [ho] at ho'; cases ho'
    exact ⟨_, es', ep', hL, r'⟩) hok I.bare
theorem Inv.call {g' : Array GenState} {t' : Nat} {d' : Drawn} {ch : List Addr} (I : Inv X pins σ H s) (u : Un (frs X.stack) ch H H' s.heap h') (hok : HOk X.prog X.w H' h') (hg : AllBare g')
    (hch : ∀ b ∈ ch, (b ∈ X.ex ∨ X.s₀.heap.get? b = none) ∧ b ≠ X.env.locals ∧ (∀ x c, X.env.cells.lookup x = some c → c ≠ b) ∧ ∀ p ∈ X.pn ++ pins, p.1 ≠ b) :
    Inv X pins σ H' { s with heap := h', gens := g', drawn := d', toks := t' } := by
  obtain ⟨m, ⟨o, es, ep, ho, r⟩, _⟩ := id I.loc
  obtain ⟨sl, hL⟩ := u.any ho I.free fun z => (hch _ z).2.1 rfl
  exact I.step (ch := ch) hch (fun b o hL hb hc e n => u.keep b o e n (fun z => (List.mem_cons.mp (I.stkSub b z)).elim hL hb) hc) (fun b o _ _ hc e n => u.any e n hc) (fun b o hc e n => u.free b o e n hc) (fun b o hc e => u.there b o e hc) u.tups u.frzs u.tbls (fun m' hm => by
    obtain ⟨o', es', ep', ho', r'⟩ := hm
    rw [ho] at ho'; cases ho'
    exact ⟨_, es', ep', hL, r'⟩) hok hg
theorem Inv.turned {t' : Nat} {it : Addr} (I : Inv X pins σ H s) (k : ∀ b o, b ≠ it → s.heap.get? b = some o → h'.get? b = some o) (hn : H it = none) (hL : it ≠ X.env.locals)
    (h1 : it ∈ X.ex ∨ X.s₀.heap.get? it = none) (h2 : ∀ x c, X.env.cells.lookup x = some c → c ≠ it) (h3 : ∀ p ∈ X.pn ++ pins, p.1 ≠ it) : Inv X pins σ H { s with heap := h', toks := t' } := by
  have nit : ∀ b u, H b = some u → b ≠ it := fun b u e z => by rw [z, hn] at e; cases e
  refine I.step (g' := s.gens) (d' := s.drawn) (ch := [it]) (fun b hb => ?_) (fun b o _ _ hc e _ => k b o (fun z => hc (by simp [z])) e) (fun b o _ _ hc e _ => ⟨o.slots, k b o (fun z => hc (by simp [z])) e⟩) (fun _ _ _ _ n => n)
    (fun b o hc e => ⟨o, k b o (fun z => hc (by simp [z])) e⟩) (fun _ _ e => e) (fun _ _ _ e => e) (fun b ps e => ⟨#[], by rw [e]; simp⟩) (fun m hm => ?_) (fun b u e => ?_) I.bare
  · have e : b = it := by simpa using hb
    subst e
    exact ⟨h1, hL, h2, h3⟩
  · obtain ⟨o, es, ep, ho, r⟩ := hm
    exact ⟨o, es, ep, k _ o (Ne.symm hL) ho, r⟩
  · refine (I.hok b u e).stay (fun c v hc q => k c v ?_ q) (fun _ q => q) fun _ _ q => q
    rcases hc with z | z
    · rw [z]; exact nit b u e
    · exact nit c _ z
theorem Inv.tok (I : Inv X pins σ H s) (t : Nat) : Inv X pins σ H { s with toks := t } := I.un (h' := s.heap) (t' := t) Un.refl I.hok
theorem Inv.kept {t' : Nat} (I : Inv X pins σ H s) (k : ∀ b u, s.heap.get? b = some u → h'.get? b = some u) : Inv X pins σ H { s with heap := h', toks := t' } := I.un (Un.kept k) (I.hok.kept k)
theorem Inv.laid {a : Addr} {o : HO} {t' : Nat} (I : Inv X pins σ H s) (k : ∀ b u, s.heap.get? b = some u → h'.get? b = some u) (hp : s.heap.objs.size ≤ a) (new : ObjOk X.prog X.w (upd H a o) h' a o) :
    Inv X pins σ (upd H a o) { s with heap := h', toks := t' } := I.un (Un.laid k hp (I.hok.fresh hp)) (I.hok.laid k hp new)
theorem Inv.write {x e : Addr} {o : HO} {t' : Nat} (I : Inv X pins σ H s) (mu : Mut (H x)) (he : e = x ∨ H e = some (.own x)) (k : ∀ b u, b ≠ e → s.heap.get? b = some u → h'.get? b = some u) (heo : ∃ u, h'.get? e = some u)
    (new : ObjOk X.prog X.w (upd H x o) h' x o) : Inv X pins σ (upd H x o) { s with heap := h', toks := t' } := I.un (Un.write mu he k heo) (I.hok.write mu he k heo new)
theorem Inv.pins_of {pins' : List (Addr × Obj)} (I : Inv X pins σ H s) (h : ∀ p ∈ pins', s.heap.get? p.1 = some p.2 ∧ H p.1 = none ∧ p.1 ≠ X.env.locals ∧ p.1 ∉ X.fs ∧ ∀ v, p.2.data ≠ .cell v) : Inv X pins' σ H s :=
  ⟨I.ok, I.os, I.bare, I.base, I.loc, I.cell, I.free, I.freeC, fun p hp => (List.mem_append.mp hp).elim (fun z => I.pin p (List.mem_append_left _ z)) (h p), I.hok, I.len⟩
theorem nodup_ix {N : List Str} (hN : N.Nodup) {i j : Nat} {x : Str} (a : N[i]? = some x) (b : N[j]? = some x) : i = j := by
  obtain ⟨h1, e1⟩ := List.getElem?_eq_some_iff.mp a
  obtain ⟨h2, e2⟩ := List.getElem?_eq_some_iff.mp b
  exact (List.getElem_inj hN).mp (e1.trans e2.symm)
theorem store_ok2 {M : Model} {A : Around} {E : Value → Shared → Prop} {i : Nat} {x : Str} {v : V} {u : Value} {Q : Unit → Shared → Prop} (I : Inv X pins σ H s) (hN : X.N.Nodup) (hi : X.N[i]? = some x) (hx : Loc X.env.scope x) (r : RelV v u)
    (h : ∀ s', Inv X pins (σ.set i (some v)) H s' → (∃ a, Heap.SameBut a s.heap s'.heap ∧ (a = X.env.locals ∨ X.env.cells.lookup x = some a)) → Q () s') (hf : X.fn x = true ∨ X.env.scope.names.lookup x = some .local := by first | exact .inl rfl | exact .inr rfl | assumption) : wpAny M A (storeName X.env x u) Q E s := by
  obtain ⟨m, hn, hl⟩ := id I.loc
  have hcls : (X.env.scope.kind == .class || (X.env.scope.kind == .module && X.env.locals != X.env.globals)) = false := by rw [I.ok.kind]; rfl
  have hiσ : i < σ.length := by rw [I.len]; exact (List.getElem?_eq_some_iff.mp hi).1
  have cne := I.cne
  have tracked : ∀ {a : Addr} {h' : Heap}, (∃ o, s.heap.get? a = some o ∧ H a = none) → Heap.SameBut a s.heap h' → HOk X.prog X.w H h' := fun {a h'} ha hs b ob e => by
    obtain ⟨_, _, hfree⟩ := ha
    refine (I.hok b ob e).stay (fun c w' hc q => (hs.2 c ?_).trans q) (fun _ q => q) fun _ _ q => q
    rintro rfl
    rcases hc with rfl | hc
    · rw [hfree] at e; cases e
    · rw [hfree] at hc; cases hc
  rcases hx with hk | hk
  · refine wpAny_storeName_local hk hn (fun h' hn' hs => ?_) hcls
    obtain ⟨oL, _, _, hoL, _⟩ := id hn
    refine h _ ⟨I.ok, I.os, I.bare, ⟨fun b o e n hb hx => ?_, fun b o e n hb hx => ?_, I.base.free, fun b o e hx => ?_, I.base.tups, I.base.frzs, I.base.tbls⟩, ⟨_, hn', fun j y v' e1 e2 e3 => ?_⟩, fun y c e => ?_, I.free, I.freeC, fun p hp => ?_, tracked ⟨oL, hoL, I.free⟩ hs, by simpa using I.len⟩ ⟨_, hs, .inl rfl⟩
    · exact (hs.2 b (Nat.ne_of_lt (Nat.lt_of_lt_of_le (Heap.lt_size e) I.ok.above))).trans (I.base.keep b o e n hb hx)
    · obtain ⟨sl, e1⟩ := I.base.slot b o e n hb hx
      exact ⟨sl, (hs.2 b (Nat.ne_of_lt (Nat.lt_of_lt_of_le (Heap.lt_size e) I.ok.above))).trans e1⟩
    · obtain ⟨o', e1⟩ := I.base.there b o e hx
      exact ⟨o', (hs.2 b (Nat.ne_of_lt (Nat.lt_of_lt_of_le (Heap.lt_size e) I.ok.above))).trans e1⟩
    · by_cases hj : j = i
      · subst hj
        rw [hi] at e1; cases e1
        rw [List.getElem?_set_self hiσ] at e2
        cases e2
        exact ⟨u, r, .inl ⟨hk, by simp⟩⟩
      · rw [List.getElem?_set_ne (Ne.symm hj)] at e2
        obtain ⟨u', r', q⟩ := hl j y v' e1 e2 e3
        refine ⟨u', r', ?_⟩
        rcases q with ⟨k, e⟩ | ⟨k, c, e, z⟩
        · refine .inl ⟨k, ?_⟩
          have : y ≠ x := fun e => hj (nodup_ix hN e1 (e ▸ hi))
          simp [this, e]
        · exact .inr ⟨k, c, e, z.sameBut hs (cne y c e)⟩
    · obtain ⟨w', z⟩ := I.cell y c e
      exact ⟨w', z.sameBut hs (cne y c e)⟩
    · obtain ⟨e, n, ne, nf, d⟩ := I.pin p hp
      exact ⟨(hs.2 p.1 ne).trans e, n, ne, nf, d⟩
  · have hfn : X.fn x = true := by
      rcases hf with z | z
      · exact z
      · rw [z] at hk; cases hk
    obtain ⟨c, hc⟩ := I.ok.has x (.inl hk)
    obtain ⟨w', z⟩ := I.cell x c hc
    refine wpAny_storeName_cell I.ok.kind hk hc z (fun h' hc' hs => ?_)
    obtain ⟨oc, hoc, hocd⟩ := id z
    refine h { s with heap := h' } ⟨I.ok, I.os, I.bare, ⟨fun b o e n hb hx => ?_, fun b o e n hb hx => ?_, I.base.free, fun b o e hx => ?_, I.base.tups, I.base.frzs, I.base.tbls⟩, ⟨m, hn.sameBut hs (Ne.symm (cne x c hc)), fun j y v' e1 e2 e3 => ?_⟩, fun y c' e => ?_, I.free, I.freeC, fun p hp => ?_, tracked ⟨oc, hoc, I.freeC x c hc⟩ hs, by simpa using I.len⟩ ⟨c, hs, .inr hc⟩
    · exact (hs.2 b (Nat.ne_of_lt (Nat.lt_of_lt_of_le (Heap.lt_size e) (I.ok.cab x c hfn hc)))).trans (I.base.keep b o e n hb hx)
    · obtain ⟨sl, e1⟩ := I.base.slot b o e n hb hx
      exact ⟨sl, (hs.2 b (Nat.ne_of_lt (Nat.lt_of_lt_of_le (Heap.lt_size e) (I.ok.cab x c hfn hc)))).trans e1⟩
    · obtain ⟨o', e1⟩ := I.base.there b o e hx
      exact ⟨o', (hs.2 b (Nat.ne_of_lt (Nat.lt_of_lt_of_le (Heap.lt_size e) (I.ok.cab x c hfn hc)))).trans e1⟩
    · by_cases hj : j = i
      · subst hj
        rw [hi] at e1; cases e1
        rw [List.getElem?_set_self hiσ] at e2
        cases e2
        exact ⟨u, r, .inr ⟨.inl hk, c, hc, hc'⟩⟩
      · rw [List.getElem?_set_ne (Ne.symm hj)] at e2
        obtain ⟨u', r', q⟩ := hl j y v' e1 e2 e3
        refine ⟨u', r', ?_⟩
        rcases q with q | ⟨k, c', e, z'⟩
        · exact .inl q
        · refine .inr ⟨k, c', e, z'.sameBut hs ?_⟩
          rintro rfl
          exact hj (nodup_ix hN e1 (I.ok.inj _ _ _ e hc ▸ hi))
    · by_cases hcc : c' = c
      · subst hcc; exact ⟨_, hc'⟩
      · obtain ⟨w2, z2⟩ := I.cell y c' e
        exact ⟨w2, z2.sameBut hs hcc⟩
    · obtain ⟨e, n, ne, nf, d⟩ := I.pin p hp
      refine ⟨(hs.2 p.1 ?_).trans e, n, ne, nf, d⟩
      intro q
      rw [q, hoc] at e
      have q' : oc = p.2 := Option.some.inj e
      exact d w' (by rw [← q']; exact hocd)
theorem store_ok {M : Model} {A : Around} {E : Value → Shared → Prop} {i : Nat} {x : Str} {v : V} {u : Value} {Q : Unit → Shared → Prop} (I : Inv X pins σ H s) (hN : X.N.Nodup) (hi : X.N[i]? = some x) (hx : Loc X.env.scope x) (r : RelV v u)
    (h : ∀ s', Inv X pins (σ.set i (some v)) H s' → Q () s') (hf : X.fn x = true ∨ X.env.scope.names.lookup x = some .local := by first | exact .inl rfl | exact .inr rfl | assumption) : wpAny M A (storeName X.env x u) Q E s :=
  store_ok2 I hN hi hx r (fun s' I' _ => h s' I') hf
theorem Inv.call' {s' : Shared} {ch : List Addr} (I : Inv X pins σ H s) (ho : s'.os = s.os) (u : Un (frs X.stack) ch H H' s.heap s'.heap) (hok : HOk X.prog X.w H' s'.heap) (hg : AllBare s'.gens)
    (hch : ∀ b ∈ ch, (b ∈ X.ex ∨ X.s₀.heap.get? b = none) ∧ b ≠ X.env.locals ∧ (∀ x c, X.env.cells.lookup x = some c → c ≠ b) ∧ ∀ p ∈ X.pn ++ pins, p.1 ≠ b) : Inv X pins σ H' s' := by
  obtain ⟨h', g', d', t', o'⟩ := s'
  have e : o' = s.os := ho
  subst e
  exact I.call (g' := g') (t' := t') (d' := d') u hok hg hch
end
abbrev XK := Value → Option Addr → Hp → Prop
abbrev St := List (Option V)
abbrev VK := V → Hp → Prop
abbrev TE := St → Hp → VK → Prop
abbrev TT := St → Hp → (Bool → Hp → Prop) → Prop
abbrev TA := St → Hp → (List V → Hp → Prop) → Prop
structure Ends where
  nx : St → Hp → Prop
  rt : VK
  bk : St → Hp → Prop := fun _ _ => False
  ct : St → Hp → Prop := fun _ _ => False
abbrev TS := Ends → St → Hp → Prop
def EP (X : Cx) (pins : List (Addr × Obj)) (σ : St) (Q : VK) (u : Value) (s' : Shared) : Prop := ∃ v H', Inv X pins σ H' s' ∧ RelV v u ∧ Q v H'
def TP (X : Cx) (pins : List (Addr × Obj)) (σ : St) (Q : Bool → Hp → Prop) (b : Bool) (s' : Shared) : Prop := ∃ H', Inv X pins σ H' s' ∧ Q b H'
def AP (X : Cx) (pins : List (Addr × Obj)) (σ : St) (Q : List V → Hp → Prop) (us : List Value) (s' : Shared) : Prop := ∃ vs H', Inv X pins σ H' s' ∧ Vals vs us ∧ Q vs H'
def SP (X : Cx) (pins : List (Addr × Obj)) (D : Ends) (f : Flow) (s' : Shared) : Prop :=
  match f with
  | .next => ∃ σ' H', Inv X pins σ' H' s' ∧ D.nx σ' H'
  | .brk => ∃ σ' H', Inv X pins σ' H' s' ∧ D.bk σ' H'
  | .cont => ∃ σ' H', Inv X pins σ' H' s' ∧ D.ct σ' H'
  | .ret u => ∃ v σ' H', Inv X pins σ' H' s' ∧ RelV v u ∧ D.rt v H'
def PE (X : Cx) (e : Expr) (t : TE) : Prop :=
  ∀ (pins : List (Addr × Obj)) (s : Shared) (σ : St) (H : Hp) (Q : VK), Inv X pins σ H s → t σ H Q → wpAny (model X.prog X.w) X.A (eval e X.env) (EP X pins σ Q) X.xe s
def PT (X : Cx) (e : Expr) (t : TT) : Prop :=
  ∀ (pins : List (Addr × Obj)) (s : Shared) (σ : St) (H : Hp) (Q : Bool → Hp → Prop), Inv X pins σ H s → t σ H Q → wpAny (model X.prog X.w) X.A (isTrue e X.env (eval e X.env)) (TP X pins σ Q) X.xe s
def PW (X : Cx) (e : Expr) (t : TT) : Prop :=
  ∀ (whole : Sem Value) (pins : List (Addr × Obj)) (s : Shared) (σ : St) (H : Hp) (Q : Bool → Hp → Prop), Inv X pins σ H s → t σ H Q → wpAny (model X.prog X.w) X.A (isTrue e X.env whole) (TP X pins σ Q) X.xe s
theorem PW.pt {X : Cx} {e : Expr} {t : TT} (h : PW X e t) : PT X e t := h _
def PA (X : Cx) (es : List Expr) (t : TA) : Prop :=
  ∀ (pos : Pos) (pins : List (Addr × Obj)) (s : Shared) (σ : St) (H : Hp) (Q : List V → Hp → Prop), Inv X pins σ H s → t σ H Q → wpAny (model X.prog X.w) X.A (spliced (backTo pos (starEach es X.env))) (AP X pins σ Q) X.xe s
def PS (X : Cx) (st : Stmt) (t : TS) : Prop :=
  ∀ (pins : List (Addr × Obj)) (s : Shared) (σ : St) (H : Hp) (D : Ends), Inv X pins σ H s → t D σ H → wpAny (model X.prog X.w) X.A (exec st X.env) (SP X pins D) X.xe s
def PSs (X : Cx) (st : List Stmt) (t : TS) : Prop :=
  ∀ (pins : List (Addr × Obj)) (s : Shared) (σ : St) (H : Hp) (D : Ends), Inv X pins σ H s → t D σ H → wpAny (model X.prog X.w) X.A (execs st X.env) (SP X pins D) X.xe s
theorem thn {α : Type} {t : Sem α} {Q Q' : α → Shared → Prop} {M : Model} {A : Around} {E : Value → Shared → Prop} {s : Shared} (h : wpAny M A t Q E s) (hQ : ∀ a s, Q a s → Q' a s) : wpAny M A t Q' E s := wpAny_mono h hQ fun _ _ x => x
end L2
namespace L2
open PySem PySem.Spec PyProof.Rows
section
variable {X : Cx}
theorem bin {a b : Expr} {ta tb : TE} (ha : PE X a ta) (hb : PE X b tb) {pins : List (Addr × Obj)} {s : Shared} {σ : St} {H : Hp} {R : V → V → Hp → Prop} (I : Inv X pins σ H s) (h : ta σ H fun x H1 => tb σ H1 fun y H2 => R x y H2)
    {α : Type} {Q : α → Shared → Prop} {f : Value → Value → Sem α}
    (hf : ∀ v u s2 x y H2, Inv X pins σ H2 s2 → RelV x v → RelV y u → R x y H2 → wpAny (model X.prog X.w) X.A (f v u) Q X.xe s2) :
    wpAny (model X.prog X.w) X.A (eval a X.env) (fun v s₁ => wpAny (model X.prog X.w) X.A (eval b X.env) (fun u s₂ => wpAny (model X.prog X.w) X.A (f v u) Q X.xe s₂) X.xe s₁) X.xe s := by
  refine thn (ha pins s σ H _ I h) fun v s1 ⟨x, H1, I1, r1, q1⟩ => ?_
  refine thn (hb pins s1 σ H1 _ I1 q1) fun u s2 ⟨y, H2, I2, r2, q2⟩ => ?_
  exact hf v u s2 x y H2 I2 r1 r2 q2
def tVar (i : Nat) : TE := fun σ H Q => ∃ v, σ[i]? = some (some v) ∧ Q v H
def tC (v : V) : TE := fun _ H Q => Q v H
theorem pe_var {i : Nat} {x : Str} {pos : Pos} (hN : X.N[i]? = some x) (hv : Vis X.env.scope x) (hd : (x == ("__debug__" : Str)) = false := by decide) (hcd : (x == ("__classdict__" : Str)) = false := by decide) : PE X (.Name x pos) (tVar i) := by
  intro pins s σ H Q I h
  obtain ⟨v, e, h⟩ := h
  obtain ⟨m, hn, hl⟩ := I.loc
  obtain ⟨u, r, l⟩ := hl i x v hN e hv
  have fin : EP X pins σ Q u s := ⟨v, H, I, r, h⟩
  rcases l with ⟨hk, hm⟩ | ⟨hk, c, hc, hcell⟩
  · exact wpAny_Name (wpAny_loadName_local I.ok.kind hk hn hm fin) hd
  · rcases hk with hk | hk
    · exact wpAny_Name (wpAny_loadName_cell I.ok.kind hk hc hcell fin) hd
    · exact wpAny_Name (wpAny_loadName_free I.ok.kind hk hc hcell fin hcd) hd
theorem pe_int {i j pos} : PE X (.Constant (.int i) j pos) (tC (.int i)) := fun _ _ _ H _ I h => wpAny_Constant_int ⟨.int i, H, I.tok _, ⟨_, rfl⟩, h⟩
theorem pe_bl {b j pos} : PE X (.Constant (.bool b) j pos) (tC (.bl b)) := fun _ _ _ H _ I h => Constant_bool ⟨.bl b, H, I, rfl, h⟩
theorem pe_non {j pos} : PE X (.Constant .none j pos) (tC .non) := fun _ _ _ H _ I h => Constant_none ⟨.non, H, I, rfl, h⟩
theorem pe_str {x j pos} : PE X (.Constant (.str x) j pos) (tC (.str x)) := fun _ _ _ H _ I h => Calls.Constant_str ⟨.str x, H, I.tok _, ⟨_, rfl⟩, h⟩
def Gl (X : Cx) (x : Str) : Prop := X.env.kindOf x = some .globalImplicit
theorem ld_glob {E : Value → Shared → Prop} {pins : List (Addr × Obj)} {s : Shared} {σ : St} {H : Hp} {x : Str} {u : Value} {pos : Pos} {Q : Value → Shared → Prop} (I : Inv X pins σ H s) (hg : Gl X x) (hm : X.mg x = some u) (h : Q u s)
    (hd : (x == ("__debug__" : Str)) = false := by decide) : wpAny (model X.prog X.w) X.A (eval (.Name x pos) X.env) Q E s :=
  Calls.Name_function_global I.ok.kind hg (Calls.loadGlobal_global (by rw [I.ok.glob]; exact I.mod.glob.keeps I.bk) hm h) hd
theorem ld_blt {E : Value → Shared → Prop} {pins : List (Addr × Obj)} {s : Shared} {σ : St} {H : Hp} {x : Str} {u : Value} {pos : Pos} {Q : Value → Shared → Prop} (I : Inv X pins σ H s) (hg : Gl X x) (hm : X.mg x = none) (hv : bootBuiltins x = some u) (h : Q u s)
    (hn : x ≠ "__name__" := by decide) (hd : (x == ("__debug__" : Str)) = false := by decide) : wpAny (model X.prog X.w) X.A (eval (.Name x pos) X.env) Q E s := by
  obtain ⟨mb, h1, h2⟩ := I.mod.blt
  exact Calls.Name_function_global I.ok.kind hg (Calls.loadGlobal_builtin (by rw [I.ok.glob]; exact I.mod.glob.keeps I.bk) hm (by rw [I.ok.blt]; exact h1.keeps I.bk) ((h2 x hn).trans hv) h) hd
theorem pe_glob {x : Str} {v : V} {u : Value} {pos : Pos} (hg : Gl X x) (hm : X.mg x = some u) (r : RelV v u) (hd : (x == ("__debug__" : Str)) = false := by decide) : PE X (.Name x pos) (tC v) :=
  fun _ _ _ H _ I h => ld_glob I hg hm ⟨v, H, I, r, h⟩ hd
theorem pe_bltn {x : Str} {v : V} {u : Value} {pos : Pos} (hg : Gl X x) (hm : X.mg x = none) (hv : bootBuiltins x = some u) (r : RelV v u) (hn : x ≠ "__name__" := by decide) (hd : (x == ("__debug__" : Str)) = false := by decide) : PE X (.Name x pos) (tC v) :=
  fun _ _ _ H _ I h => ld_blt I hg hm hv ⟨v, H, I, r, h⟩ hn hd
variable {a b : Expr} {ta tb : TE} {pos : Pos}
def PC (X : Cx) (op : CmpOp) (a b : Expr) (t : TE) : Prop :=
  ∀ (pins : List (Addr × Obj)) (s : Shared) (σ : St) (H : Hp) (Q : VK), Inv X pins σ H s → t σ H Q →
    wpAny (model X.prog X.w) X.A (eval a X.env) (fun v s₁ => wpAny (model X.prog X.w) X.A (eval b X.env) (fun u s₂ => wpAny (model X.prog X.w) X.A (compareOp op v u) (EP X pins σ Q) X.xe s₂) X.xe s₁) X.xe s
def tB (t : TE) : TT := fun σ H Q => t σ H fun x H1 => ∃ c, x = .bl c ∧ Q c H1
theorem pt_cmp {op : CmpOp} {t : TE} (h : PC X op a b t) (h1 : behindInMarks op b = false := by first | exact nobehind _ (by decide) (by decide) | rfl) : PT X (.Compare a [op] [b] pos) (tB t) := by
  intro pins s σ H Q I hw
  refine wpAny_isTrue_Compare1 (thn (h pins s σ H _ I hw) fun v s1 h1 => thn h1 fun u s2 h2 => thn h2 fun c s3 ⟨x, H1, I1, r1, q1⟩ => ?_) h1
  obtain ⟨d, rfl, q⟩ := q1
  cases r1
  exact wpAny_truthy_bool ⟨H1, I1, q⟩
theorem pt_val {e : Expr} {t : TE} (h : PE X e t) (he : ∀ whole, isTrue e X.env whole = (do let v ← whole; standAt e.pos; holding [v] (truthy v)) := by intro _; rfl) : PT X e (tB t) := by
  intro pins s σ H Q I hw
  refine isTrue_plain (thn (h pins s σ H _ I hw) fun v s1 ⟨x, H1, I1, r1, q1⟩ => ?_) (he _)
  obtain ⟨d, rfl, q⟩ := q1
  cases r1
  exact wpAny_truthy_bool ⟨H1, I1, q⟩
variable {tA tB' : TT} {rest : List Expr}
def tAnd (t u : TT) : TT := fun σ H Q => t σ H fun c H1 => if c = true then u σ H1 Q else Q false H1
def tOr (t u : TT) : TT := fun σ H Q => t σ H fun c H1 => if c = true then Q true H1 else u σ H1 Q
def tNot (t : TT) : TT := fun σ H Q => t σ H fun c H1 => Q (!c) H1
theorem pw_and1 (ha : PT X a tA) : PW X (.BoolOp .And [a] pos) tA := by
  intro wh pins s σ H Q I h
  refine isTrue_and (thn (ha pins s σ H Q I h) fun c s1 e => ?_)
  cases c with
  | true => exact isTrue_and_nil e
  | false => exact e
theorem pw_or1 (ha : PT X a tA) : PW X (.BoolOp .Or [a] pos) tA := by
  intro wh pins s σ H Q I h
  refine isTrue_or (thn (ha pins s σ H Q I h) fun c s1 e => ?_)
  cases c with
  | false => exact isTrue_or_nil e
  | true => exact e
theorem pw_and (ha : PT X a tA) (hb : PW X (.BoolOp .And (b :: rest) pos) tB') : PW X (.BoolOp .And (a :: b :: rest) pos) (tAnd tA tB') := by
  intro wh pins s σ H Q I h
  refine isTrue_and (thn (ha pins s σ H _ I h) fun c s1 ⟨H1, I1, q1⟩ => ?_)
  cases c with
  | true => exact hb wh pins s1 σ H1 Q I1 q1
  | false => exact ⟨H1, I1, q1⟩
theorem pw_or (ha : PT X a tA) (hb : PW X (.BoolOp .Or (b :: rest) pos) tB') : PW X (.BoolOp .Or (a :: b :: rest) pos) (tOr tA tB') := by
  intro wh pins s σ H Q I h
  refine isTrue_or (thn (ha pins s σ H _ I h) fun c s1 ⟨H1, I1, q1⟩ => ?_)
  cases c with
  | true => exact ⟨H1, I1, q1⟩
  | false => exact hb wh pins s1 σ H1 Q I1 q1
theorem pt_not (ha : PT X a tA) : PT X (.UnaryOp .Not a pos) (tNot tA) := by
  intro pins s σ H Q I h
  exact isTrue_not (ha pins s σ H (fun c H1 => Q (!c) H1) I h)
def tAndV (ta tb : TE) : TE := fun σ H Q => ta σ H fun x H1 => ∃ c, x = .bl c ∧ if c = true then tb σ H1 Q else Q (.bl false) H1
def tOrV (ta tb : TE) : TE := fun σ H Q => ta σ H fun x H1 => ∃ c, x = .bl c ∧ if c = true then Q (.bl true) H1 else tb σ H1 Q
theorem pe_one {op} {t : TE} (h : PE X a t) : PE X (.BoolOp op [a] pos) t := fun pins s σ H Q I hw => BoolOp_one (h pins s σ H Q I hw)
theorem pe_and (ha : PE X a ta) (hb : PE X (.BoolOp .And (b :: rest) pos) tb) : PE X (.BoolOp .And (a :: b :: rest) pos) (tAndV ta tb) := by
  intro pins s σ H Q I h
  refine BoolOp_and (thn (ha pins s σ H _ I h) fun v s1 ⟨x, H1, I1, r1, q1⟩ => ?_)
  obtain ⟨c, rfl, q1⟩ := q1
  cases r1
  refine wpAny_truthy_bool ?_
  cases c with
  | true => exact hb pins s1 σ H1 Q I1 q1
  | false => exact ⟨.bl false, H1, I1, rfl, q1⟩
theorem pe_or (ha : PE X a ta) (hb : PE X (.BoolOp .Or (b :: rest) pos) tb) : PE X (.BoolOp .Or (a :: b :: rest) pos) (tOrV ta tb) := by
  intro pins s σ H Q I h
  refine BoolOp_or (thn (ha pins s σ H _ I h) fun v s1 ⟨x, H1, I1, r1, q1⟩ => ?_)
  obtain ⟨c, rfl, q1⟩ := q1
  cases r1
  refine wpAny_truthy_bool ?_
  cases c with
  | false => exact hb pins s1 σ H1 Q I1 q1
  | true => exact ⟨.bl true, H1, I1, rfl, q1⟩
def tIf (t : TT) (ta tb : TE) : TE := fun σ H Q => t σ H fun c H1 => if c = true then ta σ H1 Q else tb σ H1 Q
theorem pe_ifExp {c : Expr} (hc : PT X c tA) (ha : PE X a ta) (hb : PE X b tb) : PE X (.IfExp c a b pos) (tIf tA ta tb) := by
  intro pins s σ H Q I h
  refine wpAny_IfExp (thn (hc pins s σ H _ I h) fun d s1 ⟨H1, I1, q1⟩ => ?_)
  cases d with
  | true => exact ha pins s1 σ H1 Q I1 q1
  | false => exact hb pins s1 σ H1 Q I1 q1
end
end L2
namespace L2
open PySem PySem.Spec PyProof.Rows
def SqL (K : PySem.W.Frag) (H : Hp) (a : Addr) (xs : List V) : Prop :=
  Rd H a (.lst xs) ∨
    ∃ (o : Obj) (its : Array Value) (n : Nat), K.lookup a = some o ∧ o.cls = .type "list" ∧ o.dict = none ∧ o.data = .seq its n ∧ its.size ≤ sizeLine ∧ Vals xs its.toList
def SqT (K : PySem.W.Frag) (H : Hp) (a : Addr) (xs : List V) : Prop :=
  Rd H a (.tup xs) ∨
    ∃ (o : Obj) (its : Array Value) (n : Nat), K.lookup a = some o ∧ o.cls = .type "tuple" ∧ o.data = .seq its n ∧ its.size ≤ sizeLine ∧ Vals xs its.toList
def absV : Value → Option V
  | .none => some .non
  | .bool b => some (.bl b)
  | .int i _ => some (.int i)
  | .str x _ => some (.str x)
  | .bytes b _ => some (.byt b)
  | .float b _ => some (.flt b)
  | .ref a => some (.ref a)
  | .type n => some (.ty n)
  | _ => none
theorem RelV.abs {x : V} {u : Value} (r : RelV x u) : absV u = some x := by
  cases x with
  | non => cases r; rfl
  | bl _ => cases r; rfl
  | int _ => obtain ⟨t, rfl⟩ := r; rfl
  | str _ => obtain ⟨t, rfl⟩ := r; rfl
  | byt _ => obtain ⟨t, rfl⟩ := r; rfl
  | flt _ => obtain ⟨t, rfl⟩ := r; rfl
  | ref _ => cases r; rfl
  | ty _ => cases r; rfl
theorem RelV.inj {x y : V} {u : Value} (r : RelV x u) (q : RelV y u) : x = y := Option.some.inj (r.abs.symm.trans q.abs)
theorem Vals.inj : ∀ {xs ys : List V} {us : List Value}, Vals xs us → Vals ys us → xs = ys
  | _, _, _, .nil, .nil => rfl
  | _, _, _, .cons r t, .cons r' t' => by rw [r.inj r', Vals.inj t t']
section
variable {X : Cx} {pins : List (Addr × Obj)} {σ : St} {H : Hp} {s : Shared} {a : Addr} {xs ys : List V}
theorem Inv.list (I : Inv X pins σ H s) (h : SqL X.K H a xs) : ∃ its : List Value, Vals xs its ∧ PlainL s.heap a its.toArray ∧ xs.length ≤ sizeLine := by
  rcases h with h | ⟨o, its, n, hk, hc, hd, hs, hz, r⟩
  · obtain ⟨z, its, n, r, e⟩ := h.ok I.hok
    exact ⟨its, r, ⟨_, n, e, rfl, rfl, rfl⟩, z⟩
  · refine ⟨its.toList, r, ⟨o, n, I.kIn a o hk, hc, hd, by simpa using hs⟩, ?_⟩
    have e := r.length
    simp only [Array.length_toList] at e
    omega
theorem Inv.tuple (I : Inv X pins σ H s) (h : SqT X.K H a xs) : ∃ its : List Value, Vals xs its ∧ IsTup s.heap a its.toArray ∧ xs.length ≤ sizeLine := by
  rcases h with h | ⟨o, its, n, hk, hc, hs, hz, r⟩
  · obtain ⟨z, its, r, p⟩ := h.ok I.hok
    exact ⟨its, r, p, z⟩
  · refine ⟨its.toList, r, ⟨o, I.kIn a o hk, hc, n, by simpa using hs⟩, ?_⟩
    have e := r.length
    simp only [Array.length_toList] at e
    omega
theorem Inv.list_inj (I : Inv X pins σ H s) (h : SqL X.K H a xs) (h' : SqL X.K H a ys) : xs = ys := by
  obtain ⟨its, r, ⟨o, n, e, _, _, d⟩, _⟩ := I.list h
  obtain ⟨its', r', ⟨o', n', e', _, _, d'⟩, _⟩ := I.list h'
  rw [e] at e'; cases e'
  rw [d] at d'
  injection d' with d1 _
  have : its = its' := by simpa using congrArg Array.toList d1
  subst this
  exact r.inj r'
theorem Inv.tuple_inj (I : Inv X pins σ H s) (h : SqT X.K H a xs) (h' : SqT X.K H a ys) : xs = ys := by
  obtain ⟨its, r, ⟨o, e, _, n, d⟩, _⟩ := I.tuple h
  obtain ⟨its', r', ⟨o', e', _, n', d'⟩, _⟩ := I.tuple h'
  rw [e] at e'; cases e'
  rw [d] at d'
  injection d' with d1 _
  have : its = its' := by simpa using congrArg Array.toList d1
  subst this
  exact r.inj r'
end
abbrev Cx.wish (X : Cx) (E : Value → Shared → Prop) : Cx := { X with xe := E }
abbrev Cx.nox (X : Cx) : Cx := X.wish fun _ _ => False
theorem Cx.Ok.wish {X : Cx} (ok : X.Ok) (E : Value → Shared → Prop) : (X.wish E).Ok :=
  ⟨ok.mod, ok.kind, ok.glob, ok.blt, ok.above, ok.inj, ok.has, ok.cab, ok.hd, ok.frames, ok.stk, ok.exf, ok.bs, ok.bsz, ok.noex, ok.exfs, ok.funs, ok.frf⟩
theorem Cx.Ok.unwish {X : Cx} {E : Value → Shared → Prop} (ok : (X.wish E).Ok) : X.Ok :=
  ⟨ok.mod, ok.kind, ok.glob, ok.blt, ok.above, ok.inj, ok.has, ok.cab, ok.hd, ok.frames, ok.stk, ok.exf, ok.bs, ok.bsz, ok.noex, ok.exfs, ok.funs, ok.frf⟩
section
variable {X : Cx} {pins : List (Addr × Obj)} {σ : St} {H : Hp} {s : Shared} {E : Value → Shared → Prop}
theorem Inv.wish (I : Inv X pins σ H s) (E : Value → Shared → Prop) : Inv (X.wish E) pins σ H s := ⟨I.ok.wish E, I.os, I.bare, I.base, I.loc, I.cell, I.free, I.freeC, I.pin, I.hok, I.len⟩
theorem Inv.unwish (I : Inv (X.wish E) pins σ H s) : Inv X pins σ H s := ⟨I.ok.unwish, I.os, I.bare, I.base, I.loc, I.cell, I.free, I.freeC, I.pin, I.hok, I.len⟩
theorem SP.unwish {D : Ends} {f : Flow} {s' : Shared} (h : SP (X.wish E) pins D f s') : SP X pins D f s' := by
  cases f with
  | next => obtain ⟨σ', H', I, q⟩ := h; exact ⟨σ', H', I.unwish, q⟩
  | brk => obtain ⟨σ', H', I, q⟩ := h; exact ⟨σ', H', I.unwish, q⟩
  | cont => obtain ⟨σ', H', I, q⟩ := h; exact ⟨σ', H', I.unwish, q⟩
  | ret u => obtain ⟨v, σ', H', I, r, q⟩ := h; exact ⟨v, σ', H', I.unwish, r, q⟩
theorem PSs.nox {st : List Stmt} {t : TS} (h : PSs X.nox st t) : PSs X st t := fun pins s σ H D I hw =>
  wpAny_mono (h pins s σ H D (I.wish _) hw) (fun _ _ q => q.unwish) fun _ _ z => False.elim z
end
section
variable {X : Cx} {st : Stmt} {rest : List Stmt} {t u : TS} {e : Expr} {te : TE} {pos : Pos}
def tNext : TS := fun D σ H => D.nx σ H
def tSeq (t u : TS) : TS := fun D σ H => t { D with nx := u D } σ H
theorem pss_nil : PSs X [] tNext := fun _ _ σ H _ I h => wpAny_execs_nil ⟨σ, H, I, h⟩
theorem pss_cons (h1 : PS X st t) (h2 : PSs X rest u) : PSs X (st :: rest) (tSeq t u) := by
  intro pins s σ H D I h
  refine wpAny_execs_cons (thn (h1 pins s σ H { D with nx := u D } I h) fun f s1 q => ?_)
  cases f with
  | next =>
    obtain ⟨σ', H', I', q⟩ := q
    exact h2 pins s1 σ' H' D I' q
  | ret v => exact q
  | brk => exact q
  | cont => exact q
theorem pss_one (h1 : PS X st t) : PSs X [st] t := by
  intro pins s σ H D I h
  refine wpAny_execs_cons (thn (h1 pins s σ H D I h) fun f s1 q => ?_)
  cases f with
  | next => exact wpAny_execs_nil q
  | ret v => exact q
  | brk => exact q
  | cont => exact q
theorem Inv.quiet {pins : List (Addr × Obj)} {σ : St} {H : Hp} {s : Shared} (I : Inv X pins σ H s) : interactive X.env = false := by simp [interactive, I.ok.kind]
def tDrop (te : TE) : TS := fun D σ H => te σ H fun _ H1 => D.nx σ H1
theorem ps_expr (he : PE X e te) (hs : swapsWith e none pos.line X.env = pure false := by rfl) : PS X (.Expr e pos) (tDrop te) := by
  intro pins s σ H D I h
  exact wpAny_Expr_any (thn (he pins s σ H _ I h) fun v s1 ⟨x, H1, I1, r1, q1⟩ => ⟨σ, H1, I1, q1⟩) I.quiet hs
def tRet (te : TE) : TS := fun D σ H => te σ H D.rt
theorem ps_ret (he : PE X e te) : PS X (.Return (some e) pos) (tRet te) := by
  intro pins s σ H D I h
  exact wpAny_Return_some (thn (he pins s σ H _ I h) fun v s1 ⟨x, H1, I1, r1, q1⟩ => ⟨x, σ, H1, I1, r1, q1⟩)
def tIfS (c : TT) (t u : TS) : TS := fun D σ H => c σ H fun b H1 => if b = true then t D σ H1 else u D σ H1
theorem ps_if {c : Expr} {a b : List Stmt} {tc : TT} (hc : PT X c tc) (ha : PSs X a t) (hb : PSs X b u) : PS X (.If c a b pos) (tIfS tc t u) := by
  intro pins s σ H D I h
  refine wpAny_If (thn (hc pins s σ H _ I h) fun d s1 ⟨H1, I1, q1⟩ => ?_)
  cases d with
  | true => exact ha pins s1 σ H1 D I1 q1
  | false => exact hb pins s1 σ H1 D I1 q1
end
abbrev TG := V → St → Hp → (St → Hp → Prop) → Prop
abbrev TGs := List V → St → Hp → (St → Hp → Prop) → Prop
def PG (X : Cx) (target : Expr) (t : TG) : Prop :=
  ∀ (pins : List (Addr × Obj)) (s : Shared) (σ : St) (H : Hp) (v : V) (u : Value) (Q : St → Hp → Prop), Inv X pins σ H s → RelV v u → t v σ H Q →
    wpAny (model X.prog X.w) X.A (assign target X.env u) (fun _ s' => ∃ σ' H', Inv X pins σ' H' s' ∧ Q σ' H') X.xe s
def PGs (X : Cx) (ts : List Expr) (t : TGs) : Prop :=
  ∀ (pins : List (Addr × Obj)) (s : Shared) (σ : St) (H : Hp) (vs : List V) (us : List Value) (Q : St → Hp → Prop), Inv X pins σ H s → Vals vs us → t vs σ H Q →
    wpAny (model X.prog X.w) X.A (assignInOrder ((assignEach ts X.env).map (·.2)) us) (fun _ s' => ∃ σ' H', Inv X pins σ' H' s' ∧ Q σ' H') X.xe s
section
variable {X : Cx} {pos : Pos}
def gName (i : Nat) : TG := fun v σ H Q => Q (σ.set i (some v)) H
theorem pg_name {i : Nat} {x : Str} (hN : X.N.Nodup) (hi : X.N[i]? = some x) (hx : Loc X.env.scope x) (hf : X.fn x = true ∨ X.env.scope.names.lookup x = some .local := by first | exact .inl rfl | exact .inr rfl | assumption) : PG X (.Name x pos) (gName i) := by
  intro pins s σ H v u Q I r h
  exact wpAny_assign_Name (store_ok I hN hi hx r (fun s' I' => ⟨_, H, I', h⟩) hf)
def gNil : TGs := fun vs σ H Q => vs = [] ∧ Q σ H
def gCons (t : TG) (u : TGs) : TGs := fun vs σ H Q => ∃ v r, vs = v :: r ∧ t v σ H fun σ' H' => u r σ' H' Q
theorem pgs_nil : PGs X [] gNil := by
  intro pins s σ H vs us Q I r h
  obtain ⟨e, h⟩ := h
  subst e
  cases r
  exact assignInOrder_nil ⟨σ, H, I, h⟩
theorem pgs_cons {e : Expr} {es : List Expr} {t : TG} {u : TGs} (h1 : PG X e t) (h2 : PGs X es u)
    (hs : (assignEach (e :: es) X.env).map (·.2) = assign e X.env :: (assignEach es X.env).map (·.2) := by rfl) : PGs X (e :: es) (gCons t u) := by
  intro pins s σ H vs us Q I r h
  obtain ⟨v, vr, e1, h⟩ := h
  subst e1
  cases r with
  | cons r rr =>
    rw [hs]
    refine assignInOrder_cons (thn (h1 pins s σ H _ _ _ I r h) fun _ s1 ⟨σ1, H1, I1, q1⟩ => ?_)
    exact h2 pins s1 σ1 H1 _ _ Q I1 rr q1
def gTup (K : PySem.W.Frag) (n : Nat) (t : TGs) : TG := fun v σ H Q => ∃ a xs, v = .ref a ∧ SqT K H a xs ∧ xs.length = n ∧ t xs σ H Q
theorem pg_tup {es : List Expr} {k : Nat} {t : TGs} {n : Nat} (hc : X.calm = true) (h : PGs X es t)
    (hn : (assignEach es X.env).length = n := by rfl) (hst : (assignEach es X.env).findIdx? (·.1) = none := by rfl) : PG X (.Tuple es k pos) (gTup X.K n t) := by
  intro pins s σ H v u Q I r hw
  obtain ⟨a, xs, e1, hq, hl, hw⟩ := hw
  subst e1
  cases r
  obtain ⟨its, rv, ht, hz⟩ := I.tuple hq
  refine assign_Tuple_tuple (I.ok.hd hc) ht (by simp [hn, ← hl, rv.length]) hst fun h' hx => ?_
  have I1 : Inv X pins σ H { s with heap := h' } := I.kept (t' := s.toks) fun b o e => hx b o (Nat.ne_of_lt (Heap.lt_size e)) e
  exact h pins _ σ H xs _ Q I1 (by simpa using rv) hw
def tAsg (te : TE) (g : TG) : TS := fun D σ H => te σ H fun x H1 => g x σ H1 D.nx
theorem ps_asg {tg e : Expr} {te : TE} {g : TG} (he : PE X e te) (hg : PG X tg g) (hs : swapsWithSole [tg] e pos.line X.env = pure false := by rfl) (hw : swappedStores [tg] e X.env = pure none := by rfl)
    (h1 : (assignEach [tg] X.env).map (·.2) = [assign tg X.env] := by rfl) : PS X (.Assign [tg] e pos) (tAsg te g) := by
  intro pins s σ H D I h
  refine wpAny_Assign_stores (thn (he pins s σ H _ I h) fun v s1 ⟨x, H1, I1, r1, q1⟩ => ?_) hs hw
  rw [h1]
  exact thn (hg pins s1 σ H1 x v _ I1 r1 q1) fun _ s2 q => q
theorem ps_set {i : Nat} {x : Str} {e : Expr} {te : TE} {pos' : Pos} (hN : X.N.Nodup) (hi : X.N[i]? = some x) (hx : Loc X.env.scope x) (he : PE X e te) (hs : swapsWith e (some (.Name x pos')) pos.line X.env = pure false := by rfl) (hf : X.fn x = true ∨ X.env.scope.names.lookup x = some .local := by first | exact .inl rfl | exact .inr rfl | assumption) :
    PS X (.Assign [.Name x pos'] e pos) (tAsg te (gName i)) := by
  intro pins s σ H D I h
  refine wpAny_Assign_Name (thn (he pins s σ H _ I h) fun v s1 ⟨y, H1, I1, r1, q1⟩ => ?_) hs
  exact store_ok I1 hN hi hx r1 (fun s2 I2 => ⟨_, H1, I2, q1⟩) hf
end
section
variable {X : Cx} {pos : Pos}
end
structure It where
  go : Nat → Hp → Prop
  yld : Nat → Hp → V → Hp → Prop
  stop : Nat → Hp → Prop
def FpOk (X : Cx) (pins : List (Addr × Obj)) (H : Hp) (b : Addr) : Prop :=
  H b = none ∧ b ≠ X.env.locals ∧ b ∉ X.fs ∧ (b ∈ X.ex ∨ X.s₀.heap.get? b = none) ∧ (∀ x c, X.env.cells.lookup x = some c → c ≠ b) ∧ ∀ p ∈ X.pn ++ pins, p.1 ≠ b
theorem Inv.fpOk {X : Cx} {pins : List (Addr × Obj)} {σ : St} {H H' : Hp} {s : Shared} {b : Addr} (I : Inv X pins σ H s) (hb : s.heap.objs.size ≤ b) (hn : H' b = none) : FpOk X pins H' b := by
  refine ⟨hn, Nat.ne_of_gt (Nat.lt_of_lt_of_le I.lt hb), I.nofs hb, .inr (Heap.get?_none_of_le (Nat.le_trans I.sz hb)), fun x c e z => ?_, fun p hp z => ?_⟩
  · obtain ⟨v, q⟩ := I.cell x c e
    exact absurd (Nat.lt_of_lt_of_le q.lt (by rw [z]; exact hb)) (Nat.lt_irrefl _)
  · exact absurd (Nat.lt_of_lt_of_le (Heap.lt_size (I.pin p hp).1) (by rw [z]; exact hb)) (Nat.lt_irrefl _)
structure Turn (P : Program) (w : World) (K : PySem.W.Frag) (tg : Expr) (J : It) (fp : List Addr) (it : Addr) (tn : Nat → Heap → Prop) : Prop where
  mem : it ∈ fp
  obj : ∀ i h, tn i h → ∀ b ∈ fp, ∃ o, h.get? b = some o ∧ ∀ v, o.data ≠ .cell v
  keep : ∀ i h h', tn i h → (∀ b ∈ fp, ∀ o, h.get? b = some o → h'.get? b = some o) → tn i h'
  item : ∀ (X : Cx), X.prog = P → X.w = w → X.K = K → X.calm = true → ∀ (i : Nat) (pins : List (Addr × Obj)) (s : Shared) (σ : St) (H : Hp) (E : Value → Shared → Prop), Inv X pins σ H s → (∀ b ∈ fp, FpOk X pins H b) → tn i s.heap → J.go i H →
    wpAny (model P w) X.A (pyNext (.ref it)) (fun r s1 => ∃ u, r = some u ∧
      wpAny (model P w) X.A (letOwnedTupleGo tg (.ref it) u) (fun _ s2 => ∃ x H', Inv X pins σ H' s2 ∧ RelV x u ∧ J.yld i H x H' ∧ tn (i + 1) s2.heap ∧ ∀ b ∈ fp, H' b = none) E s1) E s
  done : ∀ (X : Cx), X.prog = P → X.w = w → X.K = K → X.calm = true → ∀ (i : Nat) (pins : List (Addr × Obj)) (s : Shared) (σ : St) (H : Hp) (E : Value → Shared → Prop), Inv X pins σ H s → (∀ b ∈ fp, FpOk X pins H b) → tn i s.heap → J.stop i H →
    wpAny (model P w) X.A (pyNext (.ref it)) (fun r s1 => r = none ∧ Inv X pins σ H s1) E s
  self : ∀ (A : Around) (i : Nat) (s : Shared) (Q : Value → Shared → Prop) (E : Value → Shared → Prop), tn i s.heap → Q (.ref it) s → wpAny (model P w) A (pyIter (.ref it)) Q E s
abbrev TI := St → Hp → (It → Hp → Prop) → Prop
def PIE (X : Cx) (pins : List (Addr × Obj)) (σ : St) (tg : Expr) (R : It → Hp → Prop) (itv : Value) (s2 : Shared) : Prop :=
  ∃ (it : Addr) (fp : List Addr) (tn : Nat → Heap → Prop) (J : It) (H' : Hp), itv = .ref it ∧ Inv X pins σ H' s2 ∧ Turn X.prog X.w X.K tg J fp it tn ∧ tn 0 s2.heap ∧ (∀ b ∈ fp, FpOk X pins H' b) ∧ R J H'
def PI (X : Cx) (tg iter : Expr) (wi : TI) : Prop :=
  ∀ (pins : List (Addr × Obj)) (s : Shared) (σ : St) (H : Hp) (R : It → Hp → Prop), Inv X pins σ H s → wi σ H R →
    wpAny (model X.prog X.w) X.A (eval iter X.env) (fun v s1 => wpAny (model X.prog X.w) X.A (pyIter v) (PIE X pins σ tg R) X.xe s1) X.xe s
theorem go_of {M : Model} {A : Around} {E : Value → Shared → Prop} {s : Shared} {tg : Expr} {it : Addr} {u : Value} {o : Obj} {n : String} {vs : Array Value} {Q : Unit → Shared → Prop} (ho : s.heap.get? it = some o) (hc : o.cls = .type n) (hd : o.data = .fields vs)
    (hn : ["enumerate", "zip", "dict_itemiterator", "dict_reverseitemiterator", "odict_iterator", "itertools.zip_longest", "itertools.pairwise"].contains n = false) (hQ : Q () s) : wpAny M A (letOwnedTupleGo tg (.ref it) u) Q E s := by
  unfold letOwnedTupleGo
  cases tg <;> first
    | exact wpAny_pure hQ
    | (cases u <;> first
        | exact wpAny_pure hQ
        | (refine wpAny_bind (wpAny_load ho ?_)
           rw [hc, hd]
           show wpAny M A (if (["enumerate", "zip", "dict_itemiterator", "dict_reverseitemiterator", "odict_iterator", "itertools.zip_longest", "itertools.pairwise"].contains n && vs[0]? == some (rawInt _)) = true then _ else _) Q E s
           rw [if_neg (by intro h; rw [hn, Bool.false_and] at h; cases h)]
           exact wpAny_pure hQ))
def Itl (K : PySem.W.Frag) (a : Addr) : It :=
  ⟨fun i H => ∃ xs x, SqL K H a xs ∧ xs[i]? = some x, fun i H x H' => H' = H ∧ ∀ xs, SqL K H a xs → xs[i]? = some x, fun i H => ∃ xs, SqL K H a xs ∧ xs.length ≤ i⟩
def Itt (K : PySem.W.Frag) (a : Addr) : It :=
  ⟨fun i H => ∃ xs x, SqT K H a xs ∧ xs[i]? = some x, fun i H x H' => H' = H ∧ ∀ xs, SqT K H a xs → xs[i]? = some x, fun i H => ∃ xs, SqT K H a xs ∧ xs.length ≤ i⟩
def Itr (lo : Int) (n : Nat) : It := ⟨fun i _ => i < n, fun i H x H' => H' = H ∧ x = .int (lo + i), fun i _ => n ≤ i⟩
theorem turn_list {P : Program} {w : World} {K : PySem.W.Frag} {tg : Expr} (a it : Addr) : Turn P w K tg (Itl K a) [it] it (fun i h => h.IsListIter it a i) where
  mem := by simp
  obj := fun i h st b hb => by
    have e : b = it := by simpa using hb
    subst e
    obtain ⟨o, e, c, d⟩ := st
    exact ⟨o, e, fun v z => by rw [d] at z; cases z⟩
  keep := fun i h h' st k => st.at fun o e => k it (by simp) o e
  item := by
    intro X hP hw hK hc i pins s σ H E I hf st hg
    subst hP hw hK
    obtain ⟨xs, x, hq, hx⟩ := hg
    obtain ⟨its, rv, p, hz⟩ := I.list hq
    obtain ⟨u, hu, ru⟩ := rv.get hx
    obtain ⟨f0, f1, f2, f3, f4, f5⟩ := hf it (by simp)
    refine wpAny_pyNext_list_item st p.isList (x := u) (by simpa using hu) fun h' st' sb => ?_
    have I1 : Inv X pins σ H { s with heap := h' } := I.turned (t' := s.toks) (fun b o hb e => (sb.2 b hb).trans e) f0 f1 f3 f4 f5
    obtain ⟨o, e, c, d⟩ := id st'
    exact ⟨u, rfl, go_of (s := { s with heap := h' }) e c d (by decide) ⟨x, H, I1, ru, ⟨rfl, fun ys hy => by rw [I.list_inj hy hq]; exact hx⟩, st', fun b hb => (hf b hb).1⟩⟩
  done := by
    intro X hP hw hK hc i pins s σ H E I hf st hg
    subst hP hw hK
    obtain ⟨xs, hq, hx⟩ := hg
    obtain ⟨its, rv, p, hz⟩ := I.list hq
    obtain ⟨f0, f1, f2, f3, f4, f5⟩ := hf it (by simp)
    have hl := rv.length
    exact wpAny_pyNext_list_end (I.ok.hd hc) st p.isList (by simp; omega) fun h' eb => ⟨rfl, I.turned (t' := s.toks) (fun b o hb e => eb b o hb e) f0 f1 f3 f4 f5⟩
  self := fun _ _ _ _ _ st h => wpAny_pyIter_listiter st h
theorem turn_tuple {P : Program} {w : World} {K : PySem.W.Frag} {tg : Expr} (a it : Addr) : Turn P w K tg (Itt K a) [it] it (fun i h => h.IsTupleIter it a i) where
  mem := by simp
  obj := fun i h st b hb => by
    have e : b = it := by simpa using hb
    subst e
    obtain ⟨o, e, c, d⟩ := st
    exact ⟨o, e, fun v z => by rw [d] at z; cases z⟩
  keep := fun i h h' st k => st.at fun o e => k it (by simp) o e
  item := by
    intro X hP hw hK hc i pins s σ H E I hf st hg
    subst hP hw hK
    obtain ⟨xs, x, hq, hx⟩ := hg
    obtain ⟨its, rv, p, hz⟩ := I.tuple hq
    obtain ⟨u, hu, ru⟩ := rv.get hx
    obtain ⟨f0, f1, f2, f3, f4, f5⟩ := hf it (by simp)
    refine wpAny_pyNext_tuple_item st (show s.heap.IsTuple a its.toArray from p) (x := u) (by simpa using hu) fun h' st' sb => ?_
    have I1 : Inv X pins σ H { s with heap := h' } := I.turned (t' := s.toks) (fun b o hb e => (sb.2 b hb).trans e) f0 f1 f3 f4 f5
    obtain ⟨o, e, c, d⟩ := id st'
    exact ⟨u, rfl, go_of (s := { s with heap := h' }) e c d (by decide) ⟨x, H, I1, ru, ⟨rfl, fun ys hy => by rw [I.tuple_inj hy hq]; exact hx⟩, st', fun b hb => (hf b hb).1⟩⟩
  done := by
    intro X hP hw hK hc i pins s σ H E I hf st hg
    subst hP hw hK
    obtain ⟨xs, hq, hx⟩ := hg
    obtain ⟨its, rv, p, hz⟩ := I.tuple hq
    obtain ⟨f0, f1, f2, f3, f4, f5⟩ := hf it (by simp)
    have hl := rv.length
    exact wpAny_pyNext_tuple_end (I.ok.hd hc) st (show s.heap.IsTuple a its.toArray from p) (by simp; omega) fun h' eb => ⟨rfl, I.turned (t' := s.toks) (fun b o hb e => eb b o hb e) f0 f1 f3 f4 f5⟩
  self := fun _ _ _ _ _ st h => wpAny_pyIter_tupleiter st h
theorem turn_range {P : Program} {w : World} {K : PySem.W.Frag} {tg : Expr} (it : Addr) (lo : Int) (n : Nat) : Turn P w K tg (Itr lo n) [it] it (fun i h => IsRangeIter h it (lo + (i : Nat) * 1) ((n : Int) - (i : Nat)) 1) where
  mem := by simp
  obj := fun i h st b hb => by
    have e : b = it := by simpa using hb
    subst e
    exact ⟨_, st, fun v z => by
      have z' : Data.fields _ = Data.cell v := z
      cases z'⟩
  keep := fun i h h' st k => k it (by simp) _ st
  item := by
    intro X hP hw hK hc i pins s σ H E I hf st hg
    subst hP hw hK
    obtain ⟨f0, f1, f2, f3, f4, f5⟩ := hf it (by simp)
    have W := Walks.range (prog := X.prog) (w := X.w) (I.ok.hd hc) it lo 1 n
    refine W.item i s _ _ hg st fun v h' tk hv st' kk => ?_
    obtain ⟨t, rfl⟩ := hv
    have I1 : Inv X pins σ H { s with heap := h', toks := tk } := I.turned (fun b o hb e => kk b o (by simpa using hb) e) f0 f1 f3 f4 f5
    refine ⟨_, rfl, go_of (s := { s with heap := h', toks := tk }) (n := "range_iterator") st' rfl rfl (by decide) ⟨.int (lo + i), H, I1, ⟨t, ?_⟩, ⟨rfl, rfl⟩, st', fun b hb => (hf b hb).1⟩⟩
    rw [Int.mul_one]
  done := by
    intro X hP hw hK hc i pins s σ H E I hf st hg
    subst hP hw hK
    obtain ⟨f0, f1, f2, f3, f4, f5⟩ := hf it (by simp)
    exact wpAny_pyNext_range_end (I.ok.hd hc) st (by have : n ≤ i := hg; omega) fun h' eb => ⟨rfl, I.turned (t' := s.toks) (fun b o hb e => eb b o hb e) f0 f1 f3 f4 f5⟩
  self := fun _ _ _ _ _ st h => wpAny_pyIter_rangeiter st h
end L2
namespace L2
open PySem PySem.Spec PyProof.Rows
section
variable {X : Cx} {tg : Expr}
def iList (K : PySem.W.Frag) (tl : TE) : TI := fun σ H R => tl σ H fun x H1 => ∃ a, x = .ref a ∧ (∃ xs, SqL K H1 a xs) ∧ R (Itl K a) H1
def iTup (K : PySem.W.Frag) (tl : TE) : TI := fun σ H R => tl σ H fun x H1 => ∃ a, x = .ref a ∧ (∃ xs, SqT K H1 a xs) ∧ R (Itt K a) H1
theorem pi_list {l : Expr} {tl : TE} (hl : PE X l tl) : PI X tg l (iList X.K tl) := by
  intro pins s σ H R I h
  refine thn (hl pins s σ H _ I h) fun v s1 ⟨x, H1, I1, r1, q1⟩ => ?_
  obtain ⟨a, e, ⟨xs, hq⟩, q⟩ := q1
  subst e
  cases r1
  obtain ⟨its, rv, p, hz⟩ := I1.list hq
  refine wpAny_pyIter_list p.isList ?_
  refine ⟨s1.heap.objs.size, [s1.heap.objs.size], _, _, H1, rfl, I1.kept (t' := s1.toks) fun b o e => Heap.get?_push_of_some _ e, turn_list a _, ⟨_, Heap.get?_push_size _ rfl, rfl, rfl⟩, fun b hb => ?_, q⟩
  have e : b = s1.heap.objs.size := by simpa using hb
  subst e
  exact I1.fpOk (Nat.le_refl _) (I1.hok.fresh (Nat.le_refl _))
theorem pi_tup {l : Expr} {tl : TE} (hl : PE X l tl) : PI X tg l (iTup X.K tl) := by
  intro pins s σ H R I h
  refine thn (hl pins s σ H _ I h) fun v s1 ⟨x, H1, I1, r1, q1⟩ => ?_
  obtain ⟨a, e, ⟨xs, hq⟩, q⟩ := q1
  subst e
  cases r1
  obtain ⟨its, rv, p, hz⟩ := I1.tuple hq
  refine wpAny_pyIter_tuple (show s1.heap.IsTuple a its.toArray from p) ?_
  refine ⟨s1.heap.objs.size, [s1.heap.objs.size], _, _, H1, rfl, I1.kept (t' := s1.toks) fun b o e => Heap.get?_push_of_some _ e, turn_tuple a _, ⟨_, Heap.get?_push_size _ rfl, rfl, rfl⟩, fun b hb => ?_, q⟩
  have e : b = s1.heap.objs.size := by simpa using hb
  subst e
  exact I1.fpOk (Nat.le_refl _) (I1.hok.fresh (Nat.le_refl _))
theorem range_it {pins : List (Addr × Obj)} {σ : St} {H : Hp} {s : Shared} {R : It → Hp → Prop} {E : Value → Shared → Prop} {lo hi : Int} {t u v : Tok} {tk : Nat} (I : Inv X pins σ H s) (h1 : -(2 ^ 62) ≤ lo) (h2 : lo < 2 ^ 62) (h3 : -(2 ^ 62) ≤ hi) (h4 : hi < 2 ^ 62)
    (q : R (Itr lo (hi - lo).toNat) H) : wpAny (model X.prog X.w) X.A (pyIter (.ref s.heap.objs.size)) (PIE X pins σ tg R) E { s with heap := s.heap.push { cls := .type "range", data := .fields #[.int lo t, .int hi u, .int 1 v] }, toks := tk } := by
  refine wpAny_pyIter_range (IsRange.new ..) (small_one h1 h2 h3 h4) ?_
  have I1 : Inv X pins σ H { s with heap := s.heap.push { cls := .type "range", data := .fields #[.int lo t, .int hi u, .int 1 v] }, toks := tk } := I.kept fun b o e => Heap.get?_push_of_some _ e
  refine ⟨(s.heap.push { cls := .type "range", data := .fields #[.int lo t, .int hi u, .int 1 v] }).objs.size, [(s.heap.push { cls := .type "range", data := .fields #[.int lo t, .int hi u, .int 1 v] }).objs.size], _, _, H, rfl,
    I1.kept (t' := tk) fun b o e => Heap.get?_push_of_some _ e, turn_range _ lo (hi - lo).toNat, ?_, fun b hb => ?_, q⟩
  · have e1 : lo + ((0 : Nat) : Int) * 1 = lo := by simp
    have e2 : (((hi - lo).toNat : Nat) : Int) - ((0 : Nat) : Int) = Builtin.Range.rangeSize lo hi 1 := by rw [rangeSize_one]; split <;> omega
    show IsRangeIter _ _ (lo + ((0 : Nat) : Int) * 1) ((((hi - lo).toNat : Nat) : Int) - ((0 : Nat) : Int)) 1
    rw [e1, e2]
    exact Heap.get?_push_size _ rfl
  · have e : b = (s.heap.push { cls := .type "range", data := .fields #[.int lo t, .int hi u, .int 1 v] }).objs.size := by simpa using hb
    subst e
    exact I1.fpOk (Nat.le_refl _) (I1.hok.fresh (Nat.le_refl _))
def iRng1 (ta : TA) : TI := fun σ H R => ta σ H fun vs H1 => ∃ j : Int, vs = [.int j] ∧ -(2 ^ 62) ≤ j ∧ j < 2 ^ 62 ∧ R (Itr 0 j.toNat) H1
theorem pi_range1 {a : Expr} {ta : TA} {p pos : Pos} (hg : Gl X "range") (hm : X.mg "range" = none) (ha : PA X [a] ta) (hs : starEach [a] X.env = [(false, eval a X.env)] := by rfl) : PI X tg (.Call (.Name "range" p) [a] [] pos) (iRng1 ta) := by
  intro pins s σ H R I h
  refine Call_ (ld_blt I hg hm boot_range (PyProof.Rows.callWith_type1 (thn (ha pos pins s σ H _ I h) fun us s1 ⟨vs, H1, I1, r1, q1⟩ => ?_) hs rfl))
  obtain ⟨j, e, q1, q2, q⟩ := q1
  subst e
  cases r1 with
  | cons r rr =>
    cases rr
    obtain ⟨t, rfl⟩ := r
    exact call_range_1 (range_it I1 (by omega) (by omega) q1 q2 (by simpa using q))
def tFor (wi : TI) (g : TG) (tb : TS) : TS := fun D σ H => wi σ H fun J H1 => ∃ W : Nat → Nat → St → Hp → Prop, (∃ m, W 0 m σ H1) ∧ ∀ i m σ H, W i m σ H →
  (J.stop i H ∧ D.nx σ H) ∨ (J.go i H ∧ ∃ N : St → Hp → Prop, (∀ σ' H', N σ' H' → ∃ m', m' < m ∧ W (i + 1) m' σ' H') ∧ ∀ x H', J.yld i H x H' → g x σ H' fun σ2 H2 => tb { D with nx := N, ct := N, bk := D.nx } σ2 H2)
def pinsAt (fp : List Addr) (h : Heap) : List (Addr × Obj) := fp.filterMap fun b => (h.get? b).map fun o => (b, o)
theorem mem_pinsAt {fp : List Addr} {h : Heap} {b : Addr} {o : Obj} (hb : b ∈ fp) (e : h.get? b = some o) : (b, o) ∈ pinsAt fp h := List.mem_filterMap.mpr ⟨b, hb, by rw [e]; rfl⟩
theorem of_pinsAt {fp : List Addr} {h : Heap} {p : Addr × Obj} (hp : p ∈ pinsAt fp h) : p.1 ∈ fp ∧ h.get? p.1 = some p.2 := by
  obtain ⟨b, hb, e⟩ := List.mem_filterMap.mp hp
  cases q : h.get? b with
  | none => rw [q] at e; cases e
  | some o =>
    rw [q] at e
    have e' : (b, o) = p := Option.some.inj e
    subst e'
    exact ⟨hb, q⟩
theorem Inv.pinned {pins : List (Addr × Obj)} {σ : St} {H : Hp} {s : Shared} {fp : List Addr} (I : Inv X pins σ H s) (hf : ∀ b ∈ fp, FpOk X pins H b) (ho : ∀ b ∈ fp, ∃ o, s.heap.get? b = some o ∧ ∀ v, o.data ≠ .cell v) : Inv X (pins ++ pinsAt fp s.heap) σ H s :=
  I.pins_of fun p hp => (List.mem_append.mp hp).elim (fun z => I.pin p (List.mem_append_right _ z)) fun z => by
    obtain ⟨hb, e⟩ := of_pinsAt z
    obtain ⟨f0, f1, f2, _⟩ := hf p.1 hb
    obtain ⟨o, e', d⟩ := ho p.1 hb
    rw [e] at e'; cases e'
    exact ⟨e, f0, f1, f2, d⟩
theorem Inv.unpinned {pins pl : List (Addr × Obj)} {σ : St} {H : Hp} {s : Shared} (I : Inv X (pins ++ pl) σ H s) : Inv X pins σ H s := I.pins_of fun p hp => I.pin p (List.mem_append_right _ (List.mem_append_left _ hp))
theorem ps_for {iter : Expr} {body : List Stmt} {wi : TI} {g : TG} {tb : TS} {pos : Pos} (hp : PassesOwn (model X.prog X.w) X.A X.env X.xe) (hc : X.calm = true) (hi : PI X tg iter wi) (hg : PG X tg g) (hb : PSs X body tb)
    (hs : ∀ x, foldedSetIterable iter X.env x = pure x := by intro _; rfl) : PS X (.For tg iter body [] pos) (tFor wi g tb) := by
  intro pins s σ H D I h
  refine wpAny_For (thn (hi pins s σ H _ I h) fun v s1 h1 => thn h1 fun itv s2 h2 => ?_) hs
  obtain ⟨it, fp, tn, J, H2, e, I2, T, st2, f2, W, ⟨m0, w0⟩, turn⟩ := h2
  subst e
  -- what stays true of the iterator's objects through the loop
  have stat : ∀ {H' : Hp}, (∀ b ∈ fp, H' b = none) → ∀ b ∈ fp, FpOk X pins H' b := fun hn b hb => ⟨hn b hb, (f2 b hb).2⟩
  refine codeAny_forLoop_any (fun n s' => ∃ i σ' H', Inv X pins σ' H' s' ∧ tn i s'.heap ∧ (∀ b ∈ fp, H' b = none) ∧ W i n σ' H') ?_ m0 ⟨0, σ, H2, I2, st2, fun b hb => (f2 b hb).1, w0⟩
  rintro n s3 ⟨i, σ3, H3, I3, st3, fr3, w3⟩
  rcases turn i n σ3 H3 w3 with ⟨stop, qn⟩ | ⟨go, N, hN, step⟩
  · refine wpAny_passesOwn hp (thn (T.done X rfl rfl rfl hc i pins s3 σ3 H3 X.xe I3 (stat fr3) st3 stop) fun r s4 ⟨hr, I4⟩ => ?_)
    subst hr
    exact wpAny_execs_nil ⟨σ3, H3, I4, qn⟩
  · refine wpAny_passesOwn hp (thn (T.item X rfl rfl rfl hc i pins s3 σ3 H3 X.xe I3 (stat fr3) st3 go) fun r s4 ⟨u, hr, h4⟩ => ?_)
    subst hr
    refine wpAny_passesOwn hp (thn h4 fun _ s5 ⟨x, H5, I5, r5, y5, st5, fr5⟩ => ?_)
    have I5' := I5.pinned (stat fr5) (T.obj _ _ st5)
    refine wpAny_passesOwn hp (thn (hg _ s5 σ3 H5 x u _ I5' r5 (step x H5 y5)) fun _ s6 ⟨σ6, H6, I6, q6⟩ => ?_)
    refine wpAny_passesOwn hp (thn (hb _ s6 σ6 H6 _ I6 q6) fun f s7 q7 => ?_)
    have again : ∀ {σ7 : St} {H7 : Hp}, Inv X (pins ++ pinsAt fp s5.heap) σ7 H7 s7 → N σ7 H7 → ∃ m, m < n ∧ ∃ i σ' H', Inv X pins σ' H' s7 ∧ tn i s7.heap ∧ (∀ b ∈ fp, H' b = none) ∧ W i m σ' H' := fun {σ7 H7} I7 n7 => by
      obtain ⟨m', hm, w7⟩ := hN σ7 H7 n7
      refine ⟨m', hm, i + 1, σ7, H7, I7.unpinned, T.keep _ _ _ st5 fun b hb o e => (I7.pin (b, o) (List.mem_append_right _ (List.mem_append_right _ (mem_pinsAt hb e)))).1, fun b hb => ?_, w7⟩
      obtain ⟨o, e, d⟩ := T.obj _ _ st5 b hb
      exact (I7.pin (b, o) (List.mem_append_right _ (List.mem_append_right _ (mem_pinsAt hb e)))).2.1
    cases f with
    | next => obtain ⟨σ7, H7, I7, n7⟩ := q7; exact again I7 n7
    | cont => obtain ⟨σ7, H7, I7, n7⟩ := q7; exact again I7 n7
    | brk => obtain ⟨σ7, H7, I7, q7⟩ := q7; exact ⟨σ7, H7, I7.unpinned, q7⟩
    | ret v => obtain ⟨x7, σ7, H7, I7, r7, q7⟩ := q7; exact ⟨x7, σ7, H7, I7.unpinned, r7, q7⟩
end
theorem for_list {K : PySem.W.Frag} {a : Addr} {xs : List V} {g : TG} {tb : TS} {D : Ends} {σ : St} {H : Hp} (Pv : Nat → St → Hp → Prop) (h0 : Pv 0 σ H) (hl : ∀ i σ H, i ≤ xs.length → Pv i σ H → SqL K H a xs)
    (hs : ∀ i x σ H, xs[i]? = some x → Pv i σ H → g x σ H fun σ2 H2 => tb { D with nx := Pv (i + 1), ct := Pv (i + 1), bk := D.nx } σ2 H2) (hd : ∀ σ H, Pv xs.length σ H → D.nx σ H) :
    ∃ W : Nat → Nat → St → Hp → Prop, (∃ m, W 0 m σ H) ∧ ∀ i m σ H, W i m σ H →
      ((Itl K a).stop i H ∧ D.nx σ H) ∨ ((Itl K a).go i H ∧ ∃ N : St → Hp → Prop, (∀ σ' H', N σ' H' → ∃ m', m' < m ∧ W (i + 1) m' σ' H') ∧ ∀ x H', (Itl K a).yld i H x H' → g x σ H' fun σ2 H2 => tb { D with nx := N, ct := N, bk := D.nx } σ2 H2) := by
  refine ⟨fun i m σ H => m = xs.length - i ∧ i ≤ xs.length ∧ Pv i σ H, ⟨xs.length, by simp, Nat.zero_le _, h0⟩, ?_⟩
  rintro i m σ H ⟨rfl, hi, p⟩
  have q := hl i σ H hi p
  by_cases hlt : i < xs.length
  · refine .inr ⟨⟨xs, xs[i], q, by simp [hlt]⟩, Pv (i + 1), fun σ' H' p' => ⟨xs.length - (i + 1), by omega, rfl, hlt, p'⟩, fun x H' y => ?_⟩
    obtain ⟨e, y⟩ := y
    subst e
    exact hs i x σ _ (y xs q) p
  · have e : i = xs.length := by omega
    subst e
    exact .inl ⟨⟨xs, q, Nat.le_refl _⟩, hd σ H p⟩
theorem for_tup {K : PySem.W.Frag} {a : Addr} {xs : List V} {g : TG} {tb : TS} {D : Ends} {σ : St} {H : Hp} (Pv : Nat → St → Hp → Prop) (h0 : Pv 0 σ H) (hl : ∀ i σ H, i ≤ xs.length → Pv i σ H → SqT K H a xs)
    (hs : ∀ i x σ H, xs[i]? = some x → Pv i σ H → g x σ H fun σ2 H2 => tb { D with nx := Pv (i + 1), ct := Pv (i + 1), bk := D.nx } σ2 H2) (hd : ∀ σ H, Pv xs.length σ H → D.nx σ H) :
    ∃ W : Nat → Nat → St → Hp → Prop, (∃ m, W 0 m σ H) ∧ ∀ i m σ H, W i m σ H →
      ((Itt K a).stop i H ∧ D.nx σ H) ∨ ((Itt K a).go i H ∧ ∃ N : St → Hp → Prop, (∀ σ' H', N σ' H' → ∃ m', m' < m ∧ W (i + 1) m' σ' H') ∧ ∀ x H', (Itt K a).yld i H x H' → g x σ H' fun σ2 H2 => tb { D with nx := N, ct := N, bk := D.nx } σ2 H2) := by
  refine ⟨fun i m σ H => m = xs.length - i ∧ i ≤ xs.length ∧ Pv i σ H, ⟨xs.length, by simp, Nat.zero_le _, h0⟩, ?_⟩
  rintro i m σ H ⟨rfl, hi, p⟩
  have q := hl i σ H hi p
  by_cases hlt : i < xs.length
  · refine .inr ⟨⟨xs, xs[i], q, by simp [hlt]⟩, Pv (i + 1), fun σ' H' p' => ⟨xs.length - (i + 1), by omega, rfl, hlt, p'⟩, fun x H' y => ?_⟩
    obtain ⟨e, y⟩ := y
    subst e
    exact hs i x σ _ (y xs q) p
  · have e : i = xs.length := by omega
    subst e
    exact .inl ⟨⟨xs, q, Nat.le_refl _⟩, hd σ H p⟩
theorem for_range {lo : Int} {n : Nat} {g : TG} {tb : TS} {D : Ends} {σ : St} {H : Hp} (Pv : Nat → St → Hp → Prop) (h0 : Pv 0 σ H)
    (hs : ∀ i σ H, i < n → Pv i σ H → g (.int (lo + i)) σ H fun σ2 H2 => tb { D with nx := Pv (i + 1), ct := Pv (i + 1), bk := D.nx } σ2 H2) (hd : ∀ σ H, Pv n σ H → D.nx σ H) :
    ∃ W : Nat → Nat → St → Hp → Prop, (∃ m, W 0 m σ H) ∧ ∀ i m σ H, W i m σ H →
      ((Itr lo n).stop i H ∧ D.nx σ H) ∨ ((Itr lo n).go i H ∧ ∃ N : St → Hp → Prop, (∀ σ' H', N σ' H' → ∃ m', m' < m ∧ W (i + 1) m' σ' H') ∧ ∀ x H', (Itr lo n).yld i H x H' → g x σ H' fun σ2 H2 => tb { D with nx := N, ct := N, bk := D.nx } σ2 H2) := by
  refine ⟨fun i m σ H => m = n - i ∧ i ≤ n ∧ Pv i σ H, ⟨n, by simp, Nat.zero_le _, h0⟩, ?_⟩
  rintro i m σ H ⟨rfl, hi, p⟩
  by_cases hlt : i < n
  · refine .inr ⟨hlt, Pv (i + 1), fun σ' H' p' => ⟨n - (i + 1), by omega, rfl, hlt, p'⟩, fun x H' y => ?_⟩
    obtain ⟨e, y⟩ := y
    subst e y
    exact hs i σ _ hlt p
  · have e : i = n := by omega
    subst e
    exact .inl ⟨Nat.le_refl _, hd σ H p⟩
end L2
namespace L2
open PySem PySem.Spec PyProof.Rows
abbrev R2 := V → V → Hp → VK → Prop
def OpR (X : Cx) (f : Value → Value → Sem Value) (r : R2) : Prop :=
  ∀ (pins : List (Addr × Obj)) (s : Shared) (σ : St) (H : Hp) (x y : V) (v u : Value) (Q : VK), Inv X pins σ H s → RelV x v → RelV y u → r x y H Q →
    wpAny (model X.prog X.w) X.A (f v u) (EP X pins σ Q) X.xe s
def UnR (X : Cx) (f : Value → Sem Value) (r : V → Hp → VK → Prop) : Prop :=
  ∀ (pins : List (Addr × Obj)) (s : Shared) (σ : St) (H : Hp) (x : V) (v : Value) (Q : VK), Inv X pins σ H s → RelV x v → r x H Q →
    wpAny (model X.prog X.w) X.A (f v) (EP X pins σ Q) X.xe s
def CallR (X : Cx) (f : Value) (r : List V → Hp → VK → Prop) : Prop :=
  ∀ (pins : List (Addr × Obj)) (s : Shared) (σ : St) (H : Hp) (xs : List V) (us : List Value) (Q : VK), Inv X pins σ H s → Vals xs us → r xs H Q →
    wpAny (model X.prog X.w) X.A (call f us) (EP X pins σ Q) X.xe s
def tOp (r : R2) (ta tb : TE) : TE := fun σ H Q => ta σ H fun x H1 => tb σ H1 fun y H2 => r x y H2 Q
def tUn (r : V → Hp → VK → Prop) (ta : TE) : TE := fun σ H Q => ta σ H fun x H1 => r x H1 Q
def rI (C : Int → Int → Prop) (g : Int → Int → V) : R2 := fun x y H Q => ∃ i j, x = .int i ∧ y = .int j ∧ C i j ∧ Q (g i j) H
def rI0 (g : Int → Int → V) : R2 := fun x y H Q => ∃ i j, x = .int i ∧ y = .int j ∧ Q (g i j) H
def rU (g : Int → V) : V → Hp → VK → Prop := fun x H Q => ∃ i, x = .int i ∧ Q (g i) H
section
variable {X : Cx} {a b c : Expr} {ta tb tc : TE} {pos : Pos}
theorem binT (ha : PE X a ta) (hb : PE X b tb) {pins : List (Addr × Obj)} {s : Shared} {σ : St} {H : Hp} {R : V → V → Hp → Prop} (I : Inv X pins σ H s)
    (h : ta σ H fun x H1 => tb σ H1 fun y H2 => R x y H2) {Q : Value → Shared → Prop} {f : Value → Value → Sem Value}
    (hf : ∀ v u s2 x y H2, Inv X pins σ H2 s2 → RelV x v → RelV y u → R x y H2 → wpAny (model X.prog X.w) X.A (f v u) Q X.xe s2) :
    wpAny (model X.prog X.w) X.A (eval a X.env) (fun v s₁ => wpAny (model X.prog X.w) X.A (eval b X.env) (fun u s₂ => wpAny (model X.prog X.w) X.A (f v u) Q X.xe s₂) X.xe s₁) X.xe s := by
  refine thn (ha pins s σ H _ I h) fun v s1 ⟨x, H1, I1, r1, q1⟩ => ?_
  refine thn (hb pins s1 σ H1 _ I1 q1) fun u s2 ⟨y, H2, I2, r2, q2⟩ => ?_
  exact hf v u s2 x y H2 I2 r1 r2 q2
theorem pe_op {op : Operator} {r : R2} (ho : OpR X (binaryOp op) r) (ha : PE X a ta) (hb : PE X b tb) : PE X (.BinOp a op b pos) (tOp r ta tb) := by
  intro pins s σ H Q I h
  exact wpAny_BinOp (binT ha hb I h fun v u s2 x y H2 I2 rx ry q => ho pins s2 σ H2 x y v u Q I2 rx ry q)
theorem pe_un {op : UnaryOp} {r : V → Hp → VK → Prop} (ho : UnR X (unaryOp op) r) (ha : PE X a ta) : PE X (.UnaryOp op a pos) (tUn r ta) := by
  intro pins s σ H Q I h
  exact UnaryOp_ (thn (ha pins s σ H _ I h) fun v s1 ⟨x, H1, I1, r1, q1⟩ => ho pins s1 σ H1 x v Q I1 r1 q1)
theorem opI {f : Value → Value → Sem Value} {C : Int → Int → Prop} {g : Int → Int → Int}
    (rule : ∀ (i j : Int) (t u : Tok) (s : Shared) (Q : Value → Shared → Prop) (E : Value → Shared → Prop), C i j → Q (.int (g i j) s.toks) { s with toks := s.toks + 1 } → wpAny (model X.prog X.w) X.A (f (.int i t) (.int j u)) Q E s) :
    OpR X f (rI C fun i j => .int (g i j)) := by
  intro pins s σ H x y v u Q I rx ry h
  obtain ⟨i, j, rfl, rfl, hc, q⟩ := h
  obtain ⟨t, rfl⟩ := rx
  obtain ⟨t', rfl⟩ := ry
  exact rule i j t t' s _ _ hc ⟨.int (g i j), H, I.tok _, ⟨_, rfl⟩, q⟩
theorem opI0 {f : Value → Value → Sem Value} {g : Int → Int → Int}
    (rule : ∀ (i j : Int) (t u : Tok) (s : Shared) (Q : Value → Shared → Prop) (E : Value → Shared → Prop), Q (.int (g i j) s.toks) { s with toks := s.toks + 1 } → wpAny (model X.prog X.w) X.A (f (.int i t) (.int j u)) Q E s) :
    OpR X f (rI0 fun i j => .int (g i j)) := by
  intro pins s σ H x y v u Q I rx ry h
  obtain ⟨i, j, rfl, rfl, q⟩ := h
  obtain ⟨t, rfl⟩ := rx
  obtain ⟨t', rfl⟩ := ry
  exact rule i j t t' s _ _ ⟨.int (g i j), H, I.tok _, ⟨_, rfl⟩, q⟩
theorem opB0 {f : Value → Value → Sem Value} {g : Int → Int → Bool}
    (rule : ∀ (i j : Int) (t u : Tok) (s : Shared) (Q : Value → Shared → Prop) (E : Value → Shared → Prop), Q (.bool (g i j)) s → wpAny (model X.prog X.w) X.A (f (.int i t) (.int j u)) Q E s) :
    OpR X f (rI0 fun i j => .bl (g i j)) := by
  intro pins s σ H x y v u Q I rx ry h
  obtain ⟨i, j, rfl, rfl, q⟩ := h
  obtain ⟨t, rfl⟩ := rx
  obtain ⟨t', rfl⟩ := ry
  exact rule i j t t' s _ _ ⟨.bl (g i j), H, I, rfl, q⟩
def CDiv (i j : Int) : Prop := 0 < j ∧ j < 1073741824
def CPow (i j : Int) : Prop := 0 ≤ j ∧ j ≤ 1000000 ∧ i.natAbs < 2 ^ 64
theorem op_add : OpR X (binaryOp .Add) (rI0 fun i j => .int (i + j)) := opI0 fun _ _ _ _ _ _ _ q => add_int q
theorem op_sub : OpR X (binaryOp .Sub) (rI0 fun i j => .int (i - j)) := opI0 fun _ _ _ _ _ _ _ q => sub_int q
theorem op_fdiv : OpR X (binaryOp .FloorDiv) (rI CDiv fun i j => .int (i / j)) := opI fun i j _ _ _ _ _ hc q => by
  have h1 : (0 : Int) < j := hc.1
  have h2 : j < 1073741824 := hc.2
  exact floordiv_int (by omega) (by rw [Int.fdiv_eq_ediv_of_nonneg i (by omega)]; exact q) (.inl (PyProof.noPylong_small (by omega)))
theorem op_mod : OpR X (binaryOp .Mod) (rI (fun _ j => 0 < j) fun i j => .int (i % j)) := opI fun i j _ _ _ _ _ hc q => by
  have h1 : (0 : Int) < j := hc
  exact mod_int' (by omega) (by rw [Int.fmod_eq_emod_of_nonneg i (by omega)]; exact q)
theorem op_pow : OpR X (binaryOp .Pow) (rI CPow fun i j => .int (i ^ j.toNat)) := opI fun _ _ _ _ _ _ _ hc q => pow_int_small hc.1 hc.2.1 hc.2.2 q
theorem unI {f : Value → Sem Value} {g : Int → Int}
    (rule : ∀ (i : Int) (t : Tok) (s : Shared) (Q : Value → Shared → Prop) (E : Value → Shared → Prop), Q (.int (g i) s.toks) { s with toks := s.toks + 1 } → wpAny (model X.prog X.w) X.A (f (.int i t)) Q E s) :
    UnR X f (rU fun i => .int (g i)) := by
  intro pins s σ H x v Q I rx h
  obtain ⟨i, rfl, q⟩ := h
  obtain ⟨t, rfl⟩ := rx
  exact rule i t s _ _ ⟨.int (g i), H, I.tok _, ⟨_, rfl⟩, q⟩
theorem un_neg : UnR X (unaryOp .USub) (rU fun i => .int (-i)) := unI fun _ _ _ _ _ q => neg_int q
end
def scal : V → V → Bool
  | .non, .non => true | .non, .int _ => true | .int _, .non => true | .non, .bl _ => true | .bl _, .non => true | .non, .str _ => true | .str _, .non => true
  | .int _, .int _ => true | .bl _, .bl _ => true | .str _, .str _ => true | .byt _, .byt _ => true
  | .int _, .str _ => true | .str _, .int _ => true | .bl _, .str _ => true | .str _, .bl _ => true
  | _, _ => false
def rEq : R2 := fun x y H Q => scal x y = true ∧ Q (.bl (decide (x = y))) H
def rNe : R2 := fun x y H Q => scal x y = true ∧ Q (.bl (!decide (x = y))) H
theorem dec_int {i j : Int} : decide (V.int i = V.int j) = (i == j) := by
  rw [Bool.eq_iff_iff]
  simp
theorem dec_bl {i j : Bool} : decide (V.bl i = V.bl j) = (i == j) := by
  rw [Bool.eq_iff_iff]
  simp
theorem dec_str {i j : Str} : decide (V.str i = V.str j) = (i == j) := by
  rw [Bool.eq_iff_iff]
  simp
theorem dec_byt {i j : Array UInt8} : decide (V.byt i = V.byt j) = (i.toList == j.toList) := by
  rw [Bool.eq_iff_iff]
  cases i
  cases j
  simp
section
variable {X : Cx} {a b c : Expr} {ta tb tc : TE} {pos : Pos}
theorem fin_bl {pins : List (Addr × Obj)} {σ : St} {H : Hp} {s : Shared} {Q : VK} {k k' : Bool} (I : Inv X pins σ H s) (q : Q (.bl k) H) (e : k = k') : EP X pins σ Q (.bool k') s := by
  subst e
  exact ⟨.bl k, H, I, rfl, q⟩
theorem op_eq : OpR X (compareOp .Eq) rEq := by
  intro pins s σ H x y v u Q I rx ry h
  obtain ⟨hs, q⟩ := h
  cases x with
  | non =>
    cases rx
    cases y with
    | non => cases ry; exact PySem.EqNone.eq_none_none (fin_bl I q (by simp))
    | bl j => cases ry; exact PySem.EqNone.eq_none_bool (fin_bl I q (by simp))
    | int j => obtain ⟨t', rfl⟩ := ry; exact PySem.EqNone.eq_none_int (fin_bl I q (by simp))
    | str j => obtain ⟨t', rfl⟩ := ry; exact PySem.EqNone.eq_none_str (fin_bl I q (by simp))
    | _ => exact absurd (show false = true from hs) Bool.false_ne_true
  | bl i =>
    cases rx
    cases y with
    | non => cases ry; exact PySem.EqNone.eq_bool_none (fin_bl I q (by simp))
    | bl j => cases ry; exact eq_bool (fin_bl I q dec_bl)
    | str j => obtain ⟨t', rfl⟩ := ry; exact PySem.EqMixed.eq_bool_str (fin_bl I q (by simp))
    | _ => exact absurd (show false = true from hs) Bool.false_ne_true
  | int i =>
    obtain ⟨t, rfl⟩ := rx
    cases y with
    | non => cases ry; exact PySem.EqNone.eq_int_none (fin_bl I q (by simp))
    | int j => obtain ⟨t', rfl⟩ := ry; exact eq_int (fin_bl I q dec_int)
    | str j => obtain ⟨t', rfl⟩ := ry; exact PySem.EqMixed.eq_int_str (fin_bl I q (by simp))
    | _ => exact absurd (show false = true from hs) Bool.false_ne_true
  | str i =>
    obtain ⟨t, rfl⟩ := rx
    cases y with
    | non => cases ry; exact PySem.EqNone.eq_str_none (fin_bl I q (by simp))
    | bl j => cases ry; exact PySem.EqMixed.eq_str_bool (fin_bl I q (by simp))
    | int j => obtain ⟨t', rfl⟩ := ry; exact PySem.EqMixed.eq_str_int (fin_bl I q (by simp))
    | str j => obtain ⟨t', rfl⟩ := ry; exact eq_str (fin_bl I q dec_str)
    | _ => exact absurd (show false = true from hs) Bool.false_ne_true
  | byt i =>
    obtain ⟨t, rfl⟩ := rx
    cases y with
    | byt j => obtain ⟨t', rfl⟩ := ry; exact PySem.W.eq_bytes (fin_bl I q dec_byt)
    | _ => exact absurd (show false = true from hs) Bool.false_ne_true
  | _ => cases y <;> exact absurd (show false = true from hs) Bool.false_ne_true
theorem op_ne : OpR X (compareOp .NotEq) rNe := by
  intro pins s σ H x y v u Q I rx ry h
  obtain ⟨hs, q⟩ := h
  cases x with
  | non =>
    cases rx
    cases y with
    | non => cases ry; exact PySem.EqNone.ne_none_none (fin_bl I q (by simp))
    | bl j => cases ry; exact PySem.EqNone.ne_none_bool (fin_bl I q (by simp))
    | int j => obtain ⟨t', rfl⟩ := ry; exact PySem.EqNone.ne_none_int (fin_bl I q (by simp))
    | str j => obtain ⟨t', rfl⟩ := ry; exact PySem.EqNone.ne_none_str (fin_bl I q (by simp))
    | _ => exact absurd (show false = true from hs) Bool.false_ne_true
  | bl i =>
    cases rx
    cases y with
    | non => cases ry; exact PySem.EqNone.ne_bool_none (fin_bl I q (by simp))
    | bl j => cases ry; exact ne_bool (fin_bl I q (congrArg not dec_bl))
    | str j => obtain ⟨t', rfl⟩ := ry; exact PySem.EqMixed.ne_bool_str (fin_bl I q (by simp))
    | _ => exact absurd (show false = true from hs) Bool.false_ne_true
  | int i =>
    obtain ⟨t, rfl⟩ := rx
    cases y with
    | non => cases ry; exact PySem.EqNone.ne_int_none (fin_bl I q (by simp))
    | int j => obtain ⟨t', rfl⟩ := ry; exact ne_int (fin_bl I q (congrArg not dec_int))
    | str j => obtain ⟨t', rfl⟩ := ry; exact PySem.EqMixed.ne_int_str (fin_bl I q (by simp))
    | _ => exact absurd (show false = true from hs) Bool.false_ne_true
  | str i =>
    obtain ⟨t, rfl⟩ := rx
    cases y with
    | non => cases ry; exact PySem.EqNone.ne_str_none (fin_bl I q (by simp))
    | bl j => cases ry; exact PySem.EqMixed.ne_str_bool (fin_bl I q (by simp))
    | int j => obtain ⟨t', rfl⟩ := ry; exact PySem.EqMixed.ne_str_int (fin_bl I q (by simp))
    | str j => obtain ⟨t', rfl⟩ := ry; exact ne_str (fin_bl I q (congrArg not dec_str))
    | _ => exact absurd (show false = true from hs) Bool.false_ne_true
  | byt i =>
    obtain ⟨t, rfl⟩ := rx
    cases y with
    | byt j => obtain ⟨t', rfl⟩ := ry; exact PySem.W.ne_bytes (fin_bl I q (congrArg not dec_byt))
    | _ => exact absurd (show false = true from hs) Bool.false_ne_true
  | _ => cases y <;> exact absurd (show false = true from hs) Bool.false_ne_true
theorem op_lt : OpR X (compareOp .Lt) (rI0 fun i j => .bl (decide (i < j))) := opB0 fun _ _ _ _ _ _ _ q => lt_int q
theorem op_le : OpR X (compareOp .LtE) (rI0 fun i j => .bl (decide (i ≤ j))) := opB0 fun _ _ _ _ _ _ _ q => le_int q
theorem op_gt : OpR X (compareOp .Gt) (rI0 fun i j => .bl (decide (j < i))) := opB0 fun _ _ _ _ _ _ _ q => gt_int q
theorem op_ge : OpR X (compareOp .GtE) (rI0 fun i j => .bl (decide (j ≤ i))) := opB0 fun _ _ _ _ _ _ _ q => ge_int q
theorem op_in_str : OpR X (compareOp .In) (fun x y H Q => ∃ i j, x = .str i ∧ y = .str j ∧ Q (.bl (!(Builtin.Str.occurrences j i 0 j.length 1).isEmpty)) H) := by
  intro pins s σ H x y v u Q I rx ry h
  obtain ⟨i, j, rfl, rfl, q⟩ := h
  obtain ⟨t, rfl⟩ := rx
  obtain ⟨t', rfl⟩ := ry
  exact in_str (fin_bl I q rfl)
theorem op_isN : OpR X (compareOp .Is) (fun x y H Q => y = .non ∧ Q (.bl (decide (x = .non))) H) := by
  intro pins s σ H x y v u Q I rx ry h
  obtain ⟨rfl, q⟩ := h
  cases ry
  refine is_none_gen (fin_bl I q ?_)
  cases x <;> first
    | (cases rx; rfl)
    | (obtain ⟨t, rfl⟩ := rx; rfl)
theorem nomark (b : Expr) {op : CmpOp} (h : op ≠ .In := by decide) (h2 : op ≠ .NotIn := by decide) : behindInMarks op b = false := by
  have e1 : (op == CmpOp.In) = false := by cases op <;> first | rfl | exact absurd rfl h
  have e2 : (op == CmpOp.NotIn) = false := by cases op <;> first | rfl | exact absurd rfl h2
  cases b <;> simp [behindInMarks, e1, e2]
theorem pe_cmpR {op : CmpOp} {r : R2} (ho : OpR X (compareOp op) r) (ha : PE X a ta) (hb : PE X b tb) (hm : behindInMarks op b = false) : PE X (.Compare a [op] [b] pos) (tOp r ta tb) := by
  intro pins s σ H Q I h
  exact wpAny_Compare1 (binT ha hb I h fun v u s2 x y H2 I2 rx ry q => ho pins s2 σ H2 x y v u Q I2 rx ry q) hm
def tTest (t : TE) : TT := fun σ H Q => t σ H fun x H' => ∃ k, x = .bl k ∧ Q k H'
theorem pt_cmpR {op : CmpOp} {r : R2} (ho : OpR X (compareOp op) r) (ha : PE X a ta) (hb : PE X b tb) (hm : behindInMarks op b = false) : PT X (.Compare a [op] [b] pos) (tTest (tOp r ta tb)) := by
  intro pins s σ H Q I h
  refine wpAny_isTrue_Compare1 (thn (ha pins s σ H _ I h) fun v s1 ⟨x, H1, I1, r1, q1⟩ => thn (hb pins s1 σ H1 _ I1 q1) fun u s2 ⟨y, H2, I2, r2, q2⟩ =>
    thn (ho pins s2 σ H2 x y v u _ I2 r1 r2 q2) fun c s3 ⟨z, H3, I3, r3, k, e, q3⟩ => ?_) hm
  subst e
  cases r3
  exact wpAny_truthy_bool ⟨H3, I3, q3⟩
def tChain (r r' : R2) (ta tb tc : TE) : TE := fun σ H Q => ta σ H fun x H1 => tb σ H1 fun y H2 => r x y H2 fun z H3 => ∃ k, z = .bl k ∧
  (if k = true then tc σ H3 fun w' H4 => r' y w' H4 Q else Q (.bl false) H3)
theorem pt_chain {op op' : CmpOp} {r r' : R2} (ho : OpR X (compareOp op) r) (ho' : OpR X (compareOp op') r') (ha : PE X a ta) (hb : PE X b tb) (hc : PE X c tc)
    (hm : lastMarks [op, op'] [b, c] = false := by with_unfolding_all rfl) : PT X (.Compare a [op, op'] [b, c] pos) (tTest (tChain r r' ta tb tc)) := by
  intro pins s σ H Q I h
  refine isTrue_chain (thn (ha pins s σ H _ I h) fun v s1 ⟨x, H1, I1, r1, q1⟩ => test_link (thn (hb pins s1 σ H1 _ I1 q1) fun u s2 ⟨y, H2, I2, r2, q2⟩ =>
    thn (ho pins s2 σ H2 x y v u _ I2 r1 r2 q2) fun d s3 ⟨z, H3, I3, r3, k, e, q3⟩ => ?_)) hm
  subst e
  cases r3
  refine wpAny_truthy_bool ?_
  cases k with
  | false =>
    obtain ⟨k', e', q'⟩ := q3
    cases e'
    exact ite_ff ⟨H3, I3, q'⟩
  | true =>
    refine ite_tt (test_last (thn (hc pins s3 σ H3 _ I3 q3) fun w' s4 ⟨z', H4, I4, r4, q4⟩ => thn (ho' pins s4 σ H4 y z' u w' _ I4 r2 r4 q4) fun d' s5 ⟨z2, H5, I5, r5, k2, e2, q5⟩ => ?_))
    subst e2
    cases r5
    exact wpAny_truthy_bool ⟨H5, I5, q5⟩
theorem line63 : (sizeLine : Nat) < 2 ^ 63 := by rw [sizeLine_eq]; decide
theorem op_add_str : OpR X (binaryOp .Add) (fun x y H Q => ∃ i j, x = .str i ∧ y = .str j ∧ i.length + j.length ≤ sizeLine ∧ Q (.str (i ++ j)) H) := by
  intro pins s σ H x y v u Q I rx ry h
  obtain ⟨i, j, rfl, rfl, hz, q⟩ := h
  obtain ⟨t, rfl⟩ := rx
  obtain ⟨t', rfl⟩ := ry
  exact add_str (fun t' tk => ⟨.str (i ++ j), H, I.tok _, ⟨_, rfl⟩, q⟩) hz
theorem vals1 {x : V} {us : List Value} (r : Vals [x] us) : ∃ u, us = [u] ∧ RelV x u := by
  cases r with
  | cons r1 r2 => cases r2; exact ⟨_, rfl, r1⟩
theorem vals2 {x y : V} {us : List Value} (r : Vals [x, y] us) : ∃ u w', us = [u, w'] ∧ RelV x u ∧ RelV y w' := by
  cases r with
  | cons r1 r2 =>
    cases r2 with
    | cons r3 r4 => cases r4; exact ⟨_, _, rfl, r1, r3⟩
theorem call_max2 (hc : X.calm = true) : CallR X (.builtin "max") (fun xs H Q => ∃ i j, xs = [.int i, .int j] ∧ Q (.int (if j > i then j else i)) H) := by
  intro pins s σ H xs us Q I r h
  obtain ⟨i, j, rfl, q⟩ := h
  obtain ⟨u, w', rfl, ⟨t, rfl⟩, ⟨t', rfl⟩⟩ := vals2 r
  refine max_two_ints (I.ok.hd hc) fun h' tk k => ⟨_, H, I.kept k, ?_, q⟩
  by_cases hj : j > i
  · rw [if_pos hj, if_pos hj]; exact ⟨_, rfl⟩
  · rw [if_neg hj, if_neg hj]; exact ⟨_, rfl⟩
theorem call_int1 : CallR X (.type "int") (fun xs H Q => (∃ i, xs = [.int i] ∧ Q (.int i) H) ∨ ∃ k, xs = [.bl k] ∧ Q (.int (if k then 1 else 0)) H) := by
  intro pins s σ H xs us Q I r h
  rcases h with ⟨i, rfl, q⟩ | ⟨k, rfl, q⟩
  · obtain ⟨u, rfl, t, rfl⟩ := vals1 r
    exact call_int_int ⟨.int i, H, I, ⟨_, rfl⟩, q⟩
  · obtain ⟨u, rfl, r1⟩ := vals1 r
    cases r1
    exact call_int_bool ⟨.int (if k then 1 else 0), H, I.tok _, ⟨_, rfl⟩, q⟩
end
end L2
namespace L2
open PySem PySem.Spec PyProof.Rows
structure ObjM (h : Heap) (x dx C : Addr) (mA : Str → Option Value) : Prop where
  obj : h.get? x = some (PySem.W.instObj C dx)
  ns : h.Ns1 dx mA
  ne : dx ≠ x
theorem lookIn_ns {h : Heap} {dx : Addr} {mA : Str → Option Value} (n : h.Ns1 dx mA) : ∃ od, h.get? dx = some od ∧ ∀ name, PySem.W.lookIn name od = some (mA name) := by
  obtain ⟨o, es, ep, ho, hd, hk, _, hm⟩ := n
  refine ⟨o, ho, fun name => ?_⟩
  have e := hm name
  unfold nsFind findBy at e
  rw [← Array.find?_toList] at e
  unfold PySem.W.lookIn
  rw [hd]
  dsimp only
  split
  · rename_i y q
    rw [q] at e
    exact congrArg some e
  · rename_i q
    rw [q] at e
    have a : es.toList.any (·.refKey) = false := by
      rw [List.any_eq_false]
      intro y hy
      obtain ⟨z, t, hkey⟩ := hk y (Array.mem_toList_iff.mp hy)
      simp [DictEntry.refKey, hkey]
    have a' : ¬ es.toList.any (·.refKey) = true := by rw [a]; exact Bool.false_ne_true
    rw [if_neg a']
    exact congrArg some e
theorem ObjM.look {h : Heap} {x dx C : Addr} {mA : Str → Option Value} (I : ObjM h x dx C mA) : ∃ od, PySem.W.InstAt h x (PySem.W.instObj C dx) C (some od) ∧ ∀ name, PySem.W.lookIn name od = some (mA name) :=
  let ⟨od, ho, hl⟩ := lookIn_ns I.ns
  ⟨od, ⟨I.obj, rfl, rfl, ho⟩, hl⟩
section
variable {prog : Program} {w : World} {A : Around} {E : Value → Shared → Prop} {s : Shared} {K : PySem.W.Frag} {x dx C f : Addr} {mA : Str → Option Value} {name : Str} {v : Value}
theorem get_map {expr : Bool} {Q : Value → Shared → Prop} (X : K.In s.heap) (I : ObjM s.heap x dx C mA) (hg : PySem.W.plainGet K C name = true) (hh : PySem.W.hasDictIn K C = true)
    (ha : PySem.W.findIn K (.ref C) name = some none) (hv : mA name = some v) (hv' : PySem.W.handedIn v = true) (h : Q v { s with toks := s.toks + 1 }) :
    wpAny (model prog w) A (getAttr (.ref x) name expr) Q E s := by
  obtain ⟨od, J, hl⟩ := I.look
  exact PySem.W.get_value X J (PySem.W.plainGet_of hg).1 (PySem.W.findObj_own hh ha rfl (by rw [hl, hv])) hv' h
theorem get_meth {pl : Sem Bool} {Q : Value × List Value → Shared → Prop} (X : K.In s.heap) (I : ObjM s.heap x dx C mA) (hg : PySem.W.plainGet K C name = true)
    (hf : PySem.W.findIn K (.ref C) name = some (some (.ref f))) (ht : PySem.W.isFn K (.ref f) = true) (hv : mA name = none) (h : Q (.ref f, [.ref x]) s) :
    wpAny (model prog w) A (getMethod (.ref x) name pl) Q E s := by
  obtain ⟨od, J, hl⟩ := I.look
  exact PySem.W.method_fn X J (PySem.W.plainGet_of hg).1 (PySem.W.plainGet_of hg).2 hf (beq_iff_eq.mp ht) (by show (PySem.W.lookIn name od).map (·.isSome) = some false; rw [hl, hv]; rfl) h
theorem set_map {ns : List Str} {Q : Unit → Shared → Prop} (X : K.In s.heap) (I : ObjM s.heap x dx C mA)
    (hs : PySem.W.findIn K (.ref C) "__setattr__" = some (some (.builtin "object.__setattr__"))) (hp : PySem.W.plainOver K C = true) (ht : PySem.W.takerIn K C name = some none) (hh : PySem.W.hasDictIn K C = true)
    (hw : PySem.Within mA ns) (hsz : ns.length ≤ sizeLine)
    (h : ∀ h', ObjM h' x dx C (fun y => if y = name then some v else mA y) → Heap.SameBut dx s.heap h' → Q () { s with heap := h', toks := s.toks + 2 }) :
    wpAny (model prog w) A (setAttr (.ref x) name v) Q E s := by
  obtain ⟨od, J, hl⟩ := I.look
  refine PySem.W.set_plain X J hs (PySem.W.osa_open (s := { s with toks := s.toks + 1 }) (r := none) X J hp ht fun b => ?_)
  obtain ⟨cd, hc, hd'⟩ := PySem.W.any_some hh
  have hx : s.heap.get? x = some ⟨.ref C, some dx, .plain, #[]⟩ := I.obj
  refine wpAny_bind (wpAny_pure (wpAny_bind (wpAny_bind (wpAny_loadPart hx (wpAny_bind (PySem.W.Looks.here (s := { s with toks := s.toks + 1 }) (PySem.W.looks_clsIn X hc) ?_))))))
  rw [hd']
  refine wpAny_pure (a := some dx) (wpAny_bind (wpAny_pure (wpAny_bind ?_)))
  refine wpAny_nsSet1 (s := { s with toks := s.toks + 1 }) I.ns fun h' hn2 hs2 => ?_
  obtain ⟨oD, esD, epD, hoD, hdD, hcD⟩ := hn2.count (PySem.Within.cons name v hw)
  refine wpAny_bind (wpAny_lookBehind hoD (by rw [hdD]; exact pastItsLine_dict (Nat.le_trans hcD (by rw [List.length_cons]; omega))) ?_)
  exact wpAny_pure (h _ ⟨(hs2.2 _ (Ne.symm I.ne)).trans I.obj, hn2, I.ne⟩ hs2)
theorem make_map {R : Result → Shared → Prop} {vs : List Value} {kw : List (Str × Value)} (X : K.In s.heap) (hm : PySem.W.makesIn K C = true)
    (hi : PySem.W.findIn K (.ref C) "__init__" = some (some (.ref f))) (hf : PySem.W.typeIn K (.ref f) = some (.type "function"))
    (h : codeAny (model prog w) (A.under (.builtin "type.__call__" ⟨.ref C :: vs, kw⟩)) (.call (.ref f) ⟨.ref (s.heap.objs.size + 1) :: vs, kw⟩) (PySem.W.InitBack (s.heap.objs.size + 1) R)
      { s with heap := (s.heap.push PySem.W.emptyDict).push (PySem.W.instObj C s.heap.objs.size) }) :
    codeAny (model prog w) A (.call (.ref C) ⟨vs, kw⟩) R s := by
  obtain ⟨hh, g, d, t, os⟩ := s
  exact PySem.W.make_core (PySem.W.makes_of X hm) (PySem.W.looks_findIn X hi) (fun self => PySem.W.bind_fn X self hf) (.inl rfl) h
end
def putF (f : Str) (v : V) : List (Str × V) → List (Str × V)
  | [] => [(f, v)]
  | (g, x) :: r => if g = f then (g, v) :: r else (g, x) :: putF f v r
theorem lookup_putF (f g : Str) (v : V) : ∀ fs : List (Str × V), (putF f v fs).lookup g = if g = f then some v else fs.lookup g
  | [] => by
    show List.lookup g [(f, v)] = _
    by_cases h : g = f
    · have hb : (g == f) = true := beq_iff_eq.mpr h
      simp only [List.lookup, hb, if_pos h]
    · have hb : (g == f) = false := beq_eq_false_iff_ne.mpr h
      simp only [List.lookup, hb, if_neg h]
  | (k, x) :: r => by
    have ih := lookup_putF f g v r
    rw [show putF f v ((k, x) :: r) = (if k = f then (k, v) :: r else (k, x) :: putF f v r) from rfl]
    by_cases hk : k = f
    · rw [if_pos hk]
      by_cases h : g = k
      · have hb : (g == k) = true := beq_iff_eq.mpr h
        simp only [List.lookup, hb, if_pos (h.trans hk)]
      · have hb : (g == k) = false := beq_eq_false_iff_ne.mpr h
        simp only [List.lookup, hb, if_neg (fun e : g = f => h (e.trans hk.symm))]
    · rw [if_neg hk]
      by_cases h : g = k
      · have hb : (g == k) = true := beq_iff_eq.mpr h
        simp only [List.lookup, hb, if_neg (fun e : g = f => hk (h.symm.trans e))]
      · have hb : (g == k) = false := beq_eq_false_iff_ne.mpr h
        simp only [List.lookup, hb]
        exact ih
theorem keys_putF (f : Str) (v : V) : ∀ fs : List (Str × V), f ∈ (putF f v fs).map (·.1) ∧ ∀ g, g ∈ fs.map (·.1) → g ∈ (putF f v fs).map (·.1)
  | [] => ⟨by simp [putF], fun g h => by simp at h⟩
  | (k, x) :: r => by
    obtain ⟨i1, i2⟩ := keys_putF f v r
    rw [show putF f v ((k, x) :: r) = (if k = f then (k, v) :: r else (k, x) :: putF f v r) from rfl]
    by_cases hk : k = f
    · rw [if_pos hk]
      subst hk
      exact ⟨by simp, fun g h => by simpa using h⟩
    · rw [if_neg hk]
      refine ⟨?_, fun g h => ?_⟩
      · rw [List.map_cons]
        exact List.mem_cons_of_mem _ i1
      · rw [List.map_cons] at h ⊢
        rcases List.mem_cons.mp h with e | e
        · exact List.mem_cons.mpr (.inl e)
        · exact List.mem_cons_of_mem _ (i2 g e)
theorem length_putF (f : Str) (v : V) : ∀ fs : List (Str × V), (putF f v fs).length ≤ fs.length + 1
  | [] => by simp [putF]
  | (k, x) :: r => by
    have ih := length_putF f v r
    rw [show putF f v ((k, x) :: r) = (if k = f then (k, v) :: r else (k, x) :: putF f v r) from rfl]
    by_cases hk : k = f
    · rw [if_pos hk, List.length_cons, List.length_cons]; omega
    · rw [if_neg hk, List.length_cons, List.length_cons]; omega
theorem RelO.some_of {v : V} {o : Option Value} (r : RelO (some v) o) : ∃ u, o = some u ∧ RelV v u := by
  cases o with
  | none => exact (show False from r).elim
  | some u => exact ⟨u, rfl, r⟩
theorem RelO.none_of {o : Option Value} (r : RelO none o) : o = none := by
  cases o with
  | none => rfl
  | some u => exact (show False from r).elim
theorem handed_of {v : V} {u : Value} (r : RelV v u) : PySem.W.handedIn u = true := by
  cases v with
  | non => cases (show u = Value.none from r); rfl
  | bl b => cases (show u = Value.bool b from r); rfl
  | int i => obtain ⟨t, e⟩ := (show ∃ t, u = Value.int i t from r); cases e; rfl
  | str x => obtain ⟨t, e⟩ := (show ∃ t, u = Value.str x t from r); cases e; rfl
  | byt b => obtain ⟨t, e⟩ := (show ∃ t, u = Value.bytes b t from r); cases e; rfl
  | flt b => obtain ⟨t, e⟩ := (show ∃ t, u = Value.float b t from r); cases e; rfl
  | ref a => cases (show u = Value.ref a from r); rfl
  | ty n => cases (show u = Value.type n from r); rfl
section
variable {P : Program} {w : World} {H H' : Hp} {h h' : Heap} {a C dx : Addr} {fs fs' : List (Str × V)}
theorem ins_get (hok : HOk P w H h) (e : H a = some (.ins C dx fs)) : ∃ mA, ObjM h a dx C mA ∧ (∀ f, RelO (fs.lookup f) (mA f)) ∧ PySem.Within mA (fs.map (·.1)) ∧ fs.length ≤ 1000 ∧ H dx = some (.own a) := by
  obtain ⟨d, z, ne, ob, mA, n, r, q⟩ := (show ObjOk P w H h a (.ins C dx fs) from hok a _ e)
  exact ⟨mA, ⟨ob, n, ne⟩, r, q, z, d⟩
end
structure Cls (K : PySem.W.Frag) (C : Addr) : Prop where
  pg : PySem.W.plainGet K C Str.empty = true
  hd : PySem.W.hasDictIn K C = true
  po : PySem.W.plainOver K C = true
  sa : PySem.W.findIn K (.ref C) "__setattr__" = some (some (.builtin "object.__setattr__"))
theorem Cls.get {K : PySem.W.Frag} {C : Addr} (c : Cls K C) (f : Str) : PySem.W.plainGet K C f = true := c.pg
def NoAttr (K : PySem.W.Frag) (C : Addr) (f : Str) : Prop := PySem.W.findIn K (.ref C) f = some none
theorem NoAttr.taker {K : PySem.W.Frag} {C : Addr} {f : Str} (n : NoAttr K C f) : PySem.W.takerIn K C f = some none := by
  unfold PySem.W.takerIn
  rw [show PySem.W.findIn K (.ref C) f = some none from n]
  rfl
structure Meth (K : PySem.W.Frag) (C : Addr) (m : Str) (f : Addr) : Prop where
  at_ : PySem.W.findIn K (.ref C) m = some (some (.ref f))
  fn : PySem.W.isFn K (.ref f) = true
  kp : PySem.W.keepIn K (.ref f) = true
section
variable {X : Cx} {pins : List (Addr × Obj)} {σ : St} {H : Hp} {s : Shared} {a C dx : Addr} {fs : List (Str × V)} {f : Str} {v : V} {A : Around} {E : Value → Shared → Prop}
theorem getattr_ok {b : Bool} {Q : Value → Shared → Prop} (I : Inv X pins σ H s) (e : H a = some (.ins C dx fs)) (c : Cls X.K C) (n : NoAttr X.K C f) (l : fs.lookup f = some v)
    (h : ∀ u s', Inv X pins σ H s' → RelV v u → Q u s') : wpAny (model X.prog X.w) A (getAttr (.ref a) f b) Q E s := by
  obtain ⟨mA, O, r, _, _, _⟩ := ins_get I.hok e
  obtain ⟨u, hu, ru⟩ := RelO.some_of (v := v) (o := mA f) (by rw [← l]; exact r f)
  exact get_map I.kIn O (c.get f) c.hd n hu (handed_of ru) (h u _ (I.tok _) ru)
theorem getmeth_ok {m : Str} {g : Addr} {pl : Sem Bool} {Q : Value × List Value → Shared → Prop} (I : Inv X pins σ H s) (e : H a = some (.ins C dx fs)) (c : Cls X.K C) (k : Meth X.K C m g) (l : fs.lookup m = none)
    (h : Q (.ref g, [.ref a]) s) : wpAny (model X.prog X.w) A (getMethod (.ref a) m pl) Q E s := by
  obtain ⟨mA, O, r, _, _, _⟩ := ins_get I.hok e
  have hn : mA m = none := RelO.none_of (by rw [← l]; exact r m)
  exact get_meth I.kIn O (c.get m) k.at_ k.fn hn h
theorem setattr_ok {y : V} {u : Value} {Q : Unit → Shared → Prop} (I : Inv X pins σ H s) (e : H a = some (.ins C dx fs)) (c : Cls X.K C) (n : NoAttr X.K C f) (hl : fs.length < 1000) (ry : RelV y u)
    (h : ∀ s', Inv X pins σ (upd H a (.ins C dx (putF f y fs))) s' → Q () s') : wpAny (model X.prog X.w) A (setAttr (.ref a) f u) Q E s := by
  obtain ⟨mA, O, r, wi, _, ho⟩ := ins_get I.hok e
  have hz : (fs.map (·.1)).length ≤ sizeLine := by rw [List.length_map, sizeLine_eq]; omega
  refine set_map I.kIn O c.sa c.po n.taker c.hd wi hz fun h' O' sb => h _ ?_
  have hd : ∃ o, h'.get? dx = some o := let ⟨o, _, _, e', _⟩ := O'.ns; ⟨o, e'⟩
  refine I.write (x := a) (e := dx) (by rw [e]; exact True.intro) (.inr ho) (fun b q hb z => (sb.2 b hb).trans z) hd ?_
  refine ⟨by rw [upd_ne O.ne]; exact ho, ?_, O.ne, O'.obj, _, O'.ns, fun g => ?_, fun g hg => ?_⟩
  · have := length_putF f y fs; omega
  · show RelO ((putF f y fs).lookup g) (if g = f then some u else mA g)
    rw [lookup_putF]
    by_cases q : g = f
    · rw [if_pos q, if_pos q]; exact ry
    · rw [if_neg q, if_neg q]; exact r g
  · by_cases q : g = f
    · rw [q]; exact (keys_putF f y fs).1
    · refine (keys_putF f y fs).2 g (wi g fun z => hg ?_)
      show (if g = f then some u else mA g) = none
      rw [if_neg q]; exact z
theorem Inv.made (I : Inv X pins σ H s) : Inv X pins σ (upd (upd H s.heap.objs.size (.own (s.heap.objs.size + 1))) (s.heap.objs.size + 1) (.ins C s.heap.objs.size []))
    { s with heap := (s.heap.push PySem.W.emptyDict).push (PySem.W.instObj C s.heap.objs.size) } := by
  have e1 : (s.heap.push PySem.W.emptyDict).get? s.heap.objs.size = some PySem.W.emptyDict := Heap.get?_push_size s.heap rfl
  have e2 : ((s.heap.push PySem.W.emptyDict).push (PySem.W.instObj C s.heap.objs.size)).get? (s.heap.objs.size + 1) = some (PySem.W.instObj C s.heap.objs.size) := by
    have := Heap.get?_push_size (s.heap.push PySem.W.emptyDict) (o := PySem.W.instObj C s.heap.objs.size) rfl
    rwa [Heap.size_push] at this
  have e3 : (s.heap.push PySem.W.emptyDict).Ns s.heap.objs.size (fun _ => none) := ⟨PySem.W.emptyDict, #[], _, e1, rfl, (fun e he => absurd he (by simp)), fun _ => rfl⟩
  have I1 := I.laid (a := s.heap.objs.size) (o := .own (s.heap.objs.size + 1)) (h' := s.heap.push PySem.W.emptyDict) (t' := s.toks) (fun b u q => Heap.get?_push_of_some _ q) (Nat.le_refl _) ⟨_, e1⟩
  refine I1.laid (a := s.heap.objs.size + 1) (o := .ins C s.heap.objs.size []) (t' := s.toks) (fun b u q => Heap.get?_push_of_some _ q) (Nat.le_of_eq (Heap.size_push _ _)) ?_
  have ne : s.heap.objs.size ≠ s.heap.objs.size + 1 := Nat.ne_of_lt (Nat.lt_succ_self _)
  refine ⟨by rw [upd_ne ne, upd_same], Nat.zero_le _, ne, e2, fun _ => none, (Heap.Ns1.of_empty e3).at fun o q => Heap.get?_push_of_some _ q, fun _ => True.intro, fun y hy => absurd rfl hy⟩
theorem attr_of {prog : Program} {w : World} {env : Env} {e : Expr} {f : Str} {pos : Pos} {s : Shared} {Q : Value → Shared → Prop} (hb : attributeBase e f env (eval e env) = eval e env)
    (h : wpAny (model prog w) A (eval e env) (fun o s₁ => wpAny (model prog w) A (getAttr o f true) Q E s₁) E s) : wpAny (model prog w) A (eval (.Attribute e f pos) env) Q E s :=
  Attribute_any_ h (by rw [arm_eval_Attribute, hb])
end
def tFld (K : PySem.W.Frag) (ta : TE) (f : Str) : TE := fun σ H Q => ta σ H fun x H1 => ∃ a C dx fs v, x = .ref a ∧ H1 a = some (.ins C dx fs) ∧ Cls K C ∧ NoAttr K C f ∧ fs.lookup f = some v ∧ Q v H1
def sFld (K : PySem.W.Frag) (ta tv : TE) (f : Str) : TS := fun D σ H => tv σ H fun y H1 => ta σ H1 fun x H2 => ∃ a C dx fs, x = .ref a ∧ H2 a = some (.ins C dx fs) ∧ Cls K C ∧ NoAttr K C f ∧ fs.length < 1000 ∧
  D.nx σ (upd H2 a (.ins C dx (putF f y fs)))
section
variable {X : Cx} {o e value : Expr} {f : Str} {pos pos' tpos : Pos} {ta tv : TE}
theorem pe_fld (he : PE X e ta) (hb : attributeBase e f X.env (eval e X.env) = eval e X.env) : PE X (.Attribute e f pos) (tFld X.K ta f) := by
  intro pins s σ H Q I h
  refine attr_of hb (thn (he pins s σ H _ I h) fun u s1 ⟨x, H1, I1, rx, a, C, dx, fs, v, ex, ea, c, n, l, q⟩ => ?_)
  subst ex
  obtain rfl : u = Value.ref a := rx
  exact getattr_ok I1 ea c n l fun u' s2 I2 ru => ⟨v, H1, I2, ru, q⟩
theorem ps_fld (ha : PE X o ta) (hv : PE X value tv) (hs : swapsWith value (some (.Attribute o f pos')) pos.line X.env = pure false) : PS X (.Assign [.Attribute o f pos'] value pos) (sFld X.K ta tv f) := by
  intro pins s σ H D I h
  refine plainObj_wpAny_Assign_Attribute (thn (hv pins s σ H _ I h) fun u s1 ⟨y, H1, I1, ry, q⟩ => thn (ha pins s1 σ H1 _ I1 q) fun ov s2 ⟨x, H2, I2, rx, a, C, dx, fs, ex, ea, c, n, l, q2⟩ => ?_) hs
  subst ex
  obtain rfl : ov = Value.ref a := rx
  exact setattr_ok I2 ea c n l ry fun s3 I3 => ⟨σ, _, I3, q2⟩
end
section
variable {X : Cx} {pins : List (Addr × Obj)} {σ : St} {H : Hp} {s : Shared} {A : Around} {E : Value → Shared → Prop} {Q : Value → Shared → Prop} {c : Value} {b : Bool}
inductive TyOf (K : PySem.W.Frag) (H : Hp) : V → Value → Prop where
  | non : TyOf K H .non (.type "NoneType")
  | bl (x : Bool) : TyOf K H (.bl x) (.type "bool")
  | int (i : Int) : TyOf K H (.int i) (.type "int")
  | str (x : Str) : TyOf K H (.str x) (.type "str")
  | flt (x : UInt64) : TyOf K H (.flt x) (.type "float")
  | lst {a : Addr} {xs : List V} (e : H a = some (.lst xs)) : TyOf K H (.ref a) (.type "list")
  | frz {a : Addr} {o : Obj} {xs : List V} (e : H a = some (.frz o (.lst xs))) : TyOf K H (.ref a) (.type "list")
  | tup {a : Addr} {xs : List V} (e : H a = some (.tup xs)) : TyOf K H (.ref a) (.type "tuple")
  | dK {a : Addr} {kvs : List (Key × V)} (e : H a = some (.dK kvs)) : TyOf K H (.ref a) (.type "dict")
  | dT {a : Addr} {kvs : List (List Key × V)} (e : H a = some (.dT kvs)) : TyOf K H (.ref a) (.type "dict")
  | ins {a C dx : Addr} {fs : List (Str × V)} (e : H a = some (.ins C dx fs)) (cl : Cls K C) (ha : PySem.W.findIn K (.ref C) "__class__" = some (some (.builtin "object.__class__")))
      (hn : PySem.W.specialIn K (.builtin "object.__class__") "__get__" = some (some (.builtin "getset_descriptor.__get__"))) (htk : PySem.W.takesIn K (.builtin "object.__class__") = some true)
      (hm : PySem.W.mroIn K C (.type "object") = some true) : TyOf K H (.ref a) (.ref C)
theorem isinst_ok {x : V} {u t : Value} (I : Inv X pins σ H s) (rx : RelV x u) (ty : TyOf X.K H x t) (e : PySem.W.kitOne X.K t c = some b) (h : ∀ tk, Q (.bool b) { s with toks := tk }) :
    wpAny (model X.prog X.w) A (call (.builtin "isinstance") [u, c]) Q E s := by
  cases ty with
  | non => cases (show u = Value.none from rx); exact PySem.W.kia_one PySem.W.kitx_none I.kIn True.intro e (fun z => nomatch z) h
  | bl y => cases (show u = Value.bool y from rx); exact PySem.W.kia_one PySem.W.kitx_bool I.kIn True.intro e (fun z => nomatch z) h
  | int i => obtain ⟨t, q⟩ := (show ∃ t, u = Value.int i t from rx); cases q; exact PySem.W.kia_one PySem.W.kitx_int I.kIn True.intro e (fun z => nomatch z) h
  | str y => obtain ⟨t, q⟩ := (show ∃ t, u = Value.str y t from rx); cases q; exact PySem.W.kia_one PySem.W.kitx_str I.kIn True.intro e (fun z => nomatch z) h
  | flt y => obtain ⟨t, q⟩ := (show ∃ t, u = Value.float y t from rx); cases q; exact PySem.W.kia_one PySem.W.kitx_float I.kIn True.intro e (fun z => nomatch z) h
  | @lst a xs ea =>
    cases (show u = Value.ref a from rx)
    obtain ⟨_, _, n, _, h1⟩ := (show ObjOk X.prog X.w H s.heap a (.lst xs) from I.hok a _ ea)
    exact PySem.W.kia_one PySem.W.kitx_list I.kIn ⟨_, h1, rfl⟩ e (fun z => nomatch z) h
  | @frz a ob xs ea =>
    cases (show u = Value.ref a from rx)
    obtain ⟨_, _, _, n, _, h1⟩ := (show ObjOk X.prog X.w H s.heap a (.frz ob (.lst xs)) from I.hok a _ ea)
    exact PySem.W.kia_one PySem.W.kitx_list I.kIn ⟨_, h1, rfl⟩ e (fun z => nomatch z) h
  | @tup a xs ea =>
    cases (show u = Value.ref a from rx)
    obtain ⟨_, _, _, p⟩ := (show ObjOk X.prog X.w H s.heap a (.tup xs) from I.hok a _ ea)
    obtain ⟨o, h1, h2, _⟩ := p
    exact PySem.W.kia_one PySem.W.kitx_tuple I.kIn ⟨o, h1, h2⟩ e (fun z => nomatch z) h
  | @dK a kvs ea =>
    cases (show u = Value.ref a from rx)
    obtain ⟨_, _, vs, _, p⟩ := (show ObjOk X.prog X.w H s.heap a (.dK kvs) from I.hok a _ ea)
    obtain ⟨o, es, ep, h1, h2, _⟩ := p
    exact PySem.W.kia_one PySem.W.kitx_dict I.kIn ⟨o, h1, h2.1⟩ e (fun z => nomatch z) h
  | @dT a kvs ea =>
    cases (show u = Value.ref a from rx)
    obtain ⟨_, _, xs, _, o, es, ep, h1, h2, _⟩ := (show ObjOk X.prog X.w H s.heap a (.dT kvs) from I.hok a _ ea)
    exact PySem.W.kia_one PySem.W.kitx_dict I.kIn ⟨o, h1, h2.1⟩ e (fun z => nomatch z) h
  | @ins a C dx fs ea cl ha hn htk hm =>
    cases (show u = Value.ref a from rx)
    obtain ⟨mA, O, _⟩ := ins_get I.hok ea
    obtain ⟨od, J, _⟩ := O.look
    exact PySem.W.kia_one (PySem.W.kitx_own (cl.get _) cl.hd ha hn htk hm) I.kIn J e (fun z => nomatch z) h
end
end L2
namespace L2
open PySem PySem.Spec PyProof.Rows
structure Room (k : Nat) (A : Around) : Prop where
  hd : A.handled = none
  dp : A.depth + 3 * k + 5 < recursionLimit
  un : A.units + 16 * k + 200 < cLine
theorem Room.mono {j k : Nat} {A : Around} (r : Room k A) (h : j ≤ k) : Room j A := ⟨r.hd, by have := r.dp; omega, by have := r.un; omega⟩
theorem Room.deeper {k : Nat} {A : Around} (r : Room (k + 1) A) (env : Env) : Room k (A.deeper env) :=
  ⟨r.hd, by have := r.dp; show A.depth + 1 + 3 * k + 5 < _; omega, by have := r.un; show A.units + 3 + 16 * k + 200 < _; omega⟩
theorem make_depth {A : Around} {C : Addr} {us : List Value} {kw : List (Str × Value)} : (A.under (.builtin "type.__call__" ⟨.ref C :: us, kw⟩)).depth = A.depth + 1 := by
  first | rfl | simp [Around.under, Code.weight, Code.isCreation, Code.isGuard, Code.isCaller, Code.frames, Code.isFrame, guardIds]
theorem make_units {A : Around} {C : Addr} {us : List Value} {kw : List (Str × Value)} : (A.under (.builtin "type.__call__" ⟨.ref C :: us, kw⟩)).units = A.units + 1 := by
  first | rfl | simp [Around.under, Code.cUnits, Code.frames, Code.isFrame]
theorem Room.make {k : Nat} {A : Around} (r : Room (k + 1) A) (C : Addr) (us : List Value) (kw : List (Str × Value)) : Room k (A.under (.builtin "type.__call__" ⟨.ref C :: us, kw⟩)) :=
  ⟨r.hd, by have := r.dp; rw [make_depth]; omega, by have := r.un; rw [make_units]; omega⟩
theorem Room.depth {k : Nat} {A : Around} (r : Room k A) : A.depth < recursionLimit := by have := r.dp; omega
theorem Room.units {k : Nat} {A : Around} (r : Room k A) : A.units + 64 < cLine := by have := r.un; omega
def tNil : TA := fun _ H Q => Q [] H
def tCons (ta : TE) (tr : TA) : TA := fun σ H Q => ta σ H fun x H1 => tr σ H1 fun xs H2 => Q (x :: xs) H2
section
variable {X : Cx} {e : Expr} {es : List Expr} {te : TE} {t : TA} {pos : Pos}
theorem pa_nil : PA X [] tNil := fun _ _ _ _ H Q I h => Calls.spliced_nil ⟨[], H, I, .nil, h⟩
theorem pa_cons (ha : PE X e te) (hr : PA X es t) (hs : starEach (e :: es) X.env = (false, eval e X.env) :: starEach es X.env := by rfl) : PA X (e :: es) (tCons te t) := by
  intro pos pins s σ H Q I h
  rw [hs]
  show wpAny _ _ (spliced ((false, eval e X.env) :: backTo pos (starEach es X.env))) _ _ s
  refine Calls.spliced_cons (thn (ha pins s σ H _ I h) fun u s1 ⟨x, H1, I1, r1, q1⟩ => ?_)
  exact thn (hr pos pins s1 σ H1 _ I1 q1) fun us s2 ⟨xs, H2, I2, r2, q2⟩ => ⟨x :: xs, H2, I2, .cons r1 r2, q2⟩
end
abbrev Sp := List V → Hp → VK → XK → Prop
abbrev CXT := List Env → Hp → Shared → XK → Value → Shared → Prop
structure Env0 (P : Program) (w : World) (K : PySem.W.Frag) (mg : Str → Option Value) (base : Heap) (A : Around) (outer : List Env) (s : Shared) (H : Hp) : Prop where
  frames : A.frames = some outer
  mod : Mod K mg base
  bs : ∀ b o, base.get? b = some o → s.heap.get? b = some o ∧ H b = none
  bsz : base.objs.size ≤ s.heap.objs.size
  funs : s.heap.FunFrames base outer
  frf : ∀ b ∈ frs outer, H b = none
  hok : HOk P w H s.heap
  bare : AllBare s.gens
def CE (outer : List Env) (P : Program) (w : World) (H : Hp) (s : Shared) (Q : VK) (u : Value) (s' : Shared) : Prop :=
  ∃ v H', s'.os = s.os ∧ AllBare s'.gens ∧ Un (frs outer) [] H H' s.heap s'.heap ∧ HOk P w H' s'.heap ∧ RelV v u ∧ Q v H'
def CR (CX : CXT) (outer : List Env) (P : Program) (w : World) (H : Hp) (s : Shared) (Q : VK) (E : XK) (r : Result) (s' : Shared) : Prop :=
  match r with
  | .ok (.ret u) => CE outer P w H s Q u s'
  | .ok _ => False
  | .error e => CX outer H s E e s'
structure FnOk (P : Program) (w : World) (K : PySem.W.Frag) (mg : Str → Option Value) (base : Heap) (CX : CXT) (k : Nat) (f : Addr) (fd : FuncData) (ps : List Str) (sp : Sp) : Prop where
  len : ∀ vs H Q E, sp vs H Q E → vs.length = ps.length
  run : ∀ (A : Around) (outer : List Env) (s : Shared) (H : Hp) (args : Args) (us : List Value) (vs : List V) (Q : VK) (E : XK), Room k A → Env0 P w K mg base A outer s H → BindsTo s fd args (ps.zip us) → Vals vs us → sp vs H Q E →
    codeAny (model P w) A (.call (.ref f) args) (CR CX outer P w H s Q E) s
theorem FnOk.mono {P : Program} {w : World} {K : PySem.W.Frag} {mg : Str → Option Value} {base : Heap} {CX : CXT} {j k : Nat} {f : Addr} {fd : FuncData} {ps : List Str} {sp : Sp} (F : FnOk P w K mg base CX j f fd ps sp) (h : j ≤ k) :
    FnOk P w K mg base CX k f fd ps sp := ⟨F.len, fun A outer s H args us vs Q E hr => F.run A outer s H args us vs Q E (hr.mono h)⟩
theorem Env0.make {P : Program} {w : World} {K : PySem.W.Frag} {mg : Str → Option Value} {base : Heap} {A : Around} {outer : List Env} {s : Shared} {H : Hp} (e : Env0 P w K mg base A outer s H) (C : Addr) (us : List Value) (kw : List (Str × Value)) :
    Env0 P w K mg base (A.under (.builtin "type.__call__" ⟨.ref C :: us, kw⟩)) outer s H := ⟨by first | exact e.frames | (simpa [Around.under, Code.envs, Code.isFrame, pushEnvs] using e.frames), e.mod, e.bs, e.bsz, e.funs, e.frf, e.hok, e.bare⟩
section
variable {X : Cx} {pins : List (Addr × Obj)} {σ : St} {H : Hp} {s s' : Shared}
theorem Inv.env0 (I : Inv X pins σ H s) : Env0 X.prog X.w X.K X.mg X.base X.A X.stack s H :=
  ⟨I.ok.frames, I.ok.mod, I.bs, Nat.le_trans I.ok.bsz I.sz, I.stack, I.stkFree, I.hok, I.bare⟩
theorem Inv.after {Q : VK} {u : Value} (I : Inv X pins σ H s) (h : CE X.stack X.prog X.w H s Q u s') : EP X pins σ Q u s' := by
  obtain ⟨v, H', os, bare, un, hok, r, q⟩ := h
  obtain ⟨hh, g, d, t, os'⟩ := s'
  obtain rfl : os' = s.os := os
  exact ⟨v, H', I.call (h' := hh) (g' := g) (d' := d) (t' := t) (ch := []) un hok bare (fun b z => absurd z (by simp)), r, q⟩
end
def tCall (sp : Sp) (dvs : List V) (E : XK) (t : TA) : TE := fun σ H Q => t σ H fun vs H1 => sp (vs ++ dvs) H1 Q E
def Binds (K : PySem.W.Frag) (fd : FuncData) (ps : List Str) (ds : List Value) : Prop :=
  ∀ (s : Shared) (us : List Value), K.In s.heap → (us ++ ds).length = ps.length → BindsTo s fd ⟨us, []⟩ (ps.zip (us ++ ds))
theorem Binds.all {K : PySem.W.Frag} {fd : FuncData} {ps : List Str} (h : ∀ us : List Value, us.length = ps.length → bindArgs fd ⟨us, []⟩ = pure (ps.zip us)) : Binds K fd ps [] := fun s us _ hl => by
  rw [List.append_nil] at hl ⊢
  exact .of_eq (h us hl)
def Passes (CX : CXT) (X : Cx) (E : XK) : Prop := ∀ (pins : List (Addr × Obj)) (σ : St) (H : Hp) (s : Shared) (e : Value) (s' : Shared), Inv X pins σ H s → CX X.stack H s E e s' → X.xe e s'
section
variable {X : Cx} {CX : CXT} {k : Nat} {f C : Addr} {fd : FuncData} {ps : List Str} {sp : Sp} {dvs : List V} {ds : List Value} {E : XK} {x m : Str} {p pos apos : Pos} {e o : Expr} {es : List Expr} {ta : TE} {t : TA}
theorem run_fn {pins : List (Addr × Obj)} {σ : St} {H : Hp} {s : Shared} {Q : VK} {us : List Value} {vs : List V} (F : FnOk X.prog X.w X.K X.mg X.base CX k f fd ps sp) (hr : Room k X.A) (hb : Binds X.K fd ps ds) (hd : Vals dvs ds) (hx : Passes CX X E)
    (I : Inv X pins σ H s) (r : Vals vs us) (h : sp (vs ++ dvs) H Q E) : wpAny (model X.prog X.w) X.A (call (.ref f) us) (EP X pins σ Q) X.xe s := by
  have r2 : Vals (vs ++ dvs) (us ++ ds) := r.append hd
  have hl : (us ++ ds).length = ps.length := by rw [← r2.length]; exact F.len _ _ _ _ h
  refine wpAny_call (codeAny_mono (F.run X.A X.stack s H ⟨us, []⟩ (us ++ ds) (vs ++ dvs) Q E hr I.env0 (hb s us I.kIn hl) r2 h) fun r s' hq => ?_)
  cases r with
  | error e => exact hx pins σ H s e s' I hq
  | ok fl =>
    cases fl with
    | ret u => exact I.after hq
    | next => exact False.elim hq
    | brk => exact False.elim hq
    | cont => exact False.elim hq
theorem pe_call (F : FnOk X.prog X.w X.K X.mg X.base CX k f fd ps sp) (hr : Room k X.A) (hg : Gl X x) (hm : X.mg x = some (.ref f)) (hk : PySem.W.keepIn X.K (.ref f) = true) (hb : Binds X.K fd ps ds) (hd : Vals dvs ds) (hx : Passes CX X E)
    (ha : PA X (e :: es) t) (hdb : (x == ("__debug__" : Str)) = false := by decide) (he : starEach (e :: es) X.env = (false, eval e X.env) :: starEach es X.env := by rfl) (hpl : (backTo pos (starEach es X.env)).any (·.1) = false := by rfl) :
    PE X (.Call (.Name x p) (e :: es) [] pos) (tCall sp dvs E t) := by
  intro pins s σ H Q I h
  refine wpAny_Call_Name_kw (ld_glob I hg hm ?_ hdb)
  refine PySem.W.callWith_K (h₀ := X.base) I.ok.mod.kin hk (thn (ha pos pins s σ H _ I h) fun us s1 ⟨vs, H1, I1, r, q⟩ => ⟨I1.kIn, ?_⟩) he hpl
  exact run_fn F hr hb hd hx I1 r q
structure Mk (K : PySem.W.Frag) (C f : Addr) : Prop where
  makes : PySem.W.makesIn K C = true
  init : PySem.W.findIn K (.ref C) "__init__" = some (some (.ref f))
  fn : PySem.W.isFn K (.ref f) = true
  kp : PySem.W.keepIn K (.ref C) = true
end
section
variable {X : Cx} {CX : CXT} {k : Nat} {f C : Addr} {fd : FuncData} {ps ks : List Str} {sp : Sp} {E : XK} {x m : Str} {p pos apos kpos : Pos} {e o : Expr} {es : List Expr} {kws : List Keyword} {te ta : TE} {t tk : TA} {nm : Option Str}
variable {g : List Value → List Value → List Value} {gV : List V → List V → List V}
end
structure FnScope (N P : List Str) (sc : Scope) : Prop where
  kind : sc.kind = .function
  co : sc.isCoroutine = false
  gen : sc.isGenerator = false
  nd : N.Nodup
  pre : N.take P.length = P
  par : ∀ x ∈ P, sc.names.lookup x = some .local ∨ sc.names.lookup x = some .cell
  nofree : ∀ y ∈ sc.names, y.2 ≠ .free
theorem bindL_out {kindOf : Str → Option NameKind} {x : Str} : ∀ {binds : List (Str × Value)} {m : Str → Option Value}, (∀ v, (x, v) ∉ binds) → bindL kindOf binds m x = m x
  | [], _, _ => rfl
  | (n, v) :: r, m, h => by
    unfold bindL
    rw [bindL_out fun w hw => h w (List.mem_cons_of_mem _ hw)]
    split
    · have : x ≠ n := by rintro rfl; exact h v List.mem_cons_self
      simp [this]
    · rfl
theorem bindC_out {kindOf : Str → Option NameKind} {x : Str} : ∀ {binds : List (Str × Value)} {m : Str → Option Value}, (∀ v, (x, v) ∉ binds) → bindC kindOf binds m x = m x
  | [], _, _ => rfl
  | (n, v) :: r, m, h => by
    unfold bindC
    rw [bindC_out fun w hw => h w (List.mem_cons_of_mem _ hw)]
    split
    · rfl
    · have : x ≠ n := by rintro rfl; exact h v List.mem_cons_self
      simp [this]
theorem bindL_get {kindOf : Str → Option NameKind} {x : Str} {v : Value} : ∀ {P : List Str} {vs : List Value} {i : Nat} {m : Str → Option Value}, P.Nodup → P[i]? = some x → vs[i]? = some v → kindOf x = some .local →
    bindL kindOf (P.zip vs) m x = some v
  | [], _, _, _, _, h, _, _ => by simp at h
  | _ :: _, [], _, _, _, _, h, _ => by simp at h
  | p :: P, w :: vs, 0, m, nd, h1, h2, hk => by
    simp at h1 h2; subst h1; subst h2
    show bindL kindOf ((p, w) :: P.zip vs) m p = _
    unfold bindL
    rw [bindL_out fun v hv => (List.nodup_cons.mp nd).1 (List.of_mem_zip hv).1, if_pos hk]
    simp
  | p :: P, w :: vs, i + 1, m, nd, h1, h2, hk => by
    show bindL kindOf ((p, w) :: P.zip vs) m x = _
    unfold bindL
    exact bindL_get (i := i) (List.nodup_cons.mp nd).2 (by simpa using h1) (by simpa using h2) hk
theorem bindC_get {kindOf : Str → Option NameKind} {x : Str} {v : Value} : ∀ {P : List Str} {vs : List Value} {i : Nat} {m : Str → Option Value}, P.Nodup → P[i]? = some x → vs[i]? = some v → kindOf x ≠ some .local →
    bindC kindOf (P.zip vs) m x = some v
  | [], _, _, _, _, h, _, _ => by simp at h
  | _ :: _, [], _, _, _, _, h, _ => by simp at h
  | p :: P, w :: vs, 0, m, nd, h1, h2, hk => by
    simp at h1 h2; subst h1; subst h2
    show bindC kindOf ((p, w) :: P.zip vs) m p = _
    unfold bindC
    rw [bindC_out fun v hv => (List.nodup_cons.mp nd).1 (List.of_mem_zip hv).1, if_neg hk]
    simp
  | p :: P, w :: vs, i + 1, m, nd, h1, h2, hk => by
    show bindC kindOf ((p, w) :: P.zip vs) m x = _
    unfold bindC
    exact bindC_get (i := i) (List.nodup_cons.mp nd).2 (by simpa using h1) (by simpa using h2) hk
def start (N : List Str) (vs : List V) : St := vs.map some ++ List.replicate (N.length - vs.length) none
def cxOf (CX : CXT) (P : Program) (w : World) (K : PySem.W.Frag) (mg : Str → Option Value) (base : Heap) (N : List Str) (qual : Str) (scope : Scope) (f : Addr) (cd : Value) (A : Around) (outer : List Env) (s : Shared) (H : Hp) (E : XK) : Cx where
  prog := P
  w := w
  K := K
  mg := mg
  base := base
  A := A.deeper (envOfC qual scope s.heap.objs.size f cd)
  N := N
  s₀ := s
  H₀ := H
  env := envOfC qual scope s.heap.objs.size f cd
  outer := outer
  stack := envOfC qual scope s.heap.objs.size f cd :: outer
  ex := []
  calm := true
  fn := fun _ => true
  pn := []
  xe := fun e s' => wpAny (model P w) (A.deeper (envOfC qual scope s.heap.objs.size f cd)) (leaving (envOfC qual scope s.heap.objs.size f cd) e) (fun _ s'' => CX outer H s E e s'') (fun e' s'' => CX outer H s E e' s'') s'
theorem cell_has {sc : Scope} {n : Nat} {x : Str} (h : sc.names.lookup x = some .cell) : ∃ c, (cellsFrom n sc.names []).lookup x = some c := by
  have q := PySem.W.cellsFrom_some sc.names n [] (.inl h)
  exact Option.isSome_iff_exists.mp q
theorem inv_start {CX : CXT} {P : Program} {w : World} {K : PySem.W.Frag} {mg : Str → Option Value} {base : Heap} {N ps : List Str} {qual : Str} {scope : Scope} {f : Addr} {cd : Value} {A : Around} {outer : List Env} {s s1 : Shared} {H : Hp} {E : XK} {us : List Value} {vs : List V}
    (S : FnScope N ps scope) (hd : A.handled = none) (e0 : Env0 P w K mg base A outer s H) (hl : vs.length = ps.length) (r : Vals vs us)
    (x : InCallC s s.heap.objs.size (bindL (envOfC qual scope s.heap.objs.size f cd).kindOf (ps.zip us) fun _ => none) (cellsFrom (s.heap.objs.size + 1) scope.names []) (bindC (envOfC qual scope s.heap.objs.size f cd).kindOf (ps.zip us) fun _ => none) s1) :
    Inv (cxOf CX P w K mg base N qual scope f cd A outer s H E) [] (start N vs) H s1 := by
  have hpl : ps.length ≤ N.length := by have := congrArg List.length S.pre; rw [List.length_take] at this; omega
  obtain ⟨h1, tk, rfl, hk⟩ := x.done
  have noA : ∀ b : Addr, b ∉ (cxOf CX P w K mg base N qual scope f cd A outer s H E).ex := fun b z => absurd (show b ∈ ([] : List Addr) from z) (by simp)
  refine ⟨⟨e0.mod, S.kind, rfl, rfl, Nat.le_refl _, fun y z c h1 h2 => ?_, fun y hy => ?_, fun y c _ h => ?_, fun _ => hd, Around.frames_deeper e0.frames, .inr ⟨rfl, rfl⟩, fun b z => absurd z (noA b), e0.bs, e0.bsz, fun b _ _ => noA b, fun b z => absurd z (noA b), e0.funs, e0.frf⟩,
    rfl, e0.bare, Un.kept hk, ⟨_, x.toInCall.ns, fun i y v h1 h2 h3 => ?_⟩, fun y c h => ⟨_, x.cell y c h⟩, e0.hok.fresh (Nat.le_refl _), fun y c h => ?_, fun p hp => absurd (show p ∈ ([] : List (Addr × Obj)) from hp) (by simp), e0.hok.kept hk, ?_⟩
  · exact name_of_addr x.apart (PySem.mem_of_lookup h1) (PySem.mem_of_lookup h2)
  · have hy : scope.names.lookup y = some .cell ∨ scope.names.lookup y = some .free := hy
    rcases hy with hy | hy
    · exact cell_has hy
    · exact absurd rfl (S.nofree _ (PySem.mem_of_lookup hy))
  · exact Nat.le_of_lt (x.above y c (PySem.mem_of_lookup h))
  · have hi : i < vs.length := by
      unfold start at h2
      by_cases hi : i < vs.length
      · exact hi
      · rw [List.getElem?_append_right (by simpa using hi)] at h2
        rw [List.getElem?_replicate] at h2
        split at h2 <;> cases h2
    have ha : vs[i]? = some v := by
      unfold start at h2
      rw [List.getElem?_append_left (by simpa using hi), List.getElem?_map] at h2
      cases e : vs[i]? with
      | none => rw [e] at h2; cases h2
      | some a => rw [e] at h2; cases h2; rfl
    obtain ⟨u, hu, rv⟩ := r.get ha
    have hp : ps[i]? = some y := by
      rw [← S.pre, List.getElem?_take_of_lt (by omega)]; exact h1
    have ndP : ps.Nodup := by rw [← S.pre]; exact S.nd.sublist (List.take_sublist _ _)
    refine ⟨u, rv, ?_⟩
    rcases S.par y (List.mem_of_getElem? hp) with k | k
    · exact .inl ⟨k, bindL_get ndP hp hu k⟩
    · obtain ⟨c, e⟩ := cell_has (n := s.heap.objs.size + 1) k
      refine .inr ⟨.inl k, c, e, ?_⟩
      have q := x.cell y c e
      rw [bindC_get ndP hp hu (by show scope.names.lookup y ≠ _; rw [k]; decide)] at q
      exact q
  · exact e0.hok.fresh (Nat.le_of_lt (x.above y c (PySem.mem_of_lookup h)))
  · unfold start
    show _ = N.length
    rw [List.length_append, List.length_map, List.length_replicate]
    omega
theorem fn_of {CX : CXT} {P : Program} {w : World} {K : PySem.W.Frag} {mg : Str → Option Value} {base : Heap} {k : Nat} {f : Addr} {name qual : Str} {params : Arguments} {body : List Stmt} {scope : Scope} {dV kV doc pm cdv ct oc : Value} {an od : Option Addr}
    {osl : Array (Option Value)} {N ps : List Str} {sp : Sp} (lk : K.lookup f = some ⟨oc, od, .func (PySem.W.fnOf name qual params body scope dV kV doc pm an cdv ct), osl⟩) (hcd : PySem.W.codeIn K cdv qual = true) (S : FnScope N ps scope)
    (len : ∀ vs H Q E, sp vs H Q E → vs.length = ps.length)
    (hbody : ∀ (A : Around) (outer : List Env) (s : Shared) (H : Hp) (vs : List V) (Q : VK) (E : XK), Room k (A.deeper (envOfC qual scope s.heap.objs.size f cdv)) → sp vs H Q E →
      ∃ t, PSs (cxOf CX P w K mg base N qual scope f cdv A outer s H E) body t ∧ t { nx := fun _ H' => Q .non H', rt := Q } (start N vs) H) :
    FnOk P w K mg base CX (k + 1) f (PySem.W.fnOf name qual params body scope dV kV doc pm an cdv ct) ps sp := by
  refine ⟨len, fun A outer s H args us vs Q E hr e0 hb r hsp => ?_⟩
  have hl := len _ _ _ _ hsp
  have KX : K.In s.heap := e0.mod.kin.keeps fun b o e => (e0.bs b o e).1
  have lim : s.heap.NoLimit := e0.mod.nolimit.keeps fun b o e => (e0.bs b o e).1
  have hkind : ∀ y ∈ ps.zip us, scope.names.lookup y.1 = some .local ∨ (scope.names.lookup y.1 = some .cell ∧ ((cellsFrom (s.heap.objs.size + 1) scope.names []).lookup y.1).isSome = true) := fun ⟨n, v⟩ hy => by
    rcases S.par n (List.of_mem_zip hy).1 with q | q
    · exact .inl q
    · exact .inr ⟨q, PySem.W.cellsFrom_some _ _ _ (.inl q)⟩
  refine codeAny_call_function hr.depth (KX _ _ lk) rfl S.co S.gen rfl (PySem.W.codeRec_of KX hcd) (hb _ _ _ _ ?_)
  refine wpAny_newFunctionEnv_cells S.kind hkind fun env he s1 x => ?_
  subst he
  refine ⟨lim.keeps x.toInCall.keep, codeAny_func ?_⟩
  obtain ⟨t, ht, hq⟩ := hbody A outer s H vs Q E (hr.deeper _) hsp
  have I : Inv (cxOf CX P w K mg base N qual scope f cdv A outer s H E) [] (start N vs) H s1 := inv_start S hr.hd e0 hl r x
  refine wpAny_mono (ht [] s1 (start N vs) H _ I hq) (fun fl s' hs => ?_) fun e s' hs => hs
  have fin : ∀ {σ' : St} {H' : Hp} {v : V} {u : Value}, Inv (cxOf CX P w K mg base N qual scope f cdv A outer s H E) [] σ' H' s' → RelV v u → Q v H' → CE outer P w H s Q u s' :=
    fun {σ' H' v u} J rv q => ⟨v, H', J.os, J.bare, J.base, J.hok, rv, q⟩
  cases fl with
  | ret u =>
    obtain ⟨v, σ', H', J, rv, q⟩ := hs
    exact fin J rv q
  | next =>
    obtain ⟨σ', H', J, q⟩ := hs
    exact fin (v := V.non) (u := Value.none) J rfl q
  | brk =>
    obtain ⟨_, _, _, q⟩ := hs
    exact False.elim q
  | cont =>
    obtain ⟨_, _, _, q⟩ := hs
    exact False.elim q
end L2
namespace L2
open PySem PySem.Spec PyProof.Rows
section
variable {X : Cx} {x : Str} {p pos : Pos} {e : Expr} {es : List Expr} {t : TA} {id T : String} {r : List V → Hp → VK → Prop}
def tCB (r : List V → Hp → VK → Prop) (t : TA) : TE := fun σ H Q => t σ H fun vs H1 => r vs H1 Q
theorem pe_callB (hc : CallR X (.builtin id) r) (hg : Gl X x) (hm : X.mg x = none) (hv : bootBuiltins x = some (.builtin id)) (ha : PA X (e :: es) t) (hn : x ≠ "__name__" := by decide) (hdb : (x == ("__debug__" : Str)) = false := by decide)
    (he : starEach (e :: es) X.env = (false, eval e X.env) :: starEach es X.env := by rfl) (hpl : (backTo pos (starEach es X.env)).any (·.1) = false := by rfl) : PE X (.Call (.Name x p) (e :: es) [] pos) (tCB r t) := by
  intro pins s σ H Q I h
  refine wpAny_Call_Name_kw (ld_blt I hg hm hv ?_ hn hdb)
  exact PyProof.Rows.callWith_builtin1 (thn (ha pos pins s σ H _ I h) fun us s1 ⟨vs, H1, I1, r1, q1⟩ => hc pins s1 σ H1 vs us Q I1 r1 q1) he hpl
theorem pe_callTy (hc : CallR X (.type T) r) (hg : Gl X x) (hm : X.mg x = none) (hv : bootBuiltins x = some (.type T)) (ha : PA X (e :: es) t) (hn : x ≠ "__name__" := by decide) (hdb : (x == ("__debug__" : Str)) = false := by decide)
    (he : starEach (e :: es) X.env = (false, eval e X.env) :: starEach es X.env := by rfl) (hpl : (backTo pos (starEach es X.env)).any (·.1) = false := by rfl) : PE X (.Call (.Name x p) (e :: es) [] pos) (tCB r t) := by
  intro pins s σ H Q I h
  refine wpAny_Call_Name_kw (ld_blt I hg hm hv ?_ hn hdb)
  exact PyProof.Rows.callWith_type1 (thn (ha pos pins s σ H _ I h) fun us s1 ⟨vs, H1, I1, r1, q1⟩ => hc pins s1 σ H1 vs us Q I1 r1 q1) he hpl
end
end L2
namespace HT
open PySem PyProof.Rows
section
open PySem.SeqAt
open PySem.AutoSeq1 (wpAny_loadPart')
open PySem.MeetsSeq PySem.MeetsSeq2 PySem.MeetsSeq3
end
section
variable {prog : Program} {w : World} {A : Around} {E : Value → Shared → Prop} {s : Shared}
theorem cat_tup {t b : Addr} {vs ws : List Value} {Q : Value → Shared → Prop} (ht : IsTup s.heap t vs.toArray) (hb : IsTup s.heap b ws.toArray) (hv : vs ≠ [])
    (h1 : ws = [] → Q (.ref t) s) (h2 : ws ≠ [] → Q (.ref s.heap.objs.size) { s with heap := s.heap.push { cls := .type "tuple", data := .seq (vs ++ ws).toArray } })
    (hsz : vs.length + ws.length ≤ sizeLine) : wpAny (model prog w) A (binaryOp .Add (.ref t) (.ref b)) Q E s := by
  obtain ⟨⟨cls, dd, data, sl⟩, ho, hc, n, hd⟩ := id ht
  obtain ⟨⟨cls2, dd2, data2, sl2⟩, ho2, hc2, n2, hd2⟩ := id hb
  simp only at hc hd hc2 hd2
  subst hc hd hc2 hd2
  have e : vs.toArray ++ ws.toArray = (vs ++ ws).toArray := by simp
  by_cases hw : ws = []
  · exact concat_meets ⟨_, ho, rfl⟩ ⟨_, ho2, rfl⟩ noFill_tuple_add seq_tuple_add PySem.F.slot_tuple_add PySem.F.entry_tuple_add (PySem.F.args_tuple_add_2 _ _)
      (tuple_addW1 t b vs.toArray ws.toArray n n2 dd dd2 sl sl2 (by simpa using hv) (by simp [hw])) ⟨ho, ho2, h1 hw⟩
  · refine concat_meets ⟨_, ho, rfl⟩ ⟨_, ho2, rfl⟩ noFill_tuple_add seq_tuple_add PySem.F.slot_tuple_add PySem.F.entry_tuple_add (PySem.F.args_tuple_add_2 _ _)
      (tuple_addW2 t b vs.toArray ws.toArray n n2 dd dd2 sl sl2 (by simpa using hv) (by simpa using hw) (by rw [List.size_toArray, List.size_toArray]; exact hsz)) ⟨ho, ho2, ?_⟩
    rw [e]
    exact h2 hw
def sIx (n d : Nat) : Option Int → Nat
  | none => d
  | some v => if v < 0 then (v + (n : Int)).toNat else min v.toNat n
theorem sIx_le (n d : Nat) (hd : d ≤ n) (o : Option Int) : sIx n d o ≤ n := by
  cases o with
  | none => exact hd
  | some v =>
    show (if v < 0 then (v + (n : Int)).toNat else min v.toNat n) ≤ n
    by_cases hv : v < 0
    · rw [if_pos hv]; omega
    · rw [if_neg hv]; exact Nat.min_le_right _ _
theorem clip_eq (v : Int) (n d : Nat) : (if v < 0 then max (v + (n : Int)) 0 else min v (n : Int)) = ((sIx n d (some v) : Nat) : Int) := by
  show (if v < 0 then max (v + (n : Int)) 0 else min v (n : Int)) = (((if v < 0 then (v + (n : Int)).toNat else min v.toNat n) : Nat) : Int)
  by_cases hv : v < 0
  · simp only [if_pos hv]; omega
  · simp only [if_neg hv]; omega
theorem adjust_gen (lo hi : Option Int) (n : Nat) : Builtin.Slice.sliceAdjust lo hi 1 (n : Int) = (((sIx n 0 lo : Nat) : Int), ((sIx n n hi : Nat) : Int)) := by
  have h1 : ¬ ((1 : Int) < 0) := by omega
  unfold Builtin.Slice.sliceAdjust
  simp only [h1, if_false]
  refine Prod.ext ?_ ?_
  · cases lo with
    | none => rfl
    | some v => exact clip_eq v n 0
  · cases hi with
    | none => rfl
    | some v => exact clip_eq v n n
theorem places_gen (i j : Nat) : Builtin.Slice.slicePlaces (i : Int) (j : Int) 1 = j - i := by
  unfold Builtin.Slice.slicePlaces
  have h1 : (1 : Int) > 0 := by omega
  simp only [h1, if_true, Int.ediv_one]
  split <;> omega
theorem slicePart_ {v : Value} {o : Option Int} {Q : Option Int → Shared → Prop} (p : IsPart v o) (h : Q o s) : wpAny (model prog w) A (Builtin.Slice.slicePartIndex v) Q E s := by
  cases p with
  | none => exact slicePart_none h
  | int i t => exact slicePart_int h
theorem sliceApplied_gen {sl : Addr} {vl vu : Value} {lo hi : Option Int} {n : Nat} {Q : Int × Int × Nat → Shared → Prop} (hs : s.heap.IsSliceOf sl vl vu .none) (pl : IsPart vl lo) (pu : IsPart vu hi)
    (h : Q (((sIx n 0 lo : Nat) : Int), 1, sIx n n hi - sIx n 0 lo) s) : wpAny (model prog w) A (Builtin.Slice.sliceApplied (.ref sl) (pure (n : Int))) Q E s := by
  obtain ⟨os, hos, hcs, hds⟩ := id hs
  unfold Builtin.Slice.sliceApplied Builtin.Slice.sliceFields
  refine wpAny_bind (wpAny_bind (wpAny_field hos hds (x := vl) rfl (wpAny_bind (wpAny_field hos hds (x := vu) rfl (wpAny_bind (wpAny_field hos hds (x := .none) rfl (wpAny_pure ?_)))))))
  refine wpAny_bind (slicePart_none ?_)
  show wpAny _ _ (if ((1 : Int) == 0) = true then _ else _) _ _ s
  rw [if_neg (by decide)]
  refine wpAny_bind (slicePart_ pl (wpAny_bind (slicePart_ pu (wpAny_bind (wpAny_pure ?_)))))
  show wpAny _ _ (match Builtin.Slice.sliceAdjust lo hi 1 (n : Int) with | (lo, hi) => pure (lo, (1 : Int), Builtin.Slice.slicePlaces lo hi 1)) _ _ s
  rw [adjust_gen lo hi n]
  show wpAny _ _ (pure (((sIx n 0 lo : Nat) : Int), (1 : Int), Builtin.Slice.slicePlaces ((sIx n 0 lo : Nat) : Int) ((sIx n n hi : Nat) : Int) 1)) _ _ s
  rw [places_gen]
  exact wpAny_pure h
theorem pick_gen (xs : Array Value) (i k : Nat) : ((List.range k).filterMap fun (m : Nat) => xs[((i : Int) + (m : Int) * 1).toNat]?).toArray = ((xs.toList.drop i).take k).toArray := by
  have e : (fun (m : Nat) => xs[((i : Int) + (m : Int) * 1).toNat]?) = fun m => xs[i + m]? := by
    funext m
    have : ((i : Int) + (m : Int) * 1).toNat = i + m := by omega
    rw [this]
  rw [e]
  have := pick_run xs i k
  rw [List.filterMap_map] at this
  have e2 : ((fun x => xs[x]?) ∘ fun x => i + x) = fun m => xs[i + m]? := rfl
  rw [e2] at this
  rw [this]
theorem getItem_tuple_cut {t sl : Addr} {items : Array Value} {vl vu : Value} {lo hi : Option Int} {Q : Value → Shared → Prop} (ht : IsTup s.heap t items) (hs : s.heap.IsSliceOf sl vl vu .none) (pl : IsPart vl lo) (pu : IsPart vu hi)
    (hw : ¬ (sIx items.size 0 lo = 0 ∧ sIx items.size items.size hi = items.size))
    (h : Q (.ref s.heap.objs.size) { s with heap := s.heap.push { cls := .type "tuple", data := .seq ((items.toList.drop (sIx items.size 0 lo)).take (sIx items.size items.size hi - sIx items.size 0 lo)).toArray } })
    (hsz : items.size ≤ sizeLine) : wpAny (model prog w) A (getItem (.ref t) (.ref sl)) Q E s := by
  have htake : sizeOk (.seq ((items.toList.drop (sIx items.size 0 lo)).take (sIx items.size items.size hi - sIx items.size 0 lo)).toArray) := by
    show ((items.toList.drop (sIx items.size 0 lo)).take (sIx items.size items.size hi - sIx items.size 0 lo)).toArray.size ≤ sizeLine
    rw [List.size_toArray, List.length_take, List.length_drop, Array.length_toList]
    omega
  have hj : sIx items.size items.size hi ≤ items.size := sIx_le _ _ (Nat.le_refl _) hi
  obtain ⟨os, hos, hcs, hds⟩ := id hs
  have hTs : s.TypeIs (.ref sl) "slice" := ⟨os, hos, hcs⟩
  unfold getItem
  try with_reducible refine wpAny_holding ?_
  first | refine wpAny_bind (wpAny_pure ?_) | skip
  refine wpAny_bind (wpAny_sequenceKey ht.typeIs (by decide) ?_)
  refine wpAny_bind (wpAny_callSpecial?_slot (name := Str.ofString "__getitem__") ht.typeIs PyProof.Rows.slot_tuple_getitem
    (wpAny_call_entry PyProof.Rows.slot_tuple_getitem ht.typeIs entry_tuple_getitem ?_ (args_tuple_getitem _ _)))
  show wpAny _ _ (Builtin.Tuple.tupleItemsOf (.ref t) >>= _) _ _ s
  refine wpAny_bind (tupleItemsOf_ ht ?_)
  refine wpAny_bind (wpAny_typeOf hTs ?_)
  rw [if_pos (by decide)]
  refine wpAny_bind (sliceApplied_gen hs pl pu ?_)
  have hno : ¬ ((((sIx items.size 0 lo : Nat) : Int) == 0 && (1 : Int) == 1 && (sIx items.size items.size hi - sIx items.size 0 lo) == items.size) = true) := by
    intro q
    rw [Bool.and_eq_true, Bool.and_eq_true] at q
    have q1 : ((sIx items.size 0 lo : Nat) : Int) = 0 := eq_of_beq q.1.1
    have q2 : sIx items.size items.size hi - sIx items.size 0 lo = items.size := eq_of_beq q.2
    exact hw ⟨by omega, by omega⟩
  show wpAny _ _ (if (((sIx items.size 0 lo : Nat) : Int) == 0 && (1 : Int) == 1 && (sIx items.size items.size hi - sIx items.size 0 lo) == items.size) = true then _ else _) _ _ s
  rw [if_neg hno, pick_gen]
  first
    | exact wpAny_bind (m := Builtin.Tuple.tupleExact _) (wpAny_newObj_type (wpAny_pure ⟨_, rfl, wpAny_pure h⟩) htake)
    | exact wpAny_bind (m := Builtin.Tuple.tupleExact _) (wpAny_newObj_type (wpAny_bind (wpAny_pure (wpAny_pure ⟨_, rfl, wpAny_pure h⟩))) htake)
    | exact wpAny_bind (wpAny_bind (m := Builtin.Tuple.tupleExact _) (wpAny_newObj_type (wpAny_pure (wpAny_pure ⟨_, rfl, wpAny_pure h⟩)) htake))
    | exact wpAny_bind (wpAny_bind (m := Builtin.Tuple.tupleExact _) (wpAny_newObj_type (wpAny_pure ⟨_, rfl, wpAny_pure h⟩) htake))
end
end HT
namespace L2
open PySem PySem.Spec PyProof.Rows
abbrev TO := St → Hp → (Option Int → Hp → Prop) → Prop
def PO (X : Cx) (e : Option Expr) (t : TO) : Prop :=
  ∀ (pins : List (Addr × Obj)) (s : Shared) (σ : St) (H : Hp) (Q : Option Int → Hp → Prop), Inv X pins σ H s → t σ H Q →
    wpAny (model X.prog X.w) X.A (evalPart e X.env) (fun u s' => ∃ o H', Inv X pins σ H' s' ∧ IsPart u o ∧ Q o H') X.xe s
def tNoPart : TO := fun _ H Q => Q none H
def tPart (t : TE) : TO := fun σ H Q => t σ H fun x H1 => ∃ i, x = .int i ∧ Q (some i) H1
theorem intsAre_of {ns : List Int} : ∀ {us : List Value}, Vals (ns.map V.int) us → IntsAre us ns := by
  induction ns with
  | nil => intro us r; rw [List.map_nil] at r; cases r; exact .nil
  | cons n ns ih =>
    intro us r
    rw [List.map_cons] at r
    cases r with
    | cons r1 r2 =>
      obtain ⟨t, e⟩ := r1
      subst e
      exact .cons n t (ih r2)
section
variable {X : Cx} {e : Expr} {te : TE} {lo hi : Option Expr} {tl th : TO} {pos p2 : Pos}
theorem po_none : PO X none tNoPart := by
  intro pins s σ H Q I h
  rw [evalPart_none]
  exact wpAny_pure ⟨none, H, I, .none, h⟩
theorem po_some (h : PE X e te) : PO X (some e) (tPart te) := by
  intro pins s σ H Q I hw
  rw [evalPart_some]
  refine thn (h pins s σ H _ I hw) fun u s1 ⟨x, H1, I1, r1, q1⟩ => ?_
  obtain ⟨i, rfl, q⟩ := q1
  obtain ⟨t, rfl⟩ := r1
  exact ⟨some i, H1, I1, .int i t, q⟩
def SlR (X : Cx) (r : V → Option Int → Option Int → Hp → VK → Prop) : Prop :=
  ∀ (pins : List (Addr × Obj)) (s : Shared) (σ : St) (H : Hp) (x : V) (v vl vu : Value) (lo hi : Option Int) (sl : Addr) (Q : VK), Inv X pins σ H s → RelV x v → s.heap.IsSliceOf sl vl vu .none → IsPart vl lo → IsPart vu hi → r x lo hi H Q →
    ∃ T id, typeLookup (.type T) "__getitem__" = pure (some (.builtin id)) ∧ s.TypeIs v T ∧ wpAny (model X.prog X.w) X.A (getItem v (.ref sl)) (EP X pins σ Q) X.xe s
def tSl (r : V → Option Int → Option Int → Hp → VK → Prop) (te : TE) (tl th : TO) : TE := fun σ H Q => te σ H fun x H1 => tl σ H1 fun l H2 => th σ H2 fun u H3 => r x l u H3 Q
theorem pe_slice {r : V → Option Int → Option Int → Hp → VK → Prop} (hr : SlR X r) (he : PE X e te) (hl : PO X lo tl) (hu : PO X hi th) : PE X (.Subscript e (.Slice lo hi none p2) pos) (tSl r te tl th) := by
  intro pins s σ H Q I h
  refine Subscript_ (thn (he pins s σ H _ I h) fun v s1 ⟨x, H1, I1, r1, q1⟩ => ?_)
  refine wpAny_Slice (thn (hl pins s1 σ H1 _ I1 q1) fun vl s2 ⟨l, H2, I2, pl, q2⟩ => thn (hu pins s2 σ H2 _ I2 q2) fun vu s3 ⟨u, H3, I3, pu, q3⟩ => ?_)
  rw [evalPart_none]
  refine wpAny_pure ?_
  have I4 : Inv X pins σ H3 { s3 with heap := s3.heap.push { cls := .type "slice", data := .fields #[vl, vu, .none] } } := I3.kept (t' := s3.toks) fun b ob q => Heap.get?_push_of_some _ q
  obtain ⟨T, id, hT, ht, hg⟩ := hr pins { s3 with heap := s3.heap.push { cls := .type "slice", data := .fields #[vl, vu, .none] } } σ H3 x v vl vu l u s3.heap.objs.size Q I4 r1 (Heap.IsSliceOf.new ..) pl pu q3
  show wpAny (model X.prog X.w) X.A (subscriptTail e (.Slice lo hi none p2) v (.ref s3.heap.objs.size)) (EP X pins σ Q) X.xe { s3 with heap := s3.heap.push { cls := .type "slice", data := .fields #[vl, vu, .none] } }
  exact tail_any (ops := [.ref s3.heap.objs.size, v]) ht hT hg (by with_unfolding_all rfl)
def cutV (xs : List V) (lo hi : Option Int) : List V := (xs.drop (HT.sIx xs.length 0 lo)).take (HT.sIx xs.length xs.length hi - HT.sIx xs.length 0 lo)
theorem cutV_length (xs : List V) (lo hi : Option Int) : (cutV xs lo hi).length ≤ xs.length := by
  unfold cutV
  rw [List.length_take, List.length_drop]
  omega
def rSlT (K : PySem.W.Frag) : V → Option Int → Option Int → Hp → VK → Prop := fun x lo hi H Q => ∃ a xs, x = .ref a ∧ SqT K H a xs ∧
  ¬ (HT.sIx xs.length 0 lo = 0 ∧ HT.sIx xs.length xs.length hi = xs.length) ∧ ∀ p, H p = none → Q (.ref p) (upd H p (.tup (cutV xs lo hi)))
theorem sl_tup : SlR X (rSlT X.K) := by
  intro pins s σ H x v vl vu lo hi sl Q I rx hs pl pu h
  obtain ⟨a, xs, rfl, hx, hw, q⟩ := h
  cases rx
  obtain ⟨its, r, ht, hz⟩ := I.tuple hx
  have hlen : its.toArray.size = xs.length := by rw [List.size_toArray]; exact r.length.symm
  refine ⟨"tuple", _, PyProof.Rows.slot_tuple_getitem.lookup, ht.typeIs, ?_⟩
  refine HT.getItem_tuple_cut ht hs pl pu (by rw [hlen]; exact hw) ?_ (by rw [hlen]; exact hz)
  rw [hlen]
  refine ⟨.ref s.heap.objs.size, _, I.laid (t' := s.toks) (o := .tup (cutV xs lo hi)) (fun b ob q => Heap.get?_push_of_some _ q) (Nat.le_refl _) ?_, rfl, q _ (I.hok.fresh (Nat.le_refl _))⟩
  exact ⟨Nat.le_trans (cutV_length xs lo hi) hz, _, (r.drop (HT.sIx xs.length 0 lo)).take (HT.sIx xs.length xs.length hi - HT.sIx xs.length 0 lo), IsTup.new _ _⟩
def rCatT (K : PySem.W.Frag) : R2 := fun x y H Q => ∃ a b xs ys, x = .ref a ∧ y = .ref b ∧ SqT K H a xs ∧ SqT K H b ys ∧ xs ≠ [] ∧ xs.length + ys.length ≤ sizeLine ∧
  (ys = [] → Q (.ref a) H) ∧ (ys ≠ [] → ∀ p, H p = none → Q (.ref p) (upd H p (.tup (xs ++ ys))))
theorem Vals.nil_iff {xs : List V} {us : List Value} (r : Vals xs us) : us = [] ↔ xs = [] := by
  cases r with
  | nil => simp
  | cons _ _ => simp
theorem op_catT : OpR X (binaryOp .Add) (rCatT X.K) := by
  intro pins s σ H x y v u Q I rx ry h
  obtain ⟨a, b, xs, ys, rfl, rfl, ha, hb, hx, hz, q1, q2⟩ := h
  cases rx
  cases ry
  obtain ⟨its, r1, p1, _⟩ := I.tuple ha
  obtain ⟨its2, r2, p2, _⟩ := I.tuple hb
  refine HT.cat_tup p1 p2 (fun z => hx (r1.nil_iff.mp z)) (fun z => ⟨.ref a, H, I, rfl, q1 (r2.nil_iff.mp z)⟩) (fun z => ?_) (by rw [← r1.length, ← r2.length]; exact hz)
  refine ⟨.ref s.heap.objs.size, _, I.laid (t' := s.toks) (o := .tup (xs ++ ys)) (fun b ob q => Heap.get?_push_of_some _ q) (Nat.le_refl _) ?_, rfl, q2 (fun w => z (r2.nil_iff.mpr w)) _ (I.hok.fresh (Nat.le_refl _))⟩
  exact ⟨by rw [List.length_append]; exact hz, _, r1.append r2, IsTup.new _ _⟩
end
end L2
namespace L2
open PySem PySem.Spec PyProof.Rows
def ixN (n : Nat) (i : Int) : Option Nat := if 0 ≤ i then (if i < n then some i.toNat else none) else if -(n : Int) ≤ i then some (i + n).toNat else none
def atI {α : Type} (xs : List α) (i : Int) : Option α := (ixN xs.length i).bind fun j => xs[j]?
theorem ixN_seq {n : Nat} {i : Int} {j : Nat} (h : ixN n i = some j) : seqIndex? i n = some j ∧ j < n ∧ -(n : Int) ≤ i ∧ i < n := by
  unfold ixN at h
  by_cases h0 : 0 ≤ i
  · rw [if_pos h0] at h
    by_cases h1 : i < n
    · rw [if_pos h1] at h
      have e : i.toNat = j := Option.some.inj h
      exact ⟨by rw [seqIndex_of h0 h1, e], by omega, by omega, h1⟩
    · rw [if_neg h1] at h; cases h
  · rw [if_neg h0] at h
    by_cases h1 : -(n : Int) ≤ i
    · rw [if_pos h1] at h
      have e : (i + n).toNat = j := Option.some.inj h
      exact ⟨by rw [seqIndex_neg (by omega) h1, e], by omega, h1, by omega⟩
    · rw [if_neg h1] at h; cases h
theorem atI_get {α : Type} {xs : List α} {i : Int} {v : α} (h : atI xs i = some v) : ∃ j, seqIndex? i xs.length = some j ∧ xs[j]? = some v ∧ j < xs.length ∧ -(xs.length : Int) ≤ i ∧ i < xs.length := by
  unfold atI at h
  cases e : ixN xs.length i with
  | none => rw [e] at h; cases h
  | some j =>
    rw [e] at h
    obtain ⟨h1, h2, h3, h4⟩ := ixN_seq e
    exact ⟨j, h1, h, h2, h3, h4⟩
theorem atI_nat {α : Type} {xs : List α} {j : Nat} {v : α} (h : xs[j]? = some v) : atI xs (j : Int) = some v := by
  have hj : j < xs.length := (List.getElem?_eq_some_iff.mp h).1
  have e : ixN xs.length (j : Int) = some j := by
    unfold ixN
    rw [if_pos (by omega), if_pos (by omega)]; simp
  unfold atI; rw [e]; exact h
def PlainIx (b : Expr) : Prop := ∀ o i, subscripted b false o i = operate [o, i] (getItem o i)
def IxR (X : Cx) (r : R2) : Prop :=
  ∀ (value slice : Expr) (pins : List (Addr × Obj)) (s : Shared) (σ : St) (H : Hp) (x y : V) (v u : Value) (Q : VK), Inv X pins σ H s → RelV x v → RelV y u → r x y H Q →
    subscripted slice false v u = operate [v, u] (getItem v u) → wpAny (model X.prog X.w) X.A (subscriptTail value slice v u) (EP X pins σ Q) X.xe s
def MtR (X : Cx) (id : String) (r : V → List V → Hp → VK → Prop) : Prop :=
  ∀ (pins : List (Addr × Obj)) (s : Shared) (σ : St) (H : Hp) (x : V) (xs : List V) (v : Value) (us : List Value) (Q : VK), Inv X pins σ H s → RelV x v → Vals xs us → r x xs H Q →
    wpAny (model X.prog X.w) X.A (call (.builtin id) (v :: us)) (EP X pins σ Q) X.xe s
section
variable {X : Cx} {a b : Expr} {ta tb : TE} {pos : Pos}
theorem IxR.or {r r' : R2} (h : IxR X r) (h' : IxR X r') : IxR X (fun x y H Q => r x y H Q ∨ r' x y H Q) := by
  intro value slice pins s σ H x y v u Q I rx ry q hs
  rcases q with q | q
  · exact h value slice pins s σ H x y v u Q I rx ry q hs
  · exact h' value slice pins s σ H x y v u Q I rx ry q hs
theorem pe_ix {r : R2} (hr : IxR X r) (ha : PE X a ta) (hb : PE X b tb) (hs : PlainIx b) : PE X (.Subscript a b pos) (tOp r ta tb) := by
  intro pins s σ H Q I h
  exact Subscript_ (binT ha hb I h fun v u s2 x y H2 I2 rx ry q => hr a b pins s2 σ H2 x y v u Q I2 rx ry q (hs _ _))
def rIxL (K : PySem.W.Frag) : R2 := fun x y H Q => ∃ p xs i v, x = .ref p ∧ y = .int i ∧ SqL K H p xs ∧ atI xs i = some v ∧ Q v H
def rIxT (K : PySem.W.Frag) : R2 := fun x y H Q => ∃ p xs i v, x = .ref p ∧ y = .int i ∧ SqT K H p xs ∧ atI xs i = some v ∧ Q v H
def rIxS : R2 := fun x y H Q => ∃ z i c, x = .str z ∧ y = .int i ∧ z.length ≤ sizeLine ∧ atI z.cps.toList i = some c ∧ Q (.str ⟨#[c]⟩) H
theorem ix_list : IxR X (rIxL X.K) := by
  intro value slice pins s σ H x y v u Q I rx ry h hs
  obtain ⟨p, xs, i, z, rfl, rfl, hq, he, q⟩ := h
  cases rx
  obtain ⟨t, rfl⟩ := ry
  obtain ⟨its, r, pl, hz⟩ := I.list hq
  obtain ⟨j, h1, h2, h3, h4, h5⟩ := atI_get he
  obtain ⟨w, ew, rw'⟩ := r.get h2
  have hl := r.length
  have hn := line63
  have fin : EP X pins σ Q w s := ⟨z, H, I, rw', q⟩
  by_cases h0 : 0 ≤ i
  · have hj : i.toNat = j := by
      rw [seqIndex_of h0 h5] at h1
      exact Option.some.inj h1
    exact item_listR pl.isList h0 (by omega) (by rw [hj]; simpa using ew) fin hs
  · have hj : (i + (its.toArray.size : Int)).toNat = j := by
      rw [seqIndex_neg (by omega) h4] at h1
      rw [List.size_toArray, ← hl]
      exact Option.some.inj h1
    exact subscriptTail_builtinR (x := w) pl.isList.typeIs slot_list_getitem.lookup
      (wpAny_getItem_list_neg (Q := fun r s' => r = w ∧ EP X pins σ Q r s') pl.isList (by omega) (by rw [List.size_toArray] <;> omega) (by omega) (by rw [hj]; simpa using ew) ⟨rfl, fin⟩) hs
theorem ix_tup : IxR X (rIxT X.K) := by
  intro value slice pins s σ H x y v u Q I rx ry h hs
  obtain ⟨p, xs, i, z, rfl, rfl, hq, he, q⟩ := h
  cases rx
  obtain ⟨t, rfl⟩ := ry
  obtain ⟨its, r, pl, hz⟩ := I.tuple hq
  obtain ⟨j, h1, h2, h3, h4, h5⟩ := atI_get he
  obtain ⟨w, ew, rw'⟩ := r.get h2
  have hl := r.length
  have hn := line63
  have fin : EP X pins σ Q w s := ⟨z, H, I, rw', q⟩
  exact subscriptTail_builtinR (x := w) pl.typeIs slot_tuple_getitem.lookup
    (getItem_tuple (j := j) (Q := fun r s' => r = w ∧ EP X pins σ Q r s') pl (by omega) (by omega) (by rw [List.size_toArray, ← hl]; exact h1) (by simpa using ew) ⟨rfl, fin⟩) hs
theorem ix_str : IxR X rIxS := by
  intro value slice pins s σ H x y v u Q I rx ry h hs
  obtain ⟨z, i, c, rfl, rfl, hz, he, q⟩ := h
  obtain ⟨t, rfl⟩ := rx
  obtain ⟨t', rfl⟩ := ry
  obtain ⟨j, h1, h2, h3, h4, h5⟩ := atI_get he
  have hl : z.cps.toList.length = z.length := by simp [Str.length]
  rw [hl] at h1 h4 h5
  have hn := line63
  exact tail_any (typeIs_str s z t) slot_str_getitem.lookup (getItem_str (c := c) (by
    have e1 : decide (i < -(2 ^ 63 : Int)) = false := decide_eq_false (by omega)
    have e2 : decide (i ≥ 2 ^ 63) = false := decide_eq_false (by omega)
    rw [e1, e2, Bool.or_false]) (by rw [h1]; simpa using h2) ⟨.str ⟨#[c]⟩, H, I.tok _, ⟨_, rfl⟩, q⟩) hs
def rIx (K : PySem.W.Frag) : R2 := fun x y H Q => rIxL K x y H Q ∨ rIxT K x y H Q ∨ rIxS x y H Q
theorem ix_seq : IxR X (rIx X.K) := ix_list.or (ix_tup.or ix_str)
theorem slice_bounds (lo hi : Option Int) (n : Nat) : (sliceBounds lo hi none n).1 = ((HT.sIx n 0 lo : Nat) : Int) ∧ (sliceBounds lo hi none n).2.1 = ((HT.sIx n n hi : Nat) : Int) ∧ (sliceBounds lo hi none n).2.2 = 1 := by
  refine ⟨?_, ?_, rfl⟩
  · cases lo with
    | none => simp [sliceBounds, HT.sIx]
    | some i =>
      simp only [sliceBounds, HT.sIx, Option.getD_none, show (1 : Int) > 0 by decide, if_true]
      by_cases h : i < 0
      · simp only [h, if_true] <;> omega
      · simp only [h, if_false] <;> omega
  · cases hi with
    | none => simp [sliceBounds, HT.sIx]
    | some i =>
      simp only [sliceBounds, HT.sIx, Option.getD_none, show (1 : Int) > 0 by decide, if_true]
      by_cases h : i < 0
      · simp only [h, if_true] <;> omega
      · simp only [h, if_false] <;> omega
theorem slicePick_cut (its : List Value) (lo hi : Option Int) : slicePick its.toArray lo hi none = ((its.drop (HT.sIx its.length 0 lo)).take (HT.sIx its.length its.length hi - HT.sIx its.length 0 lo)).toArray := by
  obtain ⟨h1, h2, h3⟩ := slice_bounds lo hi its.toArray.size
  unfold slicePick
  rw [h1, h2, h3]
  simp only [sliceRange_one, pick_run, List.size_toArray] <;> rfl
def rSlL (K : PySem.W.Frag) : V → Option Int → Option Int → Hp → VK → Prop := fun x lo hi H Q => ∃ a xs, x = .ref a ∧ SqL K H a xs ∧ ∀ p, H p = none → Q (.ref p) (upd H p (.lst (cutV xs lo hi)))
theorem sl_list : SlR X (rSlL X.K) := by
  intro pins s σ H x v vl vu lo hi sl Q I rx hs pl pu h
  obtain ⟨a, xs, rfl, hx, q⟩ := h
  cases rx
  obtain ⟨its, r, ht, hz⟩ := I.list hx
  have hlen := r.length
  refine ⟨"list", _, slot_list_getitem.lookup, ht.isList.typeIs, ?_⟩
  refine wpAny_getItem_list_slice ht.isList hs pl pu .none (by simp) ?_ (by rw [List.size_toArray] <;> omega)
  rw [slicePick_cut, ← hlen]
  refine ⟨.ref s.heap.objs.size, _, I.laid (t' := s.toks) (o := .lst (cutV xs lo hi)) (fun b ob q => Heap.get?_push_of_some _ q) (Nat.le_refl _) ?_, rfl, q _ (I.hok.fresh (Nat.le_refl _))⟩
  exact ⟨Nat.le_trans (cutV_length xs lo hi) hz, _, 0, (r.drop (HT.sIx xs.length 0 lo)).take (HT.sIx xs.length xs.length hi - HT.sIx xs.length 0 lo), Heap.get?_push_size _ rfl⟩
def flatV : V → Bool
  | .non => true
  | .bl _ => true
  | .int _ => true
  | .str _ => true
  | _ => false
def eqV : V → V → Bool
  | .non, .non => true
  | .bl a, .bl b => a == b
  | .bl a, .int b => (if a then 1 else 0) == b
  | .int a, .bl b => a == (if b then 1 else 0)
  | .int a, .int b => a == b
  | .str a, .str b => a == b
  | _, _ => false
theorem eqAt_V {A : Around} {s : Shared} {y x : V} {u v : Value} (ry : RelV y u) (rx : RelV x v) (fy : flatV y = true) (fx : flatV x = true) : SeqAt.EqAt A s u v (eqV y x) := by
  cases y with
  | non =>
    cases ry
    cases x with
    | non => cases rx; exact SeqAt.EqAt.same _
    | bl b => cases rx; exact SeqAt.EqAt.none_bool b
    | int b => obtain ⟨t, rfl⟩ := rx; exact SeqAt.EqAt.none_int b t
    | str b => obtain ⟨t, rfl⟩ := rx; exact SeqAt.EqAt.none_str b t
    | _ => exact absurd (show false = true from fx) Bool.false_ne_true
  | bl a =>
    cases ry
    cases x with
    | non => cases rx; exact SeqAt.EqAt.bool_none a
    | bl b => cases rx; exact SeqAt.EqAt.bool_bool a b
    | int b => obtain ⟨t, rfl⟩ := rx; exact SeqAt.EqAt.bool_int a b t
    | str b => obtain ⟨t, rfl⟩ := rx; exact SeqAt.EqAt.bool_str a b t
    | _ => exact absurd (show false = true from fx) Bool.false_ne_true
  | int a =>
    obtain ⟨t', rfl⟩ := ry
    cases x with
    | non => cases rx; exact SeqAt.EqAt.int_none a t'
    | bl b => cases rx; exact SeqAt.EqAt.int_bool a t' b
    | int b => obtain ⟨t, rfl⟩ := rx; exact SeqAt.EqAt.int_int a t' b t
    | str b => obtain ⟨t, rfl⟩ := rx; exact SeqAt.EqAt.int_str a t' b t
    | _ => exact absurd (show false = true from fx) Bool.false_ne_true
  | str a =>
    obtain ⟨t', rfl⟩ := ry
    cases x with
    | non => cases rx; exact SeqAt.EqAt.str_none a t'
    | bl b => cases rx; exact SeqAt.EqAt.str_bool a t' b
    | int b => obtain ⟨t, rfl⟩ := rx; exact SeqAt.EqAt.str_int a t' b t
    | str b => obtain ⟨t, rfl⟩ := rx; exact SeqAt.EqAt.str_str a t' b t
    | _ => exact absurd (show false = true from fx) Bool.false_ne_true
  | _ => exact absurd (show false = true from fy) Bool.false_ne_true
def eqU (x : V) (u : Value) : Bool := match u with
  | .none => eqV .non x
  | .bool b => eqV (.bl b) x
  | .int i _ => eqV (.int i) x
  | .str z _ => eqV (.str z) x
  | _ => false
theorem eqU_of {x y : V} {u : Value} (r : RelV y u) (f : flatV y = true) : eqU x u = eqV y x := by
  cases y with
  | non => cases r; rfl
  | bl b => cases r; rfl
  | int i => obtain ⟨t, rfl⟩ := r; rfl
  | str z => obtain ⟨t, rfl⟩ := r; rfl
  | _ => exact absurd (show false = true from f) Bool.false_ne_true
theorem any_eqU {x : V} : ∀ {xs : List V} {us : List Value}, Vals xs us → xs.all flatV = true → us.any (eqU x) = xs.any fun y => eqV y x
  | _, _, .nil, _ => rfl
  | y :: xs, u :: us, .cons r t, f => by
    rw [List.all_cons, Bool.and_eq_true] at f
    rw [List.any_cons, List.any_cons, eqU_of r f.1, any_eqU t f.2]
theorem mem_eqAt {A : Around} {s : Shared} {x : V} {v : Value} (rx : RelV x v) (fx : flatV x = true) : ∀ {xs : List V} {us : List Value}, Vals xs us → xs.all flatV = true → ∀ u ∈ us, SeqAt.EqAt A s u v (eqU x u)
  | _, _, .nil, _ => fun u hu => by cases hu
  | y :: xs, u :: us, .cons r t, f => fun u' hu => by
    rw [List.all_cons, Bool.and_eq_true] at f
    rcases List.mem_cons.mp hu with rfl | hu
    · rw [eqU_of r f.1]; exact eqAt_V r rx f.1 fx
    · exact mem_eqAt rx fx t f.2 u' hu
def inV (x : V) (xs : List V) : Bool := xs.any fun y => eqV y x
def rIn (K : PySem.W.Frag) (neg : Bool) : R2 := fun x y H Q => ∃ p xs, y = .ref p ∧ (SqL K H p xs ∨ SqT K H p xs) ∧ flatV x = true ∧ xs.all flatV = true ∧ Q (.bl (if neg then !inV x xs else inV x xs)) H
theorem op_in_seq : OpR X (compareOp .In) (rIn X.K false) := by
  intro pins s σ H x y v u Q I rx ry h
  obtain ⟨p, xs, rfl, hq, fx, fs, q⟩ := h
  cases ry
  rcases hq with hq | hq
  · obtain ⟨its, r, pl, hz⟩ := I.list hq
    refine SeqAt.in_listAt (eqU x) pl.isList (fun w hw => mem_eqAt rx fx r fs w (by simpa using hw)) ⟨.bl _, H, I, rfl, ?_⟩
    rw [show its.toArray.any (eqU x) = its.any (eqU x) by simp, any_eqU r fs]
    exact q
  · obtain ⟨its, r, pl, hz⟩ := I.tuple hq
    refine SeqAt.in_tupleAt (eqU x) pl (fun w hw => mem_eqAt rx fx r fs w (by simpa using hw)) ⟨.bl _, H, I, rfl, ?_⟩
    rw [show its.toArray.any (eqU x) = its.any (eqU x) by simp, any_eqU r fs]
    exact q
theorem op_notIn_seq : OpR X (compareOp .NotIn) (rIn X.K true) := by
  intro pins s σ H x y v u Q I rx ry h
  obtain ⟨p, xs, rfl, hq, fx, fs, q⟩ := h
  cases ry
  rcases hq with hq | hq
  · obtain ⟨its, r, pl, hz⟩ := I.list hq
    refine SeqAt.notIn_listAt (eqU x) pl.isList (fun w hw => mem_eqAt rx fx r fs w (by simpa using hw)) ⟨.bl _, H, I, rfl, ?_⟩
    rw [show its.toArray.any (eqU x) = its.any (eqU x) by simp, any_eqU r fs]
    exact q
  · obtain ⟨its, r, pl, hz⟩ := I.tuple hq
    refine SeqAt.notIn_tupleAt (eqU x) pl (fun w hw => mem_eqAt rx fx r fs w (by simpa using hw)) ⟨.bl _, H, I, rfl, ?_⟩
    rw [show its.toArray.any (eqU x) = its.any (eqU x) by simp, any_eqU r fs]
    exact q
theorem call_len_seq : CallR X (.builtin "len") (fun xs H Q => ∃ p ys, xs = [.ref p] ∧ (SqL X.K H p ys ∨ SqT X.K H p ys) ∧ Q (.int ys.length) H) := by
  intro pins s σ H xs us Q I r h
  obtain ⟨p, ys, rfl, hq, q⟩ := h
  obtain ⟨u, rfl, rx⟩ := vals1 r
  cases rx
  have hn := line63
  rcases hq with hq | hq
  · obtain ⟨its, r', pl, hz⟩ := I.list hq
    have hlen := r'.length
    exact Calls.call_len_list pl.isList (by simp only [List.size_toArray] <;> omega) ⟨.int ys.length, H, I.tok _, ⟨s.toks + 1, by rw [List.size_toArray, hlen]⟩, q⟩
  · obtain ⟨its, r', pl, hz⟩ := I.tuple hq
    have hlen := r'.length
    exact len_tuple pl (by simp only [List.size_toArray] <;> omega) ⟨.int ys.length, H, I.tok _, ⟨s.toks + 1, by rw [List.size_toArray, hlen]⟩, q⟩
theorem call_len_str : CallR X (.builtin "len") (fun xs H Q => ∃ z, xs = [.str z] ∧ z.length ≤ sizeLine ∧ Q (.int z.length) H) := by
  intro pins s σ H xs us Q I r h
  obtain ⟨z, rfl, hz, q⟩ := h
  obtain ⟨u, rfl, t, rfl⟩ := vals1 r
  have hn := line63
  exact len_str (by omega) ⟨.int z.length, H, I.tok _, ⟨_, rfl⟩, q⟩
theorem call_list_of : CallR X (.type "list") (fun xs H Q => ∃ p ys, xs = [.ref p] ∧ (SqL X.K H p ys ∨ SqT X.K H p ys) ∧ ∀ l, H l = none → Q (.ref l) (upd H l (.lst ys))) := by
  intro pins s σ H xs us Q I r h
  obtain ⟨p, ys, rfl, hq, q⟩ := h
  obtain ⟨u, rfl, rx⟩ := vals1 r
  cases rx
  have fin : ∀ (its : List Value), Vals ys its → ys.length ≤ sizeLine → ∀ (h' : Heap) (c' : Nat), (∀ b o', s.heap.get? b = some o' → h'.get? b = some o') →
      h'.get? s.heap.objs.size = some { cls := .type "list", dict := none, data := .seq its.toArray c', slots := #[] } → EP X pins σ Q (.ref s.heap.objs.size) { s with heap := h' } := fun its r' hz h' c' kp e =>
    ⟨.ref s.heap.objs.size, _, I.laid (t' := s.toks) kp (Nat.le_refl _) (show ObjOk X.prog X.w _ h' _ (.lst ys) from ⟨hz, its, c', r', e⟩), rfl, q _ (I.hok.fresh (Nat.le_refl _))⟩
  rcases hq with hq | hq
  · obtain ⟨its, r', pl, hz⟩ := I.list hq
    have hlen := r'.length
    obtain ⟨o, ho, hc, n, hd⟩ := pl.isList
    exact call_list_seq p (.inl rfl) ho hc hd (fun h' c' kp e => fin its r' hz h' c' kp e) (by simp only [List.size_toArray] <;> omega)
  · obtain ⟨its, r', pl, hz⟩ := I.tuple hq
    have hlen := r'.length
    obtain ⟨o, ho, hc, n, hd⟩ := pl
    exact call_list_seq p (.inr rfl) ho hc hd (fun h' c' kp e => fin its r' hz h' c' kp e) (by simp only [List.size_toArray] <;> omega)
theorem call_tuple_of : CallR X (.type "tuple") (fun xs H Q => ∃ p ys, xs = [.ref p] ∧ ((SqL X.K H p ys ∧ ∀ l, H l = none → Q (.ref l) (upd H l (.tup ys))) ∨ (SqT X.K H p ys ∧ Q (.ref p) H))) := by
  intro pins s σ H xs us Q I r h
  obtain ⟨p, ys, rfl, h⟩ := h
  obtain ⟨u, rfl, rx⟩ := vals1 r
  cases rx
  rcases h with ⟨hq, q⟩ | ⟨hq, q⟩
  · obtain ⟨its, r', pl, hz⟩ := I.list hq
    have hlen := r'.length
    refine call_tuple_list pl.isList (fun h' kp => ?_) (by simp only [List.size_toArray] <;> omega)
    have I1 : Inv X pins σ H { s with heap := h' } := I.kept (t' := s.toks) kp
    have I2 : Inv X pins σ (upd H h'.objs.size (.tup ys)) { s with heap := h'.push { cls := .type "tuple", data := .seq its.toArray } } :=
      I1.laid (t' := s.toks) (fun b o e => Heap.get?_push_of_some _ e) (Nat.le_refl _) (show ObjOk X.prog X.w _ _ _ (.tup ys) from ⟨hz, its, r', IsTup.new _ _⟩)
    exact ⟨.ref h'.objs.size, _, I2, rfl, q _ (I1.hok.fresh (Nat.le_refl _))⟩
  · obtain ⟨its, r', pl, hz⟩ := I.tuple hq
    exact call_tuple_same pl ⟨.ref p, H, I, rfl, q⟩
def tyV (K : PySem.W.Frag) (T : String) (x : V) (H : Hp) : Prop := match x with
  | .str _ => T = "str"
  | .int _ => T = "int"
  | .ref p => (T = "list" ∧ ∃ xs, SqL K H p xs) ∨ (T = "tuple" ∧ ∃ o, K.lookup p = some o ∧ o.cls = .type "tuple" ∧ o.dict = none) ∨
      (T = "dict" ∧ ((∃ kvs, H p = some (.dK kvs)) ∨ ∃ kvs, H p = some (.dT kvs))) ∨ (T = "set" ∧ ∃ S n, H p = some (.set S n))
  | _ => False
theorem tyV_is {pins : List (Addr × Obj)} {σ : St} {H : Hp} {s : Shared} {T : String} {x : V} {v : Value} (I : Inv X pins σ H s) (r : RelV x v) (ty : tyV X.K T x H) :
    s.TypeIs v T ∧ ∀ a, v = .ref a → ∃ ob, s.heap.get? a = some ob ∧ ob.dict = none := by
  cases x with
  | str z =>
    obtain ⟨t, rfl⟩ := r
    cases (show T = "str" from ty)
    exact ⟨typeIs_str s z t, fun _ e => nomatch e⟩
  | int i =>
    obtain ⟨t, rfl⟩ := r
    cases (show T = "int" from ty)
    exact ⟨typeIs_int s i t, fun _ e => nomatch e⟩
  | ref p =>
    cases r
    rcases ty with ⟨rfl, xs, hq⟩ | ⟨rfl, o, hk, hc, hd⟩ | ⟨rfl, hk⟩ | ⟨rfl, S, n, hk⟩
    · obtain ⟨its, _, pl, _⟩ := I.list hq
      refine ⟨pl.isList.typeIs, fun a e => ?_⟩
      cases e
      obtain ⟨o, n, e, c, hd, _⟩ := pl
      exact ⟨o, e, hd⟩
    · refine ⟨⟨o, I.kIn p o hk, hc⟩, fun a e => ?_⟩
      cases e
      exact ⟨o, I.kIn _ o hk, hd⟩
    · have z : ∃ o, s.heap.get? p = some o ∧ o.ExactDict := by
        rcases hk with ⟨kvs, hk⟩ | ⟨kvs, hk⟩
        · obtain ⟨_, _, _, _, o, _, _, e, ex, _⟩ := I.hok p _ hk
          exact ⟨o, e, ex⟩
        · obtain ⟨_, _, _, _, o, _, _, e, ex, _⟩ := I.hok p _ hk
          exact ⟨o, e, ex⟩
      obtain ⟨o, e, ex⟩ := z
      refine ⟨⟨o, e, ex.1⟩, fun a e2 => ?_⟩
      cases e2
      exact ⟨o, e, ex.2.1⟩
    · obtain ⟨o, _, _, _, e, ex, _⟩ := I.hok p _ hk
      refine ⟨⟨o, e, ex.1⟩, fun a e2 => ?_⟩
      cases e2
      exact ⟨o, e, ex.2.1⟩
  | _ => exact False.elim ty
def tBM (K : PySem.W.Frag) (T : String) (r : V → List V → Hp → VK → Prop) (to : TE) (t : TA) : TE := fun σ H Q => to σ H fun x H1 => tyV K T x H1 ∧ t σ H1 fun xs H2 => r x xs H2 Q
variable {o e : Expr} {es : List Expr} {to : TE} {t : TA} {name : Str} {apos cpos : Pos} {T id : String} {r : V → List V → Hp → VK → Prop}
theorem pe_bm (pa : PlainAttrs T) (slot : Slot T name id) (hty : typeOf (.builtin id) = pure (.type "method_descriptor")) (hm : MtR X id r) (ho : PE X o to) (ha : PA X (e :: es) t)
    (hbase : attributeBase o name X.env (eval o X.env) = eval o X.env := by rfl)
    (hfew : ((backTo cpos (starEach (e :: es) X.env)).all (fun x => !x.1) && (backToKw cpos (keywordEach [] X.env)).all (fun x => x.1.isSome)
      && decide ((e :: es).length + ([] : List Keyword).length + (if ([] : List Keyword).isEmpty then 0 else 1) < 30)) = true := by rfl)
    (hline : (apos.endLine == cpos.line) = true := by rfl) (hs : starEach (e :: es) X.env = (false, eval e X.env) :: starEach es X.env := by rfl) (hplain : (backTo cpos (starEach es X.env)).any (·.1) = false := by rfl) :
    PE X (.Call (.Attribute o name apos) (e :: es) [] cpos) (tBM X.K T r to t) := by
  intro pins s σ H Q I h
  refine wpAny_Call_method_late hbase hfew hline rfl (thn (ho pins s σ H _ I h) fun v s1 ⟨x, H1, I1, r1, ty, q1⟩ => ?_)
  obtain ⟨h1, h2⟩ := tyV_is I1 r1 ty
  refine ⟨T, id, pa, slot, hty, h1, h2, ?_⟩
  have hA := ha cpos pins s1 σ H1 _ I1 q1
  rw [hs] at hA ⊢
  refine Calls.callWith_builtin (by show (false || (backTo cpos (starEach es X.env)).any (·.1)) = false; rw [hplain] <;> rfl) (Calls.evalArgs_plain ?_)
  exact thn hA fun us s2 ⟨vs, H2, I2, r2, q2⟩ => hm pins s2 σ H2 x vs v us Q I2 r1 r2 q2
end
end L2
namespace L2
open PySem PySem.Spec PyProof.Rows
def MtM (X : Cx) (id : String) (r : V → List V → Hp → VK → Prop) : Prop :=
  ∀ (pins : List (Addr × Obj)) (s : Shared) (σ : St) (H : Hp) (x : V) (xs : List V) (v : Value) (us : List Value) (Q : VK), Inv X pins σ H s → RelV x v → Vals xs us → r x xs H Q →
    wpAny (model X.prog X.w) X.A (call (.builtin id) (v :: us)) (EP X pins σ Q) X.xe s
theorem Vals.one : ∀ {x : V} {us : List Value}, Vals [x] us → ∃ u, us = [u] ∧ RelV x u
  | _, _, .cons r .nil => ⟨_, rfl, r⟩
section
variable {X : Cx} {pins : List (Addr × Obj)} {σ : St} {H : Hp} {s : Shared} {l b : Addr} {xs ys zs : List V}
theorem Inv.lset {its its' : List Value} {n : Nat} {f : Array Value → Array Value} {t' : Nat} (I : Inv X pins σ H s) (hH : H l = some (.lst xs))
    (e : s.heap.get? l = some { cls := .type "list", data := .seq its.toArray n }) (hf : f its.toArray = its'.toArray) (hv : Vals ys its') (hz : ys.length ≤ sizeLine) :
    Inv X pins σ (upd H l (.lst ys)) { s with heap := s.heap.update l (Obj.mapSeq f), toks := t' } := by
  have q := PySem.IsL.update e f
  rw [hf] at q
  refine I.write (x := l) (e := l) (by rw [hH]; exact trivial) (.inl rfl) (fun b' u hb hu => (Heap.get?_update_other s.heap (Obj.mapSeq f) (Ne.symm hb)).trans hu) ⟨_, q⟩ ?_
  exact ⟨hz, its', _, hv, q⟩
theorem Inv.lnew {its : List Value} {t' : Nat} (I : Inv X pins σ H s) (hv : Vals ys its) (hz : ys.length ≤ sizeLine) :
    Inv X pins σ (upd H s.heap.objs.size (.lst ys)) { s with heap := s.heap.push { cls := .type "list", data := .seq its.toArray }, toks := t' } :=
  I.laid (fun _ _ q => Heap.get?_push_of_some _ q) (Nat.le_refl _) ⟨hz, its, 0, hv, Heap.get?_push_size _ rfl⟩
theorem Inv.fresh (I : Inv X pins σ H s) : H s.heap.objs.size = none := I.hok.fresh (Nat.le_refl _)
theorem Inv.lstM (I : Inv X pins σ H s) (hH : H l = some (.lst xs)) : xs.length ≤ sizeLine ∧ ∃ (its : List Value) (n : Nat), Vals xs its ∧ xs.length = its.length ∧ s.heap.get? l = some { cls := .type "list", data := .seq its.toArray n } := by
  obtain ⟨z, its, n, r, e⟩ := I.hok l _ hH
  exact ⟨z, its, n, r, r.length, e⟩
theorem notLongL {n : Nat} (h : n ≤ sizeLine) : Builtin.List.listTooLong n = false := by
  unfold Builtin.List.listTooLong
  exact decide_eq_false (by omega)
end
section
variable {X : Cx}
def rAppend : V → List V → Hp → VK → Prop := fun x vs H Q => ∃ l xs y, x = .ref l ∧ vs = [y] ∧ H l = some (.lst xs) ∧ xs.length < sizeLine ∧ Q .non (upd H l (.lst (xs ++ [y])))
theorem mt_append : MtM X "list.append" rAppend := by
  intro pins s σ H x vs v us Q I rx rv h
  obtain ⟨l, xs, y, rfl, rfl, hH, hz, q⟩ := h
  cases rx
  obtain ⟨u, rfl, ru⟩ := rv.one
  obtain ⟨z, its, n, r, hl, e⟩ := I.lstM hH
  refine call_meets F.slot_list_append ⟨_, e, rfl⟩ F.entry_list_append (F.args_list_append_2 _ _) (PySem.list_append l its.toArray n u (by rw [List.size_toArray]; omega)) ⟨e, ?_⟩
  refine ⟨.non, _, I.lset (its' := its ++ [u]) hH e (by simp) (r.append (.cons ru .nil)) ?_, rfl, q⟩
  rw [List.length_append, List.length_singleton]
  omega
def rExtend : V → List V → Hp → VK → Prop := fun x vs H Q => ∃ l b xs zs, x = .ref l ∧ vs = [.ref b] ∧ H l = some (.lst xs) ∧ H b = some (.lst zs) ∧ xs.length + zs.length ≤ sizeLine ∧ Q .non (upd H l (.lst (xs ++ zs)))
theorem mt_extend : MtM X "list.extend" rExtend := by
  intro pins s σ H x vs v us Q I rx rv h
  obtain ⟨l, b, xs, zs, rfl, rfl, hH, hB, hz, q⟩ := h
  cases rx
  obtain ⟨u, rfl, ru⟩ := rv.one
  cases ru
  obtain ⟨z, its, n, r, hl, e⟩ := I.lstM hH
  obtain ⟨z2, its2, n2, r2, hl2, e2⟩ := I.lstM hB
  have hsz : its.toArray.size + its2.toArray.size ≤ sizeLine := by rw [List.size_toArray, List.size_toArray]; omega
  have hlong : ¬ (!its.toArray.isEmpty && Builtin.List.listTooLong (its.toArray.size + its2.toArray.size)) = true := by
    rw [notLongL hsz, Bool.and_false]
    exact Bool.false_ne_true
  refine call_meets F.slot_list_extend ⟨_, e, rfl⟩ F.entry_list_extend (F.args_list_extend_2 _ _)
    (AutoSeq1.list_extend_list_list_0 l its.toArray n b its2.toArray n2 hlong (by rw [List.size_toArray]; omega) (by omega)) ⟨e, e2, ?_⟩
  refine ⟨.non, _, I.lset (its' := its ++ its2) hH e (by simp) (r.append r2) ?_, rfl, q⟩
  rw [List.length_append]
  omega
def rCat : R2 := fun x y H Q => ∃ l b xs zs, x = .ref l ∧ y = .ref b ∧ H l = some (.lst xs) ∧ H b = some (.lst zs) ∧ xs.length + zs.length ≤ sizeLine ∧ ∀ p, H p = none → Q (.ref p) (upd H p (.lst (xs ++ zs)))
theorem op_cat : OpR X (binaryOp .Add) rCat := by
  intro pins s σ H x y v u Q I rx ry h
  obtain ⟨l, b, xs, zs, rfl, rfl, hH, hB, hz, q⟩ := h
  cases rx
  cases ry
  obtain ⟨z, its, n, r, hl, e⟩ := I.lstM hH
  obtain ⟨z2, its2, n2, r2, hl2, e2⟩ := I.lstM hB
  refine PySem.P.add_list e e2 ?_ (by rw [List.size_toArray, List.size_toArray]; omega)
  have ea : its.toArray ++ its2.toArray = (its ++ its2).toArray := by simp
  rw [ea]
  exact ⟨.ref _, _, I.lnew (t' := s.toks) (r.append r2) (by rw [List.length_append]; omega), rfl, q _ I.fresh⟩
end
section
variable {prog : Program} {w : World} {A : Around} {E : Value → Shared → Prop} {s : Shared}
set_option maxRecDepth 100000 in
end
section
variable {X : Cx}
end
end L2
namespace Att
open PySem PySem.W PySem.Calls PyProof.Rows
theorem ints_of_wellAll {P : Params} {h : Heap} : ∀ (ns : List Int) (vs : List Value), WellAll P h vs (ns.map WData.int) → IntsAre vs ns := by
  intro ns
  induction ns with
  | nil =>
    intro vs w
    rw [List.map_nil] at w
    cases w
    exact .nil
  | cons n ns ih =>
    intro vs w
    rw [List.map_cons] at w
    cases w with
    | cons a b =>
      cases a
      exact .cons _ _ (ih _ b)
theorem script_of {l : OpenLaw} {n : Nat} (hn : l.most = some n) {P : Params} {h : Heap} {args : List WData} {vals : List Value}
    (hpre : l.row.toRowW.claim.pre args = true) (hwl : WellAll P h vals args) :
    ∃ a vs ns, vals = [Value.ref a] ∧ args = [WData.list (ns.map WData.int)] ∧ h.get? a = some { cls := .type "list", data := .seq vs.toArray } ∧ IntsAre vs ns ∧ ns.length ≤ n := by
  have hsh : WShape.hasAll [] args [.list .int] = true := (pre_splitW hpre).1
  have hc : l.pre.holds [] { args := args } = true := (pre_splitW hpre).2
  obtain ⟨d, r, rfl, h1, h2⟩ := hasAllW_cons hsh
  obtain rfl := hasAllW_nil h2
  obtain ⟨xs, rfl, h3⟩ := hasW_list h1
  obtain ⟨ns, rfl⟩ := items_int h3
  have hlen : ns.length ≤ n := by
    unfold OpenLaw.pre at hc
    have h4 : (WTm.not (.lt (.lit (.int (n : Int))) (.len (.arg 0)))).holds [] { args := [.list (ns.map .int)] } = true := by
      have h4 := (holds_andW hc).1
      rw [hn] at h4
      exact h4
    have h5 := condW_of h4 (w_not (w_lt w_lit (w_len_list (w_arg rfl))))
    rw [List.length_map] at h5
    refine Nat.le_of_not_lt fun q => ?_
    have q' : (n : Int) < ((ns.length : Nat) : Int) := by omega
    first
      | (rw [decide_eq_true q'] at h5; exact absurd h5 (by decide))
      | (simp at h5; omega)
  cases hwl with
  | cons w1 w2 =>
    cases w2
    cases w1 with
    | list ho hall => exact ⟨_, _, ns, rfl, rfl, ho, ints_of_wellAll ns _ hall, hlen⟩
theorem post_true (l : OpenLaw) (args : List WData) : l.row.toRowW.claim.post args (.bool true) args = true :=
  postW_of (r := l.row.toRowW) (X := (true == true))
    (show WShape.has [] (.bool true) .bool = true by first | rfl | decide | simp [WShape.has, WShape.arms, WShape.armsAll])
    (show (WTm.eq .res (.lit (.bool true))).value [] { args := args, res := some (.bool true), after := args } = some (.bool (true == true)) from w_eq_bool (w_res rfl) w_lit) rfl
section
variable {prog : Program} {w : World} {A : Around} {E : Value → Shared → Prop} {s : Shared} {K : Frag}
end
end Att
namespace L2
open PySem PySem.Spec PyProof.Rows
theorem vals_ints : ∀ {vs : List Value} {ns : List Int}, IntsAre vs ns → Vals (ns.map V.int) vs
  | _, _, .nil => .nil
  | _, _, .cons n t h => .cons ⟨t, rfl⟩ (vals_ints h)
def Only (H : Hp) : Prop := ∀ b, H b = none ∨ ∃ o xs, H b = some (.frz o (.lst xs))
theorem law_call {P : Program} {w : World} {K : PySem.W.Frag} {mg mb : Str → Option Value} {CX : CXT} {k : Nat} {fa a : Addr} {fd : FuncData} {x : Str} {sp : Sp} {s₁ : Shared} {vs : List Value} {ns : List Int}
    (KX : K.In s₁.heap) (hns : s₁.heap.Ns mainGlobals mg) (hb : s₁.heap.Ns builtinsNs mb) (hbb : ∀ x : Str, x ≠ "__name__" → mb x = bootBuiltins x) (hlim : s₁.heap.NoLimit) (hg : s₁.gens = #[])
    (ha : s₁.heap.get? a = some { cls := .type "list", data := .seq vs.toArray }) (hi : IntsAre vs ns) (hl : ns.length ≤ sizeLine) (hr : Room k callerA)
    (F : ∀ base : Heap, K.In base → base.Ns mainGlobals mg → FnOk P w K mg base CX k fa fd [x] sp) (hbind : ∀ (s : Shared) (u : Value), BindsTo s fd ⟨[u], []⟩ [(x, u)])
    (hsp : ∀ H : Hp, Only H → SqL K H a (ns.map V.int) → sp [.ref a] H (fun v _ => v = .bl true) fun _ _ _ => False)
    (hCX : ∀ H e s', CX [] H s₁ (fun _ _ _ => False) e s' → False) :
    codeAny (model P w) callerA (.call (.ref fa) ⟨[.ref a], []⟩) (fun r s' => r = .ok (.ret (.bool true)) ∧ OldK s₁.heap s'.heap ∧ s'.os = s₁.os ∧ AllBare s'.gens) s₁ := by
  have rv := vals_ints hi
  have lenV := hi.length
  -- from an abstract heap in which nothing but the script may be tracked
  have core : ∀ H : Hp, Only H → SqL K H a (ns.map V.int) → HOk P w H s₁.heap → (∀ b, H b ≠ none → b = a) → (H a ≠ none → K.lookup a = none) →
      codeAny (model P w) callerA (.call (.ref fa) ⟨[.ref a], []⟩) (fun r s' => r = .ok (.ret (.bool true)) ∧ OldK s₁.heap s'.heap ∧ s'.os = s₁.os ∧ AllBare s'.gens) s₁ := by
    intro H hO hS hok hA hK
    have base_of : ∀ {b : Addr} {o : Obj}, s₁.heap.get? b = some o → H b = none → (hidT s₁.heap H).get? b = some o := fun e n => hidT_get e n
    have noA : ∀ {b : Addr} {o : Obj} {es : Array DictEntry} {ep : Nat}, s₁.heap.get? b = some o → o.data = .dict es ep → H b = none := fun {b o es ep} e d => by
      cases q : H b with
      | none => rfl
      | some u =>
        have e' : b = a := hA b (by rw [q]; simp)
        subst e'
        rw [ha] at e; cases e
        have d' : Data.seq vs.toArray _ = Data.dict es ep := d
        cases d'
    have nsK : ∀ {b : Addr} {m : Str → Option Value}, s₁.heap.Ns b m → (hidT s₁.heap H).Ns b m := fun {b m} ⟨o, es, ep, e, d, r⟩ => ⟨o, es, ep, base_of e (noA e d), d, r⟩
    have hKb : K.In (hidT s₁.heap H) := fun b o e => base_of (KX b o e) (by
      cases q : H b with
      | none => rfl
      | some u =>
        have e' : b = a := hA b (by rw [q]; simp)
        subst e'
        rw [hK (by rw [q]; simp)] at e; cases e)
    have hM : Mod K mg (hidT s₁.heap H) := ⟨hKb, nsK hns, ⟨mb, nsK hb, hbb⟩, let ⟨mc, h1, h2⟩ := hlim; ⟨mc, nsK h1, h2⟩⟩
    have e0 : Env0 P w K mg (hidT s₁.heap H) callerA [] s₁ H := ⟨rfl, hM, fun b o e => of_hidT e, Nat.le_of_eq (hidT_size _ _), trivial, fun b hb => absurd (show b ∈ ([] : List Addr) from hb) (by simp), hok, .of_eq hg⟩
    refine codeAny_mono ((F _ hKb (nsK hns)).run callerA [] s₁ H ⟨[.ref a], []⟩ [.ref a] [.ref a] _ _ hr e0 (hbind s₁ (.ref a)) (.cons rfl .nil) (hsp H hO hS)) fun r s' h => ?_
    cases r with
    | error e => exact (hCX H e s' h).elim
    | ok fl =>
      cases fl with
      | next => exact False.elim h
      | brk => exact False.elim h
      | cont => exact False.elim h
      | ret u =>
        obtain ⟨v, H', os, bare, un, hok', r', q⟩ := h
        have q' : v = .bl true := q
        subst q'
        obtain rfl : u = Value.bool true := r'
        refine ⟨rfl, OldK.of_keep fun b o e => ?_, os, bare⟩
        cases q : H b with
        | none => exact un.keep b o e q (by intro z; exact absurd (show b ∈ ([] : List Addr) from z) (by simp)) (by simp)
        | some u =>
          rcases hO b with z | ⟨ob, xs, z⟩
          · rw [q] at z; cases z
          · have z2 := un.frzs b ob _ z
            obtain ⟨e1, _⟩ := hok b _ z
            obtain ⟨e2, _⟩ := hok' b _ z2
            rw [e] at e1; cases e1
            exact e2
  cases hk : K.lookup a with
  | some o =>
    -- the script is one of the module's own objects
    have e := KX a o hk
    rw [ha] at e
    cases e
    refine core (fun _ => none) (fun _ => .inl rfl) (.inr ⟨_, vs.toArray, _, hk, rfl, rfl, rfl, by rw [List.size_toArray, lenV]; exact hl, by simpa using rv⟩) (fun b u z => by have z' : (none : Option HO) = some u := z; cases z') (fun b z => absurd rfl z) fun z => absurd rfl z
  | none =>
    refine core (fun b => if b = a then some (.frz { cls := .type "list", data := .seq vs.toArray } (.lst (ns.map V.int))) else none) (fun b => ?_) (.inl (.inr ⟨{ cls := .type "list", data := .seq vs.toArray }, if_pos rfl⟩)) (fun b u z => ?_) (fun b z => ?_) fun _ => hk
    · by_cases hb : b = a
      · exact .inr ⟨_, _, if_pos hb⟩
      · exact .inl (if_neg hb)
    · by_cases hb : b = a
      · have z' := (if_pos hb).symm.trans z
        cases z'
        subst hb
        exact ⟨ha, by rw [List.length_map]; exact hl, vs, _, rv, ha⟩
      · have z' := (if_neg hb).symm.trans z
        cases z'
    · by_cases hb : b = a
      · exact hb
      · exact absurd (if_neg hb) z
end L2
namespace L2
open PySem PySem.Spec PyProof.Rows
end L2
namespace L2
open PySem PySem.Spec PyProof.Rows
def inClass (s : Stmt) (j : Nat) : Stmt := match s with
  | .ClassDef _ _ _ body _ _ _ _ _ _ _ => body.getD j (.Pass ⟨0, 0, 0, 0⟩)
  | _ => .Pass ⟨0, 0, 0, 0⟩
def defArgs (s : Stmt) : Arguments := match s with
  | .FunctionDef _ a _ _ _ _ _ _ _ _ => a
  | _ => { posonlyargs := [], args := [], vararg := none, kwonlyargs := [], kw_defaults := [], kwarg := none, defaults := [] }
def defBody (s : Stmt) : List Stmt := match s with
  | .FunctionDef _ _ b _ _ _ _ _ _ _ => b
  | _ => []
def defScope (s : Stmt) : Scope := match s with
  | .FunctionDef _ _ _ _ _ _ sc _ _ _ => sc
  | _ => { kind := .function, names := [], isGenerator := false, isCoroutine := false }
abbrev CX0 : CXT := fun _ _ _ _ _ _ => False
abbrev E0 : XK := fun _ _ _ => False
theorem pass0 {X : Cx} : Passes CX0 X E0 := fun _ _ _ _ _ _ _ h => h.elim
structure Fun (K : PySem.W.Frag) (x qual : Str) (st : Stmt) (f : Addr) (fd : FuncData) : Prop where
  ex : ∃ (oc : Value) (od : Option Addr) (kV doc pm : Value) (an : Option Addr) (cdv ct : Value) (osl : Array (Option Value)),
    fd = PySem.W.fnOf x qual (defArgs st) (defBody st) (defScope st) .none kV doc pm an cdv ct ∧ K.lookup f = some ⟨oc, od, .func fd, osl⟩ ∧ PySem.W.codeIn K cdv qual = true
  kp : PySem.W.keepIn K (.ref f) = true
section
variable {P : Program} {w : World} {K : PySem.W.Frag} {mg : Str → Option Value} {base : Heap}
theorem Fun.ok {x qual : Str} {st : Stmt} {f : Addr} {fd : FuncData} {N ps : List Str} {k : Nat} {sp : Sp} (F : Fun K x qual st f fd) (S : FnScope N ps (defScope st)) (len : ∀ vs H Q E, sp vs H Q E → vs.length = ps.length)
    (hbody : ∀ (cdv : Value) (A : Around) (outer : List Env) (s : Shared) (H : Hp) (vs : List V) (Q : VK) (E : XK), Room k (A.deeper (envOfC qual (defScope st) s.heap.objs.size f cdv)) → sp vs H Q E →
      ∃ t, PSs (cxOf CX0 P w K mg base N qual (defScope st) f cdv A outer s H E).nox (defBody st) t ∧ t { nx := fun _ H' => Q .non H', rt := Q } (start N vs) H) : FnOk P w K mg base CX0 (k + 1) f fd ps sp := by
  obtain ⟨oc, od, kV, doc, pm, an, cdv, ct, osl, rfl, lk, hcd⟩ := F.ex
  refine fn_of lk hcd S len fun A outer s H vs Q E hr hsp => ?_
  obtain ⟨t, h, q⟩ := hbody cdv A outer s H vs Q E hr hsp
  exact ⟨t, h.nox, q⟩
theorem Fun.binds {x qual : Str} {st : Stmt} {f : Addr} {fd : FuncData} {ps : List Str} (F : Fun K x qual st f fd)
    (h : ∀ (kV doc pm : Value) (an : Option Addr) (cdv ct : Value) (us : List Value), us.length = ps.length → bindArgs (PySem.W.fnOf x qual (defArgs st) (defBody st) (defScope st) .none kV doc pm an cdv ct) ⟨us, []⟩ = pure (ps.zip us)) : Binds K fd ps [] := by
  obtain ⟨oc, od, kV, doc, pm, an, cdv, ct, osl, rfl, lk, hcd⟩ := F.ex
  exact .all (h kV doc pm an cdv ct)
theorem fun_mk {x qual : Str} {st : Stmt} {f : Addr} {oc : Value} {od an : Option Addr} {osl : Array (Option Value)} {kV doc pm cdv ct : Value} (l : K.lookup f = some ⟨oc, od, .func (PySem.W.fnOf x qual (defArgs st) (defBody st) (defScope st) .none kV doc pm an cdv ct), osl⟩)
    (c : PySem.W.codeIn K cdv qual = true) (k : PySem.W.keepIn K (.ref f) = true) : Fun K x qual st f (PySem.W.fnOf x qual (defArgs st) (defBody st) (defScope st) .none kV doc pm an cdv ct) := ⟨⟨oc, od, kV, doc, pm, an, cdv, ct, osl, rfl, l, c⟩, k⟩
end
theorem hu_of {A : Around} {k : Nat} (hr : Room k A) : A.units + 1 < cLine := Nat.lt_of_le_of_lt (Nat.add_le_add_left (by decide : 1 ≤ 64) _) hr.units
section
variable {X : Cx}
theorem pv (i : Nat) {x : Str} {pos : Pos} (hN : X.N[i]? = some x := by rfl) (hv : Vis X.env.scope x := by first | exact Or.inl rfl | exact Or.inr (Or.inl rfl) | exact Or.inr (Or.inr rfl)) (hd : (x == ("__debug__" : Str)) = false := by decide)
    (hcd : (x == ("__classdict__" : Str)) = false := by decide) : PE X (.Name x pos) (tVar i) := pe_var hN hv hd hcd
end
theorem iteF {A B : Prop} (h : B) : if false = true then A else B := by
  rw [if_neg Bool.false_ne_true]
  exact h
theorem iteT {A B : Prop} (h : A) : if true = true then A else B := by
  rw [if_pos rfl]
  exact h
theorem ite2 {c A B : Prop} [Decidable c] (h1 : c → A) (h2 : ¬ c → B) : if c then A else B := by
  by_cases h : c
  · rw [if_pos h]
    exact h1 h
  · rw [if_neg h]
    exact h2 h
def Same (H H' : Hp) : Prop := ∀ b o, H b = some o → H' b = some o
theorem Same.refl (H : Hp) : Same H H := fun _ _ h => h
theorem Same.trans {H H1 H2 : Hp} (a : Same H H1) (b : Same H1 H2) : Same H H2 := fun c o h => b c o (a c o h)
theorem Same.seq {K : PySem.W.Frag} {H H' : Hp} {a : Addr} {xs : List V} (e : Same H H') (h : SqL K H a xs) : SqL K H' a xs := by
  rcases h with (h | ⟨o, h⟩) | h
  · exact .inl (.inl (e _ _ h))
  · exact .inl (.inr ⟨o, e _ _ h⟩)
  · exact .inr h
end L2
set_option Elab.async false
set_option linter.all false
set_option maxRecDepth 100000
namespace L2
open PySem PySem.Spec PyProof.Rows
section
variable {X : Cx}
theorem op_mulO : OpR X (binaryOp .Mult) (rI IntMulOk fun i j => .int (i * j)) := opI fun _ _ _ _ _ _ _ hc q => mul_int q hc
theorem mulOk_abs {i j : Int} (m n : Nat) (hi : i.natAbs < 2 ^ m) (hj : j.natAbs < 2 ^ n) (h : m + n ≤ 134217728) : IntMulOk i j :=
  IntMulOk.of_le (intBits_le_iff.mpr hi) (intBits_le_iff.mpr hj) h
def clsV : V → Value
  | .ty n => .type n
  | .ref a => .ref a
  | _ => .none
def isC : V → Bool
  | .ty _ => true
  | .ref _ => true
  | _ => false
theorem clsV_of {c : V} {u : Value} (h : isC c = true) (r : RelV c u) : u = clsV c := by
  cases c with
  | ty n => exact r
  | ref a => exact r
  | _ => cases h
def rIsi (K : PySem.W.Frag) : List V → Hp → VK → Prop := fun xs H Q => ∃ x c t b, xs = [x, c] ∧ isC c = true ∧ TyOf K H x t ∧ PySem.W.kitOne K t (clsV c) = some b ∧ Q (.bl b) H
theorem call_isi : CallR X (.builtin "isinstance") (rIsi X.K) := by
  intro pins s σ H xs us Q I r h
  obtain ⟨x, c, t, b, rfl, hc, ty, e, q⟩ := h
  obtain ⟨v, u, rfl, r1, r2⟩ := vals2 r
  rw [clsV_of hc r2]
  exact isinst_ok I r1 ty e fun tk => ⟨.bl b, H, I.tok _, rfl, q⟩
structure MkN (K : PySem.W.Frag) (C : Addr) : Prop where
  makes : PySem.W.makesIn K C = true
  init : PySem.W.findIn K (.ref C) "__init__" = some (some (.builtin "object.__init__"))
  kp : PySem.W.keepIn K (.ref C) = true
theorem make_n {prog : Program} {w : World} {A : Around} {s : Shared} {K : PySem.W.Frag} {C : Addr} {R : Result → Shared → Prop} (X : K.In s.heap) (hm : PySem.W.makesIn K C = true)
    (hi : PySem.W.findIn K (.ref C) "__init__" = some (some (.builtin "object.__init__")))
    (h : R (.ok (.ret (.ref (s.heap.objs.size + 1)))) { s with heap := (s.heap.push PySem.W.emptyDict).push (PySem.W.instObj C s.heap.objs.size) }) :
    codeAny (model prog w) A (.call (.ref C) ⟨[], []⟩) R s := by
  obtain ⟨hh, g, d, t, os⟩ := s
  have Y := PySem.W.makes_of (M := model prog w) X hm
  refine PySem.W.make_core Y (PySem.W.looks_findIn X hi) (fun self => PySem.W.Looks.of_pure (PySem.W.oi_bind self)) (.inr ⟨rfl, rfl⟩) ?_
  have e2 : ((hh.push PySem.W.emptyDict).push (PySem.W.instObj C hh.objs.size)).get? (hh.objs.size + 1) = some (PySem.W.instObj C hh.objs.size) := by
    have := Heap.get?_push_size (hh.push PySem.W.emptyDict) (o := PySem.W.instObj C hh.objs.size) rfl
    rwa [Heap.size_push] at this
  have t1 : PySem.W.Looks (model prog w) ((hh.push PySem.W.emptyDict).push (PySem.W.instObj C hh.objs.size)) (typeOf (.ref (hh.objs.size + 1))) (.ref C) := (PySem.W.Looks.ld e2).andThen .now
  have t2 : PySem.W.Looks (model prog w) ((hh.push PySem.W.emptyDict).push (PySem.W.instObj C hh.objs.size)) (isInstance (.ref (hh.objs.size + 1)) (.type "object")) true := t1.andThen (Y.top.keeps fun b o e => Heap.get?_push_of_some _ (Heap.get?_push_of_some _ e))
  refine codeAny_call_builtin PySem.W.oi_plain PySem.W.entry_oi (@PySem.W.check_slot (model prog w) _ _ _ "object.__init__" "object" "__init__" (.ref (hh.objs.size + 1)) [] [] _ PySem.W.oi_kind PySem.W.oi_split t2 (PySem.W.oi_args (.ref (hh.objs.size + 1))) ?_)
  rw [PySem.W.oi_run]
  exact wpAny_pure (And.intro rfl h)
def tMakeN (C : Addr) : TE := fun _ H Q => ∀ x dx, H x = none → H dx = none → dx ≠ x → Q (.ref x) (upd (upd H dx (.own x)) x (.ins C dx []))
theorem pe_makeN {C : Addr} {x : Str} {p pos : Pos} (M : MkN X.K C) (hg : Gl X x) (hm : X.mg x = some (.ref C)) (hdb : (x == ("__debug__" : Str)) = false := by decide) : PE X (.Call (.Name x p) [] [] pos) (tMakeN C) := by
  intro pins s σ H Q I h
  refine wpAny_Call_Name_kw (ld_glob I hg hm ?_ hdb)
  refine PySem.W.callWith_K0 I.kIn M.kp (wpAny_call (make_n I.kIn M.makes M.init ?_))
  exact ⟨.ref (s.heap.objs.size + 1), _, Inv.made (C := C) I, rfl, h _ _ (I.hok.fresh (Nat.le_succ _)) (I.hok.fresh (Nat.le_refl _)) (Nat.ne_of_lt (Nat.lt_succ_self _))⟩
structure MethI {ι : Type} (P : Program) (w : World) (K : PySem.W.Frag) (mg : Str → Option Value) (base : Heap) (k : Nat) (m : Str) (ps : List Str) (C : ι → Addr) (sp : ι → Sp) : Prop where
  ex : ∀ i, Cls K (C i) ∧ ∃ f fd, Meth K (C i) m f ∧ FnOk P w K mg base CX0 k f fd ps (sp i) ∧ Binds K fd ps []
def tMethI {ι : Type} (m : Str) (C : ι → Addr) (sp : ι → Sp) (ta : TE) (t : TA) : TE := fun σ H Q => ta σ H fun x H1 => ∃ i a dx fs, x = .ref a ∧ H1 a = some (.ins (C i) dx fs) ∧ fs.lookup m = none ∧
  t σ H1 fun vs H2 => sp i (x :: (vs ++ [])) H2 Q E0
theorem pe_methI {ι : Type} {C : ι → Addr} {sp : ι → Sp} {k : Nat} {m : Str} {ps : List Str} {o e : Expr} {es : List Expr} {ta : TE} {t : TA} {apos pos : Pos} {pl : Sem Bool} (M : MethI X.prog X.w X.K X.mg X.base k m ps C sp) (he : PE X o ta) (hr : Room k X.A) (ha : PA X (e :: es) t)
    (hst : starEach (e :: es) X.env = (false, eval e X.env) :: starEach es X.env := by rfl) (hpl : (backTo pos (starEach es X.env)).any (·.1) = false := by rfl)
    (ht : eval (.Call (.Attribute o m apos) (e :: es) [] pos) X.env = (do
      let ov ← eval o X.env
      standAt apos.atName
      let (f, first) ← holding [ov] (getMethod ov m pl)
      callWith pos f first (backTo pos (starEach (e :: es) X.env)) (backToKw pos (keywordEach [] X.env))) := by rfl) :
    PE X (.Call (.Attribute o m apos) (e :: es) [] pos) (tMethI m C sp ta t) := by
  intro pins s σ H Q I h
  refine PySem.W.methodCall_KW (pl := pl) (thn (he pins s σ H _ I h) fun u s1 ⟨x, H1, I1, rx, i, a, dx, fs, ex, ea, l, q⟩ => ?_) ht
  subst ex
  obtain rfl : u = Value.ref a := rx
  obtain ⟨c, f, fd, hm, F, hb⟩ := M.ex i
  refine getmeth_ok I1 ea c hm l ?_
  refine PySem.W.callWith_K (first := [.ref a]) (h₀ := X.base) I.ok.mod.kin hm.kp (thn (ha pos pins s1 σ H1 _ I1 q) fun us s2 ⟨vs, H2, I2, r, q2⟩ => ⟨I2.kIn, ?_⟩) hst hpl
  exact run_fn (us := .ref a :: us) (vs := .ref a :: vs) F hr hb .nil pass0 I2 (.cons rfl r) q2
theorem pe_methI0 {ι : Type} {C : ι → Addr} {sp : ι → Sp} {k : Nat} {m : Str} {ps : List Str} {o : Expr} {ta : TE} {apos pos : Pos} {pl : Sem Bool} (M : MethI X.prog X.w X.K X.mg X.base k m ps C sp) (he : PE X o ta) (hr : Room k X.A)
    (ht : eval (.Call (.Attribute o m apos) [] [] pos) X.env = (do
      let ov ← eval o X.env
      standAt apos.atName
      let (f, first) ← holding [ov] (getMethod ov m pl)
      callWith pos f first (backTo pos (starEach [] X.env)) (backToKw pos (keywordEach [] X.env))) := by rfl) :
    PE X (.Call (.Attribute o m apos) [] [] pos) (tMethI m C sp ta tNil) := by
  intro pins s σ H Q I h
  refine PySem.W.methodCall_KW (pl := pl) (thn (he pins s σ H _ I h) fun u s1 ⟨x, H1, I1, rx, i, a, dx, fs, ex, ea, l, q⟩ => ?_) ht
  subst ex
  obtain rfl : u = Value.ref a := rx
  obtain ⟨c, f, fd, hm, F, hb⟩ := M.ex i
  refine getmeth_ok I1 ea c hm l ?_
  exact PySem.W.callWith_K0 (first := [.ref a]) I1.kIn hm.kp (run_fn (us := [.ref a]) (vs := [.ref a]) F hr hb .nil pass0 I1 (.cons rfl .nil) q)
structure Df (P : Program) (w : World) (K : PySem.W.Frag) (mg : Str → Option Value) (base : Heap) (k : Nat) (x : Str) (ps : List Str) (sp : Sp) : Prop where
  ex : ∃ f fd, mg x = some (.ref f) ∧ PySem.W.keepIn K (.ref f) = true ∧ Binds K fd ps [] ∧ FnOk P w K mg base CX0 k f fd ps sp
theorem pe_callD {k : Nat} {x : Str} {ps : List Str} {sp : Sp} {e : Expr} {es : List Expr} {t : TA} {p pos : Pos} (D : Df X.prog X.w X.K X.mg X.base k x ps sp) (hr : Room k X.A) (hg : Gl X x) (ha : PA X (e :: es) t)
    (hdb : (x == ("__debug__" : Str)) = false := by decide) (he : starEach (e :: es) X.env = (false, eval e X.env) :: starEach es X.env := by rfl) (hpl : (backTo pos (starEach es X.env)).any (·.1) = false := by rfl) :
    PE X (.Call (.Name x p) (e :: es) [] pos) (tCall sp [] E0 t) := by
  obtain ⟨f, fd, hm, hk, hb, F⟩ := D.ex
  exact pe_call F hr hg hm hk hb .nil pass0 ha hdb he hpl
end
structure HasF (K : PySem.W.Frag) (x : Str) (st : Stmt) : Prop where
  ex : ∃ (f : Addr) (fd : FuncData), PySem.W.nsIn K mainGlobals x = some (some (.ref f)) ∧ Fun K x x st f fd
theorem hasF_mk {K : PySem.W.Frag} {x : Str} {st : Stmt} {f : Addr} {oc : Value} {od an : Option Addr} {osl : Array (Option Value)} {kV doc pm cdv ct : Value} (a : PySem.W.nsIn K mainGlobals x = some (some (.ref f)))
    (l : K.lookup f = some ⟨oc, od, .func (PySem.W.fnOf x x (defArgs st) (defBody st) (defScope st) .none kV doc pm an cdv ct), osl⟩)
    (c : PySem.W.codeIn K cdv x = true) (k : PySem.W.keepIn K (.ref f) = true) : HasF K x st := ⟨f, _, a, fun_mk l c k⟩
structure HasC (K : PySem.W.Frag) (x : Str) (C : Addr) : Prop where
  ns : PySem.W.nsIn K mainGlobals x = some (some (.ref C))
  cl : Cls K C
  mkn : MkN K C
theorem hasC_mk {K : PySem.W.Frag} {x : Str} {C : Addr} (a : PySem.W.nsIn K mainGlobals x = some (some (.ref C))) (pg : PySem.W.plainGet K C Str.empty = true) (hd : PySem.W.hasDictIn K C = true) (po : PySem.W.plainOver K C = true)
    (sa : PySem.W.findIn K (.ref C) "__setattr__" = some (some (.builtin "object.__setattr__"))) (mk : PySem.W.makesIn K C = true) (i : PySem.W.findIn K (.ref C) "__init__" = some (some (.builtin "object.__init__"))) (kc : PySem.W.keepIn K (.ref C) = true) : HasC K x C :=
  ⟨a, ⟨pg, hd, po, sa⟩, ⟨mk, i, kc⟩⟩
structure HasM (K : PySem.W.Frag) (C : Addr) (m qual : Str) (st : Stmt) : Prop where
  ex : ∃ (f : Addr) (fd : FuncData), Meth K C m f ∧ Fun K m qual st f fd
theorem hasM_mk {K : PySem.W.Frag} {C : Addr} {m qual : Str} {st : Stmt} {f : Addr} {oc : Value} {od an : Option Addr} {osl : Array (Option Value)} {kV doc pm cdv ct : Value} (a : PySem.W.findIn K (.ref C) m = some (some (.ref f))) (i : PySem.W.isFn K (.ref f) = true)
    (l : K.lookup f = some ⟨oc, od, .func (PySem.W.fnOf m qual (defArgs st) (defBody st) (defScope st) .none kV doc pm an cdv ct), osl⟩)
    (c : PySem.W.codeIn K cdv qual = true) (k : PySem.W.keepIn K (.ref f) = true) : HasM K C m qual st := ⟨f, _, ⟨a, i, k⟩, fun_mk l c k⟩
theorem HasF.df {P : Program} {w : World} {K : PySem.W.Frag} {mg : Str → Option Value} {base : Heap} {k : Nat} {x : Str} {st : Stmt} {N ps : List Str} {sp : Sp} (F : HasF K x st) (Kb : K.In base) (G : base.Ns mainGlobals mg) (S : FnScope N ps (defScope st))
    (hbi : ∀ (kV doc pm : Value) (an : Option Addr) (cdv ct : Value) (us : List Value), us.length = ps.length → bindArgs (PySem.W.fnOf x x (defArgs st) (defBody st) (defScope st) .none kV doc pm an cdv ct) ⟨us, []⟩ = pure (ps.zip us))
    (len : ∀ vs H Q E, sp vs H Q E → vs.length = ps.length)
    (hbody : ∀ (f : Addr) (cdv : Value) (A : Around) (outer : List Env) (s : Shared) (H : Hp) (vs : List V) (Q : VK) (E : XK), Room k (A.deeper (envOfC x (defScope st) s.heap.objs.size f cdv)) → sp vs H Q E →
      ∃ t, PSs (cxOf CX0 P w K mg base N x (defScope st) f cdv A outer s H E).nox (defBody st) t ∧ t { nx := fun _ H' => Q .non H', rt := Q } (start N vs) H) : Df P w K mg base (k + 1) x ps sp := by
  obtain ⟨f, fd, a, F⟩ := F.ex
  exact ⟨f, fd, PySem.W.mg_of Kb G a, F.kp, F.binds hbi, F.ok S len (hbody f)⟩
theorem HasM.fn {P : Program} {w : World} {K : PySem.W.Frag} {mg : Str → Option Value} {base : Heap} {k : Nat} {C : Addr} {m qual : Str} {st : Stmt} {N ps : List Str} {sp : Sp} (F : HasM K C m qual st) (S : FnScope N ps (defScope st))
    (hbi : ∀ (kV doc pm : Value) (an : Option Addr) (cdv ct : Value) (us : List Value), us.length = ps.length → bindArgs (PySem.W.fnOf m qual (defArgs st) (defBody st) (defScope st) .none kV doc pm an cdv ct) ⟨us, []⟩ = pure (ps.zip us))
    (len : ∀ vs H Q E, sp vs H Q E → vs.length = ps.length)
    (hbody : ∀ (f : Addr) (cdv : Value) (A : Around) (outer : List Env) (s : Shared) (H : Hp) (vs : List V) (Q : VK) (E : XK), Room k (A.deeper (envOfC qual (defScope st) s.heap.objs.size f cdv)) → sp vs H Q E →
      ∃ t, PSs (cxOf CX0 P w K mg base N qual (defScope st) f cdv A outer s H E).nox (defBody st) t ∧ t { nx := fun _ H' => Q .non H', rt := Q } (start N vs) H) :
    ∃ f fd, Meth K C m f ∧ FnOk P w K mg base CX0 (k + 1) f fd ps sp ∧ Binds K fd ps [] := by
  obtain ⟨f, fd, a, F⟩ := F.ex
  exact ⟨f, fd, a, F.ok S len (hbody f), F.binds hbi⟩
theorem walk_bits {l : PySem.W.OpenLaw} {n k : Nat} {q : Program} {loose : List Str} {XP : (Str → Option Value) → Heap → Prop} {YP : World → Heap → Prop} {d : DefRec} {K : Params → PySem.W.Frag} {CX : World → CXT} {sp : World → List Int → Sp} {x : Str}
    (hn : l.most = some n) (hn2 : n ≤ sizeLine) (hdf : d.params.defaults = []) (hr : Room k callerA)
    (hY : ∀ (w : World) (h : Heap), YP w h → (K w.params).In h)
    (F : ∀ (w : World) (mg : Str → Option Value) (fa : Addr) (h : Heap), (K w.params).In h → h.Ns mainGlobals mg → mg d.name = some (.ref fa) →
      ∃ fd : FuncData, (∀ (s : Shared) (u : Value), BindsTo s fd ⟨[u], []⟩ [(x, u)]) ∧
        ∀ (base : Heap) (ns : List Int), (K w.params).In base → base.Ns mainGlobals mg → ns.length ≤ n → (∀ i ∈ ns, Builtin.Int.intBits i ≤ 1048576) → FnOk l.prog w (K w.params) mg base (CX w) k fa fd [x] (sp w ns))
    (hsp : ∀ (w : World) (H : Hp) (a : Addr) (ns : List Int), ns.length ≤ n → (∀ i ∈ ns, Builtin.Int.intBits i ≤ 1048576) → Only H → SqL (K w.params) H a (ns.map V.int) → sp w ns [.ref a] H (fun v _ => v = .bl true) fun _ _ _ => False)
    (hCX : ∀ (w : World) (H : Hp) (s : Shared) (e : Value) (s' : Shared), CX w [] H s (fun _ _ _ => False) e s' → False) :
    PySem.W.WalkO q loose XP YP l.row.toRowW d [] (fun f vs => PySem.call f vs) := by
  intro w s₀ s₁ mg mb G Y fa o pm cd doc dV kV ho hd hcd hD hmg hg args vals as hpre hlay hrd hwl hlo
  obtain rfl : dV = .none := PySem.W.Dflts.none hD hdf
  obtain rfl : kV = .none := PySem.W.Dflts.noKw hD
  obtain ⟨a, vs, ns, rfl, rfl, hobj, hints, hlen⟩ := Att.script_of hn hpre hwl
  have hbits : ∀ i ∈ ns, Builtin.Int.intBits i ≤ 1048576 := fun i hi => by
    have h1 := PySem.W.layableW_arg hlay _ (List.mem_singleton.mpr rfl)
    have h2 := PySem.W.layableW_item h1 (.int i) (List.mem_map.mpr ⟨i, hi, rfl⟩)
    have h3 : PyData.layableAll0 [.int i] = true := PySem.W.lay0_int h2
    have h4 : PyData.layable0 (.int i) = true := PySem.W.layable0_of_all h3
    exact intBits_le_of_layable h4
  have KX := hY w _ Y
  obtain ⟨fd, hb, hF⟩ := F w mg fa _ KX G.T.g hmg
  refine PySem.W.enter_call (codeAny_mono (law_call KX G.T.g G.T.b G.T.builtins G.T.nolimit hg hobj hints (Nat.le_trans hlen hn2) hr (fun base kb nb => hF base ns kb nb hlen hbits) hb (fun H hO hS => hsp w H a ns hlen hbits hO hS) fun H e s' => hCX w H s₁ e s') fun r s' hq => ?_)
  obtain ⟨rfl, h2, h3, h4⟩ := hq
  exact ⟨.inl ⟨.bool true, .bool true, [], rfl, fun _ => rfl, .bool true, Att.post_true l _, fun _ => ⟨List.Pairwise.nil, fun _ hm => (nomatch hm)⟩⟩, h2, h3, h4⟩
end L2
namespace L2
open PySem PySem.Spec PyProof.Rows
section
variable {σ : St} {H : Hp} {Q : VK} {D : Ends} {ta tb : TE} {v : V} {i j : Int}
theorem i_C (q : Q v H) : tC v σ H Q := q
theorem i_op {r : R2} (q : ta σ H fun x H1 => tb σ H1 fun y H2 => r x y H2 Q) : tOp r ta tb σ H Q := q
theorem i_un {r : V → Hp → VK → Prop} (q : ta σ H fun x H1 => r x H1 Q) : tUn r ta σ H Q := q
theorem i_I0 {g : Int → Int → V} (q : Q (g i j) H) : rI0 g (.int i) (.int j) H Q := ⟨i, j, rfl, rfl, q⟩
theorem i_mod {g : Int → Int → V} (c : 0 < j) (q : Q (g i j) H) : rI (fun _ j => 0 < j) g (.int i) (.int j) H Q := ⟨i, j, rfl, rfl, c, q⟩
theorem i_div {g : Int → Int → V} (c : 0 < j ∧ j < 1073741824) (q : Q (g i j) H) : rI CDiv g (.int i) (.int j) H Q := ⟨i, j, rfl, rfl, c, q⟩
theorem i_pow {g : Int → Int → V} (c : 0 ≤ j ∧ j ≤ 1000000 ∧ i.natAbs < 2 ^ 64) (q : Q (g i j) H) : rI CPow g (.int i) (.int j) H Q := ⟨i, j, rfl, rfl, c, q⟩
theorem i_mul {g : Int → Int → V} (c : IntMulOk i j) (q : Q (g i j) H) : rI IntMulOk g (.int i) (.int j) H Q := ⟨i, j, rfl, rfl, c, q⟩
theorem i_U {g : Int → V} (q : Q (g i) H) : rU g (.int i) H Q := ⟨i, rfl, q⟩
theorem i_test {t : TE} {Q : Bool → Hp → Prop} (q : t σ H fun x H' => ∃ k, x = .bl k ∧ Q k H') : tTest t σ H Q := q
theorem i_B {t : TE} {Q : Bool → Hp → Prop} (q : t σ H fun x H' => ∃ k, x = .bl k ∧ Q k H') : tB t σ H Q := q
theorem i_bl {b : Bool} {P : Bool → Prop} (q : P b) : ∃ k, V.bl b = V.bl k ∧ P k := ⟨b, rfl, q⟩
theorem i_and {t u : TT} {Q : Bool → Hp → Prop} (q : t σ H fun c H1 => if c = true then u σ H1 Q else Q false H1) : tAnd t u σ H Q := q
theorem i_or {t u : TT} {Q : Bool → Hp → Prop} (q : t σ H fun c H1 => if c = true then Q true H1 else u σ H1 Q) : tOr t u σ H Q := q
theorem i_not {t : TT} {Q : Bool → Hp → Prop} (q : t σ H fun c H1 => Q (!c) H1) : tNot t σ H Q := q
theorem i_andV (q : ta σ H fun x H1 => ∃ c, x = .bl c ∧ if c = true then tb σ H1 Q else Q (.bl false) H1) : tAndV ta tb σ H Q := q
theorem i_orV (q : ta σ H fun x H1 => ∃ c, x = .bl c ∧ if c = true then Q (.bl true) H1 else tb σ H1 Q) : tOrV ta tb σ H Q := q
theorem i_ifS {c : TT} {t u : TS} (q : c σ H fun b H1 => if b = true then t D σ H1 else u D σ H1) : tIfS c t u D σ H := q
theorem i_if {c : TT} (q : c σ H fun b H1 => if b = true then ta σ H1 Q else tb σ H1 Q) : tIf c ta tb σ H Q := q
theorem i_seq {t u : TS} (q : t { D with nx := u D } σ H) : tSeq t u D σ H := q
theorem i_ret (q : ta σ H D.rt) : tRet ta D σ H := q
theorem i_next (q : D.nx σ H) : tNext D σ H := q
theorem i_asg {g : TG} (q : ta σ H fun x H1 => g x σ H1 D.nx) : tAsg ta g D σ H := q
theorem i_name {n : Nat} {Q : St → Hp → Prop} (q : Q (σ.set n (some v)) H) : gName n v σ H Q := q
theorem i_drop (q : ta σ H fun _ H1 => D.nx σ H1) : tDrop ta D σ H := q
theorem i_call {sp : Sp} {dvs : List V} {E : XK} {t : TA} (q : t σ H fun vs H1 => sp (vs ++ dvs) H1 Q E) : tCall sp dvs E t σ H Q := q
theorem i_CB {r : List V → Hp → VK → Prop} {t : TA} (q : t σ H fun vs H1 => r vs H1 Q) : tCB r t σ H Q := q
theorem i_nil {Q : List V → Hp → Prop} (q : Q [] H) : tNil σ H Q := q
theorem i_cons {t : TA} {Q : List V → Hp → Prop} (q : ta σ H fun x H1 => t σ H1 fun xs H2 => Q (x :: xs) H2) : tCons ta t σ H Q := q
theorem i_ixL {K : PySem.W.Frag} {p : Addr} {xs : List V} (h : SqL K H p xs) (a : atI xs i = some v) (q : Q v H) : rIx K (.ref p) (.int i) H Q := .inl ⟨p, xs, i, v, rfl, rfl, h, a, q⟩
theorem i_ixT {K : PySem.W.Frag} {p : Addr} {xs : List V} (h : SqT K H p xs) (a : atI xs i = some v) (q : Q v H) : rIx K (.ref p) (.int i) H Q := .inr (.inl ⟨p, xs, i, v, rfl, rfl, h, a, q⟩)
theorem i_iteI {A B : Prop} (h1 : i = j → A) (h2 : ¬ i = j → B) : if decide (V.int i = V.int j) = true then A else B :=
  ite2 (fun h => h1 (V.int.inj (of_decide_eq_true h))) fun h => h2 fun e => h (decide_eq_true (congrArg V.int e))
theorem i_iteD {c A B : Prop} [Decidable c] (h1 : c → A) (h2 : ¬ c → B) : if decide c = true then A else B :=
  ite2 (fun h => h1 (of_decide_eq_true h)) fun h => h2 fun e => h (decide_eq_true e)
theorem i_iteSf {x y : Str} {A B : Prop} (n : ¬ x = y) (q : B) : if decide (V.str x = V.str y) = true then A else B := by
  rw [decide_eq_false fun e => n (V.str.inj e)]; exact iteF q
theorem Same.upd {H' : Hp} {p : Addr} {o : HO} (s : Same H H') (n : H' p = none) : Same H (L2.upd H' p o) := fun b u e => by
  rw [upd_ne (ne_of_none (s b u e) n)]; exact s b u e
theorem Same.new (n : H p = none) : Same H (L2.upd H p o) := Same.upd (Same.refl H) n
end
end L2
namespace L2
open PySem PySem.Spec PyProof.Rows
section
variable {H : Hp} {Q : VK} {i j : Int} {x y : Str}
theorem i_eqI (q : Q (.bl (decide (V.int i = V.int j))) H) : rEq (.int i) (.int j) H Q := ⟨rfl, q⟩
theorem i_eqS (q : Q (.bl (decide (V.str x = V.str y))) H) : rEq (.str x) (.str y) H Q := ⟨rfl, q⟩
theorem i_neI (q : Q (.bl (!decide (V.int i = V.int j))) H) : rNe (.int i) (.int j) H Q := ⟨rfl, q⟩
theorem at_ints {ns : List Int} (k : Nat) (h : k < ns.length) : atI (ns.map V.int) (k : Int) = some (.int (ns.getD k 0)) := by
  refine atI_nat ?_
  rw [List.getElem?_map, List.getElem?_eq_getElem h]
  simp [List.getD, h]
end
end L2
namespace Lap
open PySem L2
inductive Dk where
  | sum | less | times | least | most | pick | same | tell | take
  deriving DecidableEq
def Dk.word : Dk → Str
  | .sum => "sum" | .less => "less" | .times => "times" | .least => "least" | .most => "most" | .pick => "pick" | .same => "same" | .tell => "tell" | .take => "take"
end Lap
namespace L2
open PySem PySem.Spec PyProof.Rows
section
variable {σ : St} {H : Hp} {Q : VK} {D : Ends}
theorem i_methI {ι : Type} {m : Str} {C : ι → Addr} {sp : ι → Sp} {ta : TE} {t : TA} (q : ta σ H fun x H1 => ∃ i a dx fs, x = .ref a ∧ H1 a = some (.ins (C i) dx fs) ∧ fs.lookup m = none ∧ t σ H1 fun vs H2 => sp i (x :: (vs ++ [])) H2 Q E0) : tMethI m C sp ta t σ H Q := q
theorem i_for {wi : TI} {g : TG} {tb : TS} (q : wi σ H fun J H1 => ∃ W : Nat → Nat → St → Hp → Prop, (∃ m, W 0 m σ H1) ∧ ∀ i m σ H, W i m σ H →
  (J.stop i H ∧ D.nx σ H) ∨ (J.go i H ∧ ∃ N : St → Hp → Prop, (∀ σ' H', N σ' H' → ∃ m', m' < m ∧ W (i + 1) m' σ' H') ∧ ∀ x H', J.yld i H x H' → g x σ H' fun σ2 H2 => tb { D with nx := N, ct := N, bk := D.nx } σ2 H2)) : tFor wi g tb D σ H := q
theorem i_rng1 {ta : TA} {R : It → Hp → Prop} (q : ta σ H fun vs H1 => ∃ j : Int, vs = [.int j] ∧ -(2 ^ 62) ≤ j ∧ j < 2 ^ 62 ∧ R (Itr 0 j.toNat) H1) : iRng1 ta σ H R := q
theorem i_list {K : PySem.W.Frag} {tl : TE} {R : It → Hp → Prop} (q : tl σ H fun x H1 => ∃ a, x = .ref a ∧ (∃ xs, SqL K H1 a xs) ∧ R (Itl K a) H1) : iList K tl σ H R := q
end
end L2
namespace L2
theorem iteNT {A B : Prop} (h : B) : if (!true) = true then A else B := iteF h
theorem iteNF {A B : Prop} (h : A) : if (!false) = true then A else B := iteT h
end L2
namespace L2
open PySem PySem.Spec PyProof.Rows
def noStar : Expr → Bool
  | .Starred _ _ => false
  | _ => true
theorem se {e : Expr} {es : List Expr} {env : Env} (h : noStar e = true) : starEach (e :: es) env = (false, eval e env) :: starEach es env := by
  cases e <;> first | rfl | cases h
theorem nst {es : List Expr} {env : Env} {pos : Pos} (h : es.all noStar = true) : (backTo pos (starEach es env)).any (·.1) = false := by
  induction es with
  | nil => rfl
  | cons e es ih =>
    rw [List.all_cons, Bool.and_eq_true] at h
    rw [se h.1]
    show (false || (backTo pos (starEach es env)).any (·.1)) = false
    rw [ih h.2]
    rfl
end L2
set_option Elab.async false
set_option linter.all false
set_option maxRecDepth 100000
namespace L2
open PySem PySem.Spec PyProof.Rows
def capL (env : Env) : List (Str × NameKind) → List (Str × Addr) → List (Str × Addr)
  | [], cs => cs
  | (n, k) :: r, cs => if k == .free then capL env r ((n, (env.cells.lookup n).getD 0) :: cs) else capL env r cs
theorem closure_run {env : Env} : ∀ (names : List (Str × NameKind)) (cs : List (Str × Addr)), (∀ y ∈ names, y.2 = .free → ∃ c, env.cells.lookup y.1 = some c) →
    (forIn names cs fun (x : Str × NameKind) (r : List (Str × Addr)) => (do
      if x.2 == .free then
        let a ← cellOf env x.1
        pure (ForInStep.yield ((x.1, a) :: r))
      else pure (ForInStep.yield r) : Sem (ForInStep (List (Str × Addr))))) = pure (capL env names cs)
  | [], cs, _ => rfl
  | (n, k) :: r, cs, h => by
    have ih := fun cs => closure_run (env := env) r cs fun y hy => h y (List.mem_cons_of_mem _ hy)
    rw [List.forIn_cons]
    by_cases hk : (k == NameKind.free) = true
    · have hk' : k = .free := by simpa using hk
      obtain ⟨c, hc⟩ := h (n, k) List.mem_cons_self hk'
      have hc' : env.cells.lookup n = some c := hc
      simp only [capL, hk, if_true, cellOf, hc', Option.getD_some, pure_bind]
      exact ih _
    · simp only [capL, hk, if_false, pure_bind, Bool.false_eq_true]
      exact ih _
theorem closure_eq {scope : Scope} {env : Env} (h : ∀ y ∈ scope.names, y.2 = .free → ∃ c, env.cells.lookup y.1 = some c) : closureFor scope env = pure (capL env scope.names []) := by
  have e := closure_run scope.names [] h
  unfold closureFor
  simp only [← e, bind_pure]
theorem capL_sub {env : Env} {y : Str} {c : Addr} : ∀ (names : List (Str × NameKind)) (cs : List (Str × Addr)), (∀ y ∈ names, y.2 = .free → ∃ c, env.cells.lookup y.1 = some c) →
    (∀ y c, cs.lookup y = some c → env.cells.lookup y = some c) → (capL env names cs).lookup y = some c → env.cells.lookup y = some c
  | [], cs, _, hs, e => hs y c e
  | (n, k) :: r, cs, h, hs, e => by
    have h' : ∀ y ∈ r, y.2 = .free → ∃ c, env.cells.lookup y.1 = some c := fun y hy => h y (List.mem_cons_of_mem _ hy)
    by_cases hk : (k == NameKind.free) = true
    · have hk' : k = .free := by simpa using hk
      obtain ⟨d, hd⟩ := h (n, k) List.mem_cons_self hk'
      simp only [capL, hk, if_true] at e
      refine capL_sub r _ h' (fun z c' q => ?_) e
      rw [List.lookup_cons] at q
      cases hz : z == n with
      | true =>
        rw [hz] at q
        have hz' : z = n := by simpa using hz
        subst hz'
        have hd' : env.cells.lookup z = some d := hd
        rw [hd', Option.getD_some] at q
        rw [hd']; exact q
      | false => rw [hz] at q; exact hs z c' q
    · simp only [capL, hk, if_false, Bool.false_eq_true] at e
      exact capL_sub r cs h' hs e
theorem capL_keep {env : Env} {y : Str} : ∀ (names : List (Str × NameKind)) (cs : List (Str × Addr)), (∃ c, cs.lookup y = some c) → ∃ c, (capL env names cs).lookup y = some c
  | [], cs, h => h
  | (n, k) :: r, cs, h => by
    by_cases hk : (k == NameKind.free) = true
    · simp only [capL, hk, if_true]
      refine capL_keep r _ ?_
      rw [List.lookup_cons]
      cases y == n with
      | true => exact ⟨_, rfl⟩
      | false => exact h
    · simp only [capL, hk, if_false, Bool.false_eq_true]
      exact capL_keep r cs h
theorem capL_has {env : Env} {y : Str} : ∀ (names : List (Str × NameKind)) (cs : List (Str × Addr)), (y, NameKind.free) ∈ names → ∃ c, (capL env names cs).lookup y = some c
  | (n, k) :: r, cs, h => by
    rcases List.mem_cons.mp h with e | h
    · cases e
      exact capL_keep r _ ⟨(env.cells.lookup y).getD 0, by rw [List.lookup_cons, beq_self_eq_true]⟩
    · by_cases hk : (k == NameKind.free) = true
      · simp only [capL, hk, if_true]; exact capL_has r _ h
      · simp only [capL, hk, if_false, Bool.false_eq_true]; exact capL_has r cs h
theorem lookup_mem {α : Type} {x : Str} {k : α} : ∀ {l : List (Str × α)}, l.lookup x = some k → (x, k) ∈ l
  | [], h => by simp at h
  | (n, k') :: r, h => by
    rw [List.lookup_cons] at h
    cases hx : x == n with
    | true =>
      rw [hx] at h
      have : x = n := by simpa using hx
      subst this; cases h; exact List.mem_cons_self
    | false => rw [hx] at h; exact List.mem_cons_of_mem _ (lookup_mem h)
theorem relabel_look {env : Env} {y : Str} {k : NameKind} : ∀ {names : List (Str × NameKind)}, (∀ z ∈ names, z.2 ≠ .cell) →
    (names.map fun (n, k) => if (k == NameKind.free && env.scope.kind == .function && env.kindOf n == some .cell) then (n, NameKind.cell) else (n, k)).lookup y = some k →
    names.lookup y = some k ∨ (k = .cell ∧ names.lookup y = some .free)
  | [], _, h => by simp at h
  | (n, k') :: r, hc, h => by
    have ih := @relabel_look env y k r fun z hz => hc z (List.mem_cons_of_mem _ hz)
    rw [List.map_cons, List.lookup_cons] at h
    rw [List.lookup_cons]
    by_cases hk : (k' == NameKind.free && env.scope.kind == .function && env.kindOf n == some .cell) = true
    · have h' := h
      rw [if_pos hk] at h'
      dsimp only at h'
      cases hy : y == n with
      | true =>
        rw [hy] at h'
        have e1 : NameKind.cell = k := Option.some.inj h'
        have e2 : k' = .free := by
          rw [Bool.and_eq_true, Bool.and_eq_true] at hk
          simpa using hk.1.1
        exact .inr ⟨e1.symm, by rw [e2]⟩
      | false => rw [hy] at h'; exact ih h'
    · have h' := h
      rw [if_neg hk] at h'
      dsimp only at h'
      cases hy : y == n with
      | true => rw [hy] at h'; exact .inl h'
      | false => rw [hy] at h'; exact ih h'
def blk (X : Cx) (scope : Scope) (x : Str) (caps : List Str) (C : Addr) (s₀ : Shared) (H₀ : Hp) (ex : List Addr) : Cx :=
  { X with N := x :: caps, env := compEnvC scope (capL X.env scope.names []) C X.env, s₀ := s₀, H₀ := H₀, outer := X.stack, stack := X.stack, ex := ex, fn := fun _ => false, xe := fun _ _ => False }
structure Blk (X : Cx) (scope : Scope) (x : Str) (caps : List Str) (ix : List Nat) : Prop where
  kind : scope.kind = .function
  cell : ∀ y ∈ scope.names, y.2 ≠ .cell
  loc : scope.names.lookup x = some .local
  names : ∀ y ∈ scope.names, y.2 = .local → scope.names.lookup y.1 = some .local
  free : ∀ y ∈ scope.names, y.2 = .free → X.env.kindOf y.1 = some .cell ∨ X.env.kindOf y.1 = some .free
  len : caps.length = ix.length
  nd : (x :: caps).Nodup
  ix : ∀ (j : Nat) (y : Str) (i : Nat), caps[j]? = some y → ix[j]? = some i → X.N[i]? = some y ∧ scope.names.lookup y = some .free
def capV (ix : List Nat) (σ : St) : St := ix.map fun i => (σ[i]?).join
theorem Blk.cells {X : Cx} {scope : Scope} {x : Str} {caps : List Str} {ix : List Nat} (B : Blk X scope x caps ix) (ok : X.Ok) : ∀ y ∈ scope.names, y.2 = .free → ∃ c, X.env.cells.lookup y.1 = some c :=
  fun y hy e => ok.has y.1 (B.free y hy e)
theorem Blk.sub {X : Cx} {scope : Scope} {x : Str} {caps : List Str} {ix : List Nat} (B : Blk X scope x caps ix) (ok : X.Ok) {y : Str} {c : Addr} (e : (capL X.env scope.names []).lookup y = some c) : X.env.cells.lookup y = some c :=
  capL_sub _ _ (B.cells ok) (fun _ _ q => by simp at q) e
theorem Blk.freeOf {X : Cx} {scope : Scope} {x : Str} {caps : List Str} {ix : List Nat} {C : Addr} (B : Blk X scope x caps ix) {y : Str} {k : NameKind} (e : (compEnvC scope (capL X.env scope.names []) C X.env).kindOf y = some k) (hk : k = .cell ∨ k = .free) : scope.names.lookup y = some .free := by
  rcases relabel_look (env := X.env) B.cell (show (scope.names.map _).lookup y = some k from e) with q | ⟨_, q⟩
  · rcases hk with rfl | rfl
    · exact absurd rfl (B.cell _ (lookup_mem q))
    · exact q
  · exact q
def blkOk (sc scope : Scope) (N : List Str) (x : Str) (caps : List Str) (ix : List Nat) : Bool :=
  scope.kind == .function && scope.names.all (fun y => y.2 != .cell) && scope.names.lookup x == some .local && scope.names.all (fun y => y.2 != .local || scope.names.lookup y.1 == some .local) &&
  scope.names.all (fun y => y.2 != .free || (sc.names.lookup y.1 == some .cell || sc.names.lookup y.1 == some .free)) && caps.length == ix.length && decide (x :: caps).Nodup &&
  (caps.zip ix).all (fun p => N[p.2]? == some p.1 && scope.names.lookup p.1 == some .free)
theorem Blk.of {X : Cx} {scope : Scope} {x : Str} {caps : List Str} {ix : List Nat} (h : blkOk X.env.scope scope X.N x caps ix = true) : Blk X scope x caps ix := by
  unfold blkOk at h
  simp only [Bool.and_eq_true] at h
  obtain ⟨⟨⟨⟨⟨⟨⟨h1, h2⟩, h3⟩, h4⟩, h5⟩, h6⟩, h7⟩, h8⟩ := h
  refine ⟨by simpa using h1, fun y hy => by simpa using List.all_eq_true.mp h2 y hy, by simpa using h3, fun y hy e => ?_, fun y hy e => ?_, by simpa using h6, of_decide_eq_true h7, fun j y i e1 e2 => ?_⟩
  · have := List.all_eq_true.mp h4 y hy
    rw [e] at this
    simpa using this
  · have := List.all_eq_true.mp h5 y hy
    rw [e] at this
    have this : (X.env.scope.names.lookup y.1 == some NameKind.cell || X.env.scope.names.lookup y.1 == some NameKind.free) = true := by simpa using this
    rw [Bool.or_eq_true] at this
    rcases this with z | z
    · exact .inl (show X.env.scope.names.lookup y.1 = _ by simpa using z)
    · exact .inr (show X.env.scope.names.lookup y.1 = _ by simpa using z)
  · have hm : (y, i) ∈ caps.zip ix := by
      refine List.mem_iff_getElem?.mpr ⟨j, ?_⟩
      rw [List.getElem?_zip_eq_some]
      exact ⟨e1, e2⟩
    have := List.all_eq_true.mp h8 _ hm
    rw [Bool.and_eq_true] at this
    exact ⟨by simpa using this.1, by simpa using this.2⟩
def PF (X : Cx) (ifs : List Expr) (t : TT) : Prop :=
  ∀ (pins : List (Addr × Obj)) (s : Shared) (σ : St) (H : Hp) (Q : Bool → Hp → Prop), Inv X pins σ H s → t σ H Q →
    wpAny (model X.prog X.w) X.A (forIn ifs true fun c r => if r = true then do let ok ← isTrue c X.env (eval c X.env); pure (ForInStep.yield ok) else pure (ForInStep.yield r)) (TP X pins σ Q) X.xe s
def tYes : TT := fun _ H Q => Q true H
theorem pf_nil {X : Cx} : PF X [] tYes := fun _ _ _ H _ I h => wpAny_tests_nil ⟨H, I, h⟩
def tLc (wi : TI) (tf : TT) (te : TE) (ix : List Nat) : TE := fun σ H Q => wi σ H fun J H1 => ∀ D, H1 D = none → ∃ W : Nat → Nat → List V → Hp → Prop, (∃ m, W 0 m [] (upd H1 D (.lst []))) ∧ ∀ i m ys H, W i m ys H →
  H D = some (.lst ys) ∧ ((J.stop i H ∧ Q (.ref D) H) ∨ (J.go i H ∧ ys.length < sizeLine ∧ ∀ x H', J.yld i H x H' → tf (some x :: capV ix σ) H' fun b H2 =>
    if b = true then te (some x :: capV ix σ) H2 fun y H3 => H3 D = some (.lst ys) ∧ ∃ m', m' < m ∧ W (i + 1) m' (ys ++ [y]) (upd H3 D (.lst (ys ++ [y]))) else ∃ m', m' < m ∧ W (i + 1) m' ys H2))
section
variable {X : Cx} {scope : Scope} {x : Str} {caps : List Str} {ix : List Nat} {pins : List (Addr × Obj)} {σ : St} {H : Hp} {s : Shared}
theorem blk_ok (B : Blk X scope x caps ix) (I : Inv X pins σ H s) {fp : List Addr} (f : ∀ b ∈ fp, FpOk X pins H b) (fo : ∀ b ∈ fp, b < s.heap.objs.size) : (blk X scope x caps s.heap.objs.size s H fp).Ok where
  mod := I.ok.mod
  kind := B.kind
  glob := I.ok.glob
  blt := I.ok.blt
  above := Nat.le_refl _
  inj := fun y z c e1 e2 => I.ok.inj y z c (B.sub I.ok e1) (B.sub I.ok e2)
  has := fun y h => by
    have q : scope.names.lookup y = some .free := by
      rcases h with h | h
      · exact B.freeOf h (.inl rfl)
      · exact B.freeOf h (.inr rfl)
    exact capL_has _ _ (lookup_mem q)
  cab := fun _ _ h => nomatch h
  hd := I.ok.hd
  frames := I.ok.frames
  stk := .inl rfl
  exf := fun b hb => ⟨Nat.ne_of_lt (fo b hb), fun y c e => (f b hb).2.2.2.2.1 y c (B.sub I.ok e)⟩
  bs := I.bs
  bsz := Nat.le_trans I.ok.bsz I.sz
  noex := fun b o e hb => by
    rcases (f b hb).2.2.2.1 with z | z
    · exact I.ok.noex b o e z
    · have := (I.ok.bs b o e).1; rw [z] at this; cases this
  exfs := fun b hb z => by
    rcases List.mem_cons.mp (I.stkSub b z) with q | q
    · exact (f b hb).2.1 q
    · exact (f b hb).2.2.1 q
  funs := I.stack
  frf := I.stkFree
theorem capV_get {j : Nat} {v : V} (h : (capV ix σ)[j]? = some (some v)) : ∃ i, ix[j]? = some i ∧ σ[i]? = some (some v) := by
  unfold capV at h
  rw [List.getElem?_map] at h
  cases e : ix[j]? with
  | none => rw [e] at h; cases h
  | some i =>
    rw [e] at h
    have h' : (σ[i]?).join = some v := Option.some.inj h
    refine ⟨i, rfl, ?_⟩
    cases q : σ[i]? with
    | none => rw [q] at h'; cases h'
    | some o => rw [q] at h'; exact congrArg some h'
theorem blk_inv (B : Blk X scope x caps ix) (I : Inv X pins σ H s) {fp : List Addr} (f : ∀ b ∈ fp, FpOk X pins H b) (fo : ∀ b ∈ fp, b < s.heap.objs.size) {h' : Heap} {t' : Nat} (hn : h'.Ns s.heap.objs.size (fun _ => none)) (k : ∀ b o, s.heap.get? b = some o → h'.get? b = some o) :
    Inv (blk X scope x caps s.heap.objs.size s H fp) pins (none :: capV ix σ) H { s with heap := h', toks := t' } where
  ok := blk_ok B I f fo
  os := rfl
  bare := I.bare
  base := Un.kept k
  loc := by
    refine ⟨_, hn, fun i y v e1 e2 e3 => ?_⟩
    cases i with
    | zero => cases e2
    | succ j =>
      have e1' : caps[j]? = some y := e1
      have e2' : (capV ix σ)[j]? = some (some v) := e2
      obtain ⟨i, hi, hv⟩ := capV_get e2'
      obtain ⟨hN, hf⟩ := B.ix j y i e1' hi
      obtain ⟨m, hm, hl⟩ := I.loc
      have hk := B.free _ (lookup_mem hf) rfl
      have hvis : Vis X.env.scope y := by
        rcases hk with q | q
        · exact .inr (.inl q)
        · exact .inr (.inr q)
      obtain ⟨u, ru, lk⟩ := hl i y v hN hv hvis
      refine ⟨u, ru, .inr ?_⟩
      obtain ⟨c', hc'⟩ := capL_has (env := X.env) scope.names [] (lookup_mem hf)
      have hc := B.sub I.ok hc'
      refine ⟨?_, c', hc', ?_⟩
      · have hvv : (compEnvC scope (capL X.env scope.names []) s.heap.objs.size X.env).kindOf y = some .local ∨ _ := e3
        rcases hvv with q | q
        · rcases relabel_look (env := X.env) B.cell (show (scope.names.map _).lookup y = some NameKind.local from q) with z | ⟨z, _⟩
          · rw [hf] at z; cases z
          · cases z
        · exact q
      · rcases lk with ⟨l, _⟩ | ⟨_, c, ec, z⟩
        · rcases hk with q | q <;> (rw [q] at l; cases l)
        · have ecc : c = c' := Option.some.inj (ec.symm.trans hc)
          rw [← ecc]
          obtain ⟨o, ho, hd⟩ := z
          exact ⟨o, k _ _ ho, hd⟩
  cell := fun y c e => by
    obtain ⟨v, o, ho, hd⟩ := I.cell y c (B.sub I.ok e)
    exact ⟨v, o, k _ _ ho, hd⟩
  free := I.hok.fresh (Nat.le_refl _)
  freeC := fun y c e => I.freeC y c (B.sub I.ok e)
  pin := fun p hp => by
    obtain ⟨e, n, ne, nf, d⟩ := I.pin p hp
    refine ⟨k _ _ e, n, Nat.ne_of_lt (Heap.lt_size e), fun z => ?_, d⟩
    rcases List.mem_cons.mp (I.stkSub _ z) with q | q
    · exact ne q
    · exact nf q
  hok := I.hok.kept k
  len := by
    show (none :: capV ix σ).length = (x :: caps).length
    rw [List.length_cons, List.length_cons, capV, List.length_map, B.len]
theorem blk_out (I : Inv X pins σ H s) {fp : List Addr} (f : ∀ b ∈ fp, FpOk X pins H b) {σ' : St} {H' : Hp} {s' : Shared} (I' : Inv (blk X scope x caps s.heap.objs.size s H fp) pins σ' H' s') : Inv X pins σ H' s' ∧ FpOk X pins H' s.heap.objs.size := by
  have fC : FpOk X pins H' s.heap.objs.size := I.fpOk (Nat.le_refl _) I'.free
  refine ⟨I.call' (ch := fp) I'.os I'.base I'.hok I'.bare fun b hb => ?_, fC⟩
  obtain ⟨f0, f1, f2, f3, f4, f5⟩ := f b hb
  exact ⟨f3, f1, f4, f5⟩
theorem lc_core {elt iter : Expr} {ifs : List Expr} {px pos pos' : Pos} {wi : TI} {tf : TT} {te : TE} {use : Option (Value → Sem Unit)} {R : VK} {QQ : Value → Shared → Prop}
    (B : Blk X scope x caps ix) (hc : X.calm = true) (hi : PI X (.Name x px) iter wi) (hf : ∀ C s₀ H₀ ex, PF (blk X scope x caps C s₀ H₀ ex) ifs tf) (he : ∀ C s₀ H₀ ex, PE (blk X scope x caps C s₀ H₀ ex) elt te)
    (I : Inv X pins σ H s) (h : tLc wi tf te ix σ H R)
    (hQ : ∀ (v : V) (u : Value) (H' : Hp) (C : Addr) (m : Str → Option Value) (s' : Shared), Inv X pins σ H' s' → RelV v u → R v H' → FpOk X pins H' C → s'.heap.Ns C m → compPost (model X.prog X.w) X.A X.xe use QQ u C (.ok .next) s')
    (hs : ∀ x, foldedSetIterable iter X.env x = pure x) :
    wpAny (model X.prog X.w) X.A (comprehension (.ListComp elt [⟨.Name x px, iter, ifs, 0⟩] scope pos) scope X.env pos' (newList []) false (eval iter X.env) use) QQ X.xe s := by
  refine wpAny_comprehension_free rfl hs (closure_eq (B.cells I.ok)) B.kind B.names (thn (hi pins s σ H _ I h) fun xv s1 h1 => thn h1 fun itv s2 h2 => ?_)
  obtain ⟨it, fp, tn, J, H2, e, I2, T, st2, f2, rest⟩ := h2
  subst e
  refine wpAny_newObj_type (wpAny_newFunctionEnv B.cell (by intro y hy; simp at hy) (fun h₁ hns₁ hsb₁ => ?_) B.kind)
  have hD : H2 s2.heap.objs.size = none := I2.fresh
  obtain ⟨W, ⟨m0, w0⟩, turn⟩ := rest s2.heap.objs.size hD
  generalize hDn : s2.heap.objs.size = D at *
  have I3 : Inv X pins σ (upd H2 D (.lst [])) { s2 with heap := s2.heap.push { cls := .type "list", data := .seq ([] : List Value).toArray } } := by
    have := I2.lnew (ys := []) (its := []) (t' := s2.toks) .nil (Nat.zero_le _)
    rw [hDn] at this
    exact this
  generalize hs3 : ({ s2 with heap := s2.heap.push { cls := .type "list", data := .seq ([] : List Value).toArray } } : Shared) = s3 at *
  have fpD : ∀ b ∈ fp, b ≠ D := fun b hb => by
    obtain ⟨o, e, _⟩ := T.obj _ _ st2 b hb
    rw [← hDn]; exact Nat.ne_of_lt (Heap.lt_size e)
  have up3 : ∀ b o, s2.heap.get? b = some o → s3.heap.get? b = some o := fun b o e => by rw [← hs3]; exact Heap.get?_push_of_some _ e
  have f3 : ∀ b ∈ fp, FpOk X pins (upd H2 D (.lst [])) b := fun b hb => by
    obtain ⟨f0, fr⟩ := f2 b hb
    exact ⟨by rw [upd_ne (fpD b hb)]; exact f0, fr⟩
  have st3 : tn 0 s3.heap := T.keep _ _ _ st2 fun b _ o e => up3 b o e
  have fo : ∀ b ∈ fp, b < s3.heap.objs.size := fun b hb => by
    obtain ⟨o, e, _⟩ := T.obj _ _ st3 b hb
    exact Heap.lt_size e
  have eh : s2.heap.push { cls := .type "list", data := .seq ([] : List Value).toArray } = s3.heap := by rw [← hs3]
  have es : ∀ (g : Heap) (t : Nat), ({ s2 with heap := g, toks := t } : Shared) = { s3 with heap := g, toks := t } := fun g t => by rw [← hs3]
  have hn1 : h₁.Ns s3.heap.objs.size (fun _ => none) := hns₁
  have k1 : ∀ b o, s3.heap.get? b = some o → h₁.get? b = some o := fun b o e => by
    exact hsb₁.extBut b o (Nat.ne_of_lt (Heap.lt_size e)) (Heap.get?_push_of_some _ e)
  have I4 := blk_inv B I3 f3 fo (t' := s3.toks + ([] : List (Str × Value)).length) hn1 k1
  have st4 : tn 0 h₁ := T.keep _ _ _ st3 fun b _ o e => k1 b o e
  have post : ∀ σ' H' s', Inv (blk X scope x caps s3.heap.objs.size s3 (upd H2 D (.lst [])) fp) pins σ' H' s' → R (.ref D) H' → compPost (model X.prog X.w) X.A X.xe use QQ (.ref D) s3.heap.objs.size (.ok .next) s' := fun σ' H' s' I' r => by
    obtain ⟨I5, fC⟩ := blk_out I3 f3 I'
    obtain ⟨m, hm, _⟩ := I'.loc
    exact hQ (.ref D) _ H' _ m s' I5 rfl r fC hm
  have loop : codeAny (model X.prog X.w) X.A (.compLoop (.ListComp elt [⟨.Name x px, iter, ifs, 0⟩] scope pos) 0 (.ref it) (.ref D) (blk X scope x caps s3.heap.objs.size s3 (upd H2 D (.lst [])) fp).env)
      (compPost (model X.prog X.w) X.A X.xe use QQ (.ref D) s3.heap.objs.size) { s3 with heap := h₁, toks := s3.toks + ([] : List (Str × Value)).length } := by
    have fpc : ∀ {H' : Hp}, (∀ b ∈ fp, H' b = none) → ∀ b ∈ fp, FpOk (blk X scope x caps s3.heap.objs.size s3 (upd H2 D (.lst [])) fp) pins H' b := fun hn b hb => by
      obtain ⟨f0, f1, f2, f3, f4, f5⟩ := f3 b hb
      refine ⟨hn b hb, Nat.ne_of_lt (fo b hb), fun z => ?_, .inl hb, fun y c e => f4 y c (B.sub I3.ok e), f5⟩
      rcases List.mem_cons.mp (I3.stkSub b z) with q | q
      · exact f1 q
      · exact f2 q
    have hfx := hf s3.heap.objs.size s3 (upd H2 D (.lst [])) fp
    have hex := he s3.heap.objs.size s3 (upd H2 D (.lst [])) fp
    have hgx : PG (blk X scope x caps s3.heap.objs.size s3 (upd H2 D (.lst [])) fp) (.Name x px) (gName 0) := pg_name B.nd rfl (.inl (lookup_relabel_local B.loc)) (.inr (lookup_relabel_local B.loc))
    have hcx : (blk X scope x caps s3.heap.objs.size s3 (upd H2 D (.lst [])) fp).calm = true := hc
    refine codeAny_compLoop_tests (fun n s' => ∃ i ys H' o, Inv (blk X scope x caps s3.heap.objs.size s3 (upd H2 D (.lst [])) fp) pins (o :: capV ix σ) H' s' ∧ tn i s'.heap ∧ (∀ b ∈ fp, H' b = none) ∧ W i n ys H') ?_ m0
      ⟨0, [], _, none, I4, st4, fun b hb => (f3 b hb).1, w0⟩
    rintro n s5 ⟨i, ys, H5, o5, I5, st5, fr5, w5⟩
    obtain ⟨hD5, hstep⟩ := turn i n ys H5 w5
    rcases hstep with ⟨stop, r⟩ | ⟨go, hz, step⟩
    · refine thn (T.done (blk X scope x caps s3.heap.objs.size s3 (upd H2 D (.lst [])) fp) rfl rfl rfl hcx i pins s5 _ H5 _ I5 (fpc fr5) st5 stop) fun r' s6 ⟨hr, I6⟩ => ?_
      subst hr
      exact post _ _ _ I6 r
    · refine thn (T.item (blk X scope x caps s3.heap.objs.size s3 (upd H2 D (.lst [])) fp) rfl rfl rfl hcx i pins s5 _ H5 _ I5 (fpc fr5) st5 go) fun r' s6 ⟨u, hr, h6⟩ => ?_
      subst hr
      show wpAny _ _ (letOwnedTupleGo (.Name x px) (.ref it) u >>= fun _ => assign (.Name x px) (blk X scope x caps s3.heap.objs.size s3 (upd H2 D (.lst [])) fp).env u) _ _ _
      refine wpAny_bind (thn h6 fun _ s7 ⟨v, H7, I7, rv, y7, st7, fr7⟩ => ?_)
      have I7' := I7.pinned (fpc fr7) (T.obj _ _ st7)
      refine wpAny_mono (hgx _ s7 _ H7 v u _ I7' rv (show gName 0 v _ H7 (fun σ' H' => σ' = some v :: capV ix σ ∧ H' = H7) from ⟨rfl, rfl⟩)) (fun _ s8 ⟨σ8, H8, I8, e8, eH8⟩ => ?_) fun _ _ f => f.elim
      subst e8 eH8
      refine wpAny_mono (hfx _ s8 _ _ _ I8 (step v _ y7)) (fun ok s9 ⟨H9, I9, q9⟩ => ?_) fun _ _ f => f.elim
      have again : ∀ {n' : Nat} {ys' : List V} {HA : Hp} {sA : Shared}, n' < n → Inv (blk X scope x caps s3.heap.objs.size s3 (upd H2 D (.lst [])) fp) (pins ++ pinsAt fp s7.heap) (some v :: capV ix σ) HA sA → W (i + 1) n' ys' HA →
          ∃ m, m < n ∧ ∃ i ys H' o, Inv (blk X scope x caps s3.heap.objs.size s3 (upd H2 D (.lst [])) fp) pins (o :: capV ix σ) H' sA ∧ tn i sA.heap ∧ (∀ b ∈ fp, H' b = none) ∧ W i m ys H' := fun {n' ys' HA sA} hn IA wA => by
        refine ⟨n', hn, i + 1, ys', HA, _, IA.unpinned, T.keep _ _ _ st7 fun b hb o e => (IA.pin (b, o) (List.mem_append_right _ (List.mem_append_right _ (mem_pinsAt hb e)))).1, fun b hb => ?_, wA⟩
        obtain ⟨o, e, d⟩ := T.obj _ _ st7 b hb
        exact (IA.pin (b, o) (List.mem_append_right _ (List.mem_append_right _ (mem_pinsAt hb e)))).2.1
      cases ok with
      | false =>
        obtain ⟨n', hn, wA⟩ := q9
        exact again hn I9 wA
      | true =>
        refine wpAny_mono (hex _ s9 _ _ _ I9 q9) (fun u9 sA ⟨vA, HA, IA, rA, hDA, n', hn, wA⟩ => ?_) fun _ _ f => f.elim
        refine wpAny_mono (mt_append (X := blk X scope x caps s3.heap.objs.size s3 (upd H2 D (.lst [])) fp) _ sA _ HA (.ref D) [vA] (.ref D) [u9] (fun _ HB => W (i + 1) n' (ys ++ [vA]) HB) IA rfl (.cons rA .nil) ⟨D, ys, vA, rfl, rfl, hDA, hz, wA⟩) (fun _ sB ⟨_, HB, IB, _, wB⟩ => ?_) fun _ _ f => f.elim
        exact again hn IB wB
  exact codeAny_compStart_list loop (T.self _ 0 _ _ _ st4 loop)
theorem pe_lc {elt iter : Expr} {ifs : List Expr} {px pos : Pos} {wi : TI} {tf : TT} {te : TE} (B : Blk X scope x caps ix) (hc : X.calm = true) (hi : PI X (.Name x px) iter wi)
    (hf : ∀ C s₀ H₀ ex, PF (blk X scope x caps C s₀ H₀ ex) ifs tf) (he : ∀ C s₀ H₀ ex, PE (blk X scope x caps C s₀ H₀ ex) elt te) (hs : ∀ x, foldedSetIterable iter X.env x = pure x := by intro _; rfl) :
    PE X (.ListComp elt [⟨.Name x px, iter, ifs, 0⟩] scope pos) (tLc wi tf te ix) := by
  intro pins s σ H Q I h
  rw [eval_ListComp]
  refine lc_core (use := none) B hc hi hf he I h (fun v u H' C m s' I' r q fC hn => ⟨m, hn, fun h' sb => ⟨v, H', ?_, r, q⟩⟩) hs
  obtain ⟨f0, f1, f2, f3, f4, f5⟩ := fC
  exact I'.turned (t' := s'.toks) (fun b o hb e => (sb.2 b hb).trans e) f0 f1 f3 f4 f5
def tSetLc (i : Nat) (t : TE) : TS := fun D σ H => t σ H fun v H' => D.nx (σ.set i (some v)) H'
theorem ps_lc {i : Nat} {y : Str} {elt iter : Expr} {ifs : List Expr} {px py pos spos : Pos} {wi : TI} {tf : TT} {te : TE} (hN : X.N.Nodup) (hy : X.N[i]? = some y) (hl : X.env.kindOf y = some .local)
    (hsw : swapsWith (.ListComp elt [⟨.Name x px, iter, ifs, 0⟩] scope pos) (some (.Name y py)) spos.line X.env = pure true) (B : Blk X scope x caps ix) (hc : X.calm = true) (hi : PI X (.Name x px) iter wi)
    (hf : ∀ C s₀ H₀ ex, PF (blk X scope x caps C s₀ H₀ ex) ifs tf) (he : ∀ C s₀ H₀ ex, PE (blk X scope x caps C s₀ H₀ ex) elt te) (hs : ∀ x, foldedSetIterable iter X.env x = pure x := by intro _; rfl) :
    PS X (.Assign [.Name y py] (.ListComp elt [⟨.Name x px, iter, ifs, 0⟩] scope pos) spos) (tSetLc i (tLc wi tf te ix)) := by
  intro pins s σ H D I h
  rw [exec_Assign_Name_used _ _ _ _ hsw]
  refine wpAny_bind (wpAny_standAt (wpAny_bind ?_))
  show wpAny _ X.A (do let _ ← comprehension (.ListComp elt [⟨.Name x px, iter, ifs, 0⟩] scope pos) scope X.env _ (newList []) false (eval iter X.env) (some (assign (.Name y py) X.env))) _ _ s
  refine wpAny_bind (wpAny_mono (lc_core (use := some (assign (.Name y py) X.env)) (QQ := fun _ s' => SP X pins D .next s') B hc hi hf he I h (fun v u H' C m s' I' r q fC hn => ?_) hs) (fun _ s' hq => wpAny_pure (wpAny_pure hq)) fun _ _ e => e)
  obtain ⟨oC, esC, epC, hoC, hdC, rC⟩ := id hn
  have I1 : Inv X (pins ++ pinsAt [C] s'.heap) σ H' s' := I'.pinned (fun b hb => by rw [List.mem_singleton.mp hb]; exact fC) (fun b hb => ⟨oC, by rw [List.mem_singleton.mp hb]; exact hoC, fun v z => by rw [hdC] at z; cases z⟩)
  show wpAny _ X.A (assign (.Name y py) X.env u) _ _ s'
  refine wpAny_assign_Name (store_ok I1 hN hy (.inl hl) r (fun s'' I2 => ?_) (.inr hl))
  have hC2 := I2.pin (C, oC) (List.mem_append_right _ (List.mem_append_right _ (mem_pinsAt (List.mem_singleton.mpr rfl) hoC)))
  refine ⟨m, ⟨oC, esC, epC, hC2.1, hdC, rC⟩, fun h' sb => ⟨σ.set i (some v), H', ?_, q⟩⟩
  obtain ⟨f0, f1, f2, f3, f4, f5⟩ := fC
  exact I2.unpinned.turned (t' := s''.toks) (fun b o hb e => (sb.2 b hb).trans e) f0 f1 f3 f4 f5
end
theorem i_lc {wi : TI} {tf : TT} {te : TE} {ix : List Nat} {σ : St} {H : Hp} {Q : VK} (q : wi σ H fun J H1 => ∀ D, H1 D = none → ∃ W : Nat → Nat → List V → Hp → Prop, (∃ m, W 0 m [] (upd H1 D (.lst []))) ∧ ∀ i m ys H, W i m ys H →
  H D = some (.lst ys) ∧ ((J.stop i H ∧ Q (.ref D) H) ∨ (J.go i H ∧ ys.length < sizeLine ∧ ∀ x H', J.yld i H x H' → tf (some x :: capV ix σ) H' fun b H2 =>
    if b = true then te (some x :: capV ix σ) H2 fun y H3 => H3 D = some (.lst ys) ∧ ∃ m', m' < m ∧ W (i + 1) m' (ys ++ [y]) (upd H3 D (.lst (ys ++ [y]))) else ∃ m', m' < m ∧ W (i + 1) m' ys H2))) : tLc wi tf te ix σ H Q := q
theorem i_setLc {i : Nat} {t : TE} {D : Ends} {σ : St} {H : Hp} (q : t σ H fun v H' => D.nx (σ.set i (some v)) H') : tSetLc i t D σ H := q
theorem lc_list {K : PySem.W.Frag} {a : Addr} {xs : List V} {te : TE} {cs : St} {H1 : Hp} {Q : VK} (f : V → V) (hS : SqL K H1 a xs) (hz : xs.length ≤ sizeLine)
    (hx : ∀ (i : Nat) (v : V) (H' : Hp) (R : VK), xs[i]? = some v → Same H1 H' → R (f v) H' → te (some v :: cs) H' R) (q : ∀ D, H1 D = none → Q (.ref D) (upd H1 D (.lst (xs.map f)))) :
    ∀ D, H1 D = none → ∃ W : Nat → Nat → List V → Hp → Prop, (∃ m, W 0 m [] (upd H1 D (.lst []))) ∧ ∀ i m ys H, W i m ys H →
      H D = some (.lst ys) ∧ (((Itl K a).stop i H ∧ Q (.ref D) H) ∨ ((Itl K a).go i H ∧ ys.length < sizeLine ∧ ∀ x H', (Itl K a).yld i H x H' → tYes (some x :: cs) H' fun b H2 =>
        if b = true then te (some x :: cs) H2 fun y H3 => H3 D = some (.lst ys) ∧ ∃ m', m' < m ∧ W (i + 1) m' (ys ++ [y]) (upd H3 D (.lst (ys ++ [y]))) else ∃ m', m' < m ∧ W (i + 1) m' ys H2)) := by
  intro D hD
  refine ⟨fun i m ys H => m = xs.length - i ∧ i ≤ xs.length ∧ ys = (xs.take i).map f ∧ H = upd H1 D (.lst ys), ⟨xs.length, by simp, Nat.zero_le _, by simp, rfl⟩, ?_⟩
  rintro i m ys H ⟨rfl, hi, hys, rfl⟩
  have s1 : Same H1 (upd H1 D (.lst ys)) := Same.upd (Same.refl H1) hD
  have q1 := s1.seq hS
  refine ⟨upd_same, ?_⟩
  by_cases hlt : i < xs.length
  · have hyl : ys.length = i := by rw [hys, List.length_map, List.length_take]; omega
    refine .inr ⟨⟨xs, xs[i], q1, by simp [hlt]⟩, by omega, fun x H' y => ?_⟩
    obtain ⟨e, y⟩ := y
    subst e
    have hxi := y xs q1
    unfold tYes; dsimp only
    rw [if_pos rfl]
    refine (hx i x _ _ hxi s1 ⟨upd_same, xs.length - (i + 1), by omega, rfl, hlt, ?_, by rw [upd_upd]⟩)
    rw [List.take_add_one, List.map_append, ← hys, hxi]; rfl
  · have e : i = xs.length := by omega
    subst e
    refine .inl ⟨⟨xs, q1, Nat.le_refl _⟩, ?_⟩
    rw [hys, List.take_length]
    exact q D hD
def tJoin (t : TS) : TS := fun D σ H => ∃ J : St → Hp → Prop, t { D with nx := J } σ H ∧ ∀ σ' H', J σ' H' → D.nx σ' H'
theorem ps_join {X : Cx} {st : Stmt} {t : TS} (h : PS X st t) : PS X st (tJoin t) := by
  intro pins s σ H D I q
  obtain ⟨J, q, hJ⟩ := q
  refine thn (h pins s σ H _ I q) fun f s' z => ?_
  cases f with
  | next => obtain ⟨σ', H', I', z⟩ := z; exact ⟨σ', H', I', hJ _ _ z⟩
  | brk => exact z
  | cont => exact z
  | ret v => exact z
theorem i_join {t : TS} {D : Ends} {σ : St} {H : Hp} (J : St → Hp → Prop) (h1 : t { D with nx := J } σ H) (h2 : ∀ σ' H', J σ' H' → D.nx σ' H') : tJoin t D σ H := ⟨J, h1, h2⟩
theorem i_sl {r : V → Option Int → Option Int → Hp → VK → Prop} {te : TE} {tl th : TO} {σ : St} {H : Hp} {Q : VK} (q : te σ H fun x H1 => tl σ H1 fun l H2 => th σ H2 fun u H3 => r x l u H3 Q) : tSl r te tl th σ H Q := q
theorem i_noPart {σ : St} {H : Hp} {Q : Option Int → Hp → Prop} (q : Q none H) : tNoPart σ H Q := q
theorem i_part {t : TE} {σ : St} {H : Hp} {Q : Option Int → Hp → Prop} (q : t σ H fun x H1 => ∃ i, x = .int i ∧ Q (some i) H1) : tPart t σ H Q := q
theorem i_partI {i : Int} {P : Int → Prop} (q : P i) : ∃ j, V.int i = .int j ∧ P j := ⟨i, rfl, q⟩
structure New (H : Hp) (p : Addr) (o : HO) (H2 : Hp) : Prop where
  free : H p = none
  eq : H2 = upd H p o
theorem New.at {H H2 : Hp} {p : Addr} {o : HO} (n : New H p o H2) : H2 p = some o := by rw [n.eq]; exact upd_same
theorem New.same {H H2 : Hp} {p : Addr} {o : HO} (n : New H p o H2) : Same H H2 := by rw [n.eq]; exact Same.new n.free
theorem New.lst {K : PySem.W.Frag} {H H2 : Hp} {p : Addr} {xs : List V} (n : New H p (.lst xs) H2) : SqL K H2 p xs := .inl (.inl n.at)
theorem New.tup {K : PySem.W.Frag} {H H2 : Hp} {p : Addr} {xs : List V} (n : New H p (.tup xs) H2) : SqT K H2 p xs := .inl (.inl n.at)
theorem Same.tup {K : PySem.W.Frag} {H H' : Hp} {a : Addr} {xs : List V} (e : Same H H') (h : SqT K H a xs) : SqT K H' a xs := by
  rcases h with (h | ⟨o, h⟩) | h
  · exact .inl (.inl (e _ _ h))
  · exact .inl (.inr ⟨o, e _ _ h⟩)
  · exact .inr h
section
variable {X : Cx} {es : List Expr} {t : TA} {pos : Pos}
def tTupA (t : TA) : TE := fun σ H Q => t σ H fun xs H1 => xs.length ≤ sizeLine ∧ ∀ p H2, New H1 p (.tup xs) H2 → Q (.ref p) H2
def tLstA (t : TA) : TE := fun σ H Q => t σ H fun xs H1 => xs.length ≤ sizeLine ∧ ∀ p H2, New H1 p (.lst xs) H2 → Q (.ref p) H2
theorem pe_tupA {x1} (h : PA X es t) : PE X (.Tuple es x1 pos) (tTupA t) := by
  intro pins s σ H Q I hq
  refine wpAny_Tuple_spliced (thn (h pos pins s σ H _ I hq) fun us s1 ⟨xs, H1, I1, r, z, q⟩ => ⟨by rw [← r.length]; exact z, ?_⟩)
  have hf : H1 s1.heap.objs.size = none := I1.hok.fresh (Nat.le_refl _)
  refine ⟨.ref s1.heap.objs.size, upd H1 s1.heap.objs.size (.tup xs), I1.laid (t' := s1.toks) (fun b u e => Heap.get?_push_of_some _ e) (Nat.le_refl _) ?_, rfl, q _ _ ⟨hf, rfl⟩⟩
  exact ⟨z, us, r, ⟨_, Heap.get?_push_size _ rfl, rfl, _, rfl⟩⟩
theorem pe_lstA (h : PA X es t) : PE X (.List es pos) (tLstA t) := by
  intro pins s σ H Q I hq
  refine wpAny_List_spliced (thn (h pos pins s σ H _ I hq) fun us s1 ⟨xs, H1, I1, r, z, q⟩ => ⟨by rw [← r.length]; exact z, ?_⟩)
  have hf : H1 s1.heap.objs.size = none := I1.hok.fresh (Nat.le_refl _)
  refine ⟨.ref s1.heap.objs.size, upd H1 s1.heap.objs.size (.lst xs), I1.laid (t' := s1.toks) (fun b u e => Heap.get?_push_of_some _ e) (Nat.le_refl _) ?_, rfl, q _ _ ⟨hf, rfl⟩⟩
  exact ⟨z, us, 0, r, Heap.get?_push_size _ rfl⟩
theorem CallR.imp {f : Value} {r r' : List V → Hp → VK → Prop} (h : CallR X f r) (i : ∀ xs H Q, r' xs H Q → r xs H Q) : CallR X f r' := fun pins s σ H xs us Q I rv q => h pins s σ H xs us Q I rv (i _ _ _ q)
def rListA (K : PySem.W.Frag) : List V → Hp → VK → Prop := fun xs H Q => ∃ p ys, xs = [.ref p] ∧ (SqL K H p ys ∨ SqT K H p ys) ∧ ∀ l H2, New H l (.lst ys) H2 → Q (.ref l) H2
theorem call_listA : CallR X (.type "list") (rListA X.K) := call_list_of.imp fun xs H Q ⟨p, ys, e, h, q⟩ => ⟨p, ys, e, h, fun l hl => q l _ ⟨hl, rfl⟩⟩
def rTupleA (K : PySem.W.Frag) : List V → Hp → VK → Prop := fun xs H Q => ∃ p ys, xs = [.ref p] ∧ ((SqL K H p ys ∧ ∀ l H2, New H l (.tup ys) H2 → Q (.ref l) H2) ∨ (SqT K H p ys ∧ Q (.ref p) H))
theorem call_tupleA : CallR X (.type "tuple") (rTupleA X.K) := call_tuple_of.imp fun xs H Q ⟨p, ys, e, h⟩ => ⟨p, ys, e, h.imp (fun ⟨a, q⟩ => ⟨a, fun l hl => q l _ ⟨hl, rfl⟩⟩) id⟩
def rSlLA (K : PySem.W.Frag) : V → Option Int → Option Int → Hp → VK → Prop := fun x lo hi H Q => ∃ a xs, x = .ref a ∧ SqL K H a xs ∧ ∀ p H2, New H p (.lst (cutV xs lo hi)) H2 → Q (.ref p) H2
theorem sl_listA : SlR X (rSlLA X.K) := fun pins s σ H x v vl vu lo hi sl Q I rx hs pl pu ⟨a, xs, e, h, q⟩ => sl_list pins s σ H x v vl vu lo hi sl Q I rx hs pl pu ⟨a, xs, e, h, fun p hp => q p _ ⟨hp, rfl⟩⟩
end
section
variable {K : PySem.W.Frag} {σ : St} {H : Hp} {Q : VK} {p : Addr} {xs : List V}
theorem i_lstA {t : TA} (q : t σ H fun xs H1 => xs.length ≤ sizeLine ∧ ∀ p H2, New H1 p (.lst xs) H2 → Q (.ref p) H2) : tLstA t σ H Q := q
theorem i_tupA {t : TA} (q : t σ H fun xs H1 => xs.length ≤ sizeLine ∧ ∀ p H2, New H1 p (.tup xs) H2 → Q (.ref p) H2) : tTupA t σ H Q := q
theorem i_listAL (h : SqL K H p xs) (q : ∀ l H2, New H l (.lst xs) H2 → Q (.ref l) H2) : rListA K [.ref p] H Q := ⟨p, xs, rfl, .inl h, q⟩
theorem i_tupleAL (h : SqL K H p xs) (q : ∀ l H2, New H l (.tup xs) H2 → Q (.ref l) H2) : rTupleA K [.ref p] H Q := ⟨p, xs, rfl, .inl ⟨h, q⟩⟩
theorem i_tupleAT (h : SqT K H p xs) (q : Q (.ref p) H) : rTupleA K [.ref p] H Q := ⟨p, xs, rfl, .inr ⟨h, q⟩⟩
theorem i_slLA {lo hi : Option Int} (h : SqL K H p xs) (q : ∀ l H2, New H l (.lst (cutV xs lo hi)) H2 → Q (.ref l) H2) : rSlLA K (.ref p) lo hi H Q := ⟨p, xs, rfl, h, q⟩
end
structure NewI (H : Hp) (x dx C : Addr) (fs : List (Str × V)) (H2 : Hp) : Prop where
  fx : H x = none
  fd : H dx = none
  ne : dx ≠ x
  eq : H2 = upd (upd H dx (.own x)) x (.ins C dx fs)
theorem NewI.at {H H2 : Hp} {x dx C : Addr} {fs : List (Str × V)} (n : NewI H x dx C fs H2) : H2 x = some (.ins C dx fs) := by rw [n.eq]; exact upd_same
theorem NewI.same {H H2 : Hp} {x dx C : Addr} {fs : List (Str × V)} (n : NewI H x dx C fs H2) : Same H H2 := by
  rw [n.eq]; exact Same.upd (Same.new n.fd) (by rw [upd_ne n.ne.symm]; exact n.fx)
theorem i_iteSe {x y : Str} {A B : Prop} (n : x = y) (q : A) : if decide (V.str x = V.str y) = true then A else B := by
  rw [decide_eq_true (congrArg V.str n)]; exact iteT q
theorem lcL {K : PySem.W.Frag} {a : Addr} {te : TE} {cs : St} {H1 : Hp} {Q : Addr → Hp → Prop} (xs : List V) (f : V → V) (hS : SqL K H1 a xs) (hz : xs.length ≤ sizeLine)
    (hx : ∀ (i : Nat) (v : V) (H' : Hp) (R : VK), xs[i]? = some v → Same H1 H' → R (f v) H' → te (some v :: cs) H' R) (q : ∀ D H2, New H1 D (.lst (xs.map f)) H2 → Q D H2) :
    ∃ a', V.ref a = .ref a' ∧ (∃ xs, SqL K H1 a' xs) ∧ ∀ D, H1 D = none → ∃ W : Nat → Nat → List V → Hp → Prop, (∃ m, W 0 m [] (upd H1 D (.lst []))) ∧ ∀ i m ys H, W i m ys H →
      H D = some (.lst ys) ∧ (((Itl K a').stop i H ∧ Q D H) ∨ ((Itl K a').go i H ∧ ys.length < sizeLine ∧ ∀ x H', (Itl K a').yld i H x H' → tYes (some x :: cs) H' fun b H2 =>
        if b = true then te (some x :: cs) H2 fun y H3 => H3 D = some (.lst ys) ∧ ∃ m', m' < m ∧ W (i + 1) m' (ys ++ [y]) (upd H3 D (.lst (ys ++ [y]))) else ∃ m', m' < m ∧ W (i + 1) m' ys H2)) :=
  ⟨a, rfl, ⟨xs, hS⟩, fun D hD => by
    obtain ⟨W, w0, h⟩ := lc_list (K := K) (Q := fun v H => ∃ D, v = .ref D ∧ Q D H) (te := te) (cs := cs) f hS hz hx (fun D hD => ⟨D, rfl, q D _ ⟨hD, rfl⟩⟩) D hD
    refine ⟨W, w0, fun i m ys H w => ?_⟩
    obtain ⟨a1, a2⟩ := h i m ys H w
    refine ⟨a1, a2.imp (fun ⟨st, D', e, q'⟩ => ⟨st, ?_⟩) id⟩
    cases e; exact q'⟩
theorem sqL_inj_of {K : PySem.W.Frag} {a : Addr} {xs : List V} {H : Hp} (h : H a = some (.lst xs)) : SqL K H a xs := .inl (.inl h)
end L2
namespace Lap
open PySem L2
end Lap
set_option Elab.async false
set_option linter.all false
set_option maxRecDepth 100000
namespace L2
open PySem PySem.Spec PyProof.Rows
section
variable {X : Cx} {pins : List (Addr × Obj)} {σ : St} {H : Hp} {s : Shared}
theorem Inv.slots {h' : Heap} (I : Inv X pins σ H s) (k : Heap.SlotsOnly (frs X.stack) s.heap h') : Inv X pins σ H { s with heap := h' } := by
  have hok : HOk X.prog X.w H h' := fun b u e => (I.hok b u e).stay (fun c v hc q => (k.2.1 c fun hm => by
    have hn := I.stkFree c hm
    rcases hc with z | z
    · rw [z, e] at hn; cases hn
    · rw [z] at hn; cases hn).trans q) (fun _ q => q) fun _ _ q => q
  refine I.call' (s' := { s with heap := h' }) (ch := []) rfl ⟨fun b o q _ hb _ => (k.2.1 b hb).trans q, fun b o q _ _ _ => k.2.2 b o q, fun _ _ _ n _ => n, fun b o q _ => ?_, fun _ _ q => q, fun _ _ _ q => q, fun b ps q => ⟨#[], by rw [q]; simp⟩⟩ hok I.bare fun _ z => nomatch z
  obtain ⟨sl, e⟩ := k.2.2 b o q
  exact ⟨_, e⟩
theorem Inv.rec' {a : Addr} {h' : Heap} (I : Inv X pins σ H s) (f : FpOk X pins H a) (k : ∀ b, b ≠ a → h'.get? b = s.heap.get? b) : Inv X pins σ H { s with heap := h' } := by
  obtain ⟨f0, f1, f2, f3, f4, f5⟩ := f
  exact I.turned (t' := s.toks) (fun b o hb e => (k b hb).trans e) f0 f1 f3 f4 f5
end
def TbAt (P : Addr → Prop) (h : Heap) (e : Addr) (c : Value) (d : Option Addr) : Option Value → Prop
  | none => ∃ sl vs, h.get? e = some ⟨c, d, .fields vs, sl⟩ ∧ vs[1]? = some .none
  | some fl => ∃ sl vs T oT ts, h.get? e = some ⟨c, d, .fields vs, sl⟩ ∧ vs[1]? = some (.ref T) ∧ P T ∧ T ≠ e ∧ h.get? T = some oT ∧ oT.data = .fields ts ∧ ts[3]? = some fl
theorem TbAt.there {P : Addr → Prop} {h : Heap} {e : Addr} {c : Value} {d : Option Addr} {fl : Option Value} (x : TbAt P h e c d fl) : ∃ sl vs, h.get? e = some ⟨c, d, .fields vs, sl⟩ := by
  cases fl with
  | none => obtain ⟨sl, vs, q, _⟩ := x; exact ⟨sl, vs, q⟩
  | some v => obtain ⟨sl, vs, T, oT, ts, q, _⟩ := x; exact ⟨sl, vs, q⟩
structure Exc (X : Cx) (pins : List (Addr × Obj)) (σ : St) (H : Hp) (s : Shared) (e : Addr) (c : Value) (d : Option Addr) (fl : Option Value) : Prop where
  inv : Inv X pins σ H s
  fe : FpOk X pins H e
  tb : TbAt (FpOk X pins H) s.heap e c d fl
section
variable {X : Cx} {pins : List (Addr × Obj)} {σ : St} {H : Hp} {s : Shared} {e : Addr} {c : Value} {d : Option Addr} {M : Model} {E : Value → Shared → Prop} {Q : Unit → Shared → Prop}
theorem upd_rec {h : Heap} {a : Addr} {cl : Value} {dd : Option Addr} {vs : Array Value} {sl : Array (Option Value)} (ho : h.get? a = some ⟨cl, dd, .fields vs, sl⟩) (f : Array Value → Array Value) : (h.update a (Obj.mapFields f)).get? a = some ⟨cl, dd, .fields (f vs), sl⟩ :=
  Heap.get?_update_self _ ho rfl
theorem note_entry {hadNext : Bool} {head : Value} {vs : Array Value} {sl : Array (Option Value)} (hst : X.stack = X.env :: X.outer) (hf : X.env.frame = some X.env.locals) (I : Inv X pins σ H s) (fe : FpOk X pins H e)
    (he : s.heap.get? e = some ⟨c, d, .fields vs, sl⟩) (hsz : 1 < vs.size)
    (h : ∀ s', Exc X pins σ H s' e c d (some (rawInt X.env.locals)) → Q () s') :
    wpAny M X.A (do setField (.ref e) 1 (← EntryCells.newEntry head (← frameOf X.env) .none (rawInt X.env.locals) .none (← entryPlaceOf X.env.locals hadNext))) Q E s := by
  have hl : s.heap.FunFrames X.base (X.env :: X.outer) := hst ▸ I.stack
  have hfr : X.A.frames = some (X.env :: X.outer) := by rw [I.ok.frames, hst]
  refine wpAny_bind (wpAny_frameOf_fun hfr hl hf fun h₁ hs₁ => ?_)
  have hs₁' : Heap.SlotsOnly (frs X.stack) s.heap h₁ := by rw [hst]; exact hs₁
  have I1 := I.slots hs₁'
  have ene : e ∉ frs X.stack := fun z => by
    rcases List.mem_cons.mp (I.stkSub e z) with q | q
    · exact fe.2.1 q
    · exact fe.2.2.1 q
  have he1 : h₁.get? e = some ⟨c, d, .fields vs, sl⟩ := (hs₁'.2.1 e ene).trans he
  refine wpAny_bind (wpAny_entryPlaceOf fun pl hpl => ?_)
  unfold EntryCells.newEntry newFields
  refine wpAny_bind (wpAny_newObj_type ?_ (hpl.sizeOk5 _ _ _ _ _))
  generalize hts : ([head, Value.ref X.env.locals, Value.none, rawInt X.env.locals, Value.none] ++ (if pl.isEmpty then List.replicate 6 Value.none else pl)).toArray = ts
  have h3 : ts[3]? = some (rawInt X.env.locals) := by rw [← hts]; rfl
  have I2 : Inv X pins σ H { s with heap := h₁.push { cls := .type "traceback", dict := none, data := .fields ts } } := I1.kept (t' := s.toks) fun b o q => Heap.get?_push_of_some _ q
  have he2 := Heap.get?_push_of_some (h := h₁) { cls := .type "traceback", dict := none, data := .fields ts } he1
  refine wpAny_setField he2 rfl hsz (h _ ⟨I2.rec' fe fun b hb => Heap.get?_update_other _ _ (Ne.symm hb), fe, ?_⟩)
  have hTe : h₁.objs.size ≠ e := Nat.ne_of_gt (Heap.lt_size he1)
  refine ⟨sl, _, h₁.objs.size, { cls := .type "traceback", dict := none, data := .fields ts }, ts, upd_rec he2 _, by simp [hsz], I1.fpOk (Nat.le_refl _) (I1.hok.fresh (Nat.le_refl _)), hTe, ?_, rfl, h3⟩
  rw [Heap.get?_update_other _ _ (Ne.symm hTe)]
  exact Heap.get?_push_size h₁ rfl
theorem Exc.note {fl : Option Value} (hst : X.stack = X.env :: X.outer) (hf : X.env.frame = some X.env.locals) (x : Exc X pins σ H s e c d fl) (hfl : fl = none ∨ fl = some .none ∨ fl = some (rawInt X.env.locals))
    (h : ∀ s', Exc X pins σ H s' e c d (some (rawInt X.env.locals)) → Q () s') : wpAny M X.A (noteFrame (.ref e) X.env) Q E s := by
  obtain ⟨I, fe, tb⟩ := x
  unfold noteFrame
  simp only [hf]
  rcases hfl with z | z | z
  · subst z
    obtain ⟨sl, vs, he, h1⟩ := tb
    refine wpAny_bind (wpAny_field he rfl h1 ?_)
    rw [if_neg (by decide)]
    exact note_entry hst hf I fe he (Array.getElem?_eq_some_iff.mp h1).1 h
  · subst z
    obtain ⟨sl, vs, T, oT, ts, he, h1, fT, hTe, hT, hdT, h3⟩ := tb
    refine wpAny_bind (wpAny_field he rfl h1 ?_)
    rw [if_pos (show (Value.ref T != Value.none) = true from by simp)]
    refine wpAny_bind (wpAny_field hT hdT h3 ?_)
    rw [if_neg (show ¬ ((Value.none == rawInt X.env.locals) = true) from by simp [rawInt])]
    refine wpAny_bind (wpAny_setField hT hdT (Array.getElem?_eq_some_iff.mp h3).1 ?_)
    have I1 := I.rec' (h' := s.heap.update T (Obj.mapFields (·.setIfInBounds 3 .none))) fT fun b hb => Heap.get?_update_other _ _ (Ne.symm hb)
    exact note_entry (s := { s with heap := _ }) hst hf I1 fe ((Heap.get?_update_other _ _ hTe).trans he) (Array.getElem?_eq_some_iff.mp h1).1 h
  · subst z
    obtain ⟨sl, vs, T, oT, ts, he, h1, fT, hTe, hT, hdT, h3⟩ := tb
    refine wpAny_bind (wpAny_field he rfl h1 ?_)
    rw [if_pos (show (Value.ref T != Value.none) = true from by simp)]
    refine wpAny_bind (wpAny_field hT hdT h3 ?_)
    rw [if_pos (show (rawInt X.env.locals == rawInt X.env.locals) = true from by simp)]
    exact wpAny_pure (h s ⟨I, fe, sl, vs, T, oT, ts, he, h1, fT, hTe, hT, hdT, h3⟩)
theorem Exc.fly {fl : Value} {to : Option Addr} (x : Exc X pins σ H s e c d (some fl)) (h : ∀ s', Exc X pins σ H s' e c d (some (to.elim .none fun f => rawInt f)) → Q () s') : wpAny M X.A (setFlight (.ref e) to) Q E s := by
  obtain ⟨I, fe, sl, vs, T, oT, ts, he, h1, fT, hTe, hT, hdT, h3⟩ := x
  unfold setFlight
  refine wpAny_bind (wpAny_field he rfl h1 ?_)
  rw [if_pos (show (Value.ref T != Value.none) = true from by simp)]
  have hsz : 3 < ts.size := (Array.getElem?_eq_some_iff.mp h3).1
  refine wpAny_setField hT hdT hsz (h _ ⟨I.rec' fT fun b hb => Heap.get?_update_other _ _ (Ne.symm hb), fe, sl, vs, T, _, _, (Heap.get?_update_other _ _ hTe).trans he, h1, fT, hTe, Heap.get?_update_self _ hT (Obj.isFreed_of_fields (Obj.data_mapFields hdT _)), Obj.data_mapFields hdT _, by simp [hsz]⟩)
end
theorem ObjOk.get {P : Program} {w : World} {H : Hp} {h : Heap} {a : Addr} {o : HO} (x : ObjOk P w H h a o) : ∃ ob, h.get? a = some ob := by
  induction o with
  | lst xs => obtain ⟨_, _, _, _, e⟩ := x; exact ⟨_, e⟩
  | tup xs => obtain ⟨_, _, _, ob, e, _⟩ := x; exact ⟨_, e⟩
  | dK kvs => obtain ⟨_, _, _, _, ob, _, _, e, _⟩ := x; exact ⟨_, e⟩
  | dT kvs => obtain ⟨_, _, _, _, ob, _, _, e, _⟩ := x; exact ⟨_, e⟩
  | set S n => obtain ⟨ob, _, _, _, e, _⟩ := x; exact ⟨_, e⟩
  | ins C dx fs => obtain ⟨_, _, _, e, _⟩ := x; exact ⟨_, e⟩
  | own y => exact x
  | xd fs => obtain ⟨_, ⟨od, _, _, e, _⟩, _⟩ := x; exact ⟨_, e⟩
  | rng lo hi => obtain ⟨_, _, _, e⟩ := x; exact ⟨_, e⟩
  | frz ob u ih => exact ⟨_, x.1⟩
  | tbl ps => exact ⟨_, x⟩
  | met f y => exact ⟨_, x⟩
  | ext φ => exact x.2.1
section
variable {X : Cx} {pins : List (Addr × Obj)} {σ : St} {H H' : Hp} {s : Shared} {b : Addr}
theorem Inv.noObj (I : Inv X pins σ H s) (hb : s.heap.get? b = none) : H b = none := by
  cases q : H b with
  | none => rfl
  | some u => obtain ⟨ob, e⟩ := (I.hok b u q).get; rw [hb] at e; cases e
theorem Inv.fpNew (I : Inv X pins σ H s) (hb : s.heap.get? b = none) (hn : H' b = none) : FpOk X pins H' b := by
  obtain ⟨m, ⟨oL, _, _, hoL, _⟩, _⟩ := I.loc
  refine ⟨hn, fun z => ?_, fun z => ?_, ?_, fun x c e z => ?_, fun p hp z => ?_⟩
  · rw [z, hoL] at hb; cases hb
  · obtain ⟨_, o, ho, _⟩ := I.funs.mem z
    rw [ho] at hb; cases hb
  · by_cases hx : b ∈ X.ex
    · exact .inl hx
    · refine .inr ?_
      cases q : X.s₀.heap.get? b with
      | none => rfl
      | some o => obtain ⟨o', e⟩ := I.base.there b o q hx; rw [hb] at e; cases e
  · obtain ⟨v, o, ho, _⟩ := I.cell x c e
    rw [z, hb] at ho; cases ho
  · have := (I.pin p hp).1
    rw [z, hb] at this; cases this
theorem FpOk.nil (f : FpOk X pins H b) : FpOk X.nox [] H b := by
  obtain ⟨f0, f1, f2, f3, f4, f5⟩ := f
  exact ⟨f0, f1, f2, f3, f4, fun p hp => f5 p (List.mem_append_left _ (by simpa using hp))⟩
theorem Inv.nil (I : Inv X pins σ H s) : Inv X.nox [] σ H s := (I.pins_of (pins' := []) fun _ z => nomatch z).wish _
theorem TbAt.imp {P P' : Addr → Prop} {h : Heap} {e : Addr} {c : Value} {d : Option Addr} {fl : Option Value} (x : TbAt P h e c d fl) (i : ∀ T, P T → P' T) : TbAt P' h e c d fl := by
  cases fl with
  | none => exact x
  | some v => obtain ⟨sl, vs, T, oT, ts, h1, h2, h3, r⟩ := x; exact ⟨sl, vs, T, oT, ts, h1, h2, i T h3, r⟩
end
abbrev XS := St → Value → Option Addr → Hp → Prop
def flOk (X : Cx) (fl : Option Value) : Prop := fl = none ∨ fl = some .none ∨ fl = some (rawInt X.env.locals)
def xeOf (X : Cx) (ES : XS) : Value → Shared → Prop := fun v s' => ∃ e c d fl σ H, v = .ref e ∧ Exc X.nox [] σ H s' e c d fl ∧ flOk X fl ∧ ES σ c d H
structure OwnFr (X : Cx) : Prop where
  st : X.stack = X.env :: X.outer
  fr : X.env.frame = some X.env.locals
theorem passes_own {X : Cx} {ES : XS} (hO : OwnFr X) : PassesOwn (model X.prog X.w) X.A X.env (xeOf X ES) := by
  rintro v s' ⟨e, c, d, fl, σ, H, rfl, x, hfl, q⟩
  refine x.note (X := X.nox) hO.st hO.fr hfl fun s1 x1 => ?_
  obtain ⟨sl, vs, T, oT, ts, he, h1, r⟩ := id x1.tb
  show wpAny _ _ (field (.ref e) 1 >>= _) _ _ _
  refine wpAny_bind (wpAny_field he rfl h1 ?_)
  rw [if_neg (by simp)]
  refine x1.fly (X := X.nox) fun s2 x2 => ⟨e, c, d, _, σ, H, rfl, x2, ?_, q⟩
  exact .inr (.inr (by rw [show X.nox.env.frame = some X.env.locals from hO.fr]; rfl))
def CX1 (P : Program) (w : World) : CXT := fun outer H s E v s' => ∃ e c d H', v = .ref e ∧ s'.os = s.os ∧ AllBare s'.gens ∧ Un (frs outer) [] H H' s.heap s'.heap ∧ HOk P w H' s'.heap ∧ (s.heap.get? e = none ∧ H' e = none) ∧
  TbAt (fun T => s.heap.get? T = none ∧ H' T = none) s'.heap e c d (some .none) ∧ E c d H'
theorem leave_x {P : Program} {w : World} {K : PySem.W.Frag} {mg : Str → Option Value} {base : Heap} {N : List Str} {qual : Str} {scope : Scope} {f : Addr} {cd : Value} {A : Around} {outer : List Env} {s : Shared} {H : Hp} {E : XK} {v : Value} {s' : Shared}
    (h : xeOf (cxOf (CX1 P w) P w K mg base N qual scope f cd A outer s H E) (fun _ c d H' => E c d H') v s') : (cxOf (CX1 P w) P w K mg base N qual scope f cd A outer s H E).xe v s' := by
  obtain ⟨e, c, d, fl, σ, H', rfl, x, hfl, q⟩ := h
  show wpAny _ _ (leaving _ _) _ _ _
  unfold leaving
  refine wpAny_bind (x.note (X := (cxOf (CX1 P w) P w K mg base N qual scope f cd A outer s H E).nox) rfl rfl hfl fun s1 x1 => ?_)
  refine x1.fly (to := none) fun s2 x2 => ⟨e, c, d, H', rfl, x2.inv.os, x2.inv.bare, x2.inv.base, x2.inv.hok, ?_, x2.tb.imp fun T fT => ?_, q⟩
  · obtain ⟨f0, _, _, f3, _⟩ := x2.fe
    exact ⟨f3.resolve_left (fun z => nomatch z), f0⟩
  · obtain ⟨f0, _, _, f3, _⟩ := fT
    exact ⟨f3.resolve_left (fun z => nomatch z), f0⟩
section
variable {X : Cx} {CX : CXT} {k : Nat} {f C : Addr} {fd : FuncData} {ps : List Str} {sp : Sp} {ES : XS} {x m : Str} {p pos apos : Pos} {e o : Expr} {es : List Expr} {ta : TE} {t : TA}
theorem run_fnX {pins : List (Addr × Obj)} {σ : St} {H : Hp} {s : Shared} {Q : VK} {us : List Value} {vs : List V} (F : FnOk X.prog X.w X.K X.mg X.base (CX1 X.prog X.w) k f fd ps sp) (hr : Room k X.A) (hb : Binds X.K fd ps []) (hx : ∀ v s, xeOf X ES v s → X.xe v s)
    (I : Inv X pins σ H s) (r : Vals vs us) (h : sp (vs ++ []) H Q (ES σ)) : wpAny (model X.prog X.w) X.A (call (.ref f) us) (EP X pins σ Q) X.xe s := by
  have r2 : Vals (vs ++ []) (us ++ []) := r.append .nil
  have hl : (us ++ []).length = ps.length := by rw [← r2.length]; exact F.len _ _ _ _ h
  refine wpAny_call (codeAny_mono (F.run X.A X.stack s H ⟨us, []⟩ (us ++ []) (vs ++ []) Q (ES σ) hr I.env0 (hb s us I.kIn hl) r2 h) fun r s' hq => ?_)
  cases r with
  | error e =>
    obtain ⟨e, c, d, H', rfl, os, bare, un, hok, fe, tb, q⟩ := hq
    have I1 : Inv X pins σ H' s' := I.call' os un hok bare fun _ z => nomatch z
    exact hx _ _ ⟨e, c, d, _, σ, H', rfl, ⟨I1.nil, (I.fpNew fe.1 fe.2).nil, tb.imp fun T fT => (I.fpNew fT.1 fT.2).nil⟩, .inr (.inl rfl), q⟩
  | ok fl =>
    cases fl with
    | ret u => exact I.after hq
    | next => exact False.elim hq
    | brk => exact False.elim hq
    | cont => exact False.elim hq
structure DfX (P : Program) (w : World) (K : PySem.W.Frag) (mg : Str → Option Value) (base : Heap) (k : Nat) (x : Str) (ps : List Str) (sp : Sp) : Prop where
  ex : ∃ f fd, mg x = some (.ref f) ∧ PySem.W.keepIn K (.ref f) = true ∧ Binds K fd ps [] ∧ FnOk P w K mg base (CX1 P w) k f fd ps sp
def tCallX (sp : Sp) (ES : XS) (t : TA) : TE := fun σ H Q => t σ H fun vs H1 => sp (vs ++ []) H1 Q (ES σ)
theorem pe_callX (D : DfX X.prog X.w X.K X.mg X.base k x ps sp) (hr : Room k X.A) (hx : ∀ v s, xeOf X ES v s → X.xe v s) (hg : Gl X x) (ha : PA X (e :: es) t)
    (hdb : (x == ("__debug__" : Str)) = false := by decide) (he : starEach (e :: es) X.env = (false, eval e X.env) :: starEach es X.env := by rfl) (hpl : (backTo pos (starEach es X.env)).any (·.1) = false := by rfl) :
    PE X (.Call (.Name x p) (e :: es) [] pos) (tCallX sp ES t) := by
  obtain ⟨f, fd, hm, hk, hb, F⟩ := D.ex
  intro pins s σ H Q I h
  refine wpAny_Call_Name_kw (ld_glob I hg hm ?_ hdb)
  refine PySem.W.callWith_K (h₀ := X.base) I.ok.mod.kin hk (thn (ha pos pins s σ H _ I h) fun us s1 ⟨vs, H1, I1, r, q⟩ => ⟨I1.kIn, ?_⟩) he hpl
  exact run_fnX F hr hb hx I1 r q
theorem i_callX {σ : St} {H : Hp} {Q : VK} (q : t σ H fun vs H1 => sp (vs ++ []) H1 Q (ES σ)) : tCallX sp ES t σ H Q := q
end
theorem PSs.weak {X : Cx} {E E' : Value → Shared → Prop} {st : List Stmt} {t : TS} (h : PSs (X.wish E) st t) (i : ∀ v s, E v s → E' v s) : PSs (X.wish E') st t := fun pins s σ H D I hw =>
  wpAny_mono (h pins s σ H D (I.unwish.wish _) hw) (fun f s' q => by
    have q' := SP.unwish (X := X) q
    cases f with
    | next => obtain ⟨σ', H', I, q⟩ := q'; exact ⟨σ', H', I.wish _, q⟩
    | brk => obtain ⟨σ', H', I, q⟩ := q'; exact ⟨σ', H', I.wish _, q⟩
    | cont => obtain ⟨σ', H', I, q⟩ := q'; exact ⟨σ', H', I.wish _, q⟩
    | ret u => obtain ⟨v, σ', H', I, r, q⟩ := q'; exact ⟨v, σ', H', I.wish _, r, q⟩) i
abbrev cxX (P : Program) (w : World) (K : PySem.W.Frag) (mg : Str → Option Value) (base : Heap) (N : List Str) (qual : Str) (scope : Scope) (f : Addr) (cd : Value) (A : Around) (outer : List Env) (s : Shared) (H : Hp) (E : XK) : Cx :=
  (cxOf (CX1 P w) P w K mg base N qual scope f cd A outer s H E).wish (xeOf (cxOf (CX1 P w) P w K mg base N qual scope f cd A outer s H E) fun _ c d H' => E c d H')
section
variable {P : Program} {w : World} {K : PySem.W.Frag} {mg : Str → Option Value} {base : Heap}
theorem Fun.okX {x qual : Str} {st : Stmt} {f : Addr} {fd : FuncData} {N ps : List Str} {k : Nat} {sp : Sp} (F : Fun K x qual st f fd) (S : FnScope N ps (defScope st)) (len : ∀ vs H Q E, sp vs H Q E → vs.length = ps.length)
    (hbody : ∀ (cdv : Value) (A : Around) (outer : List Env) (s : Shared) (H : Hp) (vs : List V) (Q : VK) (E : XK), Room k (A.deeper (envOfC qual (defScope st) s.heap.objs.size f cdv)) → sp vs H Q E →
      ∃ t, PSs (cxX P w K mg base N qual (defScope st) f cdv A outer s H E) (defBody st) t ∧ t { nx := fun _ H' => Q .non H', rt := Q } (start N vs) H) : FnOk P w K mg base (CX1 P w) (k + 1) f fd ps sp := by
  obtain ⟨oc, od, kV, doc, pm, an, cdv, ct, osl, rfl, lk, hcd⟩ := F.ex
  refine fn_of lk hcd S len fun A outer s H vs Q E hr hsp => ?_
  obtain ⟨t, h, q⟩ := hbody cdv A outer s H vs Q E hr hsp
  exact ⟨t, PSs.weak h fun v s' z => leave_x z, q⟩
theorem HasF.dfX {k : Nat} {x : Str} {st : Stmt} {N ps : List Str} {sp : Sp} (F : HasF K x st) (Kb : K.In base) (G : base.Ns mainGlobals mg) (S : FnScope N ps (defScope st))
    (hbi : ∀ (kV doc pm : Value) (an : Option Addr) (cdv ct : Value) (us : List Value), us.length = ps.length → bindArgs (PySem.W.fnOf x x (defArgs st) (defBody st) (defScope st) .none kV doc pm an cdv ct) ⟨us, []⟩ = pure (ps.zip us))
    (len : ∀ vs H Q E, sp vs H Q E → vs.length = ps.length)
    (hbody : ∀ (f : Addr) (cdv : Value) (A : Around) (outer : List Env) (s : Shared) (H : Hp) (vs : List V) (Q : VK) (E : XK), Room k (A.deeper (envOfC x (defScope st) s.heap.objs.size f cdv)) → sp vs H Q E →
      ∃ t, PSs (cxX P w K mg base N x (defScope st) f cdv A outer s H E) (defBody st) t ∧ t { nx := fun _ H' => Q .non H', rt := Q } (start N vs) H) : DfX P w K mg base (k + 1) x ps sp := by
  obtain ⟨f, fd, a, F⟩ := F.ex
  exact ⟨f, fd, PySem.W.mg_of Kb G a, F.kp, F.binds hbi, F.okX S len (hbody f)⟩
theorem own_cxX {N : List Str} {qual : Str} {scope : Scope} {f : Addr} {cd : Value} {A : Around} {outer : List Env} {s : Shared} {H : Hp} {E : XK} : OwnFr (cxX P w K mg base N qual scope f cd A outer s H E) := ⟨rfl, rfl⟩
end
end L2
set_option Elab.async false
set_option linter.all false
set_option maxRecDepth 100000
namespace L2
open PySem PySem.Spec PySem.W PyProof.Rows
structure XCls (K : PySem.W.Frag) (C : Addr) : Prop where
  ga : findIn K (.ref C) "__getattribute__" = some (some (.builtin "BaseException.__getattribute__"))
  gt : findIn K (.ref C) "__getattr__" = some none
  bx : mroIn K C (.type "BaseException") = some true
  ob : mroIn K C (.type "object") = some true
  kc : findIn K (.ref C) "__class__" = some (some (.builtin "object.__class__"))
  kg : specialIn K (.builtin "object.__class__") "__get__" = some (some (.builtin "getset_descriptor.__get__"))
  kt : takesIn K (.builtin "object.__class__") = some true
section
variable {prog : Program} {w : World} {A : Around} {E : Value → Shared → Prop} {K : PySem.W.Frag} {h : Heap} {g : Array GenState} {d : Drawn} {t : Nat} {os : OsState} {e C : Addr} {oe : Obj} {od : Option Obj} {name : Str}
theorem ga_check {M : Model} {nameV : Value} {Q : Unit → Shared → Prop} (X : K.In h) (I : InstAt h e oe C od) (k : XCls K C) (hq : Q () ⟨h, g, d, t, os⟩) :
    wpAny M A (checkBuiltinCall "BaseException.__getattribute__" ⟨[.ref e, nameV], []⟩) Q E ⟨h, g, d, t, os⟩ := by
  have hk : builtinKind "BaseException.__getattribute__" = some .slot := by decide +kernel
  have hsplit : splitId "BaseException.__getattribute__" = some ("BaseException", "__getattribute__") := by decide +kernel
  have L : Looks M h (isInstance (.ref e) (.type "BaseException")) true := I.type.andThen (looks_mroIn X k.bx)
  have ha := F.args_bexc_ga (.ref e) nameV
  simp only [checkBuiltinCall, hk, hsplit]
  refine wpAny_bind (L.at ?_)
  repeat (first | assumption | wp_step)
  all_goals exact hq
theorem exc_by {tk : Tok} {fill expr : Bool} {Q : Value → Shared → Prop} (X : K.In h) (I : InstAt h e oe C od) (k : XCls K C)
    (hq : wpAny (model prog w) A.in1 (Builtin.«object.__getattribute__» ⟨[.ref e, .str name tk], []⟩)
      (fun fin s' => match fin with | .done (.ret v) => wpAny (model prog w) A (handedOut v) Q E s' | .done _ => False | .again c' => c'.quiet = true ∧ codeAny (model prog w) A c' (fun r s' => match r with | .ok (.ret v) => wpAny (model prog w) A (handedOut v) Q E s' | _ => False) s') (fun _ _ => False) ⟨h, g, d, t, os⟩) :
    wpAny (model prog w) A (getAttrBy (.ref e) (.str name tk) fill expr) Q E ⟨h, g, d, t, os⟩ := by
  have L0 := I.type (M := model prog w)
  have L1 := looks_findIn (M := model prog w) X k.ga
  have L2 := looks_findIn (M := model prog w) X k.gt
  have f3 := PySem.F.attr_ValueError.ga.bind (.ref e)
  have hx0 : (expr && onTheHeap (Value.builtin "BaseException.__getattribute__")) = false := by cases expr <;> rfl
  have hx2 : (Value.builtin "BaseException.__getattribute__" == Value.builtin "object.__getattribute__") = false := by decide +kernel
  unfold getAttrBy
  refine wpAny_holding (wpAny_bind (L0.at (wpAny_bind (L1.at ?_))))
  dsimp only
  rw [hx2, Bool.and_false, if_neg (by decide)]
  unfold getAttrByItsOwn hookBefore callGetattribute
  show wpAny _ _ (typeLookup (.ref C) "__getattr__" >>= _) _ _ _
  refine wpAny_bind (L2.at ?_)
  rw [if_neg (by rw [hx0]; decide)]
  unfold boundAndCalled
  refine wpAny_bind (wpAny_attempt (wpAny_holding (wpAny_bind (wpAny_of_eq f3 ?_))))
  refine wpAny_call (codeAny_call_builtin PySem.F.attr_ValueError.ga.plain F.entry_bexc_ga (ga_check X I k (wpAny_mono hq (fun fin s' z => ?_) fun _ _ z => z.elim)))
  cases fin with
  | done f => cases f <;> first | exact z | exact z.elim
  | again c =>
    refine ⟨z.1, codeAny_mono z.2 fun r s'' zz => ?_⟩
    cases r with
    | ok f => cases f <;> first | exact zz | exact zz.elim
    | error x => exact zz.elim
theorem exc_class {Q : Option Value → Shared → Prop} (X : K.In h) (I : InstAt h e oe C od) (hc : (clsIn K C).isSome = true) (k : XCls K C) (hq : Q (some (.ref C)) ⟨h, g, d, t + 1, os⟩) :
    wpAny (model prog w) A (getAttr? (.ref e) "__class__") Q E ⟨h, g, d, t, os⟩ := by
  have hf : findObj K C od "__class__" = some (.bind (.builtin "getset_descriptor.__get__") (.builtin "object.__class__")) := by
    obtain ⟨cd, hc⟩ := Option.isSome_iff_exists.mp hc
    unfold findObj
    rw [hc, Option.bind_some, k.kc, Option.bind_some]
    simp [k.kg, k.kt]
  have L0 := I.type (M := model prog w)
  have L3 := looks_find (M := model prog w) X I hf
  unfold getAttr? getAttrBy?
  refine wpAny_bind (wpAny_mkText (wpAny_bind (wpAny_attempt ?_)))
  refine exc_by X I k ?_
  unfold Builtin.«object.__getattribute__»
  refine wpAny_bind (m := slotArgs "__getattribute__" 1 _) (wpAny_of_eq (a := (.ref e, [.str "__class__" t])) rfl ?_)
  dsimp only
  refine wpAny_bind (m := Builtin.ObjectAttr.attrName _) (wpAny_of_eq (a := ("__class__" : Str)) rfl ?_)
  refine wpAny_bind (L0.at (wpAny_bind (L3.at ?_)))
  dsimp only
  show wpAny _ _ (holding [Value.builtin "object.__class__"] (call (.builtin "getset_descriptor.__get__") [.builtin "object.__class__", .ref e, .ref C]) >>= ret) _ _ _
  refine wpAny_bind (wpAny_holding (wpAny_call (class_get (ox := oe) (od := od) X I k.ob ?_)))
  exact wpAny_pure (handed_on rfl (wpAny_pure hq))
theorem kitx_exc (hc : (clsIn K C).isSome = true) (k : XCls K C) : KitX K (.ref e) (.ref C) (fun h => ∃ oe od, InstAt h e oe C od) where
  ty := fun _ _ _ ⟨_, _, I⟩ => I.type
  it := fun _ _ X _ => by
    obtain ⟨cd, hcD⟩ := Option.isSome_iff_exists.mp hc
    unfold clsIn at hcD
    split at hcD
    · rename_i c' d' cd' sl' ho
      intro A' Q' E' s' kk q
      unfold isType loadHead
      exact wpAny_bind (wpAny_loadPart (kk _ _ (X _ _ ho)) (wpAny_pure q))
    · cases hcD
  ne := fun h tp dd its n sl X htp => by
    obtain ⟨cd, hcD⟩ := Option.isSome_iff_exists.mp hc
    refine Bool.eq_false_iff.mpr fun q => ?_
    have ee : C = tp := Value.ref.inj (beq_iff_eq.mp q)
    subst ee
    unfold clsIn at hcD
    split at hcD
    · rename_i c' d' cd' sl' ho
      have z := (X _ _ ho).symm.trans htp
      cases z
    · cases hcD
  ca := fun {_ _ _ _ _ s} X ⟨_, _, I⟩ q => by
    obtain ⟨h, g, d, t, os⟩ := s
    exact exc_class X I hc k q
end
abbrev vBases : List Value := [.type "ValueError", .type "Exception", .type "BaseException", .type "object"]
structure HasX (K : PySem.W.Frag) (x : Str) (C : Addr) : Prop where
  ns : nsIn K mainGlobals x = some (some (.ref C))
  ex : excIn K C vBases "ValueError.__new__" = true
  xc : XCls K C
theorem XCls.isc {K : PySem.W.Frag} {C : Addr} (k : XCls K C) : (clsIn K C).isSome = true := by
  have h := k.bx
  unfold mroIn at h
  cases e : clsIn K C with
  | none => rw [e] at h; cases h
  | some cd => rfl
theorem exc_obj {K : PySem.W.Frag} {h : Heap} {C : Addr} {bmB : List Value} {newId : String} (X : K.In h) (q : excIn K C bmB newId = true) :
    ∃ bm N nm qn bs hdct sn sub ab col dd k0 k1 k2 k3 k5 mN, h.get? C = some (excClassObj nm qn C N bs bm hdct sn sub ab col dd k0 k1 k2 k3 k5 newId) ∧ h.Ns N mN ∧ mN "__init__" = none ∧ OwnTail h bmB bm := by
  unfold excIn at q
  split at q
  · rename_i dx cx sx lk
    split at q
    · rename_i C1 tl q0 q1 q2 q3 nid q5 hmro hsl
      rw [Bool.and_eq_true, Bool.and_eq_true, Bool.and_eq_true, Bool.and_eq_true, Bool.and_eq_true] at q
      obtain ⟨⟨⟨⟨⟨z1, z2⟩, z3⟩, z4⟩, z5⟩, z6⟩ := q
      replace z1 : C1 = C := by simpa using z1
      replace z2 : nid = newId := by simpa using z2
      replace z3 : cx.hasDel = false := by simpa using z3
      replace z6 : nsIn K cx.ns "__init__" = some none := by simpa using z6
      have obj := X _ _ lk
      have Nok : h.Ns cx.ns (h.nsMap cx.ns) := .of_isNs (isNs_of_in X z5)
      refine ⟨tl, cx.ns, cx.name, cx.qualname, cx.bases, cx.hasDict, cx.slotNames, cx.subclasses, cx.abstract, cx.collection, dx, q0, q1, q2, q3, q5, h.nsMap cx.ns, ?_, Nok, ns_none_of X Nok z6, tail_of_in X z4⟩
      rw [obj]
      cases cx
      cases sx
      simp only at hmro hsl z3
      subst hmro hsl z3 z1 z2
      rfl
    · cases q
  · cases q
section
variable {X : Cx} {ES : XS} {x : Str} {C : Addr} {np cpos pos : Pos} {a : Expr} {rest : List Expr} {t : TA}
def tRaise (ES : XS) (C : Addr) (t : TA) : TS := fun _ σ H => t σ H fun vs H1 => vs.length ≤ sizeLine ∧ ES σ (.ref C) none H1
theorem ps_raise (hX : HasX X.K x C) (hc : X.calm = true) (hx : ∀ v s, xeOf X ES v s → X.xe v s) (hg : Gl X x) (ha : PA X (a :: rest) t) (hdb : (x == ("__debug__" : Str)) = false := by decide)
    (he : starEach (a :: rest) X.env = (false, eval a X.env) :: starEach rest X.env := by rfl) (hpl : (backTo cpos (starEach rest X.env)).any (·.1) = false := by rfl) :
    PS X (.Raise (some (.Call (.Name x np) (a :: rest) [] cpos)) none pos) (tRaise ES C t) := by
  intro pins s σ H D I h
  obtain ⟨tl, N, nm, q, bs, hdct, sn, sub, ab, col, dd, k0, k1, k2, k3, k5, mN, hC, hN, hni, T⟩ := exc_obj I.ok.mod.kin hX.ex
  have FB := PySem.F.excBase_ValueError
  refine wpAny_Raise_call_subT (C := C) (nm := nm) (q := q) (N := N) (bs := bs) (bm := tl) (hdct := hdct) (sn := sn) (sub := sub) (ab := ab) (col := col) (dd := dd) (k0 := k0) (k1 := k1) (k2 := k2) (k3 := k3) (k5 := k5) (mN := mN)
    FB (T.hasType FB.hasBase) (I.ok.hd hc) (by rw [he]; show (false || (backTo cpos (starEach rest X.env)).any (·.1)) = false; rw [hpl]; rfl) hni (ld_glob I hg (PySem.W.mg_of I.ok.mod.kin I.ok.mod.glob hX.ns) ⟨rfl, ?_⟩ hdb)
  have hr := ha cpos pins s σ H _ I h
  rw [he] at hr ⊢
  refine Calls.evalArgs_plain (thn hr fun us s2 ⟨vs, H2, I2, rv, z, q2⟩ => ⟨rfl, by rw [← rv.length]; exact z, I2.bk _ _ hC, hN.keeps I2.bk, T.keeps I2.bk, fun h' e m => hx _ _ ?_⟩)
  have I3 : Inv X pins σ H2 { s2 with heap := h' } := I2.kept (t' := s2.toks) m.keeps
  obtain ⟨tp, ht, _, _⟩ := m.there
  exact ⟨e, .ref C, none, none, σ, H2, rfl, ⟨I3.nil, (I2.fpNew m.new (I2.noObj m.new)).nil, _, _, ht, rfl⟩, .inl rfl, q2⟩
end
end L2
set_option Elab.async false
set_option linter.all false
set_option maxRecDepth 100000
namespace L2
open PySem PySem.Spec PySem.W PyProof.Rows
abbrev Cx.re (X : Cx) (A : Around) (calm : Bool) (pn : List (Addr × Obj)) (xe : Value → Shared → Prop) : Cx := { X with A := A, calm := calm, pn := pn, xe := xe }
theorem Cx.Ok.re {X : Cx} {A : Around} {calm : Bool} {pn : List (Addr × Obj)} {xe : Value → Shared → Prop} (ok : X.Ok) (hd : calm = true → A.handled = none) (hf : A.frames = some X.stack) : (X.re A calm pn xe).Ok :=
  ⟨ok.mod, ok.kind, ok.glob, ok.blt, ok.above, ok.inj, ok.has, ok.cab, hd, hf, ok.stk, ok.exf, ok.bs, ok.bsz, ok.noex, ok.exfs, ok.funs, ok.frf⟩
section
variable {X : Cx} {A : Around} {calm : Bool} {pn pins pins' : List (Addr × Obj)} {xe : Value → Shared → Prop} {σ σ' : St} {H : Hp} {s : Shared} {e : Addr} {o : HO}
theorem Inv.re (I : Inv X pins σ H s) (hd : calm = true → A.handled = none) (hf : A.frames = some X.stack) (hp : ∀ p ∈ pn ++ pins', p ∈ X.pn ++ pins) : Inv (X.re A calm pn xe) pins' σ H s :=
  ⟨I.ok.re hd hf, I.os, I.bare, I.base, I.loc, I.cell, I.free, I.freeC, fun p q => I.pin p (hp p q), I.hok, I.len⟩
theorem Inv.back (ok : X.Ok) (I : Inv (X.re A calm pn xe) pins' σ H s) (hp : ∀ p ∈ X.pn ++ pins, p ∈ pn ++ pins') : Inv X pins σ H s :=
  ⟨ok, I.os, I.bare, I.base, I.loc, I.cell, I.free, I.freeC, fun p q => I.pin p (hp p q), I.hok, I.len⟩
theorem Inv.track (I : Inv X pins σ H s) (f : FpOk X pins H e) (new : ObjOk X.prog X.w (upd H e o) s.heap e o) : Inv X pins σ (upd H e o) s := by
  obtain ⟨f0, f1, f2, f3, f4, f5⟩ := f
  have hne : ∀ b u, H b = some u → b ≠ e := fun b u q => ne_of_none q f0
  refine ⟨I.ok, I.os, I.bare, ⟨I.base.keep, I.base.slot, fun b ob q n hx => ?_, I.base.there, fun b xs q => ?_, fun b ob u q => ?_, fun b ps q => ?_⟩, I.loc, I.cell, ?_, fun x c q => ?_, fun p hp => ?_, fun b u q => ?_, I.len⟩
  · have hb : b ≠ e := fun z => by
      subst z
      rcases f3 with w | w
      · exact hx w
      · rw [w] at q; cases q
    rw [upd_ne hb]; exact I.base.free b ob q n hx
  · have := I.base.tups b xs q; rw [upd_ne (hne _ _ this)]; exact this
  · have := I.base.frzs b ob u q; rw [upd_ne (hne _ _ this)]; exact this
  · obtain ⟨more, this⟩ := I.base.tbls b ps q; exact ⟨more, by rw [upd_ne (hne _ _ this)]; exact this⟩
  · rw [upd_ne (Ne.symm f1)]; exact I.free
  · rw [upd_ne (f4 x c q)]; exact I.freeC x c q
  · obtain ⟨a, b, c, d⟩ := I.pin p hp
    exact ⟨a, by rw [upd_ne (f5 p hp)]; exact b, c, d⟩
  · by_cases z : b = e
    · subst z
      rw [upd_same] at q; cases q; exact new
    · rw [upd_ne z] at q
      refine (I.hok b u q).stay (fun _ _ _ q => q) (fun c q => ?_) fun c xs q => ?_
      · rw [upd_ne (hne _ _ q)]; exact q
      · rw [upd_ne (hne _ _ q)]; exact q
theorem Inv.frameTo {h' : Heap} {m' : Str → Option Value} (I : Inv X pins σ H s) (sb : Heap.SameBut X.env.locals s.heap h') (hn : h'.Ns X.env.locals m')
    (hl : ∀ (i : Nat) (x : Str) (v : V), X.N[i]? = some x → σ'[i]? = some (some v) → Vis X.env.scope x → ∃ u, RelV v u ∧ Look X.env h' m' x u) (len : σ'.length = X.N.length) : Inv X pins σ' H { s with heap := h' } := by
  obtain ⟨m, ⟨oL, _, _, hoL, _⟩, _⟩ := I.loc
  have nL : ∀ b o', X.s₀.heap.get? b = some o' → b ≠ X.env.locals := fun b o' q => Nat.ne_of_lt (Nat.lt_of_lt_of_le (Heap.lt_size q) I.ok.above)
  have nT : ∀ b u, H b = some u → b ≠ X.env.locals := fun b u q => ne_of_none q I.free
  refine ⟨I.ok, I.os, I.bare, ⟨fun b ob q n hb hx => (sb.2 b (nL b ob q)).trans (I.base.keep b ob q n hb hx), fun b ob q n hb hx => ?_, I.base.free, fun b ob q hx => ?_, I.base.tups, I.base.frzs, I.base.tbls⟩, ⟨m', hn, hl⟩, fun x c q => ?_, I.free, I.freeC, fun p hp => ?_, fun b u q => ?_, len⟩
  · obtain ⟨sl, z⟩ := I.base.slot b ob q n hb hx; exact ⟨sl, (sb.2 b (nL b ob q)).trans z⟩
  · obtain ⟨o', z⟩ := I.base.there b ob q hx; exact ⟨o', (sb.2 b (nL b ob q)).trans z⟩
  · obtain ⟨v, ob, ho, hd⟩ := I.cell x c q; exact ⟨v, ob, (sb.2 c (I.cne x c q)).trans ho, hd⟩
  · obtain ⟨a, b, c, d⟩ := I.pin p hp; exact ⟨(sb.2 p.1 c).trans a, b, c, d⟩
  · refine (I.hok b u q).stay (fun c v hc z => (sb.2 c ?_).trans z) (fun _ z => z) fun _ _ z => z
    rcases hc with w | w
    · rw [w]; exact nT b u q
    · exact nT c _ w
theorem unbind_ok {M : Model} {E : Value → Shared → Prop} {i : Nat} {x : Str} {v : V} {Q : Unit → Shared → Prop} (I : Inv X pins σ H s) (hN : X.N.Nodup) (hi : X.N[i]? = some x) (hx : X.env.kindOf x = some .local) (hv : σ[i]? = some (some v))
    (h : ∀ s', Inv X pins (σ.set i none) H s' → Q () s') : wpAny M A (unbindName X.env x) Q E s := by
  obtain ⟨m, hn, hl⟩ := id I.loc
  obtain ⟨u, _, lk⟩ := hl i x v hi hv (.inl hx)
  have hm : m x = some u := by
    rcases lk with ⟨_, q⟩ | ⟨q, _⟩
    · exact q
    · rcases q with q | q <;> (rw [hx] at q; cases q)
  refine wpAny_unbindName_local hx hn hm (by rw [I.ok.kind]; rfl) fun h' u' hn' sb => h _ (I.frameTo sb hn' (fun j y w e1 e2 e3 => ?_) (by rw [List.length_set]; exact I.len))
  by_cases hj : j = i
  · subst hj
    have hjl : j < σ.length := by rw [I.len]; exact (List.getElem?_eq_some_iff.mp e1).1
    rw [List.getElem?_set_self hjl] at e2; cases e2
  · rw [List.getElem?_set_ne (Ne.symm hj)] at e2
    obtain ⟨u2, r2, l2⟩ := hl j y w e1 e2 e3
    have hy : y ≠ x := fun z => hj (nodup_ix hN e1 (z ▸ hi))
    refine ⟨u2, r2, ?_⟩
    rcases l2 with ⟨k2, q⟩ | ⟨k2, c, ec, ob, ho, hd⟩
    · exact .inl ⟨k2, by show (if y = x then u' else m y) = some u2; rw [if_neg hy]; exact q⟩
    · exact .inr ⟨k2, c, ec, ob, (sb.2 c (I.cne y c ec)).trans ho, hd⟩
end
def excO (e C : Addr) (d : Option Addr) : HO := .ext fun h => ∃ vs sl, h.get? e = some ⟨.ref C, d, .fields vs, sl⟩
theorem excO_ok {P : Program} {w : World} {H : Hp} {h : Heap} {e C : Addr} {d : Option Addr} {Pr : Addr → Prop} {fl : Option Value} (x : TbAt Pr h e (.ref C) d fl) : ObjOk P w H h e (excO e C d) := by
  obtain ⟨sl, vs, q⟩ := x.there
  exact ⟨⟨vs, sl, q⟩, ⟨_, q⟩, fun h1 h2 ⟨vs, sl, q⟩ k => ⟨vs, sl, k _ q⟩⟩
section
variable {X : Cx} {pins : List (Addr × Obj)} {σ : St} {H : Hp} {s : Shared} {e C Cy : Addr}
theorem matches_ok {A : Around} {E : Value → Shared → Prop} {Q : Bool → Shared → Prop} {d : Option Addr} {Pr : Addr → Prop} {fl : Option Value} {b : Bool} (I : Inv X pins σ H s) (x : TbAt Pr s.heap e (.ref C) d fl)
    (hy : mroIn X.K Cy (.type "BaseException") = some true) (hty : typeIn X.K (.ref Cy) = some (.type "type")) (hc : mroIn X.K C (.ref Cy) = some b) (q : Q b s) : wpAny (model X.prog X.w) A (excMatches (.ref e) (.ref Cy)) Q E s := by
  obtain ⟨h, g, dr, t, os⟩ := s
  obtain ⟨sl, vs, he⟩ := x.there
  have L1 : Looks (model X.prog X.w) h (typeOf (.ref Cy)) (.type "type") := looks_typeIn I.kIn hty
  have L2 : Looks (model X.prog X.w) h (isInstance (.ref Cy) (.type "tuple")) false := L1.andThen (.of_pure tc_notTuple)
  have L3 : Looks (model X.prog X.w) h (typeOf (.ref e)) (.ref C) := (Looks.ld he).andThen .now
  have L4 := looks_mroIn (M := model X.prog X.w) I.kIn hc
  have L5 := looks_mroIn (M := model X.prog X.w) I.kIn hy
  have hcl : (clsIn X.K Cy).isSome = true := by
    have z := hy
    unfold mroIn at z
    cases e : clsIn X.K Cy with
    | none => rw [e] at z; cases z
    | some cd => rfl
  have L6 : Looks (model X.prog X.w) h (isType (.ref Cy)) true := by
    obtain ⟨cd, hcD⟩ := Option.isSome_iff_exists.mp hcl
    unfold clsIn at hcD
    split at hcD
    · rename_i c' d' cd' sl' ho
      intro A' Q' E' s' kk q
      unfold isType loadHead
      exact wpAny_bind (wpAny_loadPart (kk _ _ (I.kIn _ _ ho)) (wpAny_pure q))
    · cases hcD
  unfold excMatches
  refine wpAny_bind (L2.at ?_)
  simp only [Bool.false_eq_true, if_false]
  refine wpAny_bind (wpAny_pure ?_)
  simp only [List.forIn_cons, List.forIn_nil]
  have L7 : Looks (model X.prog X.w) h (isExcClass (.ref Cy)) true := by
    unfold isExcClass
    refine L6.andThen ?_
    rw [if_pos rfl]; exact L5
  refine wpAny_bind (wpAny_bind (wpAny_bind (L7.at ?_)))
  simp only [Bool.not_true, Bool.false_eq_true, if_false]
  refine wpAny_pure (wpAny_pure ?_)
  refine wpAny_bind (L3.at (wpAny_bind (wpAny_bind (wpAny_bind (L4.at ?_)))))
  cases b with
  | true =>
    simp only [if_true]
    exact wpAny_pure (wpAny_pure (wpAny_pure q))
  | false =>
    simp only [Bool.false_eq_true, if_false]
    exact wpAny_pure (wpAny_pure (wpAny_pure q))
end
theorem suite_as {prog : Program} {w : World} {A : Around} {s : Shared} {env : Env} {R : Result → Shared → Prop} {e : Value} {n : Str} {b₀ : Stmt} {body : List Stmt} {pos : Pos}
    (h : wpAny (model prog w) A (setFlight e none) (fun _ s₁ => wpAny (model prog w) A (bindName env n e) (fun _ s₂ => wpAny (model prog w) A (execs (b₀ :: body) env) (fun f s₃ => R (.ok f) s₃) (fun _ _ => False) s₂) (fun _ _ => False) s₁) (fun _ _ => False) s) :
    codeAny (model prog w) A (.handlers e [.ExceptHandler none (some n) (b₀ :: body) pos] env) R s := by
  refine codeAny_of_tree ?_
  show wpAny _ A (do return Fin.done (← (handleWith e env [.ExceptHandler none (some n) (b₀ :: body) pos]).onRaise (fun x => do noteFrame x env; theTreesLotGoes x))) _ _ s
  refine wpAny_bind (wpAny_noted ?_)
  unfold handleWith
  refine wpAny_bind (wpAny_standAt (wpAny_bind (wpAny_mono h (fun _ s₁ h₁ => wpAny_bind (wpAny_mono h₁ (fun _ s₂ h₂ => wpAny_bind (wpAny_attempt (wpAny_mono h₂ (fun f s₃ h₃ => ?_) fun _ _ z => z.elim))) fun _ _ z => z.elim)) fun _ _ z => z.elim)))
  exact wpAny_pure (wpAny_pure h₃)
abbrev Cx.tryB (X : Cx) (pn : List (Addr × Obj)) (ES : XS) : Cx := X.re X.A X.calm pn (xeOf { X with pn := pn } ES)
abbrev Cx.suite (X : Cx) (pn : List (Addr × Obj)) (e : Addr) : Cx := X.re (X.A.mark (some (.ref e))) false pn (fun _ _ => False)
def tClause (K : PySem.W.Frag) (Cy : Addr) (i : Nat) (th : TS) (D : Ends) : XS := fun σ c d H => ∃ C, c = .ref C ∧ XCls K C ∧ mroIn K C (.ref Cy) = some true ∧
  ∀ e H2, New H e (excO e C d) H2 → th { nx := fun σ' H' => (∃ v, σ'[i]? = some (some v)) ∧ D.nx (σ'.set i none) H', rt := fun _ _ => False, bk := fun _ _ => False, ct := fun _ _ => False } (σ.set i (some (.ref e))) H2
def tTry (K : PySem.W.Frag) (Cy : Addr) (i : Nat) (tb : XS → TS) (th : TS) : TS := fun D σ H => tb (tClause K Cy i th D) D σ H
theorem ps_try {X : Cx} {y n : Str} {np hpos pos : Pos} {body : List Stmt} {b₀ : Stmt} {suite : List Stmt} {Cy : Addr} {i : Nat} {tb : XS → TS} {th : TS} (hO : OwnFr X) (hcl : X.calm = true) (hN : X.N.Nodup) (hi : X.N[i]? = some n) (hn : X.env.kindOf n = some .local)
    (hy : mroIn X.K Cy (.type "BaseException") = some true) (hty : typeIn X.K (.ref Cy) = some (.type "type")) (hg : Gl X y) (hm : X.mg y = some (.ref Cy))
    (hb : ∀ pn ES, PSs (X.tryB pn ES) body (tb ES)) (hs : ∀ pn e, PSs (X.suite pn e) (b₀ :: suite) th) (hdb : (y == ("__debug__" : Str)) = false := by decide) :
    PS X (.Try body [.ExceptHandler (some (.Name y np)) (some n) (b₀ :: suite) hpos] [] [] pos) (tTry X.K Cy i tb th) := by
  intro pins s σ H D I h
  have Ib : Inv (X.tryB (X.pn ++ pins) (tClause X.K Cy i th D)) [] σ H s := I.re I.ok.hd I.ok.frames (fun p hp => by simpa using hp)
  have back : ∀ {A : Around} {calm : Bool} {xe : Value → Shared → Prop} {σ' : St} {H' : Hp} {s' : Shared}, Inv (X.re A calm (X.pn ++ pins) xe) [] σ' H' s' → Inv X pins σ' H' s' := fun J => J.back I.ok fun p hp => by simpa using hp
  refine wpAny_Try_except (wpAny_mono (hb _ _ [] s σ H D Ib h) (fun f s1 q => ?_) fun v s1 hx => ?_)
  · cases f with
    | next => obtain ⟨σ', H', J, q⟩ := q; exact wpAny_execs_nil ⟨σ', H', back J, q⟩
    | brk => obtain ⟨σ', H', J, q⟩ := q; exact ⟨σ', H', back J, q⟩
    | cont => obtain ⟨σ', H', J, q⟩ := q; exact ⟨σ', H', back J, q⟩
    | ret u => obtain ⟨v, σ', H', J, r, q⟩ := q; exact ⟨v, σ', H', back J, r, q⟩
  · obtain ⟨e, c, d, fl, σ1, H1, rfl, x, hfl, C, rfl, xc, hmr, q⟩ := hx
    refine x.note (X := (X.re X.A X.calm (X.pn ++ pins) (fun _ _ => False))) hO.st hO.fr hfl fun s2 x2 => ?_
    refine x2.fly (to := none) fun s3 x3 => ?_
    have hh : (X.A.mark (some (.ref e))).frames = some X.stack := I.ok.frames
    have Is : Inv (X.suite (X.pn ++ pins) e) [] σ1 H1 s3 := x3.inv.re (X := X.re X.A X.calm (X.pn ++ pins) (fun _ _ => False)) (fun z => nomatch z) hh (fun p hp => hp)
    refine wpAny_handleBy_cons (codeAny_handlers_test (ld_glob (X := X.suite (X.pn ++ pins) e) Is hg hm (matches_ok (X := X.suite (X.pn ++ pins) e) Is x3.tb hy hty hmr ?_) hdb)) (by intro z; cases z)
    dsimp only [if_true]
    refine suite_as ?_
    have xs : Exc (X.suite (X.pn ++ pins) e) [] σ1 H1 s3 e (.ref C) d (some .none) := ⟨Is, x3.fe, x3.tb⟩
    refine xs.fly (to := none) fun s4 x4 => ?_
    have I5 := x4.inv.track x4.fe (excO_ok x4.tb)
    refine wpAny_bindName (store_ok (X := X.suite (X.pn ++ pins) e) I5 hN hi (.inl hn) (v := .ref e) rfl (fun s5 I6 => ?_) (.inr hn))
    refine wpAny_mono (hs _ e [] s5 _ _ _ I6 (q e _ ⟨x4.fe.1, rfl⟩)) (fun f s6 z => ?_) fun _ _ z => z
    cases f with
    | next =>
      obtain ⟨σ2, H2, J, ⟨v, hv⟩, qn⟩ := z
      have J' := back J
      have hil : i < σ2.length := (List.getElem?_eq_some_iff.mp hv).1
      refine wpAny_bind (wpAny_bindName (store_ok J' hN hi (.inl hn) (v := .non) rfl (fun s7 I7 => ?_) (.inr hn)))
      refine wpAny_onRaise (unbind_ok I7 hN hi hn (v := .non) (by rw [List.getElem?_set_self hil]) fun s8 I8 => ?_)
      rw [List.set_set] at I8
      exact ⟨_, _, I8, qn⟩
    | brk => obtain ⟨_, _, _, z⟩ := z; exact z.elim
    | cont => obtain ⟨_, _, _, z⟩ := z; exact z.elim
    | ret u => obtain ⟨_, _, _, _, _, z⟩ := z; exact z.elim
def rIsiX (K : PySem.W.Frag) : List V → Hp → VK → Prop := fun xs H Q => ∃ e C d c b, xs = [.ref e, c] ∧ isC c = true ∧ H e = some (excO e C d) ∧ (d = none ∨ ∃ dx fs, d = some dx ∧ H dx = some (.xd fs)) ∧ XCls K C ∧ kitOne K (.ref C) (clsV c) = some b ∧ Q (.bl b) H
theorem call_isiX {X : Cx} : CallR X (.builtin "isinstance") (rIsiX X.K) := by
  intro pins s σ H xs us Q I r h
  obtain ⟨e, C, d, c, b, rfl, hc, he, hd, k, kb, q⟩ := h
  obtain ⟨v, u, rfl, r1, r2⟩ := vals2 r
  rw [clsV_of hc r2]
  cases r1
  obtain ⟨⟨vs, sl, ho⟩, _, _⟩ := I.hok e _ he
  have hat : ∃ oe od, InstAt s.heap e oe C od := by
    rcases hd with rfl | ⟨dx, fs, rfl, hdx⟩
    · exact ⟨_, none, ho, rfl, rfl, trivial⟩
    · obtain ⟨mA, ⟨od, _, _, hod, _⟩, _⟩ := I.hok dx _ hdx
      exact ⟨_, some od, ho, rfl, rfl, hod⟩
  exact kia_one (kitx_exc k.isc k) I.kIn hat kb (fun z => nomatch z) fun tk => ⟨.bl b, H, I.tok _, rfl, q⟩
def Sm (z : Str) : Prop := z.length ≤ 1000 ∧ ∀ c ∈ z.cps.toList, c < 16 ^ 8
abbrev TJ := St → Hp → (Hp → Prop) → Prop
def PJ (X : Cx) (es : List Expr) (t : TJ) : Prop := ∀ (pins : List (Addr × Obj)) (s : Shared) (σ : St) (H : Hp) (acc : Str) (Q : Hp → Prop), Inv X pins σ H s → acc.length + 100000 * es.length ≤ sizeLine → t σ H Q →
  Joins (model X.prog X.w) X.A X.xe (evalEach es X.env) acc (fun out s1 => out.length ≤ sizeLine ∧ ∃ H', Inv X pins σ H' s1 ∧ Q H') s
def jNil : TJ := fun _ H Q => Q H
def jRepr (te : TE) (t : TJ) : TJ := fun σ H Q => te σ H fun x H1 => (∃ z, x = .str z ∧ Sm z) ∧ t σ H1 Q
def jPlain (te : TE) (t : TJ) : TJ := fun σ H Q => te σ H fun x H1 => (∃ z, x = .str z ∧ z.length ≤ 1000) ∧ t σ H1 Q
section
variable {X : Cx} {es : List Expr} {t : TJ} {te : TE} {e : Expr} {pos : Pos} {z : Str} {k : Option Nat}
theorem pj_nil : PJ X [] jNil := fun pins s σ H acc Q I hl q => ⟨by simpa using hl, H, I, q⟩
theorem glue_len {a b : Str} {n : Nat} (h : a.length + 100000 * (n + 1) ≤ sizeLine) (hb : b.length ≤ 100000) : (a ++ b).length + 100000 * n ≤ sizeLine := by
  rw [strLen_append]; omega
theorem pj_str {j} (hz : z.length ≤ 1000) (h : PJ X es t) : PJ X (.Constant (.str z) j pos :: es) t := by
  intro pins s σ H acc Q I hl q
  have hg : (acc ++ z).length + 100000 * es.length ≤ sizeLine := glue_len hl (by omega)
  show wpAny _ _ (eval (.Constant (.str z) j pos) X.env) _ _ s
  refine Calls.Constant_str ⟨z, _, rfl, by omega, ?_⟩
  exact h pins _ σ H (acc ++ z) Q (I.tok _) hg q
theorem pj_repr (he : PE X e te) (h : PJ X es t) : PJ X (.FormattedValue e 114 none pos :: es) (jRepr te t) := by
  intro pins s σ H acc Q I hl q
  show wpAny _ _ (eval (.FormattedValue e 114 none pos) X.env) _ _ s
  refine wpAny_FormattedValue_repr (thn (he pins s σ H _ I q) fun v s1 ⟨x, H1, I1, r1, ⟨z, ex, hz⟩, q1⟩ => ?_)
  subst ex
  obtain ⟨tk, rfl⟩ := r1
  have hr := PySem.StrLaws.reprText_len z hz.2
  have hs : (reprText z).length ≤ 100000 := by have := hz.1; omega
  have hsz : 100000 ≤ sizeLine := by rw [sizeLine_eq]; decide
  have hg : (acc ++ reprText z).length + 100000 * es.length ≤ sizeLine := glue_len hl hs
  refine pyReprObj_str ?_ (by omega)
  refine wpAny_formatField_str ⟨_, _, rfl, by omega, h pins _ σ H1 _ Q (I1.tok _) hg q1⟩ ⟨_, _, rfl, by omega, ?_⟩ (by omega)
  exact h pins _ σ H1 _ Q (I1.tok _) hg q1
theorem pj_plain (he : PE X e te) (h : PJ X es t) : PJ X (.FormattedValue e (-1) none pos :: es) (jPlain te t) := by
  intro pins s σ H acc Q I hl q
  show wpAny _ _ (eval (.FormattedValue e (-1) none pos) X.env) _ _ s
  refine wpAny_FormattedValue_plain (thn (he pins s σ H _ I q) fun v s1 ⟨x, H1, I1, r1, ⟨z, ex, hz⟩, q1⟩ => ?_)
  subst ex
  obtain ⟨tk, rfl⟩ := r1
  have hsz : 100000 ≤ sizeLine := by rw [sizeLine_eq]; decide
  have hg : (acc ++ z).length + 100000 * es.length ≤ sizeLine := glue_len hl (by omega)
  refine wpAny_formatField_str ⟨_, _, rfl, by omega, h pins _ σ H1 _ Q I1 hg q1⟩ ⟨_, _, rfl, by omega, ?_⟩ (by omega)
  exact h pins _ σ H1 _ Q (I1.tok _) hg q1
theorem joins_mono {M : Model} {A : Around} {E : Value → Shared → Prop} {Q Q' : Str → Shared → Prop} : ∀ {ts : List (Sem Value)} {acc : Str} {s : Shared}, Joins M A E ts acc Q s → (∀ out s1, Q out s1 → Q' out s1) → Joins M A E ts acc Q' s
  | [], _, _, h, i => i _ _ h
  | _ :: _, _, _, h, i => wpAny_mono h (fun _ _ ⟨y, t, e, l, r⟩ => ⟨y, t, e, l, joins_mono r i⟩) fun _ _ z => z
def tFmt (t : TJ) : TE := fun σ H Q => t σ H fun H' => ∀ z : Str, Q (.str z) H'
theorem i_fmt {σ : St} {H : Hp} {Q : VK} (q : t σ H fun H' => ∀ z : Str, Q (.str z) H') : tFmt t σ H Q := q
theorem i_jNil {σ : St} {H : Hp} {Q : Hp → Prop} (q : Q H) : jNil σ H Q := q
theorem i_jRepr {σ : St} {H : Hp} {Q : Hp → Prop} (q : te σ H fun x H1 => (∃ z, x = .str z ∧ Sm z) ∧ t σ H1 Q) : jRepr te t σ H Q := q
theorem i_jPlain {σ : St} {H : Hp} {Q : Hp → Prop} (q : te σ H fun x H1 => (∃ z, x = .str z ∧ z.length ≤ 1000) ∧ t σ H1 Q) : jPlain te t σ H Q := q
theorem pe_fstr {e1 e2 : Expr} (h : PJ X (e1 :: e2 :: es) t) (hn : (e1 :: e2 :: es).length ≤ 50 := by decide) : PE X (.JoinedStr (e1 :: e2 :: es) pos) (tFmt t) := by
  intro pins s σ H Q I q
  have hsz : 100000 * 50 ≤ sizeLine := by rw [sizeLine_eq]; decide
  have e0 : Str.empty.length = 0 := rfl
  have hl : Str.empty.length + 100000 * (e1 :: e2 :: es).length ≤ sizeLine := by
    rw [e0]; generalize (e1 :: e2 :: es).length = n at hn ⊢; omega
  have hj := h pins s σ H Str.empty _ I hl q
  refine wpAny_JoinedStr (joins_mono hj fun out s1 z => ?_)
  obtain ⟨hl, H', I', q'⟩ := z
  exact ⟨hl, .str out, H', I'.tok _, ⟨_, rfl⟩, q' out⟩
end
end L2
set_option Elab.async false
set_option linter.all false
set_option maxRecDepth 100000
namespace L2
open PySem PySem.Spec PyProof.Rows
section
variable {κ : Type} [DecidableEq κ]
def valV (kvs : List (κ × V)) (k : κ) : Option V := (kvs.find? fun kv => decide (kv.1 = k)).map (·.2)
def putK (kvs : List (κ × V)) (k : κ) (v : V) : List (κ × V) :=
  if (kvs.any fun kv => decide (kv.1 = k)) = true then kvs.map (fun kv => if kv.1 = k then (kv.1, v) else kv) else kvs ++ [(k, v)]
theorem valV_pos {p : κ × V} {r : List (κ × V)} {k : κ} (e : p.1 = k) : valV (p :: r) k = some p.2 := by simp [valV, List.find?_cons, e]
theorem valV_neg {p : κ × V} {r : List (κ × V)} {k : κ} (e : ¬ p.1 = k) : valV (p :: r) k = valV r k := by simp [valV, List.find?_cons, e]
theorem valV_any (k : κ) : ∀ kvs : List (κ × V), (kvs.any fun kv => decide (kv.1 = k)) = (valV kvs k).isSome
  | [] => rfl
  | p :: r => by
    rw [List.any_cons]
    by_cases e : p.1 = k
    · simp only [valV_pos e, decide_eq_true e, Bool.true_or, Option.isSome_some]
    · rw [valV_neg e, decide_eq_false e, Bool.false_or]; exact valV_any k r
theorem valV_map (k j : κ) (y : V) : ∀ kvs : List (κ × V), valV (kvs.map fun kv => if kv.1 = k then (kv.1, y) else kv) j = (valV kvs j).map fun x => if j = k then y else x
  | [] => rfl
  | p :: r => by
    have ih := valV_map k j y r
    rw [List.map_cons]
    by_cases h : p.1 = k
    · rw [if_pos h]
      by_cases e : p.1 = j
      · rw [valV_pos (p := (p.1, y)) e, valV_pos e, Option.map_some, if_pos (e.symm.trans h)]
      · rw [valV_neg (p := (p.1, y)) e, valV_neg e, ih]
    · rw [if_neg h]
      by_cases e : p.1 = j
      · rw [valV_pos (p := p) e, valV_pos e, Option.map_some, if_neg (fun z => h (e.trans z))]
      · rw [valV_neg (p := p) e, valV_neg e, ih]
theorem valV_snoc (k j : κ) (y : V) : ∀ kvs : List (κ × V), valV kvs k = none → valV (kvs ++ [(k, y)]) j = if j = k then some y else valV kvs j
  | [], _ => by
    by_cases e : k = j
    · rw [if_pos e.symm]; exact valV_pos (p := (k, y)) e
    · rw [if_neg (fun z => e z.symm)]; exact valV_neg (p := (k, y)) e
  | p :: r, hn => by
    rw [List.cons_append]
    have hk : ¬ p.1 = k := fun z => by rw [valV_pos z] at hn; cases hn
    rw [valV_neg hk] at hn
    have ih := valV_snoc k j y r hn
    by_cases e : p.1 = j
    · rw [valV_pos e, valV_pos e, if_neg (fun z => hk (e.trans z))]
    · rw [valV_neg e, valV_neg e, ih]
theorem valV_put (kvs : List (κ × V)) (k j : κ) (y : V) : valV (putK kvs k y) j = if j = k then some y else valV kvs j := by
  unfold putK
  by_cases a : (kvs.any fun kv => decide (kv.1 = k)) = true
  · rw [if_pos a, valV_map]
    rw [valV_any] at a
    by_cases e : j = k
    · obtain ⟨x, hx⟩ := Option.isSome_iff_exists.mp a
      rw [if_pos e, e, hx, Option.map_some, if_pos rfl]
    · rw [if_neg e]
      cases valV kvs j with
      | none => rfl
      | some x => rw [Option.map_some, if_neg e]
  · rw [if_neg a]
    refine valV_snoc k j y kvs ?_
    rw [valV_any] at a
    cases q : valV kvs k with
    | none => rfl
    | some x => rw [q] at a; exact (a rfl).elim
theorem length_putK (kvs : List (κ × V)) (k : κ) (v : V) : (putK kvs k v).length ≤ kvs.length + 1 := by
  unfold putK
  split
  · rw [List.length_map]; omega
  · rw [List.length_append, List.length_cons, List.length_nil]; omega
theorem RelO.isSome_eq {o : Option V} {u : Option Value} (r : RelO o u) : o.isSome = u.isSome := by
  cases o with
  | none => cases u with
    | none => rfl
    | some _ => exact (show False from r).elim
  | some _ => cases u with
    | none => exact (show False from r).elim
    | some _ => rfl
theorem RelO.getD {o : Option V} {u : Option Value} {d : V} {d' : Value} (r : RelO o u) (rd : RelV d d') : RelV (o.getD d) (u.getD d') := by
  cases o with
  | none => cases u with
    | none => exact rd
    | some _ => exact (show False from r).elim
  | some _ => cases u with
    | none => exact (show False from r).elim
    | some _ => exact r
theorem KV.val {kvs : List (κ × V)} {vs : List (κ × Value)} (r : KV kvs vs) (k : κ) : RelO (valV kvs k) (valueAt vs k) := by
  unfold KV at r
  induction r with
  | nil => exact True.intro
  | @cons p q ps qs h t ih =>
    obtain ⟨h1, h2⟩ := h
    by_cases e : p.1 = k
    · have e' : q.1 = k := h1.symm.trans e
      have b : valueAt (q :: qs) k = some q.2 := by simp [valueAt, List.find?_cons, e']
      rw [valV_pos e, b]; exact h2
    · have e' : ¬ q.1 = k := fun z => e (h1.trans z)
      have b : valueAt (q :: qs) k = valueAt qs k := by simp [valueAt, List.find?_cons, e']
      rw [valV_neg e, b]; exact ih
theorem KV.any {kvs : List (κ × V)} {vs : List (κ × Value)} (r : KV kvs vs) (k : κ) : (kvs.any fun kv => decide (kv.1 = k)) = vs.any fun kv => decide (kv.1 = k) := by
  unfold KV at r
  induction r with
  | nil => rfl
  | cons h t ih => rw [List.any_cons, List.any_cons, ih, h.1]
theorem KV.repl {kvs : List (κ × V)} {vs : List (κ × Value)} (r : KV kvs vs) (k : κ) {y : V} {u : Value} (ry : RelV y u) :
    KV (kvs.map fun kv => if kv.1 = k then (kv.1, y) else kv) (vs.map fun kv => if kv.1 = k then (kv.1, u) else kv) := by
  unfold KV at r ⊢
  induction r with
  | nil => exact .nil
  | @cons p q ps qs h t ih =>
    rw [List.map_cons, List.map_cons]
    refine .cons ?_ ih
    obtain ⟨h1, h2⟩ := h
    by_cases e : p.1 = k
    · rw [if_pos e, if_pos (h1.symm.trans e)]; exact ⟨h1, ry⟩
    · rw [if_neg e, if_neg (fun z => e (h1.trans z))]; exact ⟨h1, h2⟩
theorem KV.put {kvs : List (κ × V)} {vs : List (κ × Value)} (r : KV kvs vs) (k : κ) {y : V} {u : Value} (ry : RelV y u) : KV (putK kvs k y) (stored vs k u) := by
  unfold putK stored
  rw [r.any k]
  by_cases e : (vs.any fun kv => decide (kv.1 = k)) = true
  · rw [if_pos e, if_pos e]; exact r.repl k ry
  · rw [if_neg e, if_neg e]; exact Paired.snoc r ⟨rfl, ry⟩
theorem KV.length {kvs : List (κ × V)} {vs : List (κ × Value)} (r : KV kvs vs) : kvs.length = vs.length := Paired.length r
end
theorem kV_is {P : Program} {w : World} {k : Key} {u : Value} (r : RelV (kV k) u) : (mixKind P w).is k u = true := by
  cases k with
  | inl i => obtain ⟨t, e⟩ := (show ∃ t, u = Value.int i t from r); subst e; exact mixKind_int P w i t
  | inr x => obtain ⟨t, e⟩ := (show ∃ t, u = Value.str x t from r); subst e; exact mixKind_str P w x t
theorem items_are {P : Program} {w : World} : ∀ {ks : List Key} {us : List Value}, Vals (ks.map kV) us → ItemsAre (mixKind P w) ks us
  | [], _, r => by rw [List.map_nil] at r; cases r; exact .nil
  | k :: ks, _, r => by
    rw [List.map_cons] at r
    cases r with
    | cons h t => exact .cons (kV_is h) (items_are t)
abbrev KT (H : Hp) : List (List Key × V) → List (List Key × Addr × Value) → Prop := Paired fun p q => p.1 = q.1 ∧ H q.2.1 = some (.tup (p.1.map kV)) ∧ RelV p.2 q.2.2
theorem KT.val {H : Hp} {kvs : List (List Key × V)} {xs : List (List Key × Addr × Value)} (r : KT H kvs xs) (k : List Key) : RelO (valV kvs k) ((atKey xs k).map (·.2)) := by
  induction r with
  | nil => exact True.intro
  | @cons p q ps qs h t ih =>
    obtain ⟨h1, _, h2⟩ := h
    by_cases e : p.1 = k
    · have e' : q.1 = k := h1.symm.trans e
      have b : atKey (q :: qs) k = some q.2 := by simp [atKey, List.find?_cons, e']
      rw [valV_pos e, b]; exact h2
    · have e' : ¬ q.1 = k := fun z => e (h1.trans z)
      have b : atKey (q :: qs) k = atKey qs k := by simp [atKey, List.find?_cons, e']
      rw [valV_neg e, b]; exact ih
theorem KT.repl {H : Hp} {kvs : List (List Key × V)} {xs : List (List Key × Addr × Value)} (r : KT H kvs xs) (k : List Key) {y : V} {u : Value} (ry : RelV y u) :
    KT H (kvs.map fun kv => if kv.1 = k then (kv.1, y) else kv) (xs.map (putAt k u)) := by
  induction r with
  | nil => exact .nil
  | @cons p q ps qs h t ih =>
    rw [List.map_cons, List.map_cons]
    refine .cons ?_ ih
    obtain ⟨h1, h2, h3⟩ := h
    unfold putAt
    by_cases e : p.1 = k
    · rw [if_pos e, if_pos (h1.symm.trans e)]; exact ⟨h1, h2, ry⟩
    · rw [if_neg e, if_neg (fun z => e (h1.trans z))]; exact ⟨h1, h2, h3⟩
theorem KT.put {H : Hp} {kvs : List (List Key × V)} {xs : List (List Key × Addr × Value)} (r : KT H kvs xs) (k : List Key) {b : Addr} {y : V} {u : Value} (hb : H b = some (.tup (k.map kV))) (ry : RelV y u) :
    KT H (putK kvs k y) (storedH xs k b u) := by
  have e : (kvs.any fun kv => decide (kv.1 = k)) = (atKey xs k).isSome := by
    rw [valV_any, (r.val k).isSome_eq, Option.isSome_map]
  unfold putK storedH
  rw [e]
  by_cases q : (atKey xs k).isSome = true
  · rw [if_pos q, if_pos q]; exact r.repl k ry
  · rw [if_neg q, if_neg q]; exact Paired.snoc r ⟨rfl, hb, ry⟩
theorem KT.keeps {H H' : Hp} {kvs : List (List Key × V)} {xs : List (List Key × Addr × Value)} (r : KT H kvs xs) (ht : ∀ b ys, H b = some (.tup ys) → H' b = some (.tup ys)) : KT H' kvs xs :=
  Paired.mapP r fun _ _ z => ⟨z.1, ht _ _ z.2.1, z.2.2⟩
section
variable {P : Program} {w : World} {H : Hp} {h : Heap} {a : Addr}
theorem rd_of {u : HO} (ok : HOk P w H h) (e : Rd H a u) : ObjOk P w H h a u := e.ok ok
theorem dk_rd {kvs : List (Key × V)} (ok : HOk P w H h) (e : Rd H a (.dK kvs)) : kvs.length ≤ sizeLine ∧ (a == sysModules) = false ∧ ∃ vs, KV kvs vs ∧ h.DictOf (mixKind P w) a vs :=
  show ObjOk P w H h a (.dK kvs) from rd_of ok e
theorem dk_of {kvs : List (Key × V)} (ok : HOk P w H h) (e : H a = some (.dK kvs)) : kvs.length ≤ sizeLine ∧ (a == sysModules) = false ∧ ∃ vs, KV kvs vs ∧ h.DictOf (mixKind P w) a vs := dk_rd ok (.inl e)
theorem key_of {ks : List Key} (ok : HOk P w H h) (e : H a = some (.tup (ks.map kV))) : (tupleKind (mixKind P w)).is h ks a := by
  obtain ⟨_, its, r, o, h1, h2, n, h3⟩ := (show ObjOk P w H h a (.tup (ks.map kV)) from ok a _ e)
  exact ⟨o, its.toArray, n, h1, h2, h3, by simpa using items_are r⟩
theorem dt_rd {kvs : List (List Key × V)} (ok : HOk P w H h) (e : Rd H a (.dT kvs)) : kvs.length ≤ sizeLine ∧ (a == sysModules) = false ∧
    ∃ xs, KT H kvs xs ∧ h.DictOfH (tupleKind (mixKind P w)) a xs := by
  obtain ⟨z, y, xs, r, o, es, ep, h1, h2, h3, h4, h5⟩ := (show ObjOk P w H h a (.dT kvs) from rd_of ok e)
  refine ⟨z, y, xs, r, o, es, ep, h1, h2, h3, h4, fun x hx => ?_, h5⟩
  have all : ∀ {l : List (List Key × V)} {m : List (List Key × Addr × Value)}, KT H l m → ∀ x ∈ m, (tupleKind (mixKind P w)).is h x.1 x.2.1 := by
    intro l m q
    induction q with
    | nil => intro x hx; exact nomatch hx
    | @cons p q ps qs hq t ih =>
      intro x hx
      rcases List.mem_cons.mp hx with e | hx
      · subst e
        exact key_of ok (by rw [← hq.1]; exact hq.2.1)
      · exact ih x hx
  exact all r x hx
theorem dt_of {kvs : List (List Key × V)} (ok : HOk P w H h) (e : H a = some (.dT kvs)) : kvs.length ≤ sizeLine ∧ (a == sysModules) = false ∧
    ∃ xs, KT H kvs xs ∧ h.DictOfH (tupleKind (mixKind P w)) a xs := dt_rd ok (.inl e)
end
def DGet (H : Hp) (a : Addr) (y : V) (r : Option V) : Prop :=
  (∃ kvs k, Rd H a (.dK kvs) ∧ y = kV k ∧ r = valV kvs k) ∨ ∃ kvs k b, Rd H a (.dT kvs) ∧ y = .ref b ∧ H b = some (.tup (k.map kV)) ∧ r = valV kvs k
def DPut (H : Hp) (a : Addr) (y v : V) (H' : Hp) : Prop :=
  (∃ kvs k, H a = some (.dK kvs) ∧ y = kV k ∧ kvs.length < sizeLine ∧ H' = upd H a (.dK (putK kvs k v))) ∨
  ∃ kvs k b, H a = some (.dT kvs) ∧ y = .ref b ∧ H b = some (.tup (k.map kV)) ∧ kvs.length < sizeLine ∧ H' = upd H a (.dT (putK kvs k v))
theorem DGet.k {H : Hp} {a : Addr} {kvs : List (Key × V)} {k : Key} (e : H a = some (.dK kvs)) : DGet H a (kV k) (valV kvs k) := .inl ⟨kvs, k, .inl e, rfl, rfl⟩
theorem DPut.k {H : Hp} {a : Addr} {kvs : List (Key × V)} {k : Key} {v : V} (e : H a = some (.dK kvs)) (hl : kvs.length < sizeLine) : DPut H a (kV k) v (upd H a (.dK (putK kvs k v))) := .inl ⟨kvs, k, e, rfl, hl, rfl⟩
section
variable {X : Cx} {pins : List (Addr × Obj)} {σ : St} {H : Hp} {s : Shared} {a : Addr} {y v : V} {u r : Value} {o : Option V} {A : Around} {E : Value → Shared → Prop}
theorem Inv.big (I : Inv X pins σ H s) : sysModules < s.heap.objs.size := by
  have h : mainGlobals < s.heap.objs.size := (I.mod.glob.keeps I.bk).lt
  exact Nat.lt_trans (by decide) h
theorem d_write {h' : Heap} {t' : Nat} {ob : HO} (I : Inv X pins σ H s) (mu : Mut (H a)) (hs : Heap.SameBut a s.heap h') (he : ∃ q, h'.get? a = some q) (new : ObjOk X.prog X.w (upd H a ob) h' a ob) :
    Inv X pins σ (upd H a ob) { s with heap := h', toks := t' } :=
  I.write (x := a) (e := a) mu (.inl rfl) (fun b q hb z => (hs.2 b hb).trans z) he new
theorem dk_new {P : Program} {w : World} {H' : Hp} {h' : Heap} {kvs : List (Key × V)} {vs : List (Key × Value)} (z : kvs.length ≤ sizeLine) (hd : (a == sysModules) = false) (rel : KV kvs vs) (dd : h'.DictOf (mixKind P w) a vs) :
    ObjOk P w H' h' a (.dK kvs) := ⟨z, hd, vs, rel, dd⟩
theorem d_setItem {H' : Hp} {Q : Unit → Shared → Prop} (hu : A.units + 1 < cLine) (I : Inv X pins σ H s) (g : DPut H a y v H') (ry : RelV y u) (rv : RelV v r) (h : ∀ s', Inv X pins σ H' s' → Q () s') :
    wpAny (model X.prog X.w) A (setItem (.ref a) u r) Q E s := by
  rcases g with ⟨kvs, k, e, ey, l, eH⟩ | ⟨kvs, k, b, e, ey, eb, l, eH⟩
  · subst ey eH
    obtain ⟨z, hd, vs, rel, dd⟩ := dk_of I.hok e
    have hz : vs.length ≤ sizeLine := by rw [← rel.length]; exact z
    have hl : (putK kvs k v).length ≤ sizeLine := by have := length_putK kvs k v; omega
    refine wpAny_setItem_pairs (hsz := hz) (kV_is ry) dd fun h' dd' hs => h _ ?_
    have he : ∃ q, h'.get? a = some q := let ⟨q, _, _, hq, _⟩ := dd'; ⟨q, hq⟩
    exact d_write I (by rw [e]; exact True.intro) hs he (dk_new hl hd (rel.put k rv) dd')
  · subst ey eH
    cases (show u = Value.ref b from ry)
    obtain ⟨z, hd, xs, rel, dd⟩ := dt_of I.hok e
    have hz : xs.length ≤ sizeLine := by rw [← Paired.length rel]; exact z
    have hl : (putK kvs k v).length ≤ sizeLine := by have := length_putK kvs k v; omega
    refine wpAny_setItem_heap (hsz := hz) (tupleKind_room_in1 hu) (key_of I.hok eb) dd fun h' dd' hs => h _ ?_
    obtain ⟨q, es, ep, hq, h2, h3, h4, _, h5⟩ := dd'
    refine d_write I (by rw [e]; exact True.intro) hs ⟨q, hq⟩ ⟨hl, hd, _, (rel.put k eb rv).keeps fun c ys ec => ?_, q, es, ep, hq, h2, h3, h4, h5⟩
    rw [upd_ne (ne_of ec e (fun z => nomatch z))]
    exact ec
end
section
variable {X : Cx} {pins : List (Addr × Obj)} {σ : St} {H : Hp} {s : Shared} {a : Addr} {kvs : List (Key × V)} {k : Key} {u : Value} {A : Around} {E : Value → Shared → Prop}
end
def sDPut (td ty tv : TE) : TS := fun D σ H => tv σ H fun v H1 => td σ H1 fun x H2 => ty σ H2 fun y H3 => ∃ a H4, x = .ref a ∧ DPut H3 a y v H4 ∧ D.nx σ H4
section
variable {X : Cx} {o i e value : Expr} {pos pos' tpos : Pos} {td ty tv : TE}
theorem ps_dput (hu : X.A.units + 1 < cLine) (ho : PE X o td) (hi : PE X i ty) (hv : PE X value tv) (hs : swapsWith value (some (.Subscript o i pos')) pos.line X.env = pure false) :
    PS X (.Assign [.Subscript o i pos'] value pos) (sDPut td ty tv) := by
  intro pins s σ H D I h
  refine wpAny_Assign_Subscript (thn (hv pins s σ H _ I h) fun r s1 ⟨v, H1, I1, rv, q1⟩ => thn (ho pins s1 σ H1 _ I1 q1) fun u s2 ⟨x, H2, I2, rx, q2⟩ => thn (hi pins s2 σ H2 _ I2 q2) fun iv s3 ⟨y, H3, I3, ry, a, H4, ex, g, q3⟩ => ?_) hs
  subst ex
  obtain rfl : u = Value.ref a := rx
  exact d_setItem hu I3 g ry rv fun s4 I4 => ⟨σ, H4, I4, q3⟩
end
theorem dk_empty {P : Program} {w : World} {H : Hp} (h : Heap) (hb : sysModules < h.objs.size) : ObjOk P w H (h.push { cls := .type "dict", data := .dict #[] }) h.objs.size (.dK []) :=
  ⟨Nat.zero_le _, beq_eq_false_iff_ne.mpr (Ne.symm (Nat.ne_of_lt hb)), [], .nil, Heap.DictOf.new h⟩
def tDNewK : TE := fun _ H Q => ∀ p, H p = none → Q (.ref p) (upd H p (.dK []))
section
variable {X : Cx} {pos : Pos}
theorem pe_dnewK : PE X (.Dict [] [] pos) tDNewK := fun pins s σ H Q I h =>
  wpAny_Dict_empty ⟨.ref s.heap.objs.size, _, I.laid (a := s.heap.objs.size) (o := .dK []) (t' := s.toks) (fun _ _ q => Heap.get?_push_of_some _ q) (Nat.le_refl _) (dk_empty s.heap I.big), rfl, h _ (I.hok.fresh (Nat.le_refl _))⟩
end
structure M2 (X : Cx) (o : Expr) (m : Str) (apos : Pos) (e f : Expr) (cpos : Pos) : Prop where
  base : attributeBase o m X.env (eval o X.env) = eval o X.env
  few : ((backTo cpos (starEach [e, f] X.env)).all (fun x => !x.1) && (backToKw cpos (keywordEach [] X.env)).all (fun x => x.1.isSome)
    && decide (([e, f] : List Expr).length + ([] : List Keyword).length + (if ([] : List Keyword).isEmpty then 0 else 1) < 30)) = true
  line : (apos.endLine == cpos.line) = true
  trees : backTo cpos (starEach [e, f] X.env) = [(false, eval e X.env), (false, eval f X.env)]
def IsD (H : Hp) (a : Addr) : Prop := (∃ kvs, Rd H a (.dK kvs)) ∨ ∃ kvs, Rd H a (.dT kvs)
theorem isD_at {X : Cx} {pins : List (Addr × Obj)} {σ : St} {H : Hp} {s : Shared} {a : Addr} (I : Inv X pins σ H s) (d : IsD H a) :
    s.TypeIs (.ref a) "dict" ∧ (∀ b, Value.ref a = .ref b → ∃ ob, s.heap.get? b = some ob ∧ ob.dict = none) ∧ (a == sysModules) = false := by
  rcases d with ⟨kvs, e⟩ | ⟨kvs, e⟩
  · obtain ⟨_, hd, vs, _, dd⟩ := dk_rd I.hok e
    refine ⟨dd.typeIs, fun b q => ?_, hd⟩
    cases q
    obtain ⟨ob, _, _, h1, h2, _⟩ := dd
    exact ⟨ob, h1, h2.2.1⟩
  · obtain ⟨_, hd, xs, _, dd⟩ := dt_rd I.hok e
    refine ⟨dd.typeIs, fun b q => ?_, hd⟩
    cases q
    obtain ⟨ob, _, _, h1, h2, _⟩ := dd
    exact ⟨ob, h1, h2.2.1⟩
section
variable {X : Cx} {pins : List (Addr × Obj)} {σ : St} {H : Hp} {s : Shared} {a : Addr} {y d : V} {u r : Value} {o : Option V} {A : Around} {E : Value → Shared → Prop}
theorem d_get2 {Q : Value → Shared → Prop} (hu : A.units + 1 < cLine) (I : Inv X pins σ H s) (g : DGet H a y o) (ry : RelV y u) (rd : RelV d r) (h : ∀ w' s', Inv X pins σ H s' → RelV (o.getD d) w' → Q w' s') :
    wpAny (model X.prog X.w) A (call (.builtin "dict.get") [.ref a, u, r]) Q E s := by
  rcases g with ⟨kvs, k, e, ey, l⟩ | ⟨kvs, k, b, e, ey, eb, l⟩
  · subst ey
    obtain ⟨z, hd, vs, rel, dd⟩ := dk_rd I.hok e
    refine call_meetsIn PySem.F.slot_dict_get dd.typeIs PySem.F.entry_dict_get (PySem.F.args_dict_get_3 _ _ _) (meets_dict_get_default (mixKind X.prog X.w) a (kV_is ry) hd r) ⟨_, dd.mapOf, h _ _ (I.tok _) ?_⟩
    rw [l]
    exact (rel.val k).getD rd
  · subst ey
    cases (show u = Value.ref b from ry)
    obtain ⟨z, hd, xs, rel, dd⟩ := dt_rd I.hok e
    refine call_meetsIn PySem.F.slot_dict_get dd.typeIs PySem.F.entry_dict_get (PySem.F.args_dict_get_3 _ _ _) (meetsH_dict_get_default (tupleKind (mixKind X.prog X.w)) a b hd r) ⟨tupleKind_room_in1 hu, k, xs, key_of I.hok eb, dd, h _ _ (I.tok _) ?_⟩
    rw [l]
    exact (rel.val k).getD rd
end
def tDGet2 (td ty tx : TE) : TE := fun σ H Q => td σ H fun x H1 => ∃ a, x = .ref a ∧ IsD H1 a ∧ ty σ H1 fun y H2 => tx σ H2 fun z H3 => ∃ o, DGet H3 a y o ∧ Q (o.getD z) H3
section
variable {X : Cx} {o e f : Expr} {apos cpos : Pos} {td ty tx : TE}
theorem pe_dget2 (hu : X.A.units + 1 < cLine) (ho : PE X o td) (he : PE X e ty) (hf : PE X f tx) (m : M2 X o "get" apos e f cpos) : PE X (.Call (.Attribute o "get" apos) [e, f] [] cpos) (tDGet2 td ty tx) := by
  intro pins s σ H Q I h
  refine wpAny_Call_method m.base m.few m.line PySem.F.plainAttrs_dict PySem.F.slot_dict_get PySem.F.type_dict_get (thn (ho pins s σ H _ I h) fun u s1 ⟨x, H1, I1, rx, a, ex, d, q1⟩ => ?_)
  subst ex
  obtain rfl : u = Value.ref a := rx
  obtain ⟨t1, t2, _⟩ := isD_at I1 d
  refine ⟨t1, t2, ?_⟩
  rw [m.trees]
  refine Calls.callWith_builtin rfl (Calls.evalArgs_plain (Calls.spliced_cons (thn (he pins s1 σ H1 _ I1 q1) fun iv s2 ⟨y, H2, I2, ry, q2⟩ =>
    Calls.spliced_cons (thn (hf pins s2 σ H2 _ I2 q2) fun fv s3 ⟨z, H3, I3, rz, ov, g, q3⟩ => Calls.spliced_nil ?_))))
  exact d_get2 hu I3 g ry rz fun w' s4 I4 rw' => ⟨_, H3, I4, rw', q3⟩
end
section
variable {X : Cx} {pins : List (Addr × Obj)} {σ : St} {H : Hp} {s : Shared} {a : Addr} {kvs : List (Key × V)} {A : Around} {E : Value → Shared → Prop}
end
section
variable {X : Cx} {pins : List (Addr × Obj)} {σ : St} {H : Hp} {s : Shared} {a : Addr} {y : V} {u : Value} {A : Around} {E : Value → Shared → Prop}
end
end L2
namespace L2
open PySem PySem.Spec PyProof.Rows
section
variable {X : Cx}
end
section
variable {κ : Type} [DecidableEq κ]
end
end L2
set_option maxRecDepth 100000
set_option Elab.async false
set_option linter.all false
namespace L2
open PySem PySem.Spec PySem.W PyProof.Rows
section
variable {X : Cx} {pins : List (Addr × Obj)} {σ : St} {H : Hp} {s : Shared}
end
section
variable {X : Cx} {pins : List (Addr × Obj)} {σ : St} {H : Hp} {s : Shared}
end
section
variable {X : Cx}
def cutS (z : Str) (lo hi : Option Int) : Str := ⟨((z.cps.toList.drop (HT.sIx z.length 0 lo)).take (HT.sIx z.length z.length hi - HT.sIx z.length 0 lo)).toArray⟩
theorem slice_ix (lo hi : Option Int) (n : Nat) : Builtin.Str.strSliceIndices lo hi 1 n = (List.range (HT.sIx n n hi - HT.sIx n 0 lo)).map fun m => HT.sIx n 0 lo + m := by
  have clip : ∀ (o : Option Int) (d : Nat), (match o with | none => ((d : Nat) : Int) | some i => max 0 (min (if i < 0 then i + (n : Int) else i) (n : Int))) = ((HT.sIx n d o : Nat) : Int) := by
    intro o d
    cases o with
    | none => rfl
    | some v =>
      show max 0 (min (if v < 0 then v + (n : Int) else v) (n : Int)) = (((if v < 0 then (v + (n : Int)).toNat else min v.toNat n) : Nat) : Int)
      by_cases hv : v < 0
      · rw [if_pos hv, if_pos hv]; omega
      · rw [if_neg hv, if_neg hv]; omega
  have key : ∀ a b : Nat, sliceRange (a : Int) (b : Int) 1 = (List.range (b - a)).map fun m => a + m := by
    intro a b
    unfold sliceRange
    simp only [show (1 : Int) > 0 by decide, if_true, Int.ediv_one]
    have hc : (if (a : Int) < (b : Int) then ((b : Int) - (a : Int) + 1 - 1) else 0).toNat = b - a := by split <;> omega
    rw [hc]
    refine List.map_congr_left fun m _ => ?_
    omega
  unfold Builtin.Str.strSliceIndices
  simp only [show (1 : Int) > 0 by decide, if_true]
  exact (congr (congrArg (fun p q => sliceRange p q 1) (clip lo 0)) (clip hi n)).trans (key _ _)
theorem pick_at (l : List Nat) (a : Nat) : ∀ k : Nat, ((List.range k).map fun m => a + m).filterMap (fun j => l[j]?) = (l.drop a).take k
  | 0 => by simp
  | k + 1 => by
    rw [List.range_succ, List.map_append, List.filterMap_append, pick_at l a k, List.take_add_one]
    congr 1
    simp only [List.map_cons, List.map_nil, List.filterMap_cons, List.filterMap_nil, List.getElem?_drop]
    cases l[a + k]? <;> rfl
theorem cut_made (z : Str) (t : Tok) (l u : Option (Int × Tok)) : ∃ b : Bool, PySem.sliceMade z t l u none = if b then .val (.str (cutS z (l.map (·.1)) (u.map (·.1))) t) else .str (cutS z (l.map (·.1)) (u.map (·.1))) := by
  have hp : ((PySem.slicePicked z l u none).filterMap (z.cps[·]?)).toArray = (cutS z (l.map (·.1)) (u.map (·.1))).cps := by
    unfold PySem.slicePicked cutS
    rw [show ((none : Option (Int × Tok)).map (·.1)).getD 1 = (1 : Int) from rfl, slice_ix]
    have e : (fun (j : Nat) => z.cps[j]?) = fun (j : Nat) => z.cps.toList[j]? := by funext j; simp
    rw [e, pick_at]
  unfold PySem.sliceMade
  by_cases hw : (((none : Option (Int × Tok)).map (·.1)).getD 1 == 1 && (PySem.slicePicked z l u none).length == z.length) = true
  · refine ⟨true, ?_⟩
    rw [if_pos hw, if_pos rfl]
    have hl : (PySem.slicePicked z l u none).length = z.length := by
      rw [Bool.and_eq_true] at hw; simpa using hw.2
    have hz : cutS z (l.map (·.1)) (u.map (·.1)) = z := by
      unfold PySem.slicePicked at hl
      rw [show ((none : Option (Int × Tok)).map (·.1)).getD 1 = (1 : Int) from rfl, slice_ix, List.length_map, List.length_range] at hl
      have h1 := HT.sIx_le z.length 0 (Nat.zero_le _) (l.map (·.1))
      have h2 := HT.sIx_le z.length z.length (Nat.le_refl _) (u.map (·.1))
      by_cases h0 : z.length = 0
      · have e1 : z.cps.toList = [] := List.eq_nil_of_length_eq_zero (by rw [Array.length_toList]; exact h0)
        cases z with
        | mk cps =>
          unfold cutS
          have e1 : cps.toList = [] := e1
          simp only [e1, List.drop_nil, List.take_nil]
          congr 1
          exact Array.toList_inj.mp (by rw [e1])
      · have ha : HT.sIx z.length 0 (l.map (·.1)) = 0 := by omega
        have hb : HT.sIx z.length z.length (u.map (·.1)) = z.length := by omega
        cases z with
        | mk cps =>
          unfold cutS
          rw [ha, hb, List.drop_zero, Nat.sub_zero]
          congr 1
          have : cps.toList.take (Str.length ⟨cps⟩) = cps.toList := List.take_of_length_le (by rw [Array.length_toList]; exact Nat.le_refl _)
          rw [this]
    rw [hz]
  · refine ⟨false, ?_⟩
    rw [if_neg hw, hp]
    rfl
def rSlS : V → Option Int → Option Int → Hp → VK → Prop := fun x lo hi H Q => ∃ z, x = .str z ∧ z.length ≤ sizeLine ∧ Q (.str (cutS z lo hi)) H
theorem cutS_len (z : Str) (lo hi : Option Int) : (cutS z lo hi).length ≤ z.length := by
  show ((z.cps.toList.drop _).take _).toArray.size ≤ z.cps.size
  rw [List.size_toArray, List.length_take, List.length_drop, Array.length_toList]
  omega
theorem sl_str : SlR X rSlS := by
  intro pins s σ H x v vl vu lo hi sl Q I rx hs pl pu h
  obtain ⟨z, rfl, hz, q⟩ := h
  obtain ⟨t, rfl⟩ := rx
  refine ⟨"str", _, F.slot_str_getitem.lookup, typeIs_str _ _ _, ?_⟩
  have fin : ∀ (l u : Option (Int × Tok)), l.map (·.1) = lo → u.map (·.1) = hi → s.heap.IsSlice sl l u none → wpAny (model X.prog X.w) X.A (getItem (.str z t) (.ref sl)) (EP X pins σ Q) X.xe s := by
    intro l u el eu hsl
    refine wpAny_getItem_str_slice hsl rfl ?_
    obtain ⟨b, e⟩ := cut_made z t l u
    rw [e, el, eu]
    cases b with
    | true => exact ⟨.str (cutS z lo hi), H, I, ⟨t, rfl⟩, q⟩
    | false => exact ⟨Nat.le_trans (cutS_len z lo hi) hz, .str (cutS z lo hi), H, I.tok _, ⟨_, rfl⟩, q⟩
  cases pl with
  | none =>
    cases pu with
    | none => exact fin none none rfl rfl hs
    | int j tj => exact fin none (some (j, tj)) rfl rfl hs
  | int i ti =>
    cases pu with
    | none => exact fin (some (i, ti)) none rfl rfl hs
    | int j tj => exact fin (some (i, ti)) (some (j, tj)) rfl rfl hs
end
def rLenS : List V → Hp → VK → Prop := fun xs H Q => ∃ z, xs = [.str z] ∧ z.length ≤ sizeLine ∧ Q (.int z.length) H
theorem call_lenS {X : Cx} : CallR X (.builtin "len") rLenS := call_len_str
def rAddS : R2 := fun x y H Q => ∃ i j, x = .str i ∧ y = .str j ∧ i.length + j.length ≤ sizeLine ∧ Q (.str (i ++ j)) H
theorem op_addS {X : Cx} : OpR X (binaryOp .Add) rAddS := op_add_str
section
variable {σ : St} {H : Hp} {Q : VK} {D : Ends}
theorem i_raise {ES : XS} {C : Addr} {t : TA} (q : t σ H fun vs H1 => vs.length ≤ sizeLine ∧ ES σ (.ref C) none H1) : tRaise ES C t D σ H := q
theorem i_try {K : Frag} {Cy : Addr} {i : Nat} {tb : XS → TS} {th : TS} (q : tb (tClause K Cy i th D) D σ H) : tTry K Cy i tb th D σ H := q
theorem i_addS {x y : Str} (h : x.length + y.length ≤ sizeLine) (q : Q (.str (x ++ y)) H) : rAddS (.str x) (.str y) H Q := ⟨x, y, rfl, rfl, h, q⟩
theorem i_slS {z : Str} {lo hi : Option Int} (h : z.length ≤ sizeLine) (q : Q (.str (cutS z lo hi)) H) : rSlS (.str z) lo hi H Q := ⟨z, rfl, h, q⟩
theorem i_ixS {K : Frag} {z : Str} {i : Int} {c : Nat} (h : z.length ≤ sizeLine) (a : atI z.cps.toList i = some c) (q : Q (.str ⟨#[c]⟩) H) : rIx K (.str z) (.int i) H Q := .inr (.inr ⟨z, i, c, rfl, rfl, h, a, q⟩)
theorem i_bm {K : Frag} {T : String} {r : V → List V → Hp → VK → Prop} {to : TE} {t : TA} (q : to σ H fun x H1 => tyV K T x H1 ∧ t σ H1 fun xs H2 => r x xs H2 Q) : tBM K T r to t σ H Q := q
def rCatA (K : Frag) : R2 := fun x y H Q => ∃ l b xs zs, x = .ref l ∧ y = .ref b ∧ H l = some (.lst xs) ∧ H b = some (.lst zs) ∧ xs.length + zs.length ≤ sizeLine ∧ ∀ p H2, New H p (.lst (xs ++ zs)) H2 → Q (.ref p) H2
theorem op_catA {X : Cx} : OpR X (binaryOp .Add) (rCatA X.K) := fun pins s σ H x y v u Q I rx ry ⟨l, b, xs, zs, e1, e2, h1, h2, z, q⟩ => op_cat pins s σ H x y v u Q I rx ry ⟨l, b, xs, zs, e1, e2, h1, h2, z, fun p hp => q p _ ⟨hp, rfl⟩⟩
theorem i_catA {K : Frag} {l b : Addr} {xs zs : List V} (h1 : H l = some (.lst xs)) (h2 : H b = some (.lst zs)) (z : xs.length + zs.length ≤ sizeLine) (q : ∀ p H2, New H p (.lst (xs ++ zs)) H2 → Q (.ref p) H2) : rCatA K (.ref l) (.ref b) H Q := ⟨l, b, xs, zs, rfl, rfl, h1, h2, z, q⟩
end
theorem PE.imp {X : Cx} {e : Expr} {t t' : TE} (h : PE X e t) (i : ∀ σ H Q, t' σ H Q → t σ H Q) : PE X e t' := fun pins s σ H Q I q => h pins s σ H Q I (i _ _ _ q)
def tMakeA (C : Addr) : TE := fun _ H Q => ∀ x dx H2, NewI H x dx C [] H2 → Q (.ref x) H2
theorem pe_makeA {X : Cx} {C : Addr} {x : Str} {p pos : Pos} (M : MkN X.K C) (hg : Gl X x) (hm : X.mg x = some (.ref C)) (hdb : (x == ("__debug__" : Str)) = false := by decide) : PE X (.Call (.Name x p) [] [] pos) (tMakeA C) :=
  (pe_makeN M hg hm hdb).imp fun _ _ _ q x dx hx hd ne => q x dx _ ⟨hx, hd, ne, rfl⟩
theorem boot_ValueError : bootBuiltins "ValueError" = some (.type "ValueError") := by decide +kernel
theorem i_iteDt {c A B : Prop} [Decidable c] (h : c) (q : A) : if decide c = true then A else B := by rw [decide_eq_true h]; exact iteT q
theorem i_iteDf {c A B : Prop} [Decidable c] (h : ¬ c) (q : B) : if decide c = true then A else B := by rw [decide_eq_false h]; exact iteF q
theorem i_lenS {z : Str} {H : Hp} {Q : VK} (h : z.length ≤ sizeLine) (q : Q (.int z.length) H) : rLenS [.str z] H Q := ⟨z, rfl, h, q⟩
theorem i_inL {K : Frag} {x : V} {p : Addr} {xs : List V} {H : Hp} {Q : VK} (h : SqL K H p xs) (fx : flatV x = true) (f : xs.all flatV = true) (q : Q (.bl (inV x xs)) H) : rIn K false x (.ref p) H Q := ⟨p, xs, rfl, .inl h, fx, f, q⟩
theorem i_ninL {K : Frag} {x : V} {p : Addr} {xs : List V} {H : Hp} {Q : VK} (h : SqL K H p xs) (fx : flatV x = true) (f : xs.all flatV = true) (q : Q (.bl (!inV x xs)) H) : rIn K true x (.ref p) H Q := ⟨p, xs, rfl, .inl h, fx, f, q⟩
end L2
set_option maxRecDepth 100000
set_option Elab.async false
set_option linter.all false
namespace L2
open PySem PySem.Spec PySem.W PyProof.Rows
theorem Inv.turnedL {X : Cx} {pins : List (Addr × Obj)} {σ : St} {H : Hp} {s : Shared} {h' : Heap} {t' : Nat} {fp : List Addr} (I : Inv X pins σ H s) (f : ∀ b ∈ fp, FpOk X pins H b) (k : ∀ b o, b ∉ fp → s.heap.get? b = some o → h'.get? b = some o) :
    Inv X pins σ H { s with heap := h', toks := t' } := by
  have nit : ∀ b u, H b = some u → b ∉ fp := fun b u e z => by rw [(f b z).1] at e; cases e
  refine I.step (g' := s.gens) (d' := s.drawn) (ch := fp) (fun b hb => ?_) (fun b o _ _ hc e _ => k b o hc e) (fun b o _ _ hc e _ => ⟨o.slots, k b o hc e⟩) (fun _ _ _ _ n => n)
    (fun b o hc e => ⟨o, k b o hc e⟩) (fun _ _ e => e) (fun _ _ _ e => e) (fun b ps e => ⟨#[], by rw [e]; simp⟩) (fun m hm => ?_) (fun b u e => ?_) I.bare
  · obtain ⟨f0, f1, f2, f3, f4, f5⟩ := f b hb
    exact ⟨f3, f1, f4, f5⟩
  · obtain ⟨o, es, ep, ho, r⟩ := hm
    exact ⟨o, es, ep, k _ o (fun z => (f _ z).2.1 rfl) ho, r⟩
  · refine (I.hok b u e).stay (fun c v hc q => k c v ?_ q) (fun _ q => q) fun _ _ q => q
    rcases hc with z | z
    · rw [z]; exact nit b u e
    · exact nit c _ z
def Its (z : Str) : It := ⟨fun i _ => i < z.cps.size, fun i H x H' => H' = H ∧ ∃ c, z.cps.toList[i]? = some c ∧ x = .str ⟨#[c]⟩, fun i _ => i = z.cps.size⟩
theorem turn_str {P : Program} {w : World} {K : Frag} {tg : Expr} (it : Addr) (z : Str) (t : Tok) (ty : String) (hty : ty = "str_ascii_iterator" ∨ ty = "str_iterator") : Turn P w K tg (Its z) [it] it (fun i h => h.IsStrIter it ty z t i) where
  mem := by simp
  obj := fun i h st b hb => by
    have e : b = it := by simpa using hb
    subst e
    obtain ⟨o, ho, _, hd⟩ := st
    exact ⟨o, ho, fun v q => by rw [hd] at q; cases q⟩
  keep := fun i h h' st k => let ⟨o, ho, r⟩ := st; ⟨o, k it (by simp) o ho, r⟩
  item := by
    intro X hP hw hK hc i pins s σ H E I hf st hg
    subst hP hw hK
    have W : Walks X.prog X.w X.A it [it] [it] z.cps.size (SignAt z) (fun i h => h.IsStrIter it ty z t i) := by
      rcases hty with rfl | rfl
      · exact Walks.strAscii (I.ok.hd hc) it z t
      · exact Walks.strWide (I.ok.hd hc) it z t
    refine W.item i s _ _ hg st fun v h' tk hv st' kk => ?_
    obtain ⟨c, u, hc1, rfl⟩ := hv
    have I1 : Inv X pins σ H { s with heap := h', toks := tk } := I.turnedL hf fun b o hb e => kk b o hb e
    obtain ⟨o, ho, hcl, hd⟩ := id st'
    refine ⟨_, rfl, go_of (s := { s with heap := h', toks := tk }) (n := ty) ho hcl hd (by rcases hty with rfl | rfl <;> decide) ⟨.str ⟨#[c]⟩, H, I1, ⟨u, rfl⟩, ⟨rfl, c, by simpa using hc1, rfl⟩, st', fun b hb => (hf b hb).1⟩⟩
  done := by
    intro X hP hw hK hc i pins s σ H E I hf st hg
    subst hP hw hK
    have W : Walks X.prog X.w X.A it [it] [it] z.cps.size (SignAt z) (fun i h => h.IsStrIter it ty z t i) := by
      rcases hty with rfl | rfl
      · exact Walks.strAscii (I.ok.hd hc) it z t
      · exact Walks.strWide (I.ok.hd hc) it z t
    have e : i = z.cps.size := hg
    subst e
    exact W.done s _ _ st fun h' tk kk => ⟨rfl, I.turnedL hf fun b o hb e => kk b o hb e⟩
  self := fun _ _ _ _ _ st h => by
    rcases hty with rfl | rfl
    · exact wpAny_pyIter_striter_ascii st h
    · exact wpAny_pyIter_striter_wide st h
def iStr (tl : TE) : TI := fun σ H R => tl σ H fun x H1 => ∃ z, x = .str z ∧ R (Its z) H1
theorem pi_str {X : Cx} {tg l : Expr} {tl : TE} (hl : PE X l tl) : PI X tg l (iStr tl) := by
  intro pins s σ H R I h
  refine thn (hl pins s σ H _ I h) fun v s1 ⟨x, H1, I1, r1, q1⟩ => ?_
  obtain ⟨z, e, q⟩ := q1
  subst e
  obtain ⟨t, rfl⟩ := r1
  have fin : ∀ ty : String, (ty = "str_ascii_iterator" ∨ ty = "str_iterator") → PIE X pins σ tg R (.ref s1.heap.objs.size) { s1 with heap := s1.heap.push { cls := .type ty, data := .fields #[.str z t, .int 0 0] } } := fun ty hty => by
    refine ⟨s1.heap.objs.size, [s1.heap.objs.size], _, _, H1, rfl, I1.kept (t' := s1.toks) fun b o e => Heap.get?_push_of_some _ e, turn_str _ z t ty hty, ⟨_, Heap.get?_push_size _ rfl, rfl, rfl⟩, fun b hb => ?_, q⟩
    have e : b = s1.heap.objs.size := by simpa using hb
    subst e
    exact I1.fpOk (Nat.le_refl _) (I1.hok.fresh (Nat.le_refl _))
  cases ha : z.cps.all (· < 128)
  · exact wpAny_pyIter_wide ha (fin _ (.inr rfl))
  · exact wpAny_pyIter_ascii ha (fin _ (.inl rfl))
def Ite (K : Frag) (l : Addr) : It :=
  ⟨fun i H => ∃ xs x, SqL K H l xs ∧ xs[i]? = some x, fun i H v H' => ∃ T x, v = .ref T ∧ New H T (.tup [.int (i : Int), x]) H' ∧ ∀ xs, SqL K H l xs → xs[i]? = some x, fun i H => ∃ xs, SqL K H l xs ∧ xs.length ≤ i⟩
theorem turn_enum {P : Program} {w : World} {K : Frag} {es : List Expr} {k : Nat} {tp : Pos} (e it l : Addr) (hei : e ≠ it) : Turn P w K (.Tuple es k tp) (Ite K l) [e, it] e (fun i h => (∃ old, IsEnum h e it (i : Nat) old) ∧ h.IsListIter it l i) where
  mem := by simp
  obj := fun i h st b hb => by
    obtain ⟨⟨old, he⟩, o, ho, hc, hd⟩ := st
    rcases List.mem_cons.mp hb with rfl | hb
    · exact ⟨_, he, fun v z => by cases z⟩
    · have e2 : b = it := by simpa using hb
      subst e2
      exact ⟨o, ho, fun v z => by rw [hd] at z; cases z⟩
  keep := fun i h h' st kk => by
    obtain ⟨⟨old, he⟩, o, ho, r⟩ := st
    exact ⟨⟨old, kk e (by simp) _ he⟩, o, kk it (by simp) _ ho, r⟩
  item := by
    intro X hP hw hK hc i pins s σ H E I hf st hg
    subst hP hw hK
    obtain ⟨⟨old, he⟩, hit⟩ := st
    obtain ⟨xs, x, hS, hx⟩ := hg
    obtain ⟨its, rv, p, hz⟩ := I.list hS
    obtain ⟨u, hu, ru⟩ := rv.get hx
    refine wpAny_pyNext_enum_item he hit p.isList (show its.toArray[i]? = some u by simpa using hu) hei fun h' ho hit' hT hsz hk => ⟨_, rfl, ?_⟩
    have I1 : Inv X pins σ H { s with heap := h', toks := s.toks + 1 } := I.turnedL hf fun b o hb q => hk b o (fun z => hb (by simp [z])) (fun z => hb (by simp [z])) q
    have helt : e < s.heap.objs.size := Heap.lt_size he
    have hilt : it < s.heap.objs.size := by obtain ⟨_, x, _⟩ := hit; exact Heap.lt_size x
    refine wpAny_letOwnedTupleGo_enum ho fun h2 he2 hs2 => ?_
    have I2 : Inv X pins σ H { s with heap := h2, toks := s.toks + 1 } := I1.turnedL hf fun b o hb q => (hs2.2 b (fun z => hb (by simp [z]))).trans q
    have hTn : H s.heap.objs.size = none := I.hok.fresh (Nat.le_refl _)
    have hTe : s.heap.objs.size ≠ e := Nat.ne_of_gt helt
    have hT2 : h2.get? s.heap.objs.size = some { cls := .type "tuple", data := .seq #[.int i s.toks, u] } := (hs2.2 _ hTe).trans hT
    have I3 : Inv X pins σ (upd H s.heap.objs.size (.tup [.int (i : Int), x])) { s with heap := h2, toks := s.toks + 1 } := by
      refine I2.track (I.fpOk (Nat.le_refl _) hTn) ⟨by show 2 ≤ sizeLine; decide, [.int i s.toks, u], .cons ⟨_, rfl⟩ (.cons ru .nil), ⟨_, hT2, rfl, _, rfl⟩⟩
    refine ⟨.ref s.heap.objs.size, _, I3, rfl, ⟨_, x, rfl, ⟨hTn, rfl⟩, fun ys hy => ?_⟩, ⟨⟨u, by simpa using he2⟩, ?_⟩, fun b hb => ?_⟩
    · cases I.list_inj hS hy; exact hx
    · exact hit'.at fun o q => (hs2.2 it hei.symm).trans q
    · have hne : b ≠ s.heap.objs.size := by
        rcases List.mem_cons.mp hb with z | z
        · rw [z]; exact Nat.ne_of_lt helt
        · rw [show b = it by simpa using z]; exact Nat.ne_of_lt hilt
      rw [upd_ne hne]; exact (hf b hb).1
  done := by
    intro X hP hw hK hc i pins s σ H E I hf st hg
    subst hP hw hK
    obtain ⟨⟨old, he⟩, hit⟩ := st
    obtain ⟨xs, hS, hl⟩ := hg
    obtain ⟨its, rv, p, hz⟩ := I.list hS
    have hlen := rv.length
    refine wpAny_pyNext_enum_end (I.ok.hd hc) he hit p.isList (by simp; omega) fun h' hx => ⟨rfl, ?_⟩
    exact I.turnedL (t' := s.toks) hf fun b o hb q => hx b o (fun z => hb (by simp [z])) q
  self := fun _ _ _ _ _ ⟨⟨_, he⟩, _⟩ h => wpAny_pyIter_enum he h
def iEnum (K : Frag) (ta : TA) : TI := fun σ H R => ta σ H fun vs H1 => ∃ l, vs = [.ref l] ∧ (∃ xs, SqL K H1 l xs) ∧ R (Ite K l) H1
theorem pi_enum {X : Cx} {es : List Expr} {k : Nat} {tp : Pos} {a : Expr} {ta : TA} {p pos : Pos} (hg : Gl X "enumerate") (hm : X.mg "enumerate" = none) (ha : PA X [a] ta) (hs : starEach [a] X.env = [(false, eval a X.env)] := by rfl) : PI X (.Tuple es k tp) (.Call (.Name "enumerate" p) [a] [] pos) (iEnum X.K ta) := by
  intro pins s σ H R I h
  refine Call_ (ld_blt I hg hm PyProof.Rows.boot_enumerate (PyProof.Rows.callWith_type1 (thn (ha pos pins s σ H _ I h) fun us s1 ⟨vs, H1, I1, r1, q1⟩ => ?_) hs rfl))
  obtain ⟨l, e, ⟨xs, hS⟩, q⟩ := q1
  subst e
  cases r1 with
  | cons r rr =>
    cases rr
    cases r
    obtain ⟨its, rv, pl, hz⟩ := I1.list hS
    refine call_enumerate_list pl.isList fun h' he hit hsz hk => ?_
    have hne : s1.heap.objs.size + 1 ≠ s1.heap.objs.size := Nat.succ_ne_self _
    have I2 : Inv X pins σ H1 { s1 with heap := h' } := I1.kept (t' := s1.toks) fun b o e => hk b o e
    refine wpAny_pyIter_enum he ⟨s1.heap.objs.size + 1, [s1.heap.objs.size + 1, s1.heap.objs.size], _, _, H1, rfl, I2, turn_enum _ _ l hne, ⟨⟨_, he⟩, hit⟩, fun b hb => ?_, q⟩
    have hb' : s1.heap.objs.size ≤ b := by
      rcases List.mem_cons.mp hb with z | z
      · rw [z]; exact Nat.le_succ _
      · rw [show b = s1.heap.objs.size by simpa using z]; exact Nat.le_refl _
    exact I1.fpOk hb' (I1.hok.fresh hb')
theorem for_enum {K : Frag} {l : Addr} {xs : List V} {g : TG} {tb : TS} {D : Ends} {σ : St} {H : Hp} (Pv : Nat → St → Hp → Prop) (h0 : Pv 0 σ H) (hl : ∀ i σ H, i ≤ xs.length → Pv i σ H → SqL K H l xs)
    (hs : ∀ i x T σ H H', xs[i]? = some x → Pv i σ H → New H T (.tup [.int (i : Int), x]) H' → g (.ref T) σ H' fun σ2 H2 => tb { D with nx := Pv (i + 1), ct := Pv (i + 1), bk := D.nx } σ2 H2) (hd : ∀ σ H, Pv xs.length σ H → D.nx σ H) :
    ∃ W : Nat → Nat → St → Hp → Prop, (∃ m, W 0 m σ H) ∧ ∀ i m σ H, W i m σ H →
      ((Ite K l).stop i H ∧ D.nx σ H) ∨ ((Ite K l).go i H ∧ ∃ N : St → Hp → Prop, (∀ σ' H', N σ' H' → ∃ m', m' < m ∧ W (i + 1) m' σ' H') ∧ ∀ x H', (Ite K l).yld i H x H' → g x σ H' fun σ2 H2 => tb { D with nx := N, ct := N, bk := D.nx } σ2 H2) := by
  refine ⟨fun i m σ H => m = xs.length - i ∧ i ≤ xs.length ∧ Pv i σ H, ⟨xs.length, by simp, Nat.zero_le _, h0⟩, ?_⟩
  rintro i m σ H ⟨rfl, hi, p⟩
  have q := hl i σ H hi p
  by_cases hlt : i < xs.length
  · refine .inr ⟨⟨xs, xs[i], q, by simp [hlt]⟩, Pv (i + 1), fun σ' H' p' => ⟨xs.length - (i + 1), by omega, rfl, hlt, p'⟩, fun v H' y => ?_⟩
    obtain ⟨T, x, rfl, hN, y⟩ := y
    exact hs i x T σ H H' (y xs q) p hN
  · have e : i = xs.length := by omega
    subst e
    exact .inl ⟨⟨xs, q, Nat.le_refl _⟩, hd σ H p⟩
def rAll (K : Frag) : List V → Hp → VK → Prop := fun xs H Q => ∃ p bs, xs = [.ref p] ∧ SqL K H p (List.map V.bl bs) ∧ Q (.bl (bs.all id)) H
theorem call_all {X : Cx} (hc : X.calm = true) : CallR X (.builtin "all") (rAll X.K) := by
  intro pins s σ H xs us Q I r h
  obtain ⟨p, bs, rfl, hS, q⟩ := h
  obtain ⟨u, rfl, ru⟩ := r.one
  cases ru
  obtain ⟨its, rv, pl, hz⟩ := I.list hS
  have hl := pl.isList
  have hlt : p < s.heap.objs.size := by obtain ⟨_, e, _⟩ := hl; exact Heap.lt_size e
  have hlen : bs.length = its.length := by have := rv.length; simpa using this
  refine call_all_walk (wpAny_pyIter_list hl ?_)
  refine ⟨s.heap.objs.size, [s.heap.objs.size, p], [s.heap.objs.size], its.toArray.size, _, _, fun i => (bs[i]?).getD true, rfl, Walks.list (A := X.A.in1) (I.ok.hd hc) _ p (Nat.ne_of_lt hlt) its.toArray,
    ⟨⟨_, Heap.get?_push_size _ rfl, rfl, rfl⟩, hl.push _⟩, fun i v s' Q' E' hP hQ => ?_, fun h' tk hk => ?_⟩
  · have hP' : its[i]? = some v := by simpa using hP
    have hi : i < bs.length := by rw [hlen]; exact (List.getElem?_eq_some_iff.mp hP').1
    obtain ⟨u, hu, ru⟩ := rv.get (i := i) (x := .bl bs[i]) (by rw [List.getElem?_map, List.getElem?_eq_getElem hi]; rfl)
    rw [hP'] at hu; cases hu
    cases ru
    simp only [List.getElem?_eq_getElem hi, Option.getD_some] at hQ
    exact wpAny_truthy_bool hQ
  · have e : ((List.range its.toArray.size).all fun i => (bs[i]?).getD true) = bs.all id := by
      rw [List.size_toArray, ← hlen]; exact LSm.range_all bs
    rw [e]
    exact ⟨.bl (bs.all id), H, I.kept (t' := tk) (LSm.kept_iter hk), rfl, q⟩
theorem i_all {K : Frag} {p : Addr} {bs : List Bool} {H : Hp} {Q : VK} (h : SqL K H p (List.map V.bl bs)) (q : Q (.bl (bs.all id)) H) : rAll K [.ref p] H Q := ⟨p, bs, rfl, h, q⟩
def rInS : R2 := fun x y H Q => ∃ (c : Nat) (j : Str), x = .str ⟨#[c]⟩ ∧ y = .str j ∧ Q (.bl (decide (c ∈ j.cps.toList))) H
theorem op_inS {X : Cx} : OpR X (compareOp .In) rInS := fun pins s σ H x y v u Q I rx ry ⟨c, j, e1, e2, q⟩ => op_in_str pins s σ H x y v u Q I rx ry ⟨⟨#[c]⟩, j, e1, e2, by
  rw [PySem.StrLaws.found_one]; exact q⟩
theorem lcT {K : Frag} {a : Addr} {te : TE} {cs : St} {H1 : Hp} {Q : Addr → Hp → Prop} (xs : List V) (f : V → V) (hS : SqT K H1 a xs) (hz : xs.length ≤ sizeLine)
    (hx : ∀ (i : Nat) (v : V) (H' : Hp) (R : VK), xs[i]? = some v → Same H1 H' → R (f v) H' → te (some v :: cs) H' R) (q : ∀ D H2, New H1 D (.lst (xs.map f)) H2 → Q D H2) :
    ∃ a', V.ref a = .ref a' ∧ (∃ xs, SqT K H1 a' xs) ∧ ∀ D, H1 D = none → ∃ W : Nat → Nat → List V → Hp → Prop, (∃ m, W 0 m [] (upd H1 D (.lst []))) ∧ ∀ i m ys H, W i m ys H →
      H D = some (.lst ys) ∧ (((Itt K a').stop i H ∧ Q D H) ∨ ((Itt K a').go i H ∧ ys.length < sizeLine ∧ ∀ x H', (Itt K a').yld i H x H' → tYes (some x :: cs) H' fun b H2 =>
        if b = true then te (some x :: cs) H2 fun y H3 => H3 D = some (.lst ys) ∧ ∃ m', m' < m ∧ W (i + 1) m' (ys ++ [y]) (upd H3 D (.lst (ys ++ [y]))) else ∃ m', m' < m ∧ W (i + 1) m' ys H2)) := by
  refine ⟨a, rfl, ⟨xs, hS⟩, fun D hD => ?_⟩
  refine ⟨fun i m ys H => m = xs.length - i ∧ i ≤ xs.length ∧ ys = (xs.take i).map f ∧ H = upd H1 D (.lst ys), ⟨xs.length, by simp, Nat.zero_le _, by simp, rfl⟩, ?_⟩
  rintro i m ys H ⟨rfl, hi, hys, rfl⟩
  have s1 : Same H1 (upd H1 D (.lst ys)) := Same.upd (Same.refl H1) hD
  have q1 := s1.tup hS
  refine ⟨upd_same, ?_⟩
  by_cases hlt : i < xs.length
  · have hyl : ys.length = i := by rw [hys, List.length_map, List.length_take]; omega
    refine .inr ⟨⟨xs, xs[i], q1, by simp [hlt]⟩, by omega, fun x H' y => ?_⟩
    obtain ⟨e, y⟩ := y
    subst e
    have hxi := y xs q1
    unfold tYes; dsimp only
    rw [if_pos rfl]
    refine (hx i x _ _ hxi s1 ⟨upd_same, xs.length - (i + 1), by omega, rfl, hlt, ?_, by rw [upd_upd]⟩)
    rw [List.take_add_one, List.map_append, ← hys, hxi]; rfl
  · have e : i = xs.length := by omega
    subst e
    refine .inl ⟨⟨xs, q1, Nat.le_refl _⟩, ?_⟩
    rw [hys, List.take_length]
    exact q D _ ⟨hD, rfl⟩
theorem lcS {te : TE} {cs : St} {H1 : Hp} {Q : Addr → Hp → Prop} (z : Str) (f : Nat → V) (hz : z.length ≤ sizeLine)
    (hx : ∀ (c : Nat) (H' : Hp) (R : VK), c ∈ z.cps.toList → Same H1 H' → R (f c) H' → te (some (.str ⟨#[c]⟩) :: cs) H' R) (q : ∀ D H2, New H1 D (.lst (z.cps.toList.map f)) H2 → Q D H2) :
    ∃ z', V.str z = .str z' ∧ ∀ D, H1 D = none → ∃ W : Nat → Nat → List V → Hp → Prop, (∃ m, W 0 m [] (upd H1 D (.lst []))) ∧ ∀ i m ys H, W i m ys H →
      H D = some (.lst ys) ∧ (((Its z').stop i H ∧ Q D H) ∨ ((Its z').go i H ∧ ys.length < sizeLine ∧ ∀ x H', (Its z').yld i H x H' → tYes (some x :: cs) H' fun b H2 =>
        if b = true then te (some x :: cs) H2 fun y H3 => H3 D = some (.lst ys) ∧ ∃ m', m' < m ∧ W (i + 1) m' (ys ++ [y]) (upd H3 D (.lst (ys ++ [y]))) else ∃ m', m' < m ∧ W (i + 1) m' ys H2)) := by
  refine ⟨z, rfl, fun D hD => ?_⟩
  have hsz : z.cps.toList.length = z.cps.size := Array.length_toList
  have hz' : z.cps.size ≤ sizeLine := hz
  refine ⟨fun i m ys H => m = z.cps.size - i ∧ i ≤ z.cps.size ∧ ys = (z.cps.toList.take i).map f ∧ H = upd H1 D (.lst ys), ⟨z.cps.size, by simp, Nat.zero_le _, by simp, rfl⟩, ?_⟩
  rintro i m ys H ⟨rfl, hi, hys, rfl⟩
  have s1 : Same H1 (upd H1 D (.lst ys)) := Same.upd (Same.refl H1) hD
  refine ⟨upd_same, ?_⟩
  by_cases hlt : i < z.cps.size
  · have hyl : ys.length = i := by rw [hys, List.length_map, List.length_take]; omega
    refine .inr ⟨hlt, by omega, fun x H' y => ?_⟩
    obtain ⟨e, c, hc, rfl⟩ := y
    subst e
    unfold tYes; dsimp only
    rw [if_pos rfl]
    refine (hx c _ _ (List.mem_iff_getElem?.mpr ⟨i, hc⟩) s1 ⟨upd_same, z.cps.size - (i + 1), by omega, rfl, hlt, ?_, by rw [upd_upd]⟩)
    rw [List.take_add_one, List.map_append, ← hys, hc]; rfl
  · have e : i = z.cps.size := by omega
    refine .inl ⟨e, ?_⟩
    have : ys = z.cps.toList.map f := by rw [hys, e, ← hsz, List.take_length]
    rw [this]
    exact q D _ ⟨hD, rfl⟩
def SameB (D : Addr) (H H' : Hp) : Prop := ∀ b u, b ≠ D → H b = some u → H' b = some u
theorem SameB.of {D : Addr} {H H' : Hp} (s : Same H H') : SameB D H H' := fun b u _ e => s b u e
theorem SameB.upd (D : Addr) (H : Hp) (o : HO) : SameB D H (L2.upd H D o) := fun b u n e => by rw [upd_ne n]; exact e
structure LcIt (J : It) (n : Nat) (H1 : Hp) (xs : Nat → V) : Prop where
  go : ∀ i H, i < n → Same H1 H → J.go i H
  yld : ∀ i H x H', i < n → Same H1 H → J.yld i H x H' → H' = H ∧ x = xs i
  stop : ∀ H, Same H1 H → J.stop n H
theorem LcIt.lst {K : Frag} {a : Addr} {H1 : Hp} {xs : List V} (hS : SqL K H1 a xs) : LcIt (Itl K a) xs.length H1 (fun i => xs.getD i .non) where
  go := fun i H hi s => ⟨xs, xs[i], s.seq hS, by simp [hi]⟩
  yld := fun i H x H' hi s y => by
    obtain ⟨e, y⟩ := y
    refine ⟨e, ?_⟩
    have := y xs (s.seq hS)
    rw [List.getD, this]; rfl
  stop := fun H s => ⟨xs, s.seq hS, Nat.le_refl _⟩
theorem LcIt.rng {lo : Int} {n : Nat} {H1 : Hp} : LcIt (Itr lo n) n H1 (fun i => .int (lo + i)) where
  go := fun i H hi s => hi
  yld := fun i H x H' hi s y => y
  stop := fun H s => Nat.le_refl _
theorem lcN {J : It} {n : Nat} {xs : Nat → V} {te : TE} {cs : St} {H1 : Hp} {Q : Addr → Hp → Prop} (L : LcIt J n H1 xs) (Pe : Addr → Nat → V → Hp → Prop) (hz : n ≤ sizeLine)
    (hm : ∀ D i y H H', SameB D H H' → Pe D i y H → Pe D i y H')
    (hx : ∀ (D : Addr) (i : Nat) (H' : Hp) (R : VK), i < n → H1 D = none → (∃ ys, H' D = some (.lst ys)) → Same H1 H' → (∀ y H'', Same H' H'' → Pe D i y H'' → R y H'') → te (some (xs i) :: cs) H' R)
    (q : ∀ D ys H2, H1 D = none → Same H1 H2 → H2 D = some (.lst ys) → ys.length = n → (∀ i y, ys[i]? = some y → Pe D i y H2) → Q D H2) :
    ∀ D, H1 D = none → ∃ W : Nat → Nat → List V → Hp → Prop, (∃ m, W 0 m [] (upd H1 D (.lst []))) ∧ ∀ i m ys H, W i m ys H →
      H D = some (.lst ys) ∧ ((J.stop i H ∧ Q D H) ∨ (J.go i H ∧ ys.length < sizeLine ∧ ∀ x H', J.yld i H x H' → tYes (some x :: cs) H' fun b H2 =>
        if b = true then te (some x :: cs) H2 fun y H3 => H3 D = some (.lst ys) ∧ ∃ m', m' < m ∧ W (i + 1) m' (ys ++ [y]) (upd H3 D (.lst (ys ++ [y]))) else ∃ m', m' < m ∧ W (i + 1) m' ys H2)) := by
  intro D hD
  refine ⟨fun i m ys H => m = n - i ∧ i ≤ n ∧ ys.length = i ∧ H D = some (.lst ys) ∧ Same H1 H ∧ ∀ j y, ys[j]? = some y → Pe D j y H, ⟨n, by simp, Nat.zero_le _, rfl, upd_same, Same.new hD, fun j y e => by simp at e⟩, ?_⟩
  rintro i m ys H ⟨rfl, hi, hyl, hHD, s1, hP⟩
  refine ⟨hHD, ?_⟩
  by_cases hlt : i < n
  · refine .inr ⟨L.go i H hlt s1, by omega, fun x H' y => ?_⟩
    obtain ⟨e, ex⟩ := L.yld i H x H' hlt s1 y
    subst e ex
    unfold tYes; dsimp only
    rw [if_pos rfl]
    refine hx D i _ _ hlt hD ⟨ys, hHD⟩ s1 fun y H'' s2 pe => ⟨s2 _ _ hHD, n - (i + 1), by omega, rfl, hlt, by simp [hyl], upd_same, fun b u e => ?_, fun j y' ej => ?_⟩
    · rw [upd_ne (ne_of_none e hD)]; exact s2 _ _ (s1 _ _ e)
    · refine hm D j y' _ _ (SameB.upd D H'' _) ?_
      by_cases hj : j < ys.length
      · rw [List.getElem?_append_left hj] at ej
        exact hm D j y' _ _ (SameB.of s2) (hP j y' ej)
      · rw [List.getElem?_append_right (by omega)] at ej
        have hj0 : j - ys.length = 0 := by
          by_cases h0 : j - ys.length = 0
          · exact h0
          · rw [List.getElem?_eq_none (by simp; omega)] at ej; cases ej
        rw [hj0] at ej
        have e1 : y = y' := by simpa using ej
        have e2 : j = i := by omega
        rw [← e1, e2]; exact pe
  · have e : i = n := by omega
    subst e
    exact .inl ⟨L.stop H s1, q D ys H hD s1 hHD hyl hP⟩
theorem lcNL {K : Frag} {a : Addr} {te : TE} {cs : St} {H1 : Hp} {Q : Addr → Hp → Prop} (xs : List V) (Pe : Addr → Nat → V → Hp → Prop) (hS : SqL K H1 a xs) (hz : xs.length ≤ sizeLine)
    (hm : ∀ D i y H H', SameB D H H' → Pe D i y H → Pe D i y H')
    (hx : ∀ (D : Addr) (i : Nat) (v : V) (H' : Hp) (R : VK), xs[i]? = some v → H1 D = none → (∃ ys, H' D = some (.lst ys)) → Same H1 H' → (∀ y H'', Same H' H'' → Pe D i y H'' → R y H'') → te (some v :: cs) H' R)
    (q : ∀ D ys H2, H1 D = none → Same H1 H2 → H2 D = some (.lst ys) → ys.length = xs.length → (∀ i y, ys[i]? = some y → Pe D i y H2) → Q D H2) :
    ∃ a', V.ref a = .ref a' ∧ (∃ xs, SqL K H1 a' xs) ∧ ∀ D, H1 D = none → ∃ W : Nat → Nat → List V → Hp → Prop, (∃ m, W 0 m [] (upd H1 D (.lst []))) ∧ ∀ i m ys H, W i m ys H →
      H D = some (.lst ys) ∧ (((Itl K a').stop i H ∧ Q D H) ∨ ((Itl K a').go i H ∧ ys.length < sizeLine ∧ ∀ x H', (Itl K a').yld i H x H' → tYes (some x :: cs) H' fun b H2 =>
        if b = true then te (some x :: cs) H2 fun y H3 => H3 D = some (.lst ys) ∧ ∃ m', m' < m ∧ W (i + 1) m' (ys ++ [y]) (upd H3 D (.lst (ys ++ [y]))) else ∃ m', m' < m ∧ W (i + 1) m' ys H2)) :=
  ⟨a, rfl, ⟨xs, hS⟩, lcN (LcIt.lst hS) Pe hz hm (fun D i H' R hi hD hy s r => by
    refine hx D i _ H' R ?_ hD hy s r
    rw [List.getD, List.getElem?_eq_getElem hi]; rfl) q⟩
structure HasV (K : Frag) (x : Str) (v : V) : Prop where
  ex : ∃ u, nsIn K mainGlobals x = some (some u) ∧ RelV v u
theorem hasV_int {K : Frag} {x : Str} {i : Int} {t : Tok} (h : nsIn K mainGlobals x = some (some (.int i t))) : HasV K x (.int i) := ⟨_, h, ⟨_, rfl⟩⟩
theorem hasV_str {K : Frag} {x : Str} {z : Str} {t : Tok} (h : nsIn K mainGlobals x = some (some (.str z t))) : HasV K x (.str z) := ⟨_, h, ⟨_, rfl⟩⟩
theorem pe_val {X : Cx} {x : Str} {v : V} {pos : Pos} (h : ∃ u, X.mg x = some u ∧ RelV v u) (hg : Gl X x) (hd : (x == ("__debug__" : Str)) = false := by decide) : PE X (.Name x pos) (tC v) := by
  obtain ⟨u, hm, r⟩ := h
  exact pe_glob hg hm r hd
theorem HasV.mg {K : Frag} {x : Str} {v : V} {h : Heap} {mg : Str → Option Value} (V : HasV K x v) (Kb : K.In h) (G : h.Ns mainGlobals mg) : ∃ u, mg x = some u ∧ RelV v u :=
  let ⟨u, a, r⟩ := V.ex
  ⟨u, PySem.W.mg_of Kb G a, r⟩
structure HasCI (K : Frag) (x : Str) (C : Addr) (qual : Str) (st : Stmt) : Prop where
  ns : nsIn K mainGlobals x = some (some (.ref C))
  cl : Cls K C
  ex : ∃ f fd, Mk K C f ∧ Fun K "__init__" qual st f fd
theorem hasCI_mk {K : Frag} {x qual : Str} {C : Addr} {st : Stmt} {f : Addr} {oc : Value} {od an : Option Addr} {osl : Array (Option Value)} {kV doc pm cdv ct : Value} (a : nsIn K mainGlobals x = some (some (.ref C))) (pg : plainGet K C Str.empty = true) (hd : hasDictIn K C = true) (po : plainOver K C = true)
    (sa : findIn K (.ref C) "__setattr__" = some (some (.builtin "object.__setattr__"))) (mk : makesIn K C = true) (i : findIn K (.ref C) "__init__" = some (some (.ref f))) (fn : isFn K (.ref f) = true) (kc : keepIn K (.ref C) = true)
    (l : K.lookup f = some ⟨oc, od, .func (PySem.W.fnOf "__init__" qual (defArgs st) (defBody st) (defScope st) .none kV doc pm an cdv ct), osl⟩)
    (c : codeIn K cdv qual = true) (k : keepIn K (.ref f) = true) : HasCI K x C qual st :=
  ⟨a, ⟨pg, hd, po, sa⟩, f, _, ⟨mk, i, fn, kc⟩, fun_mk l c k⟩
section
variable {X : Cx} {K : Frag}
theorem ix_seqK (h : X.K = K) : IxR X (rIx K) := h ▸ ix_seq
theorem call_isiK (h : X.K = K) : CallR X (.builtin "isinstance") (rIsi K) := h ▸ call_isi
theorem call_tupleK (h : X.K = K) : CallR X (.type "tuple") (rTupleA K) := h ▸ call_tupleA
theorem call_listK (h : X.K = K) : CallR X (.type "list") (rListA K) := h ▸ call_listA
end
section
variable {K : Frag} {σ : St} {H : Hp} {Q : VK} {D : Ends}
theorem i_tupI {tl : TE} {R : It → Hp → Prop} (q : tl σ H fun x H1 => ∃ a, x = .ref a ∧ (∃ xs, SqT K H1 a xs) ∧ R (Itt K a) H1) : iTup K tl σ H R := q
theorem i_strI {tl : TE} {R : It → Hp → Prop} (q : tl σ H fun x H1 => ∃ z, x = .str z ∧ R (Its z) H1) : iStr tl σ H R := q
theorem i_enumI {ta : TA} {R : It → Hp → Prop} (q : ta σ H fun vs H1 => ∃ l, vs = [.ref l] ∧ (∃ xs, SqL K H1 l xs) ∧ R (Ite K l) H1) : iEnum K ta σ H R := q
theorem i_fld {ta : TE} {f : Str} (q : ta σ H fun x H1 => ∃ a C dx fs v, x = .ref a ∧ H1 a = some (.ins C dx fs) ∧ Cls K C ∧ NoAttr K C f ∧ fs.lookup f = some v ∧ Q v H1) : tFld K ta f σ H Q := q
theorem i_setFld {ta tv : TE} {f : Str} (q : tv σ H fun y H1 => ta σ H1 fun x H2 => ∃ a C dx fs, x = .ref a ∧ H2 a = some (.ins C dx fs) ∧ Cls K C ∧ NoAttr K C f ∧ fs.length < 1000 ∧ D.nx σ (upd H2 a (.ins C dx (putF f y fs)))) : sFld K ta tv f D σ H := q
theorem i_dget2 {td ty tx : TE} (q : td σ H fun x H1 => ∃ a, x = .ref a ∧ IsD H1 a ∧ ty σ H1 fun y H2 => tx σ H2 fun z H3 => ∃ o, DGet H3 a y o ∧ Q (o.getD z) H3) : tDGet2 td ty tx σ H Q := q
theorem i_dput {td ty tv : TE} (q : tv σ H fun v H1 => td σ H1 fun x H2 => ty σ H2 fun y H3 => ∃ a H4, x = .ref a ∧ DPut H3 a y v H4 ∧ D.nx σ H4) : sDPut td ty tv D σ H := q
theorem i_dnew (q : ∀ p, H p = none → Q (.ref p) (upd H p (.dK []))) : tDNewK σ H Q := q
theorem i_chain {r r' : R2} {ta tb tc : TE} (q : ta σ H fun x H1 => tb σ H1 fun y H2 => r x y H2 fun z H3 => ∃ k, z = .bl k ∧ (if k = true then tc σ H3 fun w' H4 => r' y w' H4 Q else Q (.bl false) H3)) : tChain r r' ta tb tc σ H Q := q
theorem i_append {l : Addr} {xs : List V} {y : V} (h : H l = some (.lst xs)) (z : xs.length < sizeLine) (q : Q .non (upd H l (.lst (xs ++ [y])))) : rAppend (.ref l) [y] H Q := ⟨l, xs, y, rfl, rfl, h, z, q⟩
theorem i_inS {c : Nat} {j : Str} (q : Q (.bl (decide (c ∈ j.cps.toList))) H) : rInS (.str ⟨#[c]⟩) (.str j) H Q := ⟨c, j, rfl, rfl, q⟩
theorem i_isiI {i : Int} (kII : kitOne K (.type "int") (.type "int") = some true) (q : Q (.bl true) H) : rIsi K [.int i, .ty "int"] H Q := ⟨_, _, _, _, rfl, rfl, .int i, kII, q⟩
theorem i_isiT {a : Addr} {xs : List V} {T : String} {b : Bool} (e : H a = some (.tup xs)) (k : kitOne K (.type "tuple") (.type T) = some b) (q : Q (.bl b) H) : rIsi K [.ref a, .ty T] H Q := ⟨_, _, _, _, rfl, rfl, .tup e, k, q⟩
theorem i_gtup {n : Nat} {t : TGs} {a : Addr} {xs : List V} {Q : St → Hp → Prop} (h : SqT K H a xs) (l : xs.length = n) (q : t xs σ H Q) : gTup K n t (.ref a) σ H Q := ⟨a, xs, rfl, h, l, q⟩
theorem i_gcons {t : TG} {u : TGs} {v : V} {r : List V} {Q : St → Hp → Prop} (q : t v σ H fun σ' H' => u r σ' H' Q) : gCons t u (v :: r) σ H Q := ⟨v, r, rfl, q⟩
theorem i_gnil {Q : St → Hp → Prop} (q : Q σ H) : gNil [] σ H Q := ⟨rfl, q⟩
end
end L2
set_option maxRecDepth 100000
set_option Elab.async false
set_option linter.all false
namespace HT
open PySem PySem.Spec PyProof.Rows
section
variable {prog : Program} {w : World} {A : Around} {E : Value → Shared → Prop} {s : Shared}
theorem getItem_tuple_all {t sl : Addr} {items : Array Value} {vl vu : Value} {lo hi : Option Int} {Q : Value → Shared → Prop} (ht : IsTup s.heap t items) (hs : s.heap.IsSliceOf sl vl vu .none) (pl : IsPart vl lo) (pu : IsPart vu hi)
    (hw : sIx items.size 0 lo = 0 ∧ sIx items.size items.size hi = items.size) (h : Q (.ref t) s) : wpAny (model prog w) A (getItem (.ref t) (.ref sl)) Q E s := by
  obtain ⟨os, hos, hcs, hds⟩ := id hs
  have hTs : s.TypeIs (.ref sl) "slice" := ⟨os, hos, hcs⟩
  unfold getItem
  try with_reducible refine wpAny_holding ?_
  first | refine wpAny_bind (wpAny_pure ?_) | skip
  refine wpAny_bind (wpAny_sequenceKey ht.typeIs (by decide) ?_)
  refine wpAny_bind (wpAny_callSpecial?_slot (name := Str.ofString "__getitem__") ht.typeIs PyProof.Rows.slot_tuple_getitem
    (wpAny_call_entry PyProof.Rows.slot_tuple_getitem ht.typeIs entry_tuple_getitem ?_ (args_tuple_getitem _ _)))
  show wpAny _ _ (Builtin.Tuple.tupleItemsOf (.ref t) >>= _) _ _ s
  refine wpAny_bind (tupleItemsOf_ ht ?_)
  refine wpAny_bind (wpAny_typeOf hTs ?_)
  rw [if_pos (by decide)]
  refine wpAny_bind (sliceApplied_gen hs pl pu ?_)
  have hyes : (((sIx items.size 0 lo : Nat) : Int) == 0 && (1 : Int) == 1 && (sIx items.size items.size hi - sIx items.size 0 lo) == items.size) = true := by
    rw [hw.1, hw.2]; simp
  show wpAny _ _ (if (((sIx items.size 0 lo : Nat) : Int) == 0 && (1 : Int) == 1 && (sIx items.size items.size hi - sIx items.size 0 lo) == items.size) = true then _ else _) _ _ s
  rw [if_pos hyes]
  refine wpAny_bind (m := Builtin.Tuple.tupleIsExact _) ?_
  unfold Builtin.Tuple.tupleIsExact
  refine wpAny_bind (wpAny_typeOf ht.typeIs (wpAny_pure ?_))
  rw [if_pos (by decide)]
  refine wpAny_bind (wpAny_rule ?_)
  first
    | exact wpAny_pure ⟨_, rfl, wpAny_pure h⟩
    | exact wpAny_bind (wpAny_pure (wpAny_pure ⟨_, rfl, wpAny_pure h⟩))
    | exact wpAny_bind (wpAny_pure ⟨_, rfl, wpAny_pure h⟩)
end
end HT
namespace L2
open PySem PySem.Spec PySem.W PyProof.Rows
section
variable {X : Cx} {k : Nat} {f C : Addr} {fd : FuncData} {ps : List Str} {sp : Sp} {ES : XS} {x : Str} {p pos : Pos} {e : Expr} {es : List Expr} {t : TA} {dvs : List V} {ds : List Value}
theorem run_makeX {pins : List (Addr × Obj)} {σ : St} {H : Hp} {s : Shared} {Q : VK} {us : List Value} {vs : List V} (M : Mk X.K C f) (F : FnOk X.prog X.w X.K X.mg X.base (CX1 X.prog X.w) k f fd ps sp) (hr : Room (k + 1) X.A) (hb : Binds X.K fd ps ds) (hd : Vals dvs ds)
    (hx : ∀ v s, xeOf X ES v s → X.xe v s) (I : Inv X pins σ H s) (r : Vals vs us)
    (h : ∀ x dx, H x = none → H dx = none → dx ≠ x → sp (.ref x :: (vs ++ dvs)) (upd (upd H dx (.own x)) x (.ins C dx [])) (fun v H2 => v = .non ∧ Q (.ref x) H2) (ES σ)) :
    wpAny (model X.prog X.w) X.A (call (.ref C) us) (EP X pins σ Q) X.xe s := by
  have hq := h (s.heap.objs.size + 1) s.heap.objs.size (I.hok.fresh (Nat.le_succ _)) (I.hok.fresh (Nat.le_refl _)) (Nat.ne_of_lt (Nat.lt_succ_self _))
  have I2 := Inv.made (C := C) I
  have r2 : Vals (V.ref (s.heap.objs.size + 1) :: (vs ++ dvs)) (Value.ref (s.heap.objs.size + 1) :: (us ++ ds)) := .cons rfl (r.append hd)
  have hl : (Value.ref (s.heap.objs.size + 1) :: us ++ ds).length = ps.length := by
    have e := r2.length
    rw [F.len _ _ _ _ hq] at e
    exact e.symm
  refine wpAny_call (make_map (f := f) I.kIn M.makes M.init (beq_iff_eq.mp M.fn) (codeAny_mono (F.run _ X.stack _ _ ⟨Value.ref (s.heap.objs.size + 1) :: us, []⟩ (Value.ref (s.heap.objs.size + 1) :: (us ++ ds)) _ _ (ES σ) (hr.make C us [])
    (I2.env0.make C us []) (hb _ (Value.ref (s.heap.objs.size + 1) :: us) I2.kIn hl) r2 hq) fun r s' hq' => ?_))
  cases r with
  | error e =>
    obtain ⟨e, c, d, H', rfl, os, bare, un, hok, fe, tb, q⟩ := hq'
    have I1 : Inv X pins σ H' s' := I2.call' os un hok bare fun _ z => nomatch z
    exact hx _ _ ⟨e, c, d, _, σ, H', rfl, ⟨I1.nil, (I2.fpNew fe.1 fe.2).nil, tb.imp fun T fT => (I2.fpNew fT.1 fT.2).nil⟩, .inr (.inl rfl), q⟩
  | ok fl =>
    cases fl with
    | ret u =>
      obtain ⟨v, H', I3, rv, ev, q3⟩ := I2.after hq'
      subst ev
      exact ⟨rv, ⟨V.ref (s.heap.objs.size + 1), H', I3, rfl, q3⟩⟩
    | next => exact False.elim hq'
    | brk => exact False.elim hq'
    | cont => exact False.elim hq'
structure MkX (P : Program) (w : World) (K : Frag) (mg : Str → Option Value) (base : Heap) (k : Nat) (C : Addr) (ps : List Str) (sp : Sp) : Prop where
  ex : ∃ f fd, Mk K C f ∧ FnOk P w K mg base (CX1 P w) k f fd ps sp ∧ Binds K fd ps []
def tMakeX (C : Addr) (sp : Sp) (ES : XS) (t : TA) : TE := fun σ H Q => t σ H fun vs H1 => ∀ x dx, H1 x = none → H1 dx = none → dx ≠ x →
  sp (.ref x :: (vs ++ [])) (upd (upd H1 dx (.own x)) x (.ins C dx [])) (fun v H2 => v = .non ∧ Q (.ref x) H2) (ES σ)
theorem pe_makeX (M : MkX X.prog X.w X.K X.mg X.base k C ps sp) (hr : Room (k + 1) X.A) (hx : ∀ v s, xeOf X ES v s → X.xe v s) (hg : Gl X x) (hm : X.mg x = some (.ref C)) (ha : PA X (e :: es) t)
    (hdb : (x == ("__debug__" : Str)) = false := by decide) (he : starEach (e :: es) X.env = (false, eval e X.env) :: starEach es X.env := by rfl) (hpl : (backTo pos (starEach es X.env)).any (·.1) = false := by rfl) :
    PE X (.Call (.Name x p) (e :: es) [] pos) (tMakeX C sp ES t) := by
  obtain ⟨f, fd, m, F, hb⟩ := M.ex
  intro pins s σ H Q I h
  refine wpAny_Call_Name_kw (ld_glob I hg hm ?_ hdb)
  refine PySem.W.callWith_K (h₀ := X.base) I.ok.mod.kin m.kp (thn (ha pos pins s σ H _ I h) fun us s1 ⟨vs, H1, I1, r, q⟩ => ⟨I1.kIn, ?_⟩) he hpl
  exact run_makeX m F hr hb .nil hx I1 r q
theorem i_makeX {σ : St} {H : Hp} {Q : VK} (q : t σ H fun vs H1 => ∀ x dx, H1 x = none → H1 dx = none → dx ≠ x →
  sp (.ref x :: (vs ++ [])) (upd (upd H1 dx (.own x)) x (.ins C dx [])) (fun v H2 => v = .non ∧ Q (.ref x) H2) (ES σ)) : tMakeX C sp ES t σ H Q := q
end
theorem HasCI.mkx {P : Program} {w : World} {K : Frag} {mg : Str → Option Value} {base : Heap} {k : Nat} {x : Str} {C : Addr} {qual : Str} {st : Stmt} {N ps : List Str} {sp : Sp} (F : HasCI K x C qual st) (S : FnScope N ps (defScope st))
    (hbi : ∀ (kV doc pm : Value) (an : Option Addr) (cdv ct : Value) (us : List Value), us.length = ps.length → bindArgs (PySem.W.fnOf "__init__" qual (defArgs st) (defBody st) (defScope st) .none kV doc pm an cdv ct) ⟨us, []⟩ = pure (ps.zip us))
    (len : ∀ vs H Q E, sp vs H Q E → vs.length = ps.length)
    (hbody : ∀ (f : Addr) (cdv : Value) (A : Around) (outer : List Env) (s : Shared) (H : Hp) (vs : List V) (Q : VK) (E : XK), Room k (A.deeper (envOfC qual (defScope st) s.heap.objs.size f cdv)) → sp vs H Q E →
      ∃ t, PSs (cxX P w K mg base N qual (defScope st) f cdv A outer s H E) (defBody st) t ∧ t { nx := fun _ H' => Q .non H', rt := Q } (start N vs) H) :
    MkX P w K mg base (k + 1) C ps sp := by
  obtain ⟨f, fd, a, F⟩ := F.ex
  exact ⟨f, fd, a, F.okX S len (hbody f), F.binds hbi⟩
section
variable {X : Cx}
def rSum (K : Frag) : List V → Hp → VK → Prop := fun xs H Q => ∃ p ns, xs = [.ref p] ∧ SqL K H p (List.map V.int ns) ∧ Q (.int ns.sum) H
theorem call_sum (hc : X.calm = true) : CallR X (.builtin "sum") (rSum X.K) := by
  intro pins s σ H xs us Q I r h
  obtain ⟨p, ns, rfl, hS, q⟩ := h
  obtain ⟨u, rfl, ru⟩ := r.one
  cases ru
  obtain ⟨its, rv, pl, hz⟩ := I.list hS
  have hi : IntsAre its ns := intsAre_of rv
  obtain ⟨xs, hx⟩ := hi.allInts.items
  have hl' : s.heap.IsList p (intItems xs) := by rw [← hx]; exact pl.isList
  refine sum_intListG (I.ok.hd hc) hl' fun h' tk t' hk => ?_
  have e1 : ns = xs.toList.map (·.1) := by
    rw [← nums_intItems, ← hx]
    exact (show numsOf its.toArray.toList = ns from hi.numsOf).symm
  have e2 : preSum (numAt xs) xs.size = ns.sum := by
    rw [preSum_eq, List.take_of_length_le (by simp), e1]
  rw [e2]
  exact ⟨.int ns.sum, H, I.kept (t' := tk) hk, ⟨_, rfl⟩, q⟩
theorem i_sum {K : Frag} {p : Addr} {ns : List Int} {H : Hp} {Q : VK} (h : SqL K H p (List.map V.int ns)) (q : Q (.int ns.sum) H) : rSum K [.ref p] H Q := ⟨p, ns, rfl, h, q⟩
def rIndexV (K : Frag) : V → List V → Hp → VK → Prop := fun x vs H Q => ∃ (p : Addr) (xs : List V) (w : V) (j : Nat), x = .ref p ∧ vs = [w] ∧ flatV w = true ∧ xs.all flatV = true ∧ SqL K H p xs ∧ j < xs.length ∧ (∀ y, xs[j]? = some y → eqV y w = true) ∧ (∀ i y, i < j → xs[i]? = some y → eqV y w = false) ∧ xs.length ≤ 1000 ∧ Q (.int (j : Nat)) H
theorem mt_indexV : MtR X "list.index" (rIndexV X.K) := by
  intro pins s σ H x vs v us Q I rx rv h
  obtain ⟨p, xs, w, j, rfl, rfl, fw, fl, hp, hj, he, hlt, hz, q⟩ := h
  cases rx
  obtain ⟨u, rfl, ru⟩ := rv.one
  obtain ⟨its, r, pl, _⟩ := I.list hp
  obtain ⟨⟨cls, dd, data, sl⟩, ho, hc, n, hd⟩ := id pl.isList
  simp only at hc hd
  subst hc hd
  have hl := r.length
  have at_ : ∀ (i : Nat) (hi : i < its.length) (hi2 : i < xs.length), eqU w its[i] = eqV xs[i] w := by
    intro i hi hi2
    obtain ⟨ui, e1, r1⟩ := r.get (i := i) (x := xs[i]) (List.getElem?_eq_getElem hi2)
    have e2 : its[i] = ui := by
      have := List.getElem?_eq_getElem hi
      rw [this] at e1; exact Option.some.inj e1
    rw [e2]
    exact eqU_of r1 (List.all_eq_true.mp fl _ (List.getElem_mem hi2))
  refine call_meets PySem.F.slot_list_index ⟨_, ho, rfl⟩ PySem.F.entry_list_index (PySem.F.args_list_index_2 _ _)
    (SeqAt.list_indexAt p its.toArray n dd sl u (eqU w) j (by simp; omega) (by omega) ?_ ?_) ⟨ho, fun y hy => mem_eqAt ru fw r fl y (by simpa using hy), ?_⟩
  · show eqU w its[j] = true
    rw [at_ j (by omega) hj]; exact he _ (List.getElem?_eq_getElem hj)
  · intro i hi hlt'
    have hi' : i < its.length := by simpa using hi
    show eqU w its[i] = false
    rw [at_ i hi' (by omega)]; exact hlt i _ hlt' (List.getElem?_eq_getElem (by omega))
  · exact ⟨.int (j : Nat), H, I.tok _, ⟨_, rfl⟩, q⟩
end
section
variable {X : Cx}
def rSlTA (K : Frag) : V → Option Int → Option Int → Hp → VK → Prop := fun x lo hi H Q => ∃ a xs, x = .ref a ∧ H a = some (.tup xs) ∧ ∀ p H2, Same H H2 → H2 p = some (.tup (cutV xs lo hi)) → Q (.ref p) H2
theorem sl_tupA : SlR X (rSlTA X.K) := by
  intro pins s σ H x v vl vu lo hi sl Q I rx hs pl pu h
  obtain ⟨a, xs, rfl, hx, q⟩ := h
  by_cases hw : HT.sIx xs.length 0 lo = 0 ∧ HT.sIx xs.length xs.length hi = xs.length
  · cases rx
    obtain ⟨its, r, ht, hz⟩ := I.tuple (show SqT X.K H a xs from .inl (.inl hx))
    have hlen : its.toArray.size = xs.length := by rw [List.size_toArray]; exact r.length.symm
    refine ⟨"tuple", _, PyProof.Rows.slot_tuple_getitem.lookup, ht.typeIs, ?_⟩
    refine HT.getItem_tuple_all ht hs pl pu (by rw [hlen]; exact hw) ⟨.ref a, H, I, rfl, q a H (Same.refl _) ?_⟩
    have e : cutV xs lo hi = xs := by unfold cutV; rw [hw.1, hw.2]; simp
    rw [e]; exact hx
  · exact sl_tup pins s σ H _ v vl vu lo hi sl Q I rx hs pl pu ⟨a, xs, rfl, .inl (.inl hx), hw, fun p hp => q p _ (Same.new hp) upd_same⟩
theorem i_slTA {K : Frag} {a : Addr} {xs : List V} {lo hi : Option Int} {H : Hp} {Q : VK} (h : H a = some (.tup xs)) (q : ∀ p H2, Same H H2 → H2 p = some (.tup (cutV xs lo hi)) → Q (.ref p) H2) : rSlTA K (.ref a) lo hi H Q := ⟨a, xs, rfl, h, q⟩
def rCatTA (K : Frag) : R2 := fun x y H Q => ∃ a b xs ys, x = .ref a ∧ y = .ref b ∧ H a = some (.tup xs) ∧ H b = some (.tup ys) ∧ xs.length + ys.length ≤ sizeLine ∧ ∀ p H2, Same H H2 → H2 p = some (.tup (xs ++ ys)) → Q (.ref p) H2
theorem op_catTA : OpR X (binaryOp .Add) (rCatTA X.K) := by
  intro pins s σ H x y v u Q I rx ry h
  obtain ⟨a, b, xs, ys, rfl, rfl, ha, hb, hz, q⟩ := h
  by_cases hx : xs = []
  · subst hx
    cases rx
    cases ry
    obtain ⟨its, r1, p1, _⟩ := I.tuple (show SqT X.K H a [] from .inl (.inl ha))
    obtain ⟨its2, r2, p2, _⟩ := I.tuple (show SqT X.K H b ys from .inl (.inl hb))
    cases r1
    obtain ⟨⟨cls, dd, data, sl⟩, ho, hc, n, hd⟩ := id p1
    obtain ⟨⟨cls2, dd2, data2, sl2⟩, ho2, hc2, n2, hd2⟩ := id p2
    simp only at hc hd hc2 hd2
    subst hc hd hc2 hd2
    exact concat_meets ⟨_, ho, rfl⟩ ⟨_, ho2, rfl⟩ noFill_tuple_add seq_tuple_add PySem.F.slot_tuple_add PySem.F.entry_tuple_add (PySem.F.args_tuple_add_2 _ _)
      (tuple_addW0 a b _ its2.toArray n n2 dd dd2 sl sl2 (by simp)) ⟨ho, ho2, ⟨.ref b, H, I, rfl, q b H (Same.refl _) (by simpa using hb)⟩⟩
  · exact op_catT pins s σ H _ _ v u Q I rx ry ⟨a, b, xs, ys, rfl, rfl, .inl (.inl ha), .inl (.inl hb), hx, hz, fun e => q a H (Same.refl _) (by rw [e, List.append_nil]; exact ha), fun _ p hp => q p _ (Same.new hp) upd_same⟩
theorem i_catTA {K : Frag} {a b : Addr} {xs ys : List V} {H : Hp} {Q : VK} (ha : H a = some (.tup xs)) (hb : H b = some (.tup ys)) (hz : xs.length + ys.length ≤ sizeLine) (q : ∀ p H2, Same H H2 → H2 p = some (.tup (xs ++ ys)) → Q (.ref p) H2) : rCatTA K (.ref a) (.ref b) H Q := ⟨a, b, xs, ys, rfl, rfl, ha, hb, hz, q⟩
end
section
variable {prog : Program} {w : World} {A : Around} {E : Value → Shared → Prop} {s : Shared}
theorem draw_list {it t : Addr} {items : Array Value} (hne : t ≠ it) : ∀ (n i : Nat) (s : Shared) (Q : List Value → Shared → Prop), s.heap.IsListIter it t i → s.heap.IsList t items → i + n ≤ items.size →
    (∀ h', h'.IsListIter it t (i + n) → Heap.SameBut it s.heap h' → Q ((items.toList.drop i).take n) { s with heap := h' }) → wpAny (model prog w) A (draw (.ref it) n) Q E s
  | 0, i, s, Q, hit, _, _, hQ => by
    show wpAny _ _ (pure []) Q E s
    exact wpAny_pure (by simpa using hQ s.heap hit (Heap.SameBut.refl ..))
  | n + 1, i, s, Q, hit, ht, hle, hQ => by
    have hlt : i < items.size := by omega
    show wpAny _ _ (pyNext (.ref it) >>= _) Q E s
    refine wpAny_bind (wpAny_pyNext_list_item hit ht (x := items[i]) (by simp [hlt]) fun h₁ hit₁ hs₁ => ?_)
    refine wpAny_bind (wpAny_holding (draw_list hne n (i + 1) _ _ hit₁ (ht.at fun o e => (hs₁.2 t hne).trans e) (by omega) fun h₂ hit₂ hs₂ => wpAny_pure ?_))
    have hd : items.toList.drop i = items[i] :: items.toList.drop (i + 1) := by simp [List.drop_eq_getElem_cons, hlt]
    have := hQ h₂ (by rw [show i + (n + 1) = i + 1 + n by omega]; exact hit₂) (hs₁.trans hs₂)
    rw [hd, List.take_succ_cons] at this
    exact this
theorem unpackItems_list {t : Addr} {items : Array Value} {Q : List Value → Shared → Prop} (hh : A.handled = none) (ht : s.heap.IsList t items)
    (hQ : ∀ h', Heap.ExtBut s.heap.objs.size s.heap h' → Q items.toList { s with heap := h' }) : wpAny (model prog w) A (unpackItems (.ref t) items.size none) Q E s := by
  have hlt : t ≠ s.heap.objs.size := by obtain ⟨o, ho, _⟩ := ht; exact Nat.ne_of_lt (Heap.lt_size ho)
  have hty : s.TypeIs (.ref t) "list" := by obtain ⟨o, ho, hc, _⟩ := ht; exact ⟨o, ho, hc⟩
  unfold unpackItems
  refine wpAny_bind ?_
  · unfold notIterableAtAll
    refine wpAny_bind (wpAny_specialOf hty PySem.F.slot_list_iter.lookup ?_)
    refine wpAny_pure ?_
    simp only [Bool.false_eq_true, if_false]
    refine wpAny_bind (wpAny_holding (wpAny_pyIter_list ht ?_))
    refine wpAny_bind (wpAny_holding (draw_list hlt items.size 0 _ _ ⟨_, Heap.get?_push_size _ rfl, rfl, rfl⟩ (ht.push _) (by omega) fun h₁ hit₁ hs₁ => ?_))
    have hall : List.take items.size (List.drop 0 items.toList) = items.toList := by
      rw [List.drop_zero]; exact List.take_of_length_le (by simp)
    rw [hall]
    rw [if_neg (by simp)]
    have ht₁ : h₁.IsList t items := (ht.push _).at fun o e => (hs₁.2 t hlt).trans e
    refine wpAny_bind (wpAny_holding (wpAny_pyNext_list_end hh hit₁ ht₁ (by simp) fun h₂ he₂ => ?_))
    simp only [Option.isSome_none, Bool.false_eq_true, if_false]
    refine wpAny_pure (hQ h₂ fun b o hb e => he₂ b o hb (hs₁.extBut b o hb (Heap.get?_push_of_some _ e)))
end
def gLst (K : Frag) (n : Nat) (t : TGs) : TG := fun v σ H Q => ∃ a xs, v = .ref a ∧ SqL K H a xs ∧ xs.length = n ∧ t xs σ H Q
theorem pg_lst {X : Cx} {pos : Pos} {es : List Expr} {k : Nat} {t : TGs} {n : Nat} (hc : X.calm = true) (h : PGs X es t)
    (hn : (assignEach es X.env).length = n := by rfl) (hst : (assignEach es X.env).findIdx? (·.1) = none := by rfl) : PG X (.Tuple es k pos) (gLst X.K n t) := by
  intro pins s σ H v u Q I r hw
  obtain ⟨a, xs, e1, hq, hl, hw⟩ := hw
  subst e1
  cases r
  obtain ⟨its, rv, p, hz⟩ := I.list hq
  rw [assign_Tuple]
  refine wpAny_bind (wpAny_standAt ?_)
  unfold unpack
  rw [hst, show (assignEach es X.env).length = its.toArray.size by simp [hn, ← hl, rv.length]]
  refine wpAny_bind (wpAny_holding (unpackItems_list (I.ok.hd hc) p.isList fun h' hx => ?_))
  have I1 : Inv X pins σ H { s with heap := h' } := I.kept (t' := s.toks) fun b o e => hx b o (Nat.ne_of_lt (Heap.lt_size e)) e
  exact h pins _ σ H xs _ Q I1 (by simpa using rv) hw
theorem i_glst {K : Frag} {n : Nat} {t : TGs} {a : Addr} {xs : List V} {σ : St} {H : Hp} {Q : St → Hp → Prop} (h : SqL K H a xs) (l : xs.length = n) (q : t xs σ H Q) : gLst K n t (.ref a) σ H Q := ⟨a, xs, rfl, h, l, q⟩
theorem fold_app : ∀ (l : List (Array Nat)) (a : Array Nat) (n : Nat) (P : Nat → Prop), (∀ y ∈ l, y.size ≤ n ∧ ∀ c ∈ y.toList, P c) → (∀ c ∈ a.toList, P c) → (l.foldl (· ++ ·) a).size ≤ a.size + l.length * n ∧ ∀ c ∈ (l.foldl (· ++ ·) a).toList, P c
  | [], a, n, P, _, ha => ⟨by simp, ha⟩
  | y :: l, a, n, P, h, ha => by
    obtain ⟨hy, hP⟩ := h y List.mem_cons_self
    obtain ⟨i1, i2⟩ := fold_app l (a ++ y) n P (fun z hz => h z (List.mem_cons_of_mem _ hz)) (fun c hc => by
      rw [Array.toList_append] at hc
      exact (List.mem_append.mp hc).elim (ha c) (hP c))
    refine ⟨?_, i2⟩
    rw [Array.size_append] at i1
    rw [List.foldl_cons, List.length_cons, Nat.succ_mul]
    omega
def rRepS : R2 := fun x y H Q => ∃ (z : Str) (n : Int), x = .str z ∧ y = .int n ∧ n ≤ 100 ∧ -100 ≤ n ∧ z.length ≤ 10 ∧ ∀ r : Str, r.length ≤ n.toNat * z.length → (∀ c ∈ r.cps.toList, c ∈ z.cps.toList) → Q (.str r) H
theorem op_repS {X : Cx} : OpR X (binaryOp .Mult) rRepS := by
  intro pins s σ H x y v u Q I rx ry h
  obtain ⟨z, n, rfl, rfl, h1, h2, hz, q⟩ := h
  obtain ⟨t, rfl⟩ := rx
  obtain ⟨t', rfl⟩ := ry
  have hline : 1000 ≤ sizeLine := by rw [sizeLine_eq]; decide
  refine PySem.P.mul_str (by simp only [Bool.or_eq_false_iff, decide_eq_false_iff_not]; constructor <;> omega) (fun _ _ => ?_) (fun _ _ => ?_) ?_
  · intro hh
    have : (z.length : Int) ≤ (2 ^ 63 - 1) / n := by
      rw [Int.le_ediv_iff_mul_le (by omega)]
      have : (z.length : Int) * n ≤ 10 * 100 := Int.mul_le_mul (by omega) h1 (by omega) (by decide)
      omega
    omega
  · have : z.length * n.toNat ≤ 10 * 100 := Nat.mul_le_mul hz (by omega)
    show decide (z.length * n.toNat > sizeLine) = false
    exact decide_eq_false (by omega)
  · by_cases hn : n < 1
    · rw [if_pos hn]
      exact ⟨Nat.zero_le _, .str Str.empty, H, I.tok _, ⟨_, rfl⟩, q _ (Nat.zero_le _) (fun c hc => by simp [Str.empty] at hc)⟩
    · rw [if_neg hn]
      by_cases h1' : (n == 1 || z.length == 0) = true
      · rw [if_pos h1']
        exact ⟨.str z, H, I, ⟨_, rfl⟩, q _ (by
          rw [Bool.or_eq_true] at h1'
          rcases h1' with e | e
          · have : n = 1 := by simpa using e
            rw [this]; show _ ≤ 1 * _; omega
          · have : z.length = 0 := by simpa using e
            omega) (fun c hc => hc)⟩
      · rw [if_neg h1']
        obtain ⟨i1, i2⟩ := fold_app (List.replicate n.toNat z.cps) #[] z.length (fun c => c ∈ z.cps.toList) (fun y hy => by rw [(List.mem_replicate.mp hy).2]; exact ⟨Nat.le_refl _, fun c hc => hc⟩) (fun c hc => by simp at hc)
        have i3 : ((List.replicate n.toNat z.cps).foldl (· ++ ·) #[]).size ≤ 1000 := by
          refine Nat.le_trans i1 ?_
          rw [List.length_replicate]
          have : n.toNat * z.length ≤ 100 * 10 := Nat.mul_le_mul (by omega) hz
          simp; omega
        exact ⟨Nat.le_trans i3 hline, .str _, H, I.tok _, ⟨_, rfl⟩, q _ (by rw [List.length_replicate] at i1; refine Nat.le_trans i1 ?_; simp) i2⟩
theorem for_str {z : Str} {g : TG} {tb : TS} {D : Ends} {σ : St} {H : Hp} (Pv : Nat → St → Hp → Prop) (h0 : Pv 0 σ H)
    (hs : ∀ i c σ H, z.cps.toList[i]? = some c → Pv i σ H → g (.str ⟨#[c]⟩) σ H fun σ2 H2 => tb { D with nx := Pv (i + 1), ct := Pv (i + 1), bk := D.nx } σ2 H2) (hd : ∀ σ H, Pv z.cps.size σ H → D.nx σ H) :
    ∃ W : Nat → Nat → St → Hp → Prop, (∃ m, W 0 m σ H) ∧ ∀ i m σ H, W i m σ H →
      ((Its z).stop i H ∧ D.nx σ H) ∨ ((Its z).go i H ∧ ∃ N : St → Hp → Prop, (∀ σ' H', N σ' H' → ∃ m', m' < m ∧ W (i + 1) m' σ' H') ∧ ∀ x H', (Its z).yld i H x H' → g x σ H' fun σ2 H2 => tb { D with nx := N, ct := N, bk := D.nx } σ2 H2) := by
  refine ⟨fun i m σ H => m = z.cps.size - i ∧ i ≤ z.cps.size ∧ Pv i σ H, ⟨z.cps.size, by simp, Nat.zero_le _, h0⟩, ?_⟩
  rintro i m σ H ⟨rfl, hi, p⟩
  by_cases hlt : i < z.cps.size
  · refine .inr ⟨hlt, Pv (i + 1), fun σ' H' p' => ⟨z.cps.size - (i + 1), by omega, rfl, hlt, p'⟩, fun x H' y => ?_⟩
    obtain ⟨e, c, hc, rfl⟩ := y
    subst e
    exact hs i c σ _ hc p
  · have e : i = z.cps.size := by omega
    refine .inl ⟨e, hd σ H ?_⟩
    rw [← e]; exact p
def rNinS : R2 := fun x y H Q => ∃ (c : Nat) (j : Str), x = .str ⟨#[c]⟩ ∧ y = .str j ∧ Q (.bl (!decide (c ∈ j.cps.toList))) H
theorem op_ninS {X : Cx} : OpR X (compareOp .NotIn) rNinS := by
  intro pins s σ H x y v u Q I rx ry h
  obtain ⟨c, j, rfl, rfl, q⟩ := h
  obtain ⟨t, rfl⟩ := rx
  obtain ⟨t', rfl⟩ := ry
  refine PySem.P.notIn_str ?_
  rw [PySem.StrLaws.found_one]
  exact fin_bl I q rfl
theorem i_ninS {c : Nat} {j : Str} {H : Hp} {Q : VK} (q : Q (.bl (!decide (c ∈ j.cps.toList))) H) : rNinS (.str ⟨#[c]⟩) (.str j) H Q := ⟨c, j, rfl, rfl, q⟩
theorem boot_sum0 : bootBuiltins "sum" = some (.builtin "sum") := by decide +kernel
end L2
set_option Elab.async false
set_option linter.all false
set_option maxRecDepth 100000
set_option maxHeartbeats 4000000
namespace Lap
open PySem L2
seal PE PA PT PS PSs PW PI PG PO
local macro_rules | `(tactic| walk_at "rd1") => `(tactic| first
  | (with_reducible refine i_callX ?_) | (with_reducible refine i_chain ?_) | (with_reducible refine i_gcons ?_) | (with_reducible refine i_gnil ?_) | (with_reducible refine i_inS ?_) | (with_reducible refine i_max ?_) | (with_reducible refine i_raise ?_) | (with_reducible refine i_bm0 ?_) | (with_reducible refine i_bm ?_) | (with_reducible refine i_fmt ?_) | (with_reducible refine i_jNil ?_) | (with_reducible refine i_jRepr ?_) | (with_reducible refine i_jPlain ?_) | (with_reducible refine i_lstA ?_) | (with_reducible refine i_tupA ?_)
  | (with_reducible refine i_seq ?_) | (with_reducible refine i_sl ?_) | (with_reducible refine i_noPart ?_) | (with_reducible refine i_part ?_) | (with_reducible refine i_partI ?_) | (with_reducible refine i_eqB ?_) | (with_reducible refine i_ret ?_) | (with_reducible refine i_ifS ?_) | (with_reducible refine i_asg ?_) | (with_reducible refine i_name ?_) | (with_reducible refine i_next ?_) | (with_reducible refine i_drop ?_)
  | (with_reducible refine i_op ?_) | (with_reducible refine i_un ?_) | (with_reducible refine i_C ?_)
  | ((with_reducible show tVar _ _ _ _); refine ⟨_, rfl, ?_⟩)
  | (with_reducible refine i_I0 ?_) | (with_reducible refine i_U ?_) | (with_reducible refine i_test ?_) | (with_reducible refine i_B ?_) | (with_reducible refine i_bl ?_)
  | (with_reducible refine i_eqI ?_) | (with_reducible refine i_eqS ?_) | (with_reducible refine i_neI ?_) | (with_reducible refine i_neS ?_)
  | (with_reducible refine i_and ?_) | (with_reducible refine i_or ?_) | (with_reducible refine i_not ?_) | (with_reducible refine i_andV ?_) | (with_reducible refine i_orV ?_) | (with_reducible refine i_notV ?_) | (with_reducible refine i_if ?_)
  | (with_reducible refine i_call ?_) | (with_reducible refine i_CB ?_) | (with_reducible refine i_nil ?_) | (with_reducible refine i_cons ?_)
  | (with_reducible refine iteT ?_) | (with_reducible refine iteF ?_) | (with_reducible refine iteNT ?_) | (with_reducible refine iteNF ?_)
  | ((with_reducible refine i_mod ?_ ?_); (first | assumption | (decide +kernel) | omega))
  | ((with_reducible refine i_div ?_ ?_); (decide +kernel))
  | ((with_reducible refine i_pow ?_ ?_); (decide +kernel)))
local macro_rules | `(tactic| walk_at "rd") => `(tactic| repeat (walk_at "rd1"))
def top (i : Nat) : Stmt := PySem.Challenge.pw_lapwork_k11_loops_refused.main.body.getD i (.Pass ⟨0, 0, 0, 0⟩)
abbrev st_Deed_wants : Stmt := inClass (top 24) 0
theorem sc_Deed_wants : FnScope ["self"] ["self"] (defScope st_Deed_wants) := ⟨rfl, rfl, rfl, by decide +kernel, rfl, by decide +kernel, by decide +kernel⟩
abbrev st_Sum_wants : Stmt := inClass (top 25) 0
theorem sc_Sum_wants : FnScope ["self"] ["self"] (defScope st_Sum_wants) := ⟨rfl, rfl, rfl, by decide +kernel, rfl, by decide +kernel, by decide +kernel⟩
abbrev st_Less_wants : Stmt := inClass (top 26) 0
theorem sc_Less_wants : FnScope ["self"] ["self"] (defScope st_Less_wants) := ⟨rfl, rfl, rfl, by decide +kernel, rfl, by decide +kernel, by decide +kernel⟩
abbrev st_Times_wants : Stmt := inClass (top 27) 0
theorem sc_Times_wants : FnScope ["self"] ["self"] (defScope st_Times_wants) := ⟨rfl, rfl, rfl, by decide +kernel, rfl, by decide +kernel, by decide +kernel⟩
abbrev st_Least_wants : Stmt := inClass (top 28) 0
theorem sc_Least_wants : FnScope ["self"] ["self"] (defScope st_Least_wants) := ⟨rfl, rfl, rfl, by decide +kernel, rfl, by decide +kernel, by decide +kernel⟩
abbrev st_Most_wants : Stmt := inClass (top 29) 0
theorem sc_Most_wants : FnScope ["self"] ["self"] (defScope st_Most_wants) := ⟨rfl, rfl, rfl, by decide +kernel, rfl, by decide +kernel, by decide +kernel⟩
abbrev st_Pick_wants : Stmt := inClass (top 30) 0
theorem sc_Pick_wants : FnScope ["self"] ["self"] (defScope st_Pick_wants) := ⟨rfl, rfl, rfl, by decide +kernel, rfl, by decide +kernel, by decide +kernel⟩
abbrev st_Take_wants : Stmt := inClass (top 33) 0
theorem sc_Take_wants : FnScope ["self"] ["self"] (defScope st_Take_wants) := ⟨rfl, rfl, rfl, by decide +kernel, rfl, by decide +kernel, by decide +kernel⟩
abbrev st_deed_of : Stmt := top 34
theorem sc_deed_of : FnScope ["word"] ["word"] (defScope st_deed_of) := ⟨rfl, rfl, rfl, by decide +kernel, rfl, by decide +kernel, by decide +kernel⟩
abbrev st_is_name : Stmt := top 38
theorem sc_is_name : FnScope ["text"] ["text"] (defScope st_is_name) := ⟨rfl, rfl, rfl, by decide +kernel, rfl, by decide +kernel, by decide +kernel⟩
abbrev st_is_lettered : Stmt := top 39
theorem sc_is_lettered : FnScope ["text"] ["text"] (defScope st_is_lettered) := ⟨rfl, rfl, rfl, by decide +kernel, rfl, by decide +kernel, by decide +kernel⟩
abbrev st_Loop___init__ : Stmt := inClass (top 43) 0
theorem sc_Loop___init__ : FnScope ["self", "measure", "rows"] ["self", "measure", "rows"] (defScope st_Loop___init__) := ⟨rfl, rfl, rfl, by decide +kernel, rfl, by decide +kernel, by decide +kernel⟩
abbrev st_check_measure : Stmt := top 44
theorem sc_check_measure : FnScope ["measure"] ["measure"] (defScope st_check_measure) := ⟨rfl, rfl, rfl, by decide +kernel, rfl, by decide +kernel, by decide +kernel⟩
abbrev st_check_rows : Stmt := top 45
theorem sc_check_rows : FnScope ["rows", "names", "place", "row", "above", "read"] ["rows"] (defScope st_check_rows) := ⟨rfl, rfl, rfl, by decide +kernel, rfl, by decide +kernel, by decide +kernel⟩
abbrev st_check_head : Stmt := top 46
theorem sc_check_head : FnScope ["name", "word", "reads", "above"] ["name", "word", "reads", "above"] (defScope st_check_head) := ⟨rfl, rfl, rfl, by decide +kernel, rfl, by decide +kernel, by decide +kernel⟩
abbrev st_check_read : Stmt := top 47
theorem sc_check_read : FnScope ["read", "names", "above"] ["read", "names", "above"] (defScope st_check_read) := ⟨rfl, rfl, rfl, by decide +kernel, rfl, by decide +kernel, by decide +kernel⟩
abbrev st_check_number : Stmt := top 48
theorem sc_check_number : FnScope ["number"] ["number"] (defScope st_check_number) := ⟨rfl, rfl, rfl, by decide +kernel, rfl, by decide +kernel, by decide +kernel⟩
abbrev st_check_look_back : Stmt := top 49
theorem sc_check_look_back : FnScope ["name", "back", "names", "above"] ["name", "back", "names", "above"] (defScope st_check_look_back) := ⟨rfl, rfl, rfl, by decide +kernel, rfl, by decide +kernel, by decide +kernel⟩
abbrev st_copy_of_row : Stmt := top 50
theorem sc_copy_of_row : FnScope ["row", "reads"] ["row"] (defScope st_copy_of_row) := ⟨rfl, rfl, rfl, by decide +kernel, rfl, by decide +kernel, by decide +kernel⟩
abbrev st_depths_of : Stmt := top 51
theorem sc_depths_of : FnScope ["rows", "depths", "row", "read"] ["rows"] (defScope st_depths_of) := ⟨rfl, rfl, rfl, by decide +kernel, rfl, by decide +kernel, by decide +kernel⟩
abbrev st_law_cell_at : Stmt := top 53
theorem sc_law_cell_at : FnScope ["_law_script", "_law_k"] ["_law_script", "_law_k"] (defScope st_law_cell_at) := ⟨rfl, rfl, rfl, by decide +kernel, rfl, by decide +kernel, by decide +kernel⟩
abbrev st_law_mix : Stmt := top 54
theorem sc_law_mix : FnScope ["_law_cell", "_law_k", "_law_number"] ["_law_cell", "_law_k"] (defScope st_law_mix) := ⟨rfl, rfl, rfl, by decide +kernel, rfl, by decide +kernel, by decide +kernel⟩
abbrev st_law_letters : Stmt := top 55
theorem sc_law_letters : FnScope ["_law_number", "_law_many", "_law_made", "_law_k"] ["_law_number", "_law_many"] (defScope st_law_letters) := ⟨rfl, rfl, rfl, by decide +kernel, rfl, by decide +kernel, by decide +kernel⟩
abbrev st_law_names : Stmt := top 56
theorem sc_law_names : FnScope ["_law_script", "_law_many", "_law_number", "_law_place", "_law_made", "_law_at", "_law_own", "_law_word", "_law_sign"] ["_law_script", "_law_many"] (defScope st_law_names) := ⟨rfl, rfl, rfl, by decide +kernel, rfl, by decide +kernel, by decide +kernel⟩
abbrev st_law_wants : Stmt := top 57
theorem sc_law_wants : FnScope ["_law_word"] ["_law_word"] (defScope st_law_wants) := ⟨rfl, rfl, rfl, by decide +kernel, rfl, by decide +kernel, by decide +kernel⟩
abbrev st_law_row : Stmt := top 58
theorem sc_law_row : FnScope ["_law_script", "_law_names_here", "_law_at", "_law_words", "_law_number", "_law_word", "_law_reads", "_law_k", "_law_back", "_law_spot"] ["_law_script", "_law_names_here", "_law_at", "_law_words"] (defScope st_law_row) := ⟨rfl, rfl, rfl, by decide +kernel, rfl, by decide +kernel, by decide +kernel⟩
abbrev st_law_rows : Stmt := top 59
theorem sc_law_rows : FnScope ["_law_script", "_law_many", "_law_words", "_law_names_here"] ["_law_script", "_law_many"] (defScope st_law_rows) := ⟨rfl, rfl, rfl, by decide +kernel, rfl, by decide +kernel, by decide +kernel⟩
abbrev st_law_measure : Stmt := top 60
theorem sc_law_measure : FnScope ["_law_script", "_law_number"] ["_law_script"] (defScope st_law_measure) := ⟨rfl, rfl, rfl, by decide +kernel, rfl, by decide +kernel, by decide +kernel⟩
abbrev st_law_classes : Stmt := top 61
theorem sc_law_classes : FnScope ["_law_kept", "_law_found"] ["_law_kept"] (defScope st_law_classes) := ⟨rfl, rfl, rfl, by decide +kernel, rfl, by decide +kernel, by decide +kernel⟩
abbrev st_law_is_name : Stmt := top 62
theorem sc_law_is_name : FnScope ["_law_text", "_law_sign"] ["_law_text"] (defScope st_law_is_name) := ⟨rfl, rfl, rfl, by decide +kernel, rfl, by decide +kernel, by decide +kernel⟩
abbrev st_law_read_due : Stmt := top 63
theorem sc_law_read_due : FnScope ["_law_names_here", "_law_at", "_law_read"] ["_law_names_here", "_law_at", "_law_read"] (defScope st_law_read_due) := ⟨rfl, rfl, rfl, by decide +kernel, rfl, by decide +kernel, by decide +kernel⟩
abbrev st_law_due : Stmt := top 64
theorem sc_law_due : FnScope ["_law_measure_here", "_law_rows_here", "_law_names_here", "_law_at", "_law_row_here", "_law_read"] ["_law_measure_here", "_law_rows_here"] (defScope st_law_due) := ⟨rfl, rfl, rfl, by decide +kernel, rfl, by decide +kernel, by decide +kernel⟩
abbrev st_law_bad_name : Stmt := top 65
theorem sc_law_bad_name : FnScope ["_law_name", "_law_number", "_law_sign", "_law_at"] ["_law_name", "_law_number"] (defScope st_law_bad_name) := ⟨rfl, rfl, rfl, by decide +kernel, rfl, by decide +kernel, by decide +kernel⟩
abbrev st_law_other_read : Stmt := top 66
theorem sc_law_other_read : FnScope ["_law_rows_here", "_law_number"] ["_law_rows_here", "_law_number"] (defScope st_law_other_read) := ⟨rfl, rfl, rfl, by decide +kernel, rfl, by decide +kernel, by decide +kernel⟩
abbrev st_law_spoiled_row : Stmt := top 67
theorem sc_law_spoiled_row : FnScope ["_law_rows_here", "_law_at", "_law_number", "_law_name", "_law_word", "_law_reads", "_law_way", "_law_spot", "_law_read"] ["_law_rows_here", "_law_at", "_law_number"] (defScope st_law_spoiled_row) := ⟨rfl, rfl, rfl, by decide +kernel, rfl, by decide +kernel, by decide +kernel⟩
abbrev st_law_spoiled : Stmt := top 68
theorem sc_law_spoiled : FnScope ["_law_measure_here", "_law_rows_here", "_law_number", "_law_way", "_law_more"] ["_law_measure_here", "_law_rows_here", "_law_number"] (defScope st_law_spoiled) := ⟨rfl, rfl, rfl, by decide +kernel, rfl, by decide +kernel, by decide +kernel⟩
abbrev st_law : Stmt := top 69
theorem sc_law : FnScope ["_law_script", "_law_head", "_law_rows_here", "_law_measure_here", "_law_due_here", "_law_kept", "e"] ["_law_script"] (defScope st_law) := ⟨rfl, rfl, rfl, by decide +kernel, rfl, by decide +kernel, by decide +kernel⟩
inductive Xk where
  | LapError
  | NoDeed
  | NoMeasure
  | BadRows
  | BadName
  | Twice
  | BadCount
  | BadNumber
  | NoRow
  | BadBack
  | TooEarly
  | BadTurns
  | Short
  | BadWidth
  | BadArms
  | NoArm
  | BadDelay
  | BadHold
  | BadPlan
  | Unfit
  | BadText
  | Loop
  deriving DecidableEq
structure Tp0 (K : PySem.W.Frag) (C : Dk → Addr) (CE : Xk → Addr) : Prop where
  c_Sum : HasC K "Sum" (C .sum)
  c_Less : HasC K "Less" (C .less)
  c_Times : HasC K "Times" (C .times)
  c_Least : HasC K "Least" (C .least)
  c_Most : HasC K "Most" (C .most)
  c_Pick : HasC K "Pick" (C .pick)
  c_Same : HasC K "Same" (C .same)
  c_Tell : HasC K "Tell" (C .tell)
  c_Take : HasC K "Take" (C .take)
  g_LapError : PySem.W.nsIn K mainGlobals "LapError" = some (some (.ref (CE .LapError)))
  g_NoDeed : PySem.W.nsIn K mainGlobals "NoDeed" = some (some (.ref (CE .NoDeed)))
  g_NoMeasure : PySem.W.nsIn K mainGlobals "NoMeasure" = some (some (.ref (CE .NoMeasure)))
  g_BadRows : PySem.W.nsIn K mainGlobals "BadRows" = some (some (.ref (CE .BadRows)))
  g_BadName : PySem.W.nsIn K mainGlobals "BadName" = some (some (.ref (CE .BadName)))
  g_Twice : PySem.W.nsIn K mainGlobals "Twice" = some (some (.ref (CE .Twice)))
  g_BadCount : PySem.W.nsIn K mainGlobals "BadCount" = some (some (.ref (CE .BadCount)))
  g_BadNumber : PySem.W.nsIn K mainGlobals "BadNumber" = some (some (.ref (CE .BadNumber)))
  g_NoRow : PySem.W.nsIn K mainGlobals "NoRow" = some (some (.ref (CE .NoRow)))
  g_BadBack : PySem.W.nsIn K mainGlobals "BadBack" = some (some (.ref (CE .BadBack)))
  g_TooEarly : PySem.W.nsIn K mainGlobals "TooEarly" = some (some (.ref (CE .TooEarly)))
  g_BadTurns : PySem.W.nsIn K mainGlobals "BadTurns" = some (some (.ref (CE .BadTurns)))
  g_Short : PySem.W.nsIn K mainGlobals "Short" = some (some (.ref (CE .Short)))
  g_BadWidth : PySem.W.nsIn K mainGlobals "BadWidth" = some (some (.ref (CE .BadWidth)))
  g_BadArms : PySem.W.nsIn K mainGlobals "BadArms" = some (some (.ref (CE .BadArms)))
  g_NoArm : PySem.W.nsIn K mainGlobals "NoArm" = some (some (.ref (CE .NoArm)))
  g_BadDelay : PySem.W.nsIn K mainGlobals "BadDelay" = some (some (.ref (CE .BadDelay)))
  g_BadHold : PySem.W.nsIn K mainGlobals "BadHold" = some (some (.ref (CE .BadHold)))
  g_BadPlan : PySem.W.nsIn K mainGlobals "BadPlan" = some (some (.ref (CE .BadPlan)))
  g_Unfit : PySem.W.nsIn K mainGlobals "Unfit" = some (some (.ref (CE .Unfit)))
  g_BadText : PySem.W.nsIn K mainGlobals "BadText" = some (some (.ref (CE .BadText)))
  g_Loop : PySem.W.nsIn K mainGlobals "Loop" = some (some (.ref (CE .Loop)))
structure Tp1 (K : PySem.W.Frag) (C : Dk → Addr) (CE : Xk → Addr) : Prop where
  f_wa_sum : HasM K (C .sum) "wants" "Sum.wants" st_Sum_wants
  f_wa_less : HasM K (C .less) "wants" "Less.wants" st_Less_wants
  f_wa_times : HasM K (C .times) "wants" "Times.wants" st_Times_wants
  f_wa_least : HasM K (C .least) "wants" "Least.wants" st_Least_wants
  f_wa_most : HasM K (C .most) "wants" "Most.wants" st_Most_wants
  f_wa_pick : HasM K (C .pick) "wants" "Pick.wants" st_Pick_wants
  f_wa_same : HasM K (C .same) "wants" "Deed.wants" st_Deed_wants
  f_wa_tell : HasM K (C .tell) "wants" "Deed.wants" st_Deed_wants
  f_wa_take : HasM K (C .take) "wants" "Take.wants" st_Take_wants
  x_NoDeed : HasX K "NoDeed" (CE .NoDeed)
  m_NoDeed : PySem.W.mroIn K (CE .NoDeed) (.ref (CE .LapError)) = some true
  x_NoMeasure : HasX K "NoMeasure" (CE .NoMeasure)
  m_NoMeasure : PySem.W.mroIn K (CE .NoMeasure) (.ref (CE .LapError)) = some true
  x_BadRows : HasX K "BadRows" (CE .BadRows)
  m_BadRows : PySem.W.mroIn K (CE .BadRows) (.ref (CE .LapError)) = some true
  x_BadName : HasX K "BadName" (CE .BadName)
  m_BadName : PySem.W.mroIn K (CE .BadName) (.ref (CE .LapError)) = some true
  x_Twice : HasX K "Twice" (CE .Twice)
  m_Twice : PySem.W.mroIn K (CE .Twice) (.ref (CE .LapError)) = some true
  x_BadCount : HasX K "BadCount" (CE .BadCount)
  m_BadCount : PySem.W.mroIn K (CE .BadCount) (.ref (CE .LapError)) = some true
  x_BadNumber : HasX K "BadNumber" (CE .BadNumber)
  m_BadNumber : PySem.W.mroIn K (CE .BadNumber) (.ref (CE .LapError)) = some true
  x_NoRow : HasX K "NoRow" (CE .NoRow)
  m_NoRow : PySem.W.mroIn K (CE .NoRow) (.ref (CE .LapError)) = some true
  x_BadBack : HasX K "BadBack" (CE .BadBack)
  m_BadBack : PySem.W.mroIn K (CE .BadBack) (.ref (CE .LapError)) = some true
  x_TooEarly : HasX K "TooEarly" (CE .TooEarly)
  m_TooEarly : PySem.W.mroIn K (CE .TooEarly) (.ref (CE .LapError)) = some true
  lapB : PySem.W.mroIn K (CE .LapError) (.type "BaseException") = some true
  lapT : PySem.W.typeIn K (.ref (CE .LapError)) = some (.type "type")
  i_Loop : HasCI K "Loop" (CE .Loop) "Loop.__init__" st_Loop___init__
  w_LETTERS : HasV K "LETTERS" (.str (Str.ofString "abcdefghijklmnopqrstuvwxyz"))
  w_MOST_LETTERS : HasV K "MOST_LETTERS" (.int 12)
  w_MOST_ROWS : HasV K "MOST_ROWS" (.int 12)
  w_MOST_BACK : HasV K "MOST_BACK" (.int 6)
structure Tp2 (K : PySem.W.Frag) (C : Dk → Addr) (CE : Xk → Addr) : Prop where
  f_deed : HasF K "deed_of" st_deed_of
  f_islet : HasF K "is_lettered" st_is_lettered
  f_isname : HasF K "is_name" st_is_name
  f_cmeas : HasF K "check_measure" st_check_measure
  f_crows : HasF K "check_rows" st_check_rows
  f_chead : HasF K "check_head" st_check_head
  f_cread : HasF K "check_read" st_check_read
  f_cnum : HasF K "check_number" st_check_number
  f_clook : HasF K "check_look_back" st_check_look_back
  f_copy : HasF K "copy_of_row" st_copy_of_row
  f_depths : HasF K "depths_of" st_depths_of
  f_cell : HasF K "_law_cell_at" st_law_cell_at
  f_mix : HasF K "_law_mix" st_law_mix
  f_letters : HasF K "_law_letters" st_law_letters
  f_names : HasF K "_law_names" st_law_names
  f_wants : HasF K "_law_wants" st_law_wants
  f_row : HasF K "_law_row" st_law_row
  f_rows : HasF K "_law_rows" st_law_rows
  f_measure : HasF K "_law_measure" st_law_measure
  f_classes : HasF K "_law_classes" st_law_classes
  f_lisname : HasF K "_law_is_name" st_law_is_name
  f_rdue : HasF K "_law_read_due" st_law_read_due
  f_due : HasF K "_law_due" st_law_due
  f_bad : HasF K "_law_bad_name" st_law_bad_name
  f_other : HasF K "_law_other_read" st_law_other_read
  f_srow : HasF K "_law_spoiled_row" st_law_spoiled_row
  f_spoil : HasF K "_law_spoiled" st_law_spoiled
  z_len : PySem.W.nsIn K mainGlobals "len" = some none
  z_isinstance : PySem.W.nsIn K mainGlobals "isinstance" = some none
  z_int : PySem.W.nsIn K mainGlobals "int" = some none
  z_bool : PySem.W.nsIn K mainGlobals "bool" = some none
  z_range : PySem.W.nsIn K mainGlobals "range" = some none
  z_max : PySem.W.nsIn K mainGlobals "max" = some none
  z_list : PySem.W.nsIn K mainGlobals "list" = some none
  z_tuple : PySem.W.nsIn K mainGlobals "tuple" = some none
  z_all : PySem.W.nsIn K mainGlobals "all" = some none
structure Tp3 (K : PySem.W.Frag) (C : Dk → Addr) (CE : Xk → Addr) : Prop where
  z_enumerate : PySem.W.nsIn K mainGlobals "enumerate" = some none
  z_sum : PySem.W.nsIn K mainGlobals "sum" = some none
  z_ValueError : PySem.W.nsIn K mainGlobals "ValueError" = some none
  kII : PySem.W.kitOne K (.type "int") (.type "int") = some true
  kIB : PySem.W.kitOne K (.type "int") (.type "bool") = some false
  kTT : PySem.W.kitOne K (.type "tuple") (.type "tuple") = some true
  kTI : PySem.W.kitOne K (.type "tuple") (.type "int") = some false
  kIT : PySem.W.kitOne K (.type "int") (.type "tuple") = some false
  nM : NoAttr K (CE .Loop) "measure"
  nK : NoAttr K (CE .Loop) "kept"
  nD : NoAttr K (CE .Loop) "depths"
  kX_NoDeed : ∀ f, f ≠ .LapError → f ≠ .Loop → PySem.W.kitOne K (.ref (CE .NoDeed)) (.ref (CE f)) = some (decide (f = .NoDeed))
  kV_NoDeed : PySem.W.kitOne K (.ref (CE .NoDeed)) (.type "ValueError") = some true
  kL_NoDeed : PySem.W.kitOne K (.ref (CE .NoDeed)) (.ref (CE .LapError)) = some true
  kX_NoMeasure : ∀ f, f ≠ .LapError → f ≠ .Loop → PySem.W.kitOne K (.ref (CE .NoMeasure)) (.ref (CE f)) = some (decide (f = .NoMeasure))
  kV_NoMeasure : PySem.W.kitOne K (.ref (CE .NoMeasure)) (.type "ValueError") = some true
  kL_NoMeasure : PySem.W.kitOne K (.ref (CE .NoMeasure)) (.ref (CE .LapError)) = some true
  kX_BadRows : ∀ f, f ≠ .LapError → f ≠ .Loop → PySem.W.kitOne K (.ref (CE .BadRows)) (.ref (CE f)) = some (decide (f = .BadRows))
  kV_BadRows : PySem.W.kitOne K (.ref (CE .BadRows)) (.type "ValueError") = some true
  kL_BadRows : PySem.W.kitOne K (.ref (CE .BadRows)) (.ref (CE .LapError)) = some true
  kX_BadName : ∀ f, f ≠ .LapError → f ≠ .Loop → PySem.W.kitOne K (.ref (CE .BadName)) (.ref (CE f)) = some (decide (f = .BadName))
  kV_BadName : PySem.W.kitOne K (.ref (CE .BadName)) (.type "ValueError") = some true
  kL_BadName : PySem.W.kitOne K (.ref (CE .BadName)) (.ref (CE .LapError)) = some true
  kX_Twice : ∀ f, f ≠ .LapError → f ≠ .Loop → PySem.W.kitOne K (.ref (CE .Twice)) (.ref (CE f)) = some (decide (f = .Twice))
  kV_Twice : PySem.W.kitOne K (.ref (CE .Twice)) (.type "ValueError") = some true
  kL_Twice : PySem.W.kitOne K (.ref (CE .Twice)) (.ref (CE .LapError)) = some true
  kX_BadCount : ∀ f, f ≠ .LapError → f ≠ .Loop → PySem.W.kitOne K (.ref (CE .BadCount)) (.ref (CE f)) = some (decide (f = .BadCount))
  kV_BadCount : PySem.W.kitOne K (.ref (CE .BadCount)) (.type "ValueError") = some true
  kL_BadCount : PySem.W.kitOne K (.ref (CE .BadCount)) (.ref (CE .LapError)) = some true
  kX_BadNumber : ∀ f, f ≠ .LapError → f ≠ .Loop → PySem.W.kitOne K (.ref (CE .BadNumber)) (.ref (CE f)) = some (decide (f = .BadNumber))
  kV_BadNumber : PySem.W.kitOne K (.ref (CE .BadNumber)) (.type "ValueError") = some true
  kL_BadNumber : PySem.W.kitOne K (.ref (CE .BadNumber)) (.ref (CE .LapError)) = some true
  kX_NoRow : ∀ f, f ≠ .LapError → f ≠ .Loop → PySem.W.kitOne K (.ref (CE .NoRow)) (.ref (CE f)) = some (decide (f = .NoRow))
  kV_NoRow : PySem.W.kitOne K (.ref (CE .NoRow)) (.type "ValueError") = some true
  kL_NoRow : PySem.W.kitOne K (.ref (CE .NoRow)) (.ref (CE .LapError)) = some true
  kX_BadBack : ∀ f, f ≠ .LapError → f ≠ .Loop → PySem.W.kitOne K (.ref (CE .BadBack)) (.ref (CE f)) = some (decide (f = .BadBack))
structure Tp4 (K : PySem.W.Frag) (C : Dk → Addr) (CE : Xk → Addr) : Prop where
  kV_BadBack : PySem.W.kitOne K (.ref (CE .BadBack)) (.type "ValueError") = some true
  kL_BadBack : PySem.W.kitOne K (.ref (CE .BadBack)) (.ref (CE .LapError)) = some true
  kX_TooEarly : ∀ f, f ≠ .LapError → f ≠ .Loop → PySem.W.kitOne K (.ref (CE .TooEarly)) (.ref (CE f)) = some (decide (f = .TooEarly))
  kV_TooEarly : PySem.W.kitOne K (.ref (CE .TooEarly)) (.type "ValueError") = some true
  kL_TooEarly : PySem.W.kitOne K (.ref (CE .TooEarly)) (.ref (CE .LapError)) = some true
structure Tp (K : PySem.W.Frag) (C : Dk → Addr) (CE : Xk → Addr) : Prop extends Tp0 K C CE, Tp1 K C CE, Tp2 K C CE, Tp3 K C CE, Tp4 K C CE
structure Txt (K : PySem.W.Frag) (mg : Str → Option Value) (C : Dk → Addr) (CE : Xk → Addr) : Prop extends Tp K C CE where
  mg_Sum : mg "Sum" = some (.ref (C .sum))
  mg_Less : mg "Less" = some (.ref (C .less))
  mg_Times : mg "Times" = some (.ref (C .times))
  mg_Least : mg "Least" = some (.ref (C .least))
  mg_Most : mg "Most" = some (.ref (C .most))
  mg_Pick : mg "Pick" = some (.ref (C .pick))
  mg_Same : mg "Same" = some (.ref (C .same))
  mg_Tell : mg "Tell" = some (.ref (C .tell))
  mg_Take : mg "Take" = some (.ref (C .take))
  mg_LapError : mg "LapError" = some (.ref (CE .LapError))
  mg_NoDeed : mg "NoDeed" = some (.ref (CE .NoDeed))
  mg_NoMeasure : mg "NoMeasure" = some (.ref (CE .NoMeasure))
  mg_BadRows : mg "BadRows" = some (.ref (CE .BadRows))
  mg_BadName : mg "BadName" = some (.ref (CE .BadName))
  mg_Twice : mg "Twice" = some (.ref (CE .Twice))
  mg_BadCount : mg "BadCount" = some (.ref (CE .BadCount))
  mg_BadNumber : mg "BadNumber" = some (.ref (CE .BadNumber))
  mg_NoRow : mg "NoRow" = some (.ref (CE .NoRow))
  mg_BadBack : mg "BadBack" = some (.ref (CE .BadBack))
  mg_TooEarly : mg "TooEarly" = some (.ref (CE .TooEarly))
  mg_BadTurns : mg "BadTurns" = some (.ref (CE .BadTurns))
  mg_Short : mg "Short" = some (.ref (CE .Short))
  mg_BadWidth : mg "BadWidth" = some (.ref (CE .BadWidth))
  mg_BadArms : mg "BadArms" = some (.ref (CE .BadArms))
  mg_NoArm : mg "NoArm" = some (.ref (CE .NoArm))
  mg_BadDelay : mg "BadDelay" = some (.ref (CE .BadDelay))
  mg_BadHold : mg "BadHold" = some (.ref (CE .BadHold))
  mg_BadPlan : mg "BadPlan" = some (.ref (CE .BadPlan))
  mg_Unfit : mg "Unfit" = some (.ref (CE .Unfit))
  mg_BadText : mg "BadText" = some (.ref (CE .BadText))
  mg_Loop : mg "Loop" = some (.ref (CE .Loop))
  nlen : mg "len" = none
  nisi : mg "isinstance" = none
  nint : mg "int" = none
  nbool : mg "bool" = none
  nrange : mg "range" = none
  nmax : mg "max" = none
  nlist : mg "list" = none
  ntuple : mg "tuple" = none
  nall : mg "all" = none
  nenumerate : mg "enumerate" = none
  nsum : mg "sum" = none
  nVE : mg "ValueError" = none
  v_LETTERS : ∃ u, mg "LETTERS" = some u ∧ RelV (.str (Str.ofString "abcdefghijklmnopqrstuvwxyz")) u
  v_MOST_LETTERS : ∃ u, mg "MOST_LETTERS" = some u ∧ RelV (.int 12) u
  v_MOST_ROWS : ∃ u, mg "MOST_ROWS" = some u ∧ RelV (.int 12) u
  v_MOST_BACK : ∃ u, mg "MOST_BACK" = some u ∧ RelV (.int 6) u
section
variable {K : PySem.W.Frag} {mg : Str → Option Value} {C : Dk → Addr} {CE : Xk → Addr}
theorem Txt.cl (T : Txt K mg C CE) : ∀ d, Cls K (C d)
  | .sum => T.c_Sum.cl
  | .less => T.c_Less.cl
  | .times => T.c_Times.cl
  | .least => T.c_Least.cl
  | .most => T.c_Most.cl
  | .pick => T.c_Pick.cl
  | .same => T.c_Same.cl
  | .tell => T.c_Tell.cl
  | .take => T.c_Take.cl
theorem Txt.mk_Sum (T : Txt K mg C CE) : MkN K (C .sum) := T.c_Sum.mkn
theorem Txt.mk_Less (T : Txt K mg C CE) : MkN K (C .less) := T.c_Less.mkn
theorem Txt.mk_Times (T : Txt K mg C CE) : MkN K (C .times) := T.c_Times.mkn
theorem Txt.mk_Least (T : Txt K mg C CE) : MkN K (C .least) := T.c_Least.mkn
theorem Txt.mk_Most (T : Txt K mg C CE) : MkN K (C .most) := T.c_Most.mkn
theorem Txt.mk_Pick (T : Txt K mg C CE) : MkN K (C .pick) := T.c_Pick.mkn
theorem Txt.mk_Same (T : Txt K mg C CE) : MkN K (C .same) := T.c_Same.mkn
theorem Txt.mk_Tell (T : Txt K mg C CE) : MkN K (C .tell) := T.c_Tell.mkn
theorem Txt.mk_Take (T : Txt K mg C CE) : MkN K (C .take) := T.c_Take.mkn
theorem Tp.txt {h : Heap} (T : Tp K C CE) (X : K.In h) (G : h.Ns mainGlobals mg) : Txt K mg C CE where
  toTp := T
  mg_Sum := PySem.W.mg_of X G T.c_Sum.ns
  mg_Less := PySem.W.mg_of X G T.c_Less.ns
  mg_Times := PySem.W.mg_of X G T.c_Times.ns
  mg_Least := PySem.W.mg_of X G T.c_Least.ns
  mg_Most := PySem.W.mg_of X G T.c_Most.ns
  mg_Pick := PySem.W.mg_of X G T.c_Pick.ns
  mg_Same := PySem.W.mg_of X G T.c_Same.ns
  mg_Tell := PySem.W.mg_of X G T.c_Tell.ns
  mg_Take := PySem.W.mg_of X G T.c_Take.ns
  mg_LapError := PySem.W.mg_of X G T.g_LapError
  mg_NoDeed := PySem.W.mg_of X G T.g_NoDeed
  mg_NoMeasure := PySem.W.mg_of X G T.g_NoMeasure
  mg_BadRows := PySem.W.mg_of X G T.g_BadRows
  mg_BadName := PySem.W.mg_of X G T.g_BadName
  mg_Twice := PySem.W.mg_of X G T.g_Twice
  mg_BadCount := PySem.W.mg_of X G T.g_BadCount
  mg_BadNumber := PySem.W.mg_of X G T.g_BadNumber
  mg_NoRow := PySem.W.mg_of X G T.g_NoRow
  mg_BadBack := PySem.W.mg_of X G T.g_BadBack
  mg_TooEarly := PySem.W.mg_of X G T.g_TooEarly
  mg_BadTurns := PySem.W.mg_of X G T.g_BadTurns
  mg_Short := PySem.W.mg_of X G T.g_Short
  mg_BadWidth := PySem.W.mg_of X G T.g_BadWidth
  mg_BadArms := PySem.W.mg_of X G T.g_BadArms
  mg_NoArm := PySem.W.mg_of X G T.g_NoArm
  mg_BadDelay := PySem.W.mg_of X G T.g_BadDelay
  mg_BadHold := PySem.W.mg_of X G T.g_BadHold
  mg_BadPlan := PySem.W.mg_of X G T.g_BadPlan
  mg_Unfit := PySem.W.mg_of X G T.g_Unfit
  mg_BadText := PySem.W.mg_of X G T.g_BadText
  mg_Loop := PySem.W.mg_of X G T.g_Loop
  nlen := PySem.W.mg_none_of X G T.z_len
  nisi := PySem.W.mg_none_of X G T.z_isinstance
  nint := PySem.W.mg_none_of X G T.z_int
  nbool := PySem.W.mg_none_of X G T.z_bool
  nrange := PySem.W.mg_none_of X G T.z_range
  nmax := PySem.W.mg_none_of X G T.z_max
  nlist := PySem.W.mg_none_of X G T.z_list
  ntuple := PySem.W.mg_none_of X G T.z_tuple
  nall := PySem.W.mg_none_of X G T.z_all
  nenumerate := PySem.W.mg_none_of X G T.z_enumerate
  nsum := PySem.W.mg_none_of X G T.z_sum
  nVE := PySem.W.mg_none_of X G T.z_ValueError
  v_LETTERS := T.w_LETTERS.mg X G
  v_MOST_LETTERS := T.w_MOST_LETTERS.mg X G
  v_MOST_ROWS := T.w_MOST_ROWS.mg X G
  v_MOST_BACK := T.w_MOST_BACK.mg X G
end
def Dk.wants : Dk → Nat
  | .pick => 3 | .same => 1 | .tell => 1 | .take => 0 | _ => 2
def spWants (d : Dk) : Sp := fun vs H Q _ => ∃ a : Addr, vs = [.ref a] ∧ Q (.int (d.wants : Nat)) H
def spDeedX (C : Dk → Addr) (CE : Xk → Addr) : Sp := fun vs H Q E => (∃ d : Dk, vs = [.str d.word] ∧ ∀ x dx H2, NewI H x dx (C d) [] H2 → Q (.ref x) H2) ∨
  (∃ z : Str, vs = [.str z] ∧ Sm z ∧ (∀ d : Dk, z ≠ d.word) ∧ E (.ref (CE .NoDeed)) none H)
def spCell (K : PySem.W.Frag) : Sp := fun vs H Q _ => ∃ (a : Addr) (ns : List Int) (k : Nat), vs = [.ref a, .int (k : Int)] ∧ SqL K H a (ns.map V.int) ∧ ∀ i : Int, Q (.int i) H
def spMix : Sp := fun vs H Q _ => ∃ (c : Int) (k : Nat), vs = [.int c, .int (k : Int)] ∧ k ≤ 100 ∧ ∀ m : Nat, Q (.int (m : Int)) H
section
variable {P : Program} {w : World} {K : PySem.W.Frag} {mg : Str → Option Value} {base : Heap} {C : Dk → Addr} {CE : Xk → Addr}
theorem wa_sum (T : Txt K mg C CE) : ∃ f fd, Meth K (C .sum) "wants" f ∧ FnOk P w K mg base CX0 1 f fd ["self"] (spWants .sum) ∧ Binds K fd ["self"] [] := by
  refine T.f_wa_sum.fn sc_Sum_wants (fun _ _ _ _ _ _ us hl => match us, hl with | [_], _ => rfl) (by rintro vs H Q E ⟨a, rfl, _⟩; rfl) (fun f cdv A outer s H vs Q E hr h => ?_)
  obtain ⟨a, rfl, q⟩ := h
  refine ⟨_, (pss_one (ps_ret pe_int)), ?_⟩
  walk_at "rd"
  exact q
theorem wa_less (T : Txt K mg C CE) : ∃ f fd, Meth K (C .less) "wants" f ∧ FnOk P w K mg base CX0 1 f fd ["self"] (spWants .less) ∧ Binds K fd ["self"] [] := by
  refine T.f_wa_less.fn sc_Less_wants (fun _ _ _ _ _ _ us hl => match us, hl with | [_], _ => rfl) (by rintro vs H Q E ⟨a, rfl, _⟩; rfl) (fun f cdv A outer s H vs Q E hr h => ?_)
  obtain ⟨a, rfl, q⟩ := h
  refine ⟨_, (pss_one (ps_ret pe_int)), ?_⟩
  walk_at "rd"
  exact q
theorem wa_times (T : Txt K mg C CE) : ∃ f fd, Meth K (C .times) "wants" f ∧ FnOk P w K mg base CX0 1 f fd ["self"] (spWants .times) ∧ Binds K fd ["self"] [] := by
  refine T.f_wa_times.fn sc_Times_wants (fun _ _ _ _ _ _ us hl => match us, hl with | [_], _ => rfl) (by rintro vs H Q E ⟨a, rfl, _⟩; rfl) (fun f cdv A outer s H vs Q E hr h => ?_)
  obtain ⟨a, rfl, q⟩ := h
  refine ⟨_, (pss_one (ps_ret pe_int)), ?_⟩
  walk_at "rd"
  exact q
theorem wa_least (T : Txt K mg C CE) : ∃ f fd, Meth K (C .least) "wants" f ∧ FnOk P w K mg base CX0 1 f fd ["self"] (spWants .least) ∧ Binds K fd ["self"] [] := by
  refine T.f_wa_least.fn sc_Least_wants (fun _ _ _ _ _ _ us hl => match us, hl with | [_], _ => rfl) (by rintro vs H Q E ⟨a, rfl, _⟩; rfl) (fun f cdv A outer s H vs Q E hr h => ?_)
  obtain ⟨a, rfl, q⟩ := h
  refine ⟨_, (pss_one (ps_ret pe_int)), ?_⟩
  walk_at "rd"
  exact q
theorem wa_most (T : Txt K mg C CE) : ∃ f fd, Meth K (C .most) "wants" f ∧ FnOk P w K mg base CX0 1 f fd ["self"] (spWants .most) ∧ Binds K fd ["self"] [] := by
  refine T.f_wa_most.fn sc_Most_wants (fun _ _ _ _ _ _ us hl => match us, hl with | [_], _ => rfl) (by rintro vs H Q E ⟨a, rfl, _⟩; rfl) (fun f cdv A outer s H vs Q E hr h => ?_)
  obtain ⟨a, rfl, q⟩ := h
  refine ⟨_, (pss_one (ps_ret pe_int)), ?_⟩
  walk_at "rd"
  exact q
theorem wa_pick (T : Txt K mg C CE) : ∃ f fd, Meth K (C .pick) "wants" f ∧ FnOk P w K mg base CX0 1 f fd ["self"] (spWants .pick) ∧ Binds K fd ["self"] [] := by
  refine T.f_wa_pick.fn sc_Pick_wants (fun _ _ _ _ _ _ us hl => match us, hl with | [_], _ => rfl) (by rintro vs H Q E ⟨a, rfl, _⟩; rfl) (fun f cdv A outer s H vs Q E hr h => ?_)
  obtain ⟨a, rfl, q⟩ := h
  refine ⟨_, (pss_one (ps_ret pe_int)), ?_⟩
  walk_at "rd"
  exact q
theorem wa_same (T : Txt K mg C CE) : ∃ f fd, Meth K (C .same) "wants" f ∧ FnOk P w K mg base CX0 1 f fd ["self"] (spWants .same) ∧ Binds K fd ["self"] [] := by
  refine T.f_wa_same.fn sc_Deed_wants (fun _ _ _ _ _ _ us hl => match us, hl with | [_], _ => rfl) (by rintro vs H Q E ⟨a, rfl, _⟩; rfl) (fun f cdv A outer s H vs Q E hr h => ?_)
  obtain ⟨a, rfl, q⟩ := h
  refine ⟨_, (pss_one (ps_ret pe_int)), ?_⟩
  walk_at "rd"
  exact q
theorem wa_tell (T : Txt K mg C CE) : ∃ f fd, Meth K (C .tell) "wants" f ∧ FnOk P w K mg base CX0 1 f fd ["self"] (spWants .tell) ∧ Binds K fd ["self"] [] := by
  refine T.f_wa_tell.fn sc_Deed_wants (fun _ _ _ _ _ _ us hl => match us, hl with | [_], _ => rfl) (by rintro vs H Q E ⟨a, rfl, _⟩; rfl) (fun f cdv A outer s H vs Q E hr h => ?_)
  obtain ⟨a, rfl, q⟩ := h
  refine ⟨_, (pss_one (ps_ret pe_int)), ?_⟩
  walk_at "rd"
  exact q
theorem wa_take (T : Txt K mg C CE) : ∃ f fd, Meth K (C .take) "wants" f ∧ FnOk P w K mg base CX0 1 f fd ["self"] (spWants .take) ∧ Binds K fd ["self"] [] := by
  refine T.f_wa_take.fn sc_Take_wants (fun _ _ _ _ _ _ us hl => match us, hl with | [_], _ => rfl) (by rintro vs H Q E ⟨a, rfl, _⟩; rfl) (fun f cdv A outer s H vs Q E hr h => ?_)
  obtain ⟨a, rfl, q⟩ := h
  refine ⟨_, (pss_one (ps_ret pe_int)), ?_⟩
  walk_at "rd"
  exact q
theorem m_wants (T : Txt K mg C CE) : MethI P w K mg base 1 "wants" ["self"] C spWants := by
  refine ⟨fun d => ⟨T.cl d, ?_⟩⟩
  cases d
  · exact wa_sum T
  · exact wa_less T
  · exact wa_times T
  · exact wa_least T
  · exact wa_most T
  · exact wa_pick T
  · exact wa_same T
  · exact wa_tell T
  · exact wa_take T
theorem d_deed (T : Txt K mg C CE) (Kb : K.In base) (G : base.Ns mainGlobals mg) : DfX P w K mg base 1 "deed_of" ["word"] (spDeedX C CE) := by
  refine T.f_deed.dfX Kb G sc_deed_of (fun _ _ _ _ _ _ us hl => match us, hl with | [_], _ => rfl) (by rintro vs H Q E (⟨d, rfl, _⟩ | ⟨z, rfl, _⟩) <;> rfl) (fun f cdv A outer s H vs Q E hr h => ?_)
  refine ⟨_, (pss_cons (ps_if (pt_cmpR op_eq (pv 0) pe_str (nomark _)) (pss_one (ps_ret (pe_makeA T.mk_Sum rfl T.mg_Sum))) pss_nil)
    (pss_cons (ps_if (pt_cmpR op_eq (pv 0) pe_str (nomark _)) (pss_one (ps_ret (pe_makeA T.mk_Less rfl T.mg_Less))) pss_nil)
    (pss_cons (ps_if (pt_cmpR op_eq (pv 0) pe_str (nomark _)) (pss_one (ps_ret (pe_makeA T.mk_Times rfl T.mg_Times))) pss_nil)
    (pss_cons (ps_if (pt_cmpR op_eq (pv 0) pe_str (nomark _)) (pss_one (ps_ret (pe_makeA T.mk_Least rfl T.mg_Least))) pss_nil)
    (pss_cons (ps_if (pt_cmpR op_eq (pv 0) pe_str (nomark _)) (pss_one (ps_ret (pe_makeA T.mk_Most rfl T.mg_Most))) pss_nil)
    (pss_cons (ps_if (pt_cmpR op_eq (pv 0) pe_str (nomark _)) (pss_one (ps_ret (pe_makeA T.mk_Pick rfl T.mg_Pick))) pss_nil)
    (pss_cons (ps_if (pt_cmpR op_eq (pv 0) pe_str (nomark _)) (pss_one (ps_ret (pe_makeA T.mk_Same rfl T.mg_Same))) pss_nil)
    (pss_cons (ps_if (pt_cmpR op_eq (pv 0) pe_str (nomark _)) (pss_one (ps_ret (pe_makeA T.mk_Tell rfl T.mg_Tell))) pss_nil)
    (pss_cons (ps_if (pt_cmpR op_eq (pv 0) pe_str (nomark _)) (pss_one (ps_ret (pe_makeA T.mk_Take rfl T.mg_Take))) pss_nil)
    (pss_one (ps_raise (ES := fun _ c d H' => E c d H') T.x_NoDeed rfl (fun _ _ z => z) rfl (pa_cons (pe_fstr (pj_str (by decide) (pj_repr (pv 0) pj_nil))) pa_nil (se rfl)) (he := se rfl) (hpl := nst rfl)))))))))))), ?_⟩
  rcases h with ⟨d, rfl, k⟩ | ⟨z, rfl, hz, hw, k⟩
  · cases d
    all_goals
      repeat (first
        | (walk_at "rd1")
        | ((with_reducible refine i_iteSe ?_ ?_); (rfl))
        | ((with_reducible refine i_iteSf ?_ ?_); (decide +kernel)))
      exact k
  · repeat (first
      | (walk_at "rd1")
      | ((with_reducible refine i_iteSf ?_ ?_); (first | exact hw .sum | exact hw .less | exact hw .times | exact hw .least | exact hw .most | exact hw .pick | exact hw .same | exact hw .tell | exact hw .take)))
    refine ⟨⟨z, rfl, hz⟩, ?_⟩
    walk_at "rd"
    intro z'
    walk_at "rd"
    exact ⟨by show 1 ≤ sizeLine; decide, k⟩
theorem d_cell (T : Txt K mg C CE) (Kb : K.In base) (G : base.Ns mainGlobals mg) : Df P w K mg base 1 "_law_cell_at" ["_law_script", "_law_k"] (spCell K) := by
  refine T.f_cell.df Kb G sc_law_cell_at (fun _ _ _ _ _ _ us hl => match us, hl with | [_, _], _ => rfl) (by rintro vs H Q E ⟨a, ns, k, rfl, _⟩; rfl) (fun f cdv A outer s H vs Q E hr h => ?_)
  obtain ⟨a, ns, k, rfl, hS, q⟩ := h
  refine ⟨_, (pss_cons (ps_if (pt_cmpR op_lt (pv 1) (pe_callB call_len_seq rfl T.nlen PySem.boot_len (pa_cons (pv 0) pa_nil (se rfl)) (he := se rfl) (hpl := nst rfl)) (nomark _)) (pss_one (ps_ret (pe_ix ix_seq (pv 0) (pv 1) (fun _ _ => rfl)))) pss_nil)
    (pss_one (ps_ret pe_int))), ?_⟩
  walk_at "rd"
  refine ⟨a, _, rfl, .inl hS, ?_⟩
  walk_at "rd"
  refine i_iteD (fun hk => ?_) (fun hk => ?_)
  · walk_at "rd"
    rw [List.length_map] at hk
    refine i_ixL hS (at_ints k (by omega)) ?_
    exact q _
  · walk_at "rd"
    exact q _
theorem mod_b (x : Int) {m : Int} (h : 0 < m) : 0 ≤ x % m ∧ x % m < m := ⟨Int.emod_nonneg x (by omega), Int.emod_lt_of_pos x h⟩
theorem ok_of {a b : Int} (m n : Nat) (a0 : 0 ≤ a) (a1 : a < 2 ^ m) (b0 : 0 ≤ b) (b1 : b < 2 ^ n) (h : m + n ≤ 134217728) : IntMulOk a b := by
  refine mulOk_abs m n ?_ ?_ h
  · have : ((a.natAbs : Nat) : Int) < ((2 ^ m : Nat) : Int) := by
      rw [Int.natCast_pow]; show _ < (2 : Int) ^ m; omega
    exact Int.ofNat_lt.mp this
  · have : ((b.natAbs : Nat) : Int) < ((2 ^ n : Nat) : Int) := by
      rw [Int.natCast_pow]; show _ < (2 : Int) ^ n; omega
    exact Int.ofNat_lt.mp this
theorem d_mix (T : Txt K mg C CE) (Kb : K.In base) (G : base.Ns mainGlobals mg) : Df P w K mg base 1 "_law_mix" ["_law_cell", "_law_k"] spMix := by
  refine T.f_mix.df Kb G sc_law_mix (fun _ _ _ _ _ _ us hl => match us, hl with | [_, _], _ => rfl) (by rintro vs H Q E ⟨c, k, rfl, _⟩; rfl) (fun f cdv A outer s H vs Q E hr h => ?_)
  obtain ⟨c, k, rfl, hk, q⟩ := h
  refine ⟨_, (pss_cons (ps_set (i := 2) sc_law_mix.nd rfl (by first | exact Or.inl rfl | exact Or.inr rfl) (pe_op op_mod (pv 0) (pe_op op_pow pe_int pe_int)))
    (pss_cons (ps_set (i := 2) sc_law_mix.nd rfl (by first | exact Or.inl rfl | exact Or.inr rfl) (pe_op op_mod (pe_op op_mulO (pe_op op_add (pe_op op_add (pe_op op_mulO (pv 2) (pv 2)) (pe_op op_mulO (pe_op op_mulO pe_int (pv 1)) (pv 1))) pe_int) pe_int) (pe_op op_add (pe_op op_pow pe_int pe_int) pe_int)))
    (pss_one (ps_ret (pe_op op_mod (pe_op op_mulO (pv 2) pe_int) (pe_op op_add (pe_op op_pow pe_int pe_int) pe_int)))))), ?_⟩
  walk_at "rd"
  have b := mod_b c (show (0 : Int) < 10 ^ (60 : Int).toNat by decide +kernel)
  have e60 : (10 : Int) ^ (60 : Int).toNat < 2 ^ 200 := by decide +kernel
  generalize c % 10 ^ (60 : Int).toNat = n at *
  obtain ⟨b0, b1⟩ := b
  refine i_mul (ok_of 200 200 b0 (by omega) b0 (by omega) (by decide)) ?_
  walk_at "rd"
  refine i_mul (IntMulOk.of_left (by decide)) ?_
  walk_at "rd"
  have hk2 : (40503 : Int) * (k : Int) < 2 ^ 64 := by omega
  refine i_mul (ok_of 64 64 (by omega) hk2 (by omega) (by omega) (by decide)) ?_
  clear hk2 e60 b1 b0
  walk_at "rd"
  refine i_mul (IntMulOk.of_right (by decide)) ?_
  walk_at "rd"
  have b2 := mod_b ((n * n + 40503 * (k : Int) * (k : Int) + 7919) * 1812433253982451697) (show (0 : Int) < 10 ^ (18 : Int).toNat + 9 by decide +kernel)
  have e18 : (10 : Int) ^ (18 : Int).toNat + 9 < 2 ^ 64 := by decide +kernel
  generalize (n * n + 40503 * (k : Int) * (k : Int) + 7919) * 1812433253982451697 % (10 ^ (18 : Int).toNat + 9) = m2 at *
  refine i_mul (ok_of 64 200 b2.1 (by omega) (by decide) (by decide) (by decide)) ?_
  clear e18 b2
  walk_at "rd"
  have b3 := mod_b (m2 * 739108512309184756019283746561) (show (0 : Int) < 10 ^ (40 : Int).toNat + 121 by decide +kernel)
  generalize m2 * 739108512309184756019283746561 % (10 ^ (40 : Int).toNat + 121) = m3 at *
  obtain ⟨r, rfl⟩ := Int.eq_ofNat_of_zero_le b3.1
  exact q r
theorem at_all {α : Type} {l : List α} {i : Int} {p : α → Prop} (hp : ∀ c ∈ l, p c) (h0 : 0 ≤ i) (h1 : i < l.length) : ∃ c, p c ∧ atI l i = some c := by
  obtain ⟨k, rfl⟩ := Int.eq_ofNat_of_zero_le h0
  have hk : k < l.length := by omega
  exact ⟨l[k], hp _ (List.getElem_mem hk), atI_nat (List.getElem?_eq_getElem hk)⟩
theorem app_list (x y : Str) : (x ++ y).cps.toList = x.cps.toList ++ y.cps.toList := by
  show (x.cps ++ y.cps).toList = _
  simp
theorem len_list (x : Str) : x.cps.toList.length = x.length := Array.length_toList
theorem cut_take (w : Str) (p : Nat) (h : p ≤ w.length) : (cutS w none (some (p : Int))).cps.toList = w.cps.toList.take p := by
  show ((w.cps.toList.drop (HT.sIx w.length 0 none)).take (HT.sIx w.length w.length (some (p : Int)) - HT.sIx w.length 0 none)).toArray.toList = _
  have e1 : HT.sIx w.length 0 none = 0 := rfl
  have e2 : HT.sIx w.length w.length (some (p : Int)) = p := by
    show (if (p : Int) < 0 then ((p : Int) + (w.length : Int)).toNat else min (p : Int).toNat w.length) = p
    rw [if_neg (by omega)]; omega
  rw [e1, e2]; simp
theorem cut_drop (w : Str) (p : Nat) (h : p ≤ w.length) : (cutS w (some (p : Int)) none).cps.toList = w.cps.toList.drop p := by
  show ((w.cps.toList.drop (HT.sIx w.length 0 (some (p : Int)))).take (HT.sIx w.length w.length none - HT.sIx w.length 0 (some (p : Int)))).toArray.toList = _
  have e1 : HT.sIx w.length w.length none = w.length := rfl
  have e2 : HT.sIx w.length 0 (some (p : Int)) = p := by
    show (if (p : Int) < 0 then ((p : Int) + (w.length : Int)).toNat else min (p : Int).toNat w.length) = p
    rw [if_neg (by omega)]; omega
  rw [e1, e2]
  have : (w.cps.toList.drop p).length ≤ w.length - p := by rw [List.length_drop, len_list]; omega
  simp only [List.toList_toArray]
  exact List.take_of_length_le this
def Lo (z : Str) : Prop := ∀ c ∈ z.cps.toList, 97 ≤ c ∧ c ≤ 122
theorem line_big : 10000 ≤ sizeLine := by rw [sizeLine_eq]; decide
def spLetters : Sp := fun vs H Q _ => ∃ (n many : Nat), vs = [.int (n : Int), .int (many : Int)] ∧ many ≤ 12 ∧ ∀ z : Str, z.length = many → Lo z → Q (.str z) H
theorem d_letters (T : Txt K mg C CE) (Kb : K.In base) (G : base.Ns mainGlobals mg) : Df P w K mg base 1 "_law_letters" ["_law_number", "_law_many"] spLetters := by
  refine T.f_letters.df Kb G sc_law_letters (fun _ _ _ _ _ _ us hl => match us, hl with | [_, _], _ => rfl) (by rintro vs H Q E ⟨n, many, rfl, _⟩; rfl) (fun f cdv A outer s H vs Q E hr h => ?_)
  obtain ⟨n, many, rfl, hm, q⟩ := h
  refine ⟨_, (pss_cons (ps_set (i := 2) sc_law_letters.nd rfl (by first | exact Or.inl rfl | exact Or.inr rfl) pe_str)
    (pss_cons (ps_for PassesOwn.never rfl (pi_range1 rfl T.nrange (pa_cons (pv 1) pa_nil (se rfl))) (pg_name (i := 3) sc_law_letters.nd rfl (Or.inl rfl))
      (pss_cons (ps_set (i := 2) sc_law_letters.nd rfl (by first | exact Or.inl rfl | exact Or.inr rfl) (pe_op op_addS (pv 2) (pe_ix ix_seq pe_str (pe_op op_mod (pv 0) pe_int) (fun _ _ => rfl))))
    (pss_one (ps_set (i := 0) sc_law_letters.nd rfl (by first | exact Or.inl rfl | exact Or.inr rfl) (pe_op op_fdiv (pv 0) pe_int)))))
    (pss_one (ps_ret (pv 2))))), ?_⟩
  walk_at "rd"
  refine i_for (i_rng1 ?_)
  walk_at "rd"
  refine ⟨_, rfl, by omega, by omega, ?_⟩
  rw [Int.toNat_natCast]
  have lb := line_big
  refine for_range (lo := 0) (n := many) (fun i σ H2 => ∃ (m : Nat) (z : Str) (x : Option V), σ = [some (.int (m : Int)), some (.int (many : Int)), some (.str z), x] ∧ z.length = i ∧ Lo z ∧ H2 = H) ⟨n, _, none, rfl, by decide +kernel, (by unfold Lo; decide +kernel), rfl⟩ ?_ ?_
  · rintro i σ H2 hi ⟨m, z, x, rfl, hz, hL, rfl⟩
    walk_at "rd"
    have b := mod_b (m : Int) (show (0 : Int) < 26 by decide)
    obtain ⟨ch, hch, hat⟩ := at_all (l := (Str.ofString "abcdefghijklmnopqrstuvwxyz").cps.toList) (p := fun c => 97 ≤ c ∧ c ≤ 122) (by decide +kernel) b.1 (by
      have : (Str.ofString "abcdefghijklmnopqrstuvwxyz").cps.toList.length = 26 := by decide +kernel
      rw [this]; exact b.2)
    refine i_ixS (by decide +kernel) hat ?_
    refine i_addS (by show z.length + 1 ≤ sizeLine; omega) ?_
    walk_at "rd"
    refine ⟨m / 26, _, _, rfl, by rw [strLen_append, hz]; rfl, fun c hc => ?_, rfl⟩
    rw [app_list] at hc
    rcases List.mem_append.mp hc with h | h
    · exact hL c h
    · have : c = ch := by simpa using h
      rw [this]; exact hch
  · rintro σ H2 ⟨m, z, x, rfl, hz, hL, rfl⟩
    walk_at "rd"
    exact q z hz hL
def NmAt (place number i : Nat) (z : Str) : Prop := 1 ≤ z.length ∧ z.length ≤ 12 ∧ Lo z ∧ z.cps.toList[place]? = some (97 + (i + number) % 12)
def NamesOk (zs : List Str) : Prop := zs.length ≤ 12 ∧ ∃ place number : Nat, ∀ i z, zs[i]? = some z → NmAt place number i z
theorem twelve : ∀ j, j < 12 → (Str.ofString "abcdefghijkl").cps.toList[j]? = some (97 + j) := by decide +kernel
theorem nm_of {w : Str} {place number i : Nat} (hp : place < w.length) (hl : w.length ≤ 12) (hL : Lo w) : NmAt place number i ((cutS w none (some (place : Int)) ++ ⟨#[97 + (i + number) % 12]⟩) ++ cutS w (some ((place : Int) + 1)) none) := by
  have e1 := cut_take w place (Nat.le_of_lt hp)
  have e2 : (cutS w (some ((place : Int) + 1)) none).cps.toList = w.cps.toList.drop (place + 1) := cut_drop w (place + 1) hp
  have e : ((cutS w none (some (place : Int)) ++ ⟨#[97 + (i + number) % 12]⟩) ++ cutS w (some ((place : Int) + 1)) none).cps.toList = w.cps.toList.take place ++ [97 + (i + number) % 12] ++ w.cps.toList.drop (place + 1) := by
    rw [app_list, app_list, e1, e2]
  have el : ((cutS w none (some (place : Int)) ++ ⟨#[97 + (i + number) % 12]⟩) ++ cutS w (some ((place : Int) + 1)) none).length = w.length := by
    rw [← len_list, e, List.length_append, List.length_append, List.length_take, List.length_drop, len_list]
    simp only [List.length_cons, List.length_nil]; omega
  refine ⟨by omega, by omega, fun c hc => ?_, ?_⟩
  · rw [e] at hc
    rcases List.mem_append.mp hc with h | h
    · rcases List.mem_append.mp h with h | h
      · exact hL c (List.mem_of_mem_take h)
      · have : c = 97 + (i + number) % 12 := by simpa using h
        omega
    · exact hL c (List.mem_of_mem_drop h)
  · rw [e, List.append_assoc, List.getElem?_append_right (by rw [List.length_take, len_list]; omega)]
    have : place - (w.cps.toList.take place).length = 0 := by rw [List.length_take, len_list]; omega
    rw [this]; rfl
def spNames (K : PySem.W.Frag) : Sp := fun vs H Q _ => ∃ (a : Addr) (ns : List Int) (many : Nat), vs = [.ref a, .int (many : Int)] ∧ SqL K H a (ns.map V.int) ∧ many ≤ 12 ∧
  ∀ p H2 zs, Same H H2 → H2 p = some (.lst (List.map V.str zs)) → NamesOk zs → zs.length = many → Q (.ref p) H2
theorem d_names (T : Txt K mg C CE) (Kb : K.In base) (G : base.Ns mainGlobals mg) : Df P w K mg base 2 "_law_names" ["_law_script", "_law_many"] (spNames K) := by
  have D_law_cell_at : Df P w K mg base 1 "_law_cell_at" ["_law_script", "_law_k"] (spCell K) := d_cell T Kb G
  have D_law_mix : Df P w K mg base 1 "_law_mix" ["_law_cell", "_law_k"] spMix := d_mix T Kb G
  have D_law_letters : Df P w K mg base 1 "_law_letters" ["_law_number", "_law_many"] spLetters := d_letters T Kb G
  refine T.f_names.df Kb G sc_law_names (fun _ _ _ _ _ _ us hl => match us, hl with | [_, _], _ => rfl) (by rintro vs H Q E ⟨a, ns, many, rfl, _⟩; rfl) (fun f cdv A outer s H vs Q E hr h => ?_)
  obtain ⟨a, ns, many, rfl, hS, hm, q⟩ := h
  refine ⟨_, (pss_cons (ps_set (i := 2) sc_law_names.nd rfl (by first | exact Or.inl rfl | exact Or.inr rfl) (pe_callD D_law_mix (hr.mono (by decide)) rfl (pa_cons (pe_callD D_law_cell_at (hr.mono (by decide)) rfl (pa_cons (pv 0) (pa_cons pe_int pa_nil (se rfl)) (se rfl)) (he := se rfl) (hpl := nst rfl)) (pa_cons pe_int pa_nil (se rfl)) (se rfl)) (he := se rfl) (hpl := nst rfl)))
    (pss_cons (ps_set (i := 3) sc_law_names.nd rfl (by first | exact Or.inl rfl | exact Or.inr rfl) (pe_op op_mod (pv 2) pe_int))
    (pss_cons (ps_set (i := 4) sc_law_names.nd rfl (by first | exact Or.inl rfl | exact Or.inr rfl) (pe_lstA pa_nil))
    (pss_cons (ps_for PassesOwn.never rfl (pi_range1 rfl T.nrange (pa_cons (pv 1) pa_nil (se rfl))) (pg_name (i := 5) sc_law_names.nd rfl (Or.inl rfl))
      (pss_cons (ps_set (i := 6) sc_law_names.nd rfl (by first | exact Or.inl rfl | exact Or.inr rfl) (pe_op op_fdiv (pv 2) pe_int))
    (pss_cons (ps_join (ps_if (pt_cmpR op_gt (pe_op op_mod (pv 2) pe_int) pe_int (nomark _)) (pss_one (ps_set (i := 6) sc_law_names.nd rfl (by first | exact Or.inl rfl | exact Or.inr rfl) (pe_callD D_law_mix (hr.mono (by decide)) rfl (pa_cons (pe_callD D_law_cell_at (hr.mono (by decide)) rfl (pa_cons (pv 0) (pa_cons pe_int pa_nil (se rfl)) (se rfl)) (he := se rfl) (hpl := nst rfl)) (pa_cons (pe_op op_add pe_int (pv 5)) pa_nil (se rfl)) (se rfl)) (he := se rfl) (hpl := nst rfl)))) pss_nil))
    (pss_cons (ps_set (i := 7) sc_law_names.nd rfl (by first | exact Or.inl rfl | exact Or.inr rfl) (pe_callD D_law_letters (hr.mono (by decide)) rfl (pa_cons (pv 6) (pa_cons (pe_op op_add (pe_op op_add (pv 3) pe_int) (pe_op op_mod (pe_op op_fdiv (pv 2) pe_int) (pe_op op_sub pe_int (pv 3)))) pa_nil (se rfl)) (se rfl)) (he := se rfl) (hpl := nst rfl)))
    (pss_cons (ps_set (i := 8) sc_law_names.nd rfl (by first | exact Or.inl rfl | exact Or.inr rfl) (pe_ix ix_seq pe_str (pe_op op_mod (pe_op op_add (pv 5) (pv 2)) pe_int) (fun _ _ => rfl)))
    (pss_one (ps_expr (pe_bm PySem.F.plainAttrs_list PySem.F.slot_list_append PySem.F.type_list_append mt_append (pv 4) (pa_cons (pe_op op_addS (pe_op op_addS (pe_slice sl_str (pv 7) po_none (po_some (pv 3))) (pv 8)) (pe_slice sl_str (pv 7) (po_some (pe_op op_add (pv 3) pe_int)) po_none)) pa_nil (se rfl)) (hs := se rfl) (hplain := nst rfl)))))))))
    (pss_one (ps_ret (pv 4))))))), ?_⟩
  walk_at "rd"
  refine ⟨a, ns, 1, rfl, hS, fun c => ?_⟩
  walk_at "rd"
  refine ⟨c, 1, rfl, by decide, fun n => ?_⟩
  walk_at "rd"
  have bp := mod_b (n : Int) (show (0 : Int) < 8 by decide)
  obtain ⟨place, hpl⟩ := Int.eq_ofNat_of_zero_le bp.1
  rw [hpl] at bp
  rw [hpl]
  have hp8 : place < 8 := by omega
  clear bp hpl
  refine ⟨by show 0 ≤ sizeLine; exact Nat.zero_le _, fun D H1 hN1 => ?_⟩
  walk_at "rd"
  refine i_for (i_rng1 ?_)
  walk_at "rd"
  refine ⟨_, rfl, by omega, by omega, ?_⟩
  rw [Int.toNat_natCast]
  have lb := line_big
  refine for_range (lo := 0) (n := many) (fun i σ H2 => ∃ (zs : List Str) (x5 x6 x7 x8 : Option V), σ = [some (.ref a), some (.int (many : Int)), some (.int (n : Int)), some (.int (place : Int)), some (.ref D), x5, x6, x7, x8] ∧ zs.length = i ∧ H2 D = some (.lst (List.map V.str zs)) ∧ Same H H2 ∧ ∀ j z, zs[j]? = some z → NmAt place n j z)
    ⟨[], none, none, none, none, rfl, rfl, hN1.at, hN1.same, fun j z e => by simp at e⟩ ?_ ?_
  · rintro i σ H2 hi ⟨zs, x5, x6, x7, x8, rfl, hl, hD, s2, hz⟩
    have e0 : (0 : Int) + (i : Int) = (i : Int) := Int.zero_add _
    rw [e0]
    walk_at "rd"
    refine i_join (fun σ' H' => H' = H2 ∧ ∃ own : Nat, σ' = [some (.ref a), some (.int (many : Int)), some (.int (n : Int)), some (.int (place : Int)), some (.ref D), some (.int (i : Int)), some (.int (own : Int)), x7, x8]) ?_ ?_
    · walk_at "rd"
      refine i_iteD (fun _ => ?_) (fun _ => ?_)
      · walk_at "rd"
        refine ⟨a, ns, 1, rfl, s2.seq hS, fun c => ?_⟩
        walk_at "rd"
        refine ⟨c, 20 + i, rfl, by omega, fun m => ?_⟩
        walk_at "rd"
        exact ⟨rfl, m, rfl⟩
      · walk_at "rd"
        exact ⟨rfl, n / 4, rfl⟩
    rintro σ' H' ⟨rfl, own, rfl⟩
    walk_at "rd"
    have bq := mod_b ((n : Int) / 12) (show (0 : Int) < 12 - (place : Int) by omega)
    obtain ⟨ex, hex⟩ := Int.eq_ofNat_of_zero_le bq.1
    rw [hex] at bq
    rw [hex]
    refine ⟨own, place + 1 + ex, rfl, by omega, fun wd hwl hwL => ?_⟩
    walk_at "rd"
    have b12 : ((i : Int) + (n : Int)) % 12 = (((i + n) % 12 : Nat) : Int) := by omega
    have hat : atI (Str.ofString "abcdefghijkl").cps.toList (((i : Int) + (n : Int)) % 12) = some (97 + (i + n) % 12) := by
      rw [b12]; exact atI_nat (twelve _ (Nat.mod_lt _ (by decide)))
    refine i_ixS (by decide +kernel) hat ?_
    walk_at "rd"
    refine ⟨.inl ⟨rfl, _, .inl (.inl hD)⟩, ?_⟩
    walk_at "rd"
    have hw12 : wd.length ≤ 12 := by omega
    refine i_slS (by omega) ?_
    have c1 := cutS_len wd none (some (place : Int))
    have c2 := cutS_len wd (some ((place : Int) + 1)) none
    walk_at "rd"
    refine i_addS (by show _ + 1 ≤ _; omega) ?_
    walk_at "rd"
    refine i_slS (by omega) ?_
    refine i_addS (by rw [strLen_append]; show _ + 1 + _ ≤ _; omega) ?_
    walk_at "rd"
    refine i_append hD (by rw [List.length_map]; omega) ?_
    walk_at "rd"
    have hnm : NmAt place n i _ := nm_of (w := wd) (place := place) (number := n) (i := i) (by omega) hw12 hwL
    refine ⟨zs ++ [_], _, _, _, _, rfl, by rw [List.length_append, hl]; rfl, by rw [upd_same, List.map_append]; rfl, fun b u e => ?_, fun j z e => ?_⟩
    · rw [upd_ne (ne_of_none e hN1.free)]; exact s2 _ _ e
    · by_cases hj : j < zs.length
      · rw [List.getElem?_append_left hj] at e
        exact hz j z e
      · rw [List.getElem?_append_right (by omega)] at e
        have hj0 : j = i := by
          by_cases h0 : j - zs.length = 0
          · omega
          · rw [List.getElem?_eq_none (by simp; omega)] at e; cases e
        rw [hj0, show i - zs.length = 0 by omega] at e
        cases e
        rw [hj0]; exact hnm
  · rintro σ H2 ⟨zs, x5, x6, x7, x8, rfl, hl, hD, s2, hz⟩
    walk_at "rd"
    exact q D H2 zs s2 hD ⟨by omega, place, n, hz⟩ hl
inductive Rd where
  | num (i : Int) | back (z : Str) (b : Int)
def RdAt (H : Hp) : Rd → V → Prop
  | .num i, v => v = .int i
  | .back z b, v => ∃ a, v = .ref a ∧ H a = some (.tup [.str z, .int b])
structure RdsAt (H : Hp) (rs : List Rd) (vs : List V) : Prop where
  len : rs.length = vs.length
  at_ : ∀ (i : Nat) r v, rs[i]? = some r → vs[i]? = some v → RdAt H r v
structure Row where
  name : Str
  d : Dk
  reads : List Rd
def RowAt (H : Hp) (r : Row) (v : V) : Prop := ∃ p1 p2 vs, v = .ref p2 ∧ H p2 = some (.tup [.str r.name, .str r.d.word, .ref p1]) ∧ H p1 = some (.tup vs) ∧ RdsAt H r.reads vs
theorem RdAt.same {H H' : Hp} {r : Rd} {v : V} (s : Same H H') (h : RdAt H r v) : RdAt H' r v := by
  cases r with
  | num i => exact h
  | back z b => obtain ⟨a, e, q⟩ := h; exact ⟨a, e, s _ _ q⟩
theorem RdsAt.same {H H' : Hp} {rs : List Rd} {vs : List V} (s : Same H H') (h : RdsAt H rs vs) : RdsAt H' rs vs := ⟨h.len, fun i r v e1 e2 => (h.at_ i r v e1 e2).same s⟩
theorem RowAt.same {H H' : Hp} {r : Row} {v : V} (s : Same H H') (h : RowAt H r v) : RowAt H' r v := by
  obtain ⟨p1, p2, vs, e, h1, h2, h3⟩ := h
  exact ⟨p1, p2, vs, e, s _ _ h1, s _ _ h2, h3.same s⟩
def hide (D : Addr) (H : Hp) : Hp := fun b => if b = D then none else H b
theorem hide_same (D : Addr) (H : Hp) : Same (hide D H) H := fun b u e => by
  unfold hide at e
  by_cases hb : b = D
  · rw [if_pos hb] at e; cases e
  · rw [if_neg hb] at e; exact e
theorem hide_sameB {D : Addr} {H H' : Hp} (s : SameB D H H') : Same (hide D H) (hide D H') := fun b u e => by
  unfold hide at e ⊢
  by_cases hb : b = D
  · rw [if_pos hb] at e; cases e
  · rw [if_neg hb] at e ⊢; exact s b u hb e
theorem at_hide {D : Addr} {H : Hp} {ys xs : List V} {a : Addr} (hD : H D = some (.lst ys)) (h : H a = some (.tup xs)) : hide D H a = some (.tup xs) := by
  unfold hide
  rw [if_neg (fun z => by rw [z, hD] at h; cases h)]; exact h
theorem RdAt.hide {D : Addr} {H : Hp} {ys : List V} (hD : H D = some (.lst ys)) {r : Rd} {v : V} (h : RdAt H r v) : RdAt (hide D H) r v := by
  cases r with
  | num i => exact h
  | back z b => obtain ⟨a, e, q⟩ := h; exact ⟨a, e, at_hide hD q⟩
theorem RdsAt.hide {D : Addr} {H : Hp} {ys : List V} (hD : H D = some (.lst ys)) {rs : List Rd} {vs : List V} (h : RdsAt H rs vs) : RdsAt (hide D H) rs vs := ⟨h.len, fun i r v e1 e2 => (h.at_ i r v e1 e2).hide hD⟩
theorem RowAt.hide {D : Addr} {H : Hp} {ys : List V} (hD : H D = some (.lst ys)) {r : Row} {v : V} (h : RowAt H r v) : RowAt (hide D H) r v := by
  obtain ⟨p1, p2, vs, e, h1, h2, h3⟩ := h
  exact ⟨p1, p2, vs, e, at_hide hD h1, at_hide hD h2, h3.hide hD⟩
def RdOk (zs : List Str) (k : Nat) : Rd → Prop
  | .num i => 0 ≤ i ∧ i < 10 ^ 60
  | .back z b => ∃ j : Nat, zs[j]? = some z ∧ 0 ≤ b ∧ b ≤ 6 ∧ (b = 0 → j < k)
structure RowOk (zs : List Str) (k : Nat) (r : Row) : Prop where
  name : zs[k]? = some r.name
  many : r.reads.length = r.d.wants
  reads : ∀ rd ∈ r.reads, RdOk zs k rd
def spLWants : Sp := fun vs H Q _ => ∃ d : Dk, vs = [.str d.word] ∧ ∀ H2, Same H H2 → Q (.int (d.wants : Nat)) H2
theorem d_lwants (T : Txt K mg C CE) (Kb : K.In base) (G : base.Ns mainGlobals mg) : Df P w K mg base 1 "_law_wants" ["_law_word"] spLWants := by
  refine T.f_wants.df Kb G sc_law_wants (fun _ _ _ _ _ _ us hl => match us, hl with | [_], _ => rfl) (by rintro vs H Q E ⟨d, rfl, _⟩; rfl) (fun f cdv A outer s H vs Q E hr h => ?_)
  refine ⟨_, (pss_cons (ps_if (pt_cmpR op_eq (pv 0) pe_str (nomark _)) (pss_one (ps_ret pe_int)) pss_nil)
    (pss_cons (ps_if (PW.pt (pw_or (pt_cmpR op_eq (pv 0) pe_str (nomark _)) (pw_or1 (pt_cmpR op_eq (pv 0) pe_str (nomark _))))) (pss_one (ps_ret pe_int)) pss_nil)
    (pss_one (ps_ret (pe_ix ix_seq (pe_lstA (pa_cons pe_int (pa_cons pe_int pa_nil (se rfl)) (se rfl))) (pe_callTy call_int1 rfl T.nint PyProof.Rows.boot_int (pa_cons (pe_cmpR op_eq (pv 0) pe_str (nomark _)) pa_nil (se rfl)) (he := se rfl) (hpl := nst rfl)) (fun _ _ => rfl)))))), ?_⟩
  obtain ⟨d, rfl, k⟩ := h
  have e2 : ∀ b : Bool, atI [V.int 2, V.int 3] (if b then 1 else 0) = some (.int (if b then 3 else 2)) := by decide +kernel
  cases d
  all_goals
    repeat (first
      | (walk_at "rd1")
      | ((with_reducible refine i_iteSe ?_ ?_); (rfl))
      | ((with_reducible refine i_iteSf ?_ ?_); (decide +kernel)))
  all_goals first
    | exact k _ (Same.refl _)
    | (refine ⟨by show 2 ≤ sizeLine; decide, fun p H2 hN => ?_⟩
       walk_at "rd"
       refine .inr ⟨_, rfl, ?_⟩
       refine i_ixL hN.lst (e2 _) ?_
       first
         | (rw [show decide (V.str Dk.pick.word = V.str (Str.ofString "pick")) = true by decide +kernel]; exact k _ hN.same)
         | (rw [decide_eq_false (by intro e; exact absurd (V.str.inj e) (by decide +kernel))]; exact k _ hN.same))
def dks : List Dk := [.sum, .less, .times, .least, .most, .pick, .same, .tell, .take]
def wordsV : List V := dks.map fun d => V.str d.word
theorem at_dk {c : Int} (h0 : 0 ≤ c) (h1 : c < 9) : ∃ d : Dk, atI wordsV c = some (.str d.word) := by
  obtain ⟨k, rfl⟩ := Int.eq_ofNat_of_zero_le h0
  have hk : k < 9 := by omega
  refine ⟨dks[k]'hk, atI_nat ?_⟩
  unfold wordsV
  rw [List.getElem?_map, List.getElem?_eq_getElem (show k < dks.length from hk)]; rfl
theorem at_str {zs : List Str} {j : Nat} (h : j < zs.length) : ∃ z, zs[j]? = some z ∧ atI (List.map V.str zs) (j : Int) = some (.str z) :=
  ⟨zs[j], List.getElem?_eq_getElem h, atI_nat (by rw [List.getElem?_map, List.getElem?_eq_getElem h]; rfl)⟩
theorem RdsAt.snoc {H : Hp} {rs : List Rd} {vs : List V} {r : Rd} {v : V} (h : RdsAt H rs vs) (hr : RdAt H r v) : RdsAt H (rs ++ [r]) (vs ++ [v]) := by
  refine ⟨by rw [List.length_append, List.length_append, h.len]; rfl, fun i r' v' e1 e2 => ?_⟩
  have hl := h.len
  by_cases hi : i < rs.length
  · rw [List.getElem?_append_left hi] at e1
    rw [List.getElem?_append_left (by omega)] at e2
    exact h.at_ i r' v' e1 e2
  · rw [List.getElem?_append_right (by omega)] at e1
    rw [List.getElem?_append_right (by omega)] at e2
    have h0 : i - rs.length = 0 := by
      by_cases h0 : i - rs.length = 0
      · exact h0
      · rw [List.getElem?_eq_none (by simp; omega)] at e1; cases e1
    rw [h0] at e1; rw [show i - vs.length = 0 by omega] at e2
    cases e1; cases e2; exact hr
theorem hide_upd (D : Addr) (H : Hp) (o : HO) : hide D (upd H D o) = hide D H := by
  funext b
  unfold hide
  by_cases hb : b = D
  · rw [if_pos hb, if_pos hb]
  · rw [if_neg hb, if_neg hb, upd_ne hb]
theorem RdsAt.app {D : Addr} {H : Hp} {ys : List V} (hD : H D = some (.lst ys)) {rs : List Rd} {vs : List V} {o : HO} (h : RdsAt H rs vs) : RdsAt (upd H D o) rs vs := by
  have h1 := h.hide hD
  rw [← hide_upd D H o] at h1
  exact h1.same (hide_same D _)
theorem mem_snoc {rs : List Rd} {r : Rd} {p : Rd → Prop} (h : ∀ x ∈ rs, p x) (hr : p r) : ∀ x ∈ rs ++ [r], p x := fun x hx => by
  rcases List.mem_append.mp hx with h1 | h1
  · exact h x h1
  · rw [show x = r by simpa using h1]; exact hr
def spRow (K : PySem.W.Frag) : Sp := fun vs H Q _ => ∃ (a np wp : Addr) (ns : List Int) (zs : List Str) (k : Nat), vs = [.ref a, .ref np, .int (k : Int), .ref wp] ∧ SqL K H a (ns.map V.int) ∧ H np = some (.lst (List.map V.str zs)) ∧ H wp = some (.lst wordsV) ∧ NamesOk zs ∧ k < zs.length ∧
  ∀ r v H2, Same H H2 → RowAt H2 r v → RowOk zs k r → Q v H2
theorem wants3 (d : Dk) : d.wants ≤ 3 := by cases d <;> decide
theorem d_row (T : Txt K mg C CE) (Kb : K.In base) (G : base.Ns mainGlobals mg) : Df P w K mg base 2 "_law_row" ["_law_script", "_law_names_here", "_law_at", "_law_words"] (spRow K) := by
  have D_law_cell_at : Df P w K mg base 1 "_law_cell_at" ["_law_script", "_law_k"] (spCell K) := d_cell T Kb G
  have D_law_mix : Df P w K mg base 1 "_law_mix" ["_law_cell", "_law_k"] spMix := d_mix T Kb G
  have D_law_wants : Df P w K mg base 1 "_law_wants" ["_law_word"] spLWants := d_lwants T Kb G
  refine T.f_row.df Kb G sc_law_row (fun _ _ _ _ _ _ us hl => match us, hl with | [_, _, _, _], _ => rfl) (by rintro vs H Q E ⟨a, np, wp, ns, zs, k, rfl, _⟩; rfl) (fun f cdv A outer s H vs Q E hr h => ?_)
  obtain ⟨a, np, wp, ns, zs, k, rfl, hS, hnp, hwp, hzs, hk, q⟩ := h
  have h12 := hzs.1
  refine ⟨_, (pss_cons (ps_set (i := 4) sc_law_row.nd rfl (by first | exact Or.inl rfl | exact Or.inr rfl) (pe_callD D_law_mix (hr.mono (by decide)) rfl (pa_cons (pe_callD D_law_cell_at (hr.mono (by decide)) rfl (pa_cons (pv 0) (pa_cons (pe_op op_add pe_int (pv 2)) pa_nil (se rfl)) (se rfl)) (he := se rfl) (hpl := nst rfl)) (pa_cons (pv 2) pa_nil (se rfl)) (se rfl)) (he := se rfl) (hpl := nst rfl)))
    (pss_cons (ps_set (i := 5) sc_law_row.nd rfl (by first | exact Or.inl rfl | exact Or.inr rfl) (pe_ix ix_seq (pv 3) (pe_op op_mod (pv 4) (pe_callB call_len_seq rfl T.nlen PySem.boot_len (pa_cons (pv 3) pa_nil (se rfl)) (he := se rfl) (hpl := nst rfl))) (fun _ _ => rfl)))
    (pss_cons (ps_set (i := 4) sc_law_row.nd rfl (by first | exact Or.inl rfl | exact Or.inr rfl) (pe_op op_fdiv (pv 4) (pe_callB call_len_seq rfl T.nlen PySem.boot_len (pa_cons (pv 3) pa_nil (se rfl)) (he := se rfl) (hpl := nst rfl))))
    (pss_cons (ps_set (i := 6) sc_law_row.nd rfl (by first | exact Or.inl rfl | exact Or.inr rfl) (pe_lstA pa_nil))
    (pss_cons (ps_for PassesOwn.never rfl (pi_range1 rfl T.nrange (pa_cons (pe_callD D_law_wants (hr.mono (by decide)) rfl (pa_cons (pv 5) pa_nil (se rfl)) (he := se rfl) (hpl := nst rfl)) pa_nil (se rfl))) (pg_name (i := 7) sc_law_row.nd rfl (Or.inl rfl))
      (pss_cons (ps_set (i := 8) sc_law_row.nd rfl (by first | exact Or.inl rfl | exact Or.inr rfl) (pe_op op_mod (pv 4) pe_int))
    (pss_cons (ps_set (i := 9) sc_law_row.nd rfl (by first | exact Or.inl rfl | exact Or.inr rfl) (pe_op op_mod (pe_op op_fdiv (pv 4) pe_int) (pe_callB call_len_seq rfl T.nlen PySem.boot_len (pa_cons (pv 1) pa_nil (se rfl)) (he := se rfl) (hpl := nst rfl))))
    (pss_cons (ps_join (ps_if (PW.pt (pw_and (pt_cmpR op_eq (pv 8) pe_int (nomark _)) (pw_and1 (pt_cmpR op_ge (pv 9) (pv 2) (nomark _))))) (pss_one (ps_set (i := 8) sc_law_row.nd rfl (by first | exact Or.inl rfl | exact Or.inr rfl) (pe_op op_add pe_int (pe_op op_mod (pe_op op_fdiv (pv 4) pe_int) pe_int)))) pss_nil))
    (pss_cons (ps_join (ps_if (pt_cmpR op_eq (pe_op op_mod (pe_op op_fdiv (pv 4) pe_int) pe_int) pe_int (nomark _)) (pss_one (ps_expr (pe_bm PySem.F.plainAttrs_list PySem.F.slot_list_append PySem.F.type_list_append mt_append (pv 6) (pa_cons (pe_op op_mod (pe_callD D_law_cell_at (hr.mono (by decide)) rfl (pa_cons (pv 0) (pa_cons (pe_op op_add (pe_op op_add pe_int (pe_op op_mulO pe_int (pv 2))) (pv 7)) pa_nil (se rfl)) (se rfl)) (he := se rfl) (hpl := nst rfl)) (pe_op op_pow pe_int pe_int)) pa_nil (se rfl)) (hs := se rfl) (hplain := nst rfl)))) (pss_one (ps_expr (pe_bm PySem.F.plainAttrs_list PySem.F.slot_list_append PySem.F.type_list_append mt_append (pv 6) (pa_cons (pe_tupA (pa_cons (pe_ix ix_seq (pv 1) (pv 9) (fun _ _ => rfl)) (pa_cons (pv 8) pa_nil (se rfl)) (se rfl))) pa_nil (se rfl)) (hs := se rfl) (hplain := nst rfl))))))
    (pss_one (ps_set (i := 4) sc_law_row.nd rfl (by first | exact Or.inl rfl | exact Or.inr rfl) (pe_op op_fdiv (pv 4) pe_int))))))))
    (pss_one (ps_ret (pe_tupA (pa_cons (pe_ix ix_seq (pv 1) (pv 2) (fun _ _ => rfl)) (pa_cons (pv 5) (pa_cons (pe_callTy call_tupleA rfl T.ntuple PyProof.Rows.boot_tuple (pa_cons (pv 6) pa_nil (se rfl)) (he := se rfl) (hpl := nst rfl)) pa_nil (se rfl)) (se rfl)) (se rfl)))))))))), ?_⟩
  walk_at "rd"
  refine ⟨a, ns, 4 + k, rfl, hS, fun c => ?_⟩
  walk_at "rd"
  refine ⟨c, k, rfl, by omega, fun n => ?_⟩
  walk_at "rd"
  refine ⟨_, _, rfl, .inl (sqL_inj_of hwp), ?_⟩
  have e9 : (wordsV.length : Int) = 9 := rfl
  rw [e9]
  walk_at "rd"
  have b9 := mod_b (n : Int) (show (0 : Int) < 9 by decide)
  obtain ⟨d, hat⟩ := at_dk b9.1 b9.2
  refine i_ixL (sqL_inj_of hwp) hat ?_
  walk_at "rd"
  refine ⟨_, _, rfl, .inl (sqL_inj_of hwp), ?_⟩
  rw [e9]
  walk_at "rd"
  refine ⟨by show 0 ≤ sizeLine; exact Nat.zero_le _, fun D H1 hN1 => ?_⟩
  walk_at "rd"
  refine i_for (i_rng1 ?_)
  walk_at "rd"
  refine ⟨d, rfl, fun H2 s2 => ?_⟩
  walk_at "rd"
  have w3 := wants3 d
  refine ⟨_, rfl, by omega, by omega, ?_⟩
  rw [Int.toNat_natCast]
  have lb := line_big
  have hzl : 0 < zs.length := by omega
  refine for_range (lo := 0) (n := d.wants) (fun i σ H' => ∃ (m : Nat) (rs : List Rd) (vs : List V) (x7 x8 x9 : Option V), σ = [some (.ref a), some (.ref np), some (.int (k : Int)), some (.ref wp), some (.int (m : Int)), some (.str d.word), some (.ref D), x7, x8, x9] ∧ rs.length = i ∧ H' D = some (.lst vs) ∧ Same H H' ∧ RdsAt H' rs vs ∧ ∀ rd ∈ rs, RdOk zs k rd)
    ⟨n / 9, [], [], none, none, none, rfl, rfl, s2 _ _ hN1.at, hN1.same.trans s2, ⟨rfl, fun i r v e => by simp at e⟩, fun rd h => by simp at h⟩ ?_ ?_
  · rintro i σ H' hi ⟨m, rs, vs, x7, x8, x9, rfl, hrl, hD, s3, hrs, hok⟩
    have hvl := hrs.len
    have e0 : (0 : Int) + (i : Int) = (i : Int) := Int.zero_add _
    rw [e0]
    walk_at "rd"
    refine ⟨_, _, rfl, .inl (sqL_inj_of (s3 _ _ hnp)), ?_⟩
    rw [List.length_map]
    walk_at "rd"
    have b7 := mod_b (m : Int) (show (0 : Int) < 7 by decide)
    generalize (m : Int) % 7 = bk at *
    have bs := mod_b ((m : Int) / 7) (show (0 : Int) < (zs.length : Int) by omega)
    obtain ⟨spot, hsp⟩ := Int.eq_ofNat_of_zero_le bs.1
    rw [hsp] at bs ⊢
    clear hsp
    refine i_join (fun σ' H'' => H'' = H' ∧ ∃ b : Int, σ' = [some (.ref a), some (.ref np), some (.int (k : Int)), some (.ref wp), some (.int (m : Int)), some (.str d.word), some (.ref D), some (.int (i : Int)), some (.int b), some (.int (spot : Int))] ∧ 0 ≤ b ∧ b ≤ 6 ∧ (b = 0 → spot < k)) ?_ ?_
    · walk_at "rd"
      refine i_iteI (fun h0 => ?_) (fun h0 => ?_)
      · walk_at "rd"
        refine i_iteD (fun h1 => ?_) (fun h1 => ?_)
        · walk_at "rd"
          have b6 := mod_b ((m : Int) / 100) (show (0 : Int) < 6 by decide)
          exact ⟨rfl, _, rfl, by omega, by omega, by omega⟩
        · walk_at "rd"
          exact ⟨rfl, _, rfl, by omega, by omega, by omega⟩
      · walk_at "rd"
        exact ⟨rfl, _, rfl, by omega, by omega, fun z => absurd z h0⟩
    rintro σ' H'' ⟨rfl, b, rfl, b0, b1, b2⟩
    walk_at "rd"
    refine i_join (fun σ' H2' => ∃ (rs' : List Rd) (vs' : List V), σ' = [some (.ref a), some (.ref np), some (.int (k : Int)), some (.ref wp), some (.int (m : Int)), some (.str d.word), some (.ref D), some (.int (i : Int)), some (.int b), some (.int (spot : Int))] ∧ rs'.length = i + 1 ∧ H2' D = some (.lst vs') ∧ Same H H2' ∧ RdsAt H2' rs' vs' ∧ ∀ rd ∈ rs', RdOk zs k rd) ?_ ?_
    · have hDn : H D = none := hN1.free
      walk_at "rd"
      refine i_iteI (fun h0 => ?_) (fun h0 => ?_)
      · walk_at "rd"
        refine ⟨.inl ⟨rfl, _, sqL_inj_of hD⟩, ?_⟩
        walk_at "rd"
        refine i_mul (IntMulOk.of_left (by decide)) ?_
        walk_at "rd"
        refine ⟨a, ns, 16 + 3 * k + i, rfl, s3.seq hS, fun c => ?_⟩
        walk_at "rd"
        refine i_append hD (by omega) ?_
        have b60 := mod_b c (show (0 : Int) < 10 ^ (60 : Int).toNat by decide +kernel)
        generalize c % 10 ^ (60 : Int).toNat = v at *
        refine ⟨rs ++ [.num v], vs ++ [.int v], rfl, by rw [List.length_append, hrl]; rfl, upd_same, fun b' u e => ?_, RdsAt.snoc (r := .num v) (v := .int v) (hrs.app hD) rfl, mem_snoc (r := .num v) hok ⟨b60.1, b60.2⟩⟩
        rw [upd_ne (ne_of_none e hDn)]; exact s3 _ _ e
      · walk_at "rd"
        refine ⟨.inl ⟨rfl, _, sqL_inj_of hD⟩, ?_⟩
        walk_at "rd"
        obtain ⟨z, hz, hza⟩ := at_str (zs := zs) (j := spot) (by omega)
        refine i_ixL (sqL_inj_of (s3 _ _ hnp)) hza ?_
        walk_at "rd"
        refine ⟨by show 2 ≤ sizeLine; decide, fun t H3 hN3 => ?_⟩
        walk_at "rd"
        have hD3 := hN3.same _ _ hD
        refine i_append hD3 (by omega) ?_
        have hrd : RdAt H3 (.back z b) (.ref t) := ⟨t, rfl, hN3.at⟩
        have hrd' : RdAt (upd H3 D (.lst (vs ++ [.ref t]))) (.back z b) (.ref t) := by
          have h1 := hrd.hide hD3
          rw [← hide_upd D H3 (.lst (vs ++ [.ref t]))] at h1
          exact h1.same (hide_same D _)
        refine ⟨rs ++ [.back z b], vs ++ [.ref t], rfl, by rw [List.length_append, hrl]; rfl, upd_same, fun b' u e => ?_, RdsAt.snoc ((hrs.same hN3.same).app hD3) hrd', mem_snoc (r := .back z b) hok ⟨spot, hz, b0, b1, b2⟩⟩
        rw [upd_ne (ne_of_none e hDn)]; exact hN3.same _ _ (s3 _ _ e)
    rintro σ' H2' ⟨rs', vs', rfl, h1, h2, h3, h4, h5⟩
    walk_at "rd"
    exact ⟨m / 10000, rs', vs', _, _, _, rfl, h1, h2, h3, h4, h5⟩
  · rintro σ H' ⟨m, rs, vs, x7, x8, x9, rfl, hrl, hD, s3, hrs, hok⟩
    walk_at "rd"
    obtain ⟨z, hz, hza⟩ := at_str hk
    refine i_ixL (sqL_inj_of (s3 _ _ hnp)) hza ?_
    walk_at "rd"
    refine i_tupleAL (sqL_inj_of hD) fun p1 H3 hN3 => ?_
    walk_at "rd"
    refine ⟨by show 3 ≤ sizeLine; decide, fun p2 H4 hN4 => ?_⟩
    exact q ⟨z, d, rs⟩ _ _ ((s3.trans hN3.same).trans hN4.same) ⟨p1, p2, vs, rfl, hN4.at, hN4.same _ _ hN3.at, (hrs.same hN3.same).same hN4.same⟩ ⟨hz, hrl, hok⟩
theorem pick_list {α β : Type} : ∀ (ys : List β) (P : Nat → α → β → Prop), (∀ (i : Nat) y, ys[i]? = some y → ∃ r, P i r y) → ∃ rs : List α, rs.length = ys.length ∧ ∀ (i : Nat) r y, rs[i]? = some r → ys[i]? = some y → P i r y
  | [], _, _ => ⟨[], rfl, fun i r y e => by simp at e⟩
  | y :: ys, P, h => by
    obtain ⟨r, hr⟩ := h 0 y rfl
    obtain ⟨rs, hl, hP⟩ := pick_list ys (fun i => P (i + 1)) (fun i y' e => h (i + 1) y' e)
    refine ⟨r :: rs, by simp [hl], fun i r' y' e1 e2 => ?_⟩
    cases i with
    | zero => cases e1; cases e2; exact hr
    | succ i => exact hP i r' y' e1 e2
structure RowsAt (H : Hp) (rs : List Row) (us : List V) : Prop where
  len : rs.length = us.length
  at_ : ∀ (i : Nat) r u, rs[i]? = some r → us[i]? = some u → RowAt H r u
structure RowsOk (zs : List Str) (rs : List Row) : Prop where
  names : NamesOk zs
  len : rs.length = zs.length
  at_ : ∀ (i : Nat) r, rs[i]? = some r → RowOk zs i r
def spRows (K : PySem.W.Frag) : Sp := fun vs H Q _ => ∃ (a : Addr) (ns : List Int) (many : Nat), vs = [.ref a, .int (many : Int)] ∧ SqL K H a (ns.map V.int) ∧ many ≤ 12 ∧
  ∀ p H2 zs rs us, Same H H2 → H2 p = some (.lst us) → RowsAt H2 rs us → RowsOk zs rs → rs.length = many → Q (.ref p) H2
theorem d_rows (T : Txt K mg C CE) (Kb : K.In base) (G : base.Ns mainGlobals mg) : Df P w K mg base 3 "_law_rows" ["_law_script", "_law_many"] (spRows K) := by
  have D_law_names : Df P w K mg base 2 "_law_names" ["_law_script", "_law_many"] (spNames K) := d_names T Kb G
  have D_law_row : Df P w K mg base 2 "_law_row" ["_law_script", "_law_names_here", "_law_at", "_law_words"] (spRow K) := d_row T Kb G
  refine T.f_rows.df Kb G sc_law_rows (fun _ _ _ _ _ _ us hl => match us, hl with | [_, _], _ => rfl) (by rintro vs H Q E ⟨a, ns, many, rfl, _⟩; rfl) (fun f cdv A outer s H vs Q E hr h => ?_)
  obtain ⟨a, ns, many, rfl, hS, hm, q⟩ := h
  refine ⟨_, (pss_cons (ps_set (i := 2) sc_law_rows.nd rfl (by first | exact Or.inl rfl | exact Or.inr rfl) (pe_lstA (pa_cons pe_str (pa_cons pe_str (pa_cons pe_str (pa_cons pe_str (pa_cons pe_str (pa_cons pe_str (pa_cons pe_str (pa_cons pe_str (pa_cons pe_str pa_nil (se rfl)) (se rfl)) (se rfl)) (se rfl)) (se rfl)) (se rfl)) (se rfl)) (se rfl)) (se rfl))))
    (pss_cons (ps_set (i := 3) sc_law_rows.nd rfl (by first | exact Or.inl rfl | exact Or.inr rfl) (pe_callD D_law_names (hr.mono (by decide)) rfl (pa_cons (pv 0) (pa_cons (pv 1) pa_nil (se rfl)) (se rfl)) (he := se rfl) (hpl := nst rfl)))
    (pss_one (ps_ret (pe_lc (Blk.of (caps := ["_law_script", "_law_names_here", "_law_words"]) (ix := [0, 3, 2]) rfl) rfl (pi_range1 rfl T.nrange (pa_cons (pv 1) pa_nil (se rfl))) (fun _ _ _ _ => pf_nil) (fun _ _ _ _ => (pe_callD D_law_row (hr.mono (by decide)) rfl (pa_cons (pv 1) (pa_cons (pv 2) (pa_cons (pv 0) (pa_cons (pv 3) pa_nil (se rfl)) (se rfl)) (se rfl)) (se rfl)) (he := se rfl) (hpl := nst rfl)))))))), ?_⟩
  walk_at "rd"
  refine ⟨by show 9 ≤ sizeLine; decide, fun wp H1 hN1 => ?_⟩
  walk_at "rd"
  refine ⟨a, ns, many, rfl, hN1.same.seq hS, hm, fun np H2 zs s2 hnp hzs hzl => ?_⟩
  walk_at "rd"
  refine i_lc (i_rng1 ?_)
  walk_at "rd"
  refine ⟨_, rfl, by omega, by omega, ?_⟩
  rw [Int.toNat_natCast]
  have lb := line_big
  have t2 := hN1.same.trans s2
  refine lcN LcIt.rng (fun D i y H' => ∃ r, RowOk zs i r ∧ RowAt (hide D H') r y) (by omega) (fun D i y H' H'' s h => ?_) (fun D i H' R hi hD hy s r => ?_) (fun D ys H' hD s hHD hyl hP => ?_)
  · obtain ⟨r, h1, h2⟩ := h
    exact ⟨r, h1, h2.same (hide_sameB s)⟩
  · obtain ⟨ys, hy⟩ := hy
    walk_at "rd"
    refine ⟨a, np, wp, ns, zs, i, by rw [Int.zero_add]; rfl, (t2.trans s).seq hS, s _ _ hnp, s _ _ (s2 _ _ hN1.at), hzs, by omega, fun rw v H'' s'' hrow hok => ?_⟩
    exact r v H'' s'' ⟨rw, hok, hrow.hide (s'' _ _ hy)⟩
  · obtain ⟨rs, hrl, hrs⟩ := pick_list ys (fun i r y => RowOk zs i r ∧ RowAt (hide D H') r y) hP
    refine q D H' zs rs ys (t2.trans s) hHD ⟨hrl, fun i r u e1 e2 => (hrs i r u e1 e2).2.same (hide_same D H')⟩ ⟨hzs, by omega, fun i r e => ?_⟩ (by omega)
    have hi : i < ys.length := by rw [← hrl]; exact (List.getElem?_eq_some_iff.mp e).1
    exact (hrs i r ys[i] e (List.getElem?_eq_getElem hi)).1
def spMeasure (K : PySem.W.Frag) : Sp := fun vs H Q _ => ∃ (a : Addr) (ns : List Int), vs = [.ref a] ∧ SqL K H a (ns.map V.int) ∧ ∀ m : Int, 2 ≤ m → m ≤ 10 ^ (60 : Int).toNat → Q (.int m) H
theorem d_measure (T : Txt K mg C CE) (Kb : K.In base) (G : base.Ns mainGlobals mg) : Df P w K mg base 2 "_law_measure" ["_law_script"] (spMeasure K) := by
  have D_law_cell_at : Df P w K mg base 1 "_law_cell_at" ["_law_script", "_law_k"] (spCell K) := d_cell T Kb G
  have D_law_mix : Df P w K mg base 1 "_law_mix" ["_law_cell", "_law_k"] spMix := d_mix T Kb G
  refine T.f_measure.df Kb G sc_law_measure (fun _ _ _ _ _ _ us hl => match us, hl with | [_], _ => rfl) (by rintro vs H Q E ⟨a, ns, rfl, _⟩; rfl) (fun f cdv A outer s H vs Q E hr h => ?_)
  obtain ⟨a, ns, rfl, hS, q⟩ := h
  refine ⟨_, (pss_cons (ps_set (i := 1) sc_law_measure.nd rfl (by first | exact Or.inl rfl | exact Or.inr rfl) (pe_callD D_law_mix (hr.mono (by decide)) rfl (pa_cons (pe_callD D_law_cell_at (hr.mono (by decide)) rfl (pa_cons (pv 0) (pa_cons pe_int pa_nil (se rfl)) (se rfl)) (he := se rfl) (hpl := nst rfl)) (pa_cons pe_int pa_nil (se rfl)) (se rfl)) (he := se rfl) (hpl := nst rfl)))
    (pss_cons (ps_if (pt_cmpR op_eq (pe_op op_mod (pv 1) pe_int) pe_int (nomark _)) (pss_one (ps_ret (pe_op op_add pe_int (pe_op op_mod (pe_op op_fdiv (pv 1) pe_int) pe_int)))) pss_nil)
    (pss_one (ps_ret (pe_op op_add pe_int (pe_op op_mod (pe_callD D_law_cell_at (hr.mono (by decide)) rfl (pa_cons (pv 0) (pa_cons pe_int pa_nil (se rfl)) (se rfl)) (he := se rfl) (hpl := nst rfl)) (pe_op op_sub (pe_op op_pow pe_int pe_int) pe_int))))))), ?_⟩
  walk_at "rd"
  refine ⟨a, ns, 2, rfl, hS, fun c => ?_⟩
  walk_at "rd"
  refine ⟨c, 2, rfl, by decide, fun n => ?_⟩
  walk_at "rd"
  have e60 : (1000 : Int) ≤ 10 ^ (60 : Int).toNat := by decide +kernel
  have p60 : (0 : Int) < 10 ^ (60 : Int).toNat - 1 := by omega
  refine i_iteI (fun _ => ?_) (fun _ => ?_)
  · clear e60 p60
    walk_at "rd"
    have b := mod_b ((n : Int) / 3) (show (0 : Int) < 30 by decide)
    have e60 : (1000 : Int) ≤ 10 ^ (60 : Int).toNat := by decide +kernel
    exact q _ (by omega) (by omega)
  · clear e60
    walk_at "rd"
    refine ⟨a, ns, 2, rfl, hS, fun c => ?_⟩
    walk_at "rd"
    have b := mod_b c p60
    generalize c % (10 ^ (60 : Int).toNat - 1) = r at *
    exact q _ (by omega) (by omega)
structure RowX where
  name : Str
  word : Str
  reads : List Rd
def RowXAt (H : Hp) (r : RowX) (v : V) : Prop := ∃ p1 p2 vs, v = .ref p2 ∧ H p2 = some (.tup [.str r.name, .str r.word, .ref p1]) ∧ H p1 = some (.tup vs) ∧ RdsAt H r.reads vs
theorem RowXAt.same {H H' : Hp} {r : RowX} {v : V} (s : Same H H') (h : RowXAt H r v) : RowXAt H' r v := by
  obtain ⟨p1, p2, vs, e, h1, h2, h3⟩ := h
  exact ⟨p1, p2, vs, e, s _ _ h1, s _ _ h2, h3.same s⟩
theorem RowXAt.hide {D : Addr} {H : Hp} {ys : List V} (hD : H D = some (.lst ys)) {r : RowX} {v : V} (h : RowXAt H r v) : RowXAt (hide D H) r v := by
  obtain ⟨p1, p2, vs, e, h1, h2, h3⟩ := h
  exact ⟨p1, p2, vs, e, at_hide hD h1, at_hide hD h2, h3.hide hD⟩
structure RowsXAt (H : Hp) (rs : List RowX) (us : List V) : Prop where
  len : rs.length = us.length
  at_ : ∀ (i : Nat) r u, rs[i]? = some r → us[i]? = some u → RowXAt H r u
theorem RowsXAt.same {H H' : Hp} {rs : List RowX} {us : List V} (s : Same H H') (h : RowsXAt H rs us) : RowsXAt H' rs us := ⟨h.len, fun i r u e1 e2 => (h.at_ i r u e1 e2).same s⟩
def S30 (z : Str) : Prop := z.length ≤ 1000 ∧ ∀ c ∈ z.cps.toList, c < 16 ^ 8
theorem S30.sm {z : Str} (h : S30 z) : Sm z := ⟨by have := h.1; omega, h.2⟩
def RdSm : Rd → Prop
  | .num _ => True
  | .back z _ => S30 z
structure RowSm (r : RowX) : Prop where
  name : S30 r.name
  word : S30 r.word
  many : r.reads.length ≤ 100
  reads : ∀ rd ∈ r.reads, RdSm rd
abbrev lets : Str := Str.ofString "abcdefghijklmnopqrstuvwxyz"
def isNm (z : Str) : Bool := decide (1 ≤ z.length ∧ z.length ≤ 12) && z.cps.toList.all fun c => decide (c ∈ lets.cps.toList)
def dkOf (w : Str) : Option Dk := dks.find? fun d => decide (w = d.word)
theorem dkOf_some {w : Str} {d : Dk} (h : dkOf w = some d) : w = d.word := by
  have := List.find?_some h
  exact of_decide_eq_true this
theorem dkOf_none {w : Str} (h : dkOf w = none) : ∀ d : Dk, w ≠ d.word := by
  intro d e
  have := List.find?_eq_none.mp h d (by cases d <;> decide)
  exact this (decide_eq_true e)
def refM (m : Int) : Option Xk := if 2 ≤ m ∧ m ≤ 10 ^ (60 : Int).toNat then none else some .NoMeasure
def refRd (zs as : List Str) : Rd → Option Xk
  | .num i => if 0 ≤ i ∧ i < 10 ^ (60 : Int).toNat then none else some .BadNumber
  | .back z b => if ¬ z ∈ zs then some .NoRow else if ¬ (0 ≤ b ∧ b ≤ 6) then some .BadBack else if b = 0 ∧ ¬ z ∈ as then some .TooEarly else none
def refHead (as : List Str) (r : RowX) : Option Xk :=
  if isNm r.name = false then some .BadName else if r.name ∈ as then some .Twice else match dkOf r.word with
    | none => some .NoDeed
    | some d => if r.reads.length = d.wants then none else some .BadCount
def first : List (Option Xk) → Option Xk
  | [] => none
  | none :: l => first l
  | some e :: _ => some e
theorem first_at {e : Xk} : ∀ {l : List (Option Xk)} {i : Nat}, (∀ j, j < i → l[j]? = some none) → l[i]? = some (some e) → first l = some e
  | [], i, _, h => by simp at h
  | none :: l, 0, _, h => by cases h
  | some e' :: l, 0, _, h => by cases h; rfl
  | o :: l, i + 1, hj, h => by
    have h0 : o = none := by have := hj 0 (Nat.succ_pos _); simpa using this
    subst h0
    exact first_at (l := l) (i := i) (fun j hlt => hj (j + 1) (Nat.succ_lt_succ hlt)) h
theorem first_none : ∀ {l : List (Option Xk)}, (∀ j, j < l.length → l[j]? = some none) → first l = none
  | [], _ => rfl
  | o :: l, h => by
    have h0 : o = none := by have := h 0 (Nat.succ_pos _); simpa using this
    subst h0
    exact first_none (l := l) fun j hlt => h (j + 1) (Nat.succ_lt_succ hlt)
def refRow (zs : List Str) (k : Nat) (r : RowX) : Option Xk := match refHead (zs.take k) r with
  | some e => some e
  | none => first (r.reads.map (refRd zs (zs.take k)))
def refAll (zs : List Str) (rs : List RowX) : List (Option Xk) := rs.mapIdx fun k r => refRow zs k r
def refRows (rs : List RowX) : Option Xk := if 1 ≤ rs.length ∧ rs.length ≤ 12 then first (refAll (rs.map (·.name)) rs) else some .BadRows
def refLoop (m : Int) (rs : List RowX) : Option Xk := match refM m with
  | some e => some e
  | none => refRows rs
def Out (CE : Xk → Addr) (o : Option Xk) (H : Hp) (Q : VK) (E : XK) : Prop := match o with
  | none => ∀ H2, Same H H2 → Q .non H2
  | some e => ∀ H2, Same H H2 → E (.ref (CE e)) none H2
def spIsName : Sp := fun vs H Q _ => ∃ z : Str, vs = [.str z] ∧ z.length ≤ 1000 ∧ ∀ H2, Same H H2 → Q (.bl (isNm z)) H2
def isLt (z : Str) : Bool := decide (1 ≤ z.length) && z.cps.toList.all fun c => decide (c ∈ lets.cps.toList)
theorem isNm_lt (z : Str) : isNm z = (isLt z && decide (z.length ≤ 12)) := by
  unfold isNm isLt
  rcases Nat.lt_or_ge z.length 1 with h | h
  · rw [decide_eq_false (show ¬ (1 ≤ z.length ∧ z.length ≤ 12) by omega), decide_eq_false (show ¬ 1 ≤ z.length by omega)]; rfl
  · rcases Nat.lt_or_ge 12 z.length with h2 | h2
    · rw [decide_eq_false (show ¬ (1 ≤ z.length ∧ z.length ≤ 12) by omega), decide_eq_false (show ¬ z.length ≤ 12 by omega), Bool.and_false]; rfl
    · rw [decide_eq_true (show 1 ≤ z.length ∧ z.length ≤ 12 by omega), decide_eq_true (show 1 ≤ z.length by omega), decide_eq_true h2, Bool.and_true]
def spIsLet : Sp := fun vs H Q _ => ∃ z : Str, vs = [.str z] ∧ z.length ≤ 1000 ∧ ∀ H2, Same H H2 → Q (.bl (isLt z)) H2
theorem d_islet (T : Txt K mg C CE) (Kb : K.In base) (G : base.Ns mainGlobals mg) : Df P w K mg base 1 "is_lettered" ["text"] spIsLet := by
  refine T.f_islet.df Kb G sc_is_lettered (fun _ _ _ _ _ _ us hl => match us, hl with | [_], _ => rfl) (by rintro vs H Q E ⟨z, rfl, _⟩; rfl) (fun f cdv A outer s H vs Q E hr h => ?_)
  obtain ⟨z, rfl, hz, q⟩ := h
  refine ⟨_, (pss_one (ps_ret (pe_and (pe_cmpR op_gt (pe_callB call_lenS rfl T.nlen PySem.boot_len (pa_cons (pv 0) pa_nil (se rfl)) (he := se rfl) (hpl := nst rfl)) pe_int (nomark _)) (pe_one (pe_callB (call_all rfl) rfl T.nall PyProof.Rows.boot_all (pa_cons (pe_lc (Blk.of (caps := []) (ix := []) rfl) rfl (pi_str (pv 0)) (fun _ _ _ _ => pf_nil) (fun _ _ _ _ => (pe_cmpR op_inS (pv 0) (pe_val T.v_LETTERS rfl) (by with_unfolding_all rfl)))) pa_nil (se rfl)) (he := se rfl) (hpl := nst rfl)))))), ?_⟩
  have lb := line_big
  walk_at "rd"
  refine i_lenS (by omega) ?_
  walk_at "rd"
  refine i_iteD (fun h1 => ?_) (fun h1 => ?_)
  · walk_at "rd"
    refine i_lc (i_strI ?_)
    walk_at "rd"
    refine lcS z (fun c => .bl (decide (c ∈ lets.cps.toList))) (by omega) (fun c H' R hc s r => ?_) (fun D H2 hN => ?_)
    · walk_at "rd"
      exact r
    · have e : z.cps.toList.map (fun c => V.bl (decide (c ∈ lets.cps.toList))) = List.map V.bl (z.cps.toList.map fun c => decide (c ∈ lets.cps.toList)) := by rw [List.map_map]; rfl
      rw [e] at hN
      walk_at "rd"
      refine i_all hN.lst ?_
      have ea : (z.cps.toList.map fun c => decide (c ∈ lets.cps.toList)).all id = isLt z := by
        unfold isLt
        rw [decide_eq_true (show 1 ≤ z.length by omega), Bool.true_and, List.all_map]; rfl
      rw [ea]
      exact q _ hN.same
  · walk_at "rd"
    have e : isLt z = false := by unfold isLt; rw [decide_eq_false (by omega)]; rfl
    have := q _ (Same.refl _)
    rw [e] at this
    exact this
theorem d_isname (T : Txt K mg C CE) (Kb : K.In base) (G : base.Ns mainGlobals mg) : Df P w K mg base 2 "is_name" ["text"] spIsName := by
  have Dis_lettered : Df P w K mg base 1 "is_lettered" ["text"] spIsLet := d_islet T Kb G
  refine T.f_isname.df Kb G sc_is_name (fun _ _ _ _ _ _ us hl => match us, hl with | [_], _ => rfl) (by rintro vs H Q E ⟨z, rfl, _⟩; rfl) (fun f cdv A outer s H vs Q E hr h => ?_)
  obtain ⟨z, rfl, hz, q⟩ := h
  refine ⟨_, (pss_one (ps_ret (pe_and (pe_callD Dis_lettered (hr.mono (by decide)) rfl (pa_cons (pv 0) pa_nil (se rfl)) (he := se rfl) (hpl := nst rfl)) (pe_one (pe_cmpR op_le (pe_callB call_lenS rfl T.nlen PySem.boot_len (pa_cons (pv 0) pa_nil (se rfl)) (he := se rfl) (hpl := nst rfl)) (pe_val T.v_MOST_LETTERS rfl) (nomark _)))))), ?_⟩
  have lb := line_big
  walk_at "rd"
  refine ⟨z, rfl, hz, fun H1 s1 => ?_⟩
  have q' := q _ s1
  rw [isNm_lt] at q'
  cases hl : isLt z
  · rw [hl] at q'
    walk_at "rd"
    exact q'
  · rw [hl, Bool.true_and] at q'
    walk_at "rd"
    refine i_lenS (by omega) ?_
    walk_at "rd"
    rw [show decide ((z.length : Int) ≤ 12) = decide (z.length ≤ 12) from decide_eq_decide.mpr (by omega)]
    exact q'
def spCMeas (CE : Xk → Addr) : Sp := fun vs H Q E => ∃ m : Int, vs = [.int m] ∧ Out CE (refM m) H Q E
theorem d_cmeas (T : Txt K mg C CE) (Kb : K.In base) (G : base.Ns mainGlobals mg) : DfX P w K mg base 1 "check_measure" ["measure"] (spCMeas CE) := by
  refine T.f_cmeas.dfX Kb G sc_check_measure (fun _ _ _ _ _ _ us hl => match us, hl with | [_], _ => rfl) (by rintro vs H Q E ⟨m, rfl, _⟩; rfl) (fun f cdv A outer s H vs Q E hr h => ?_)
  obtain ⟨m, rfl, q⟩ := h
  refine ⟨_, (pss_one (ps_if (pt_not (pt_chain op_le op_le pe_int (pv 0) (pe_op op_pow pe_int pe_int))) (pss_one (ps_raise (ES := fun _ c d H' => E c d H') T.x_NoMeasure rfl (fun _ _ z => z) rfl (pa_cons pe_str pa_nil (se rfl)) (he := se rfl) (hpl := nst rfl))) pss_nil)), ?_⟩
  walk_at "rd"
  refine i_iteD (fun h1 => ?_) (fun h1 => ?_)
  · walk_at "rd"
    by_cases h2 : m ≤ 10 ^ (60 : Int).toNat
    · rw [decide_eq_true h2]
      rw [show refM m = none from if_pos ⟨h1, h2⟩] at q
      clear h2
      walk_at "rd"
      exact q _ (Same.refl _)
    · rw [decide_eq_false h2]
      rw [show refM m = some .NoMeasure from if_neg fun z => h2 z.2] at q
      clear h2
      walk_at "rd"
      exact ⟨by show 1 ≤ sizeLine; decide, q _ (Same.refl _)⟩
  · rw [show refM m = some .NoMeasure from if_neg fun z => h1 z.1] at q
    walk_at "rd"
    exact ⟨by show 1 ≤ sizeLine; decide, q _ (Same.refl _)⟩
def spCNum (CE : Xk → Addr) : Sp := fun vs H Q E => ∃ i : Int, vs = [.int i] ∧ Out CE (if 0 ≤ i ∧ i < 10 ^ (60 : Int).toNat then none else some .BadNumber) H Q E
theorem d_cnum (T : Txt K mg C CE) (Kb : K.In base) (G : base.Ns mainGlobals mg) : DfX P w K mg base 1 "check_number" ["number"] (spCNum CE) := by
  refine T.f_cnum.dfX Kb G sc_check_number (fun _ _ _ _ _ _ us hl => match us, hl with | [_], _ => rfl) (by rintro vs H Q E ⟨m, rfl, _⟩; rfl) (fun f cdv A outer s H vs Q E hr h => ?_)
  obtain ⟨m, rfl, q⟩ := h
  refine ⟨_, (pss_one (ps_if (pt_not (pt_chain op_le op_lt pe_int (pv 0) (pe_op op_pow pe_int pe_int))) (pss_one (ps_raise (ES := fun _ c d H' => E c d H') T.x_BadNumber rfl (fun _ _ z => z) rfl (pa_cons pe_str pa_nil (se rfl)) (he := se rfl) (hpl := nst rfl))) pss_nil)), ?_⟩
  walk_at "rd"
  refine i_iteD (fun h1 => ?_) (fun h1 => ?_)
  · walk_at "rd"
    by_cases h2 : m < 10 ^ (60 : Int).toNat
    · rw [decide_eq_true h2]
      rw [if_pos ⟨h1, h2⟩] at q
      clear h2
      walk_at "rd"
      exact q _ (Same.refl _)
    · rw [decide_eq_false h2]
      rw [if_neg fun z => h2 z.2] at q
      clear h2
      walk_at "rd"
      exact ⟨by show 1 ≤ sizeLine; decide, q _ (Same.refl _)⟩
  · rw [if_neg fun z => h1 z.1] at q
    walk_at "rd"
    exact ⟨by show 1 ≤ sizeLine; decide, q _ (Same.refl _)⟩
theorem cutV_take (xs : List V) (k : Nat) : cutV xs none (some (k : Int)) = xs.take k := by
  unfold cutV
  have e1 : HT.sIx xs.length 0 none = 0 := rfl
  have e2 : HT.sIx xs.length xs.length (some (k : Int)) = min k xs.length := by
    show (if (k : Int) < 0 then ((k : Int) + (xs.length : Int)).toNat else min (k : Int).toNat xs.length) = _
    rw [if_neg (by omega)]; omega
  rw [e1, e2, List.drop_zero, Nat.sub_zero]
  by_cases h : k ≤ xs.length
  · rw [Nat.min_eq_left h]
  · rw [Nat.min_eq_right (by omega), List.take_length, List.take_of_length_le (by omega)]
theorem inV_mem {z : Str} {zs : List Str} (h : z ∈ zs) : inV (.str z) (List.map V.str zs) = true := by
  refine List.any_eq_true.mpr ⟨.str z, List.mem_map.mpr ⟨z, h, rfl⟩, ?_⟩
  show (z == z) = true
  exact beq_self_eq_true _
theorem inV_not {z : Str} {zs : List Str} (h : ¬ z ∈ zs) : inV (.str z) (List.map V.str zs) = false := by
  refine Bool.eq_false_iff.mpr fun e => h ?_
  obtain ⟨y, hy, e⟩ := List.any_eq_true.mp e
  obtain ⟨x, hx, rfl⟩ := List.mem_map.mp hy
  have e' : (x == z) = true := e
  rw [← beq_iff_eq.mp e']; exact hx
theorem flat_strs (zs : List Str) : (List.map V.str zs).all flatV = true := by rw [List.all_map]; exact List.all_eq_true.mpr fun _ _ => rfl
def spCLook (CE : Xk → Addr) : Sp := fun vs H Q E => ∃ (z : Str) (b : Int) (np ap : Addr) (zs as : List Str), vs = [.str z, .int b, .ref np, .ref ap] ∧ S30 z ∧ H np = some (.lst (List.map V.str zs)) ∧ H ap = some (.lst (List.map V.str as)) ∧ Out CE (refRd zs as (.back z b)) H Q E
theorem d_clook (T : Txt K mg C CE) (Kb : K.In base) (G : base.Ns mainGlobals mg) : DfX P w K mg base 1 "check_look_back" ["name", "back", "names", "above"] (spCLook CE) := by
  refine T.f_clook.dfX Kb G sc_check_look_back (fun _ _ _ _ _ _ us hl => match us, hl with | [_, _, _, _], _ => rfl) (by rintro vs H Q E ⟨z, b, np, ap, zs, as, rfl, _⟩; rfl) (fun f cdv A outer s H vs Q E hr h => ?_)
  obtain ⟨z, b, np, ap, zs, as, rfl, hz, hnp, hap, q⟩ := h
  have hz1 : z.length ≤ 1000 := hz.sm.1
  refine ⟨_, (pss_cons (ps_if (pt_cmpR op_notIn_seq (pv 0) (pv 2) (by with_unfolding_all rfl)) (pss_one (ps_raise (ES := fun _ c d H' => E c d H') T.x_NoRow rfl (fun _ _ z => z) rfl (pa_cons (pe_fstr (pj_str (by decide) (pj_repr (pv 0) pj_nil))) pa_nil (se rfl)) (he := se rfl) (hpl := nst rfl))) pss_nil)
    (pss_cons (ps_if (pt_not (pt_chain op_le op_le pe_int (pv 1) (pe_val T.v_MOST_BACK rfl))) (pss_one (ps_raise (ES := fun _ c d H' => E c d H') T.x_BadBack rfl (fun _ _ z => z) rfl (pa_cons (pe_fstr (pj_str (by decide) (pj_plain (pv 0) (pj_str (by decide) pj_nil)))) pa_nil (se rfl)) (he := se rfl) (hpl := nst rfl))) pss_nil)
    (pss_one (ps_if (PW.pt (pw_and (pt_cmpR op_eq (pv 1) pe_int (nomark _)) (pw_and1 (pt_cmpR op_notIn_seq (pv 0) (pv 3) (by with_unfolding_all rfl))))) (pss_one (ps_raise (ES := fun _ c d H' => E c d H') T.x_TooEarly rfl (fun _ _ z => z) rfl (pa_cons (pe_fstr (pj_str (by decide) (pj_plain (pv 0) (pj_str (by decide) pj_nil)))) pa_nil (se rfl)) (he := se rfl) (hpl := nst rfl))) pss_nil)))), ?_⟩
  walk_at "rd"
  refine i_ninL (sqL_inj_of hnp) rfl (flat_strs zs) ?_
  by_cases hm : z ∈ zs
  · rw [inV_mem hm]
    walk_at "rd"
    by_cases hb : 0 ≤ b ∧ b ≤ 6
    · refine i_iteDt hb.1 ?_
      walk_at "rd"
      rw [decide_eq_true hb.2]
      walk_at "rd"
      refine i_iteI (fun h0 => ?_) (fun h0 => ?_)
      · walk_at "rd"
        refine i_ninL (sqL_inj_of hap) rfl (flat_strs as) ?_
        by_cases ha : z ∈ as
        · rw [inV_mem ha]
          walk_at "rd"
          rw [show refRd zs as (.back z b) = none by simp only [refRd]; rw [if_neg (fun n => n hm), if_neg (fun n => n hb), if_neg (fun n => n.2 ha)]] at q
          exact q _ (Same.refl _)
        · rw [inV_not ha]
          walk_at "rd"
          rw [show refRd zs as (.back z b) = some .TooEarly by simp only [refRd]; rw [if_neg (fun n => n hm), if_neg (fun n => n hb), if_pos ⟨h0, ha⟩]] at q
          refine ⟨⟨z, rfl, hz1⟩, ?_⟩
          walk_at "rd"
          intro z'
          walk_at "rd"
          exact ⟨by show 1 ≤ sizeLine; decide, q _ (Same.refl _)⟩
      · walk_at "rd"
        rw [show refRd zs as (.back z b) = none by simp only [refRd]; rw [if_neg (fun n => n hm), if_neg (fun n => n hb), if_neg (fun n => h0 n.1)]] at q
        exact q _ (Same.refl _)
    · rw [show refRd zs as (.back z b) = some .BadBack by simp only [refRd]; rw [if_neg (fun n => n hm), if_pos hb]] at q
      refine i_iteD (fun h1 => ?_) (fun h1 => ?_)
      · walk_at "rd"
        rw [decide_eq_false (show ¬ b ≤ 6 by omega)]
        walk_at "rd"
        refine ⟨⟨z, rfl, hz1⟩, ?_⟩
        walk_at "rd"
        intro z'
        walk_at "rd"
        exact ⟨by show 1 ≤ sizeLine; decide, q _ (Same.refl _)⟩
      · walk_at "rd"
        refine ⟨⟨z, rfl, hz1⟩, ?_⟩
        walk_at "rd"
        intro z'
        walk_at "rd"
        exact ⟨by show 1 ≤ sizeLine; decide, q _ (Same.refl _)⟩
  · rw [inV_not hm]
    walk_at "rd"
    rw [show refRd zs as (.back z b) = some .NoRow by simp only [refRd]; rw [if_pos hm]] at q
    refine ⟨⟨z, rfl, hz.sm⟩, ?_⟩
    walk_at "rd"
    intro z'
    walk_at "rd"
    exact ⟨by show 1 ≤ sizeLine; decide, q _ (Same.refl _)⟩
def spCRead (CE : Xk → Addr) : Sp := fun vs H Q E => ∃ (v : V) (np ap : Addr) (zs as : List Str) (rd : Rd), vs = [v, .ref np, .ref ap] ∧ H np = some (.lst (List.map V.str zs)) ∧ H ap = some (.lst (List.map V.str as)) ∧ RdAt H rd v ∧ RdSm rd ∧ Out CE (refRd zs as rd) H Q E
theorem d_cread (T : Txt K mg C CE) (Kb : K.In base) (G : base.Ns mainGlobals mg) : DfX P w K mg base 2 "check_read" ["read", "names", "above"] (spCRead CE) := by
  have Dcheck_number : DfX P w K mg base 1 "check_number" ["number"] (spCNum CE) := d_cnum T Kb G
  have Dcheck_look_back : DfX P w K mg base 1 "check_look_back" ["name", "back", "names", "above"] (spCLook CE) := d_clook T Kb G
  refine T.f_cread.dfX Kb G sc_check_read (fun _ _ _ _ _ _ us hl => match us, hl with | [_, _, _], _ => rfl) (by rintro vs H Q E ⟨v, np, ap, zs, as, rd, rfl, _⟩; rfl) (fun f cdv A outer s H vs Q E hr h => ?_)
  obtain ⟨v, np, ap, zs, as, rd, rfl, hnp, hap, hrd, hok, q⟩ := h
  refine ⟨_, (pss_one (ps_if (pt_val (pe_callB call_isi rfl T.nisi PyProof.Rows.boot_isinstance (pa_cons (pv 0) (pa_cons (pe_bltn (v := .ty "int") rfl T.nint PyProof.Rows.boot_int rfl) pa_nil (se rfl)) (se rfl)) (he := se rfl) (hpl := nst rfl))) (pss_one (ps_expr (pe_callX (ES := fun _ c d H' => E c d H') Dcheck_number (hr.mono (by decide)) (fun _ _ z => z) rfl (pa_cons (pv 0) pa_nil (se rfl)) (he := se rfl) (hpl := nst rfl)))) (pss_one (ps_expr (pe_callX (ES := fun _ c d H' => E c d H') Dcheck_look_back (hr.mono (by decide)) (fun _ _ z => z) rfl (pa_cons (pe_ix ix_seq (pv 0) pe_int (fun _ _ => rfl)) (pa_cons (pe_ix ix_seq (pv 0) pe_int (fun _ _ => rfl)) (pa_cons (pv 1) (pa_cons (pv 2) pa_nil (se rfl)) (se rfl)) (se rfl)) (se rfl)) (he := se rfl) (hpl := nst rfl)))))), ?_⟩
  have out : ∀ o : Option Xk, Out CE o H Q E → Out CE o H (fun _ H2 => Q .non H2) E := fun o h => by cases o <;> exact h
  cases rd with
  | num i =>
    have e : v = .int i := hrd
    subst e
    walk_at "rd"
    refine i_isiI T.kII ?_
    walk_at "rd"
    exact ⟨i, rfl, out _ q⟩
  | back z b =>
    obtain ⟨t, rfl, ht⟩ := hrd
    walk_at "rd"
    refine i_isiT ht T.kTI ?_
    walk_at "rd"
    refine i_ixT (.inl (.inl ht)) (show atI _ 0 = some (.str z) from rfl) ?_
    walk_at "rd"
    refine i_ixT (.inl (.inl ht)) (show atI _ 1 = some (.int b) from rfl) ?_
    walk_at "rd"
    exact ⟨z, b, np, ap, zs, as, rfl, hok, hnp, hap, out _ q⟩
def spCHead (CE : Xk → Addr) : Sp := fun vs H Q E => ∃ (r : RowX) (p1 ap : Addr) (us : List V) (as : List Str), vs = [.str r.name, .str r.word, .ref p1, .ref ap] ∧ RowSm r ∧ H p1 = some (.tup us) ∧ us.length = r.reads.length ∧ H ap = some (.lst (List.map V.str as)) ∧ Out CE (refHead as r) H Q E
theorem d_chead (T : Txt K mg C CE) (Kb : K.In base) (G : base.Ns mainGlobals mg) : DfX P w K mg base 3 "check_head" ["name", "word", "reads", "above"] (spCHead CE) := by
  have Dis_name : Df P w K mg base 2 "is_name" ["text"] spIsName := d_isname T Kb G
  have Ddeed_of : DfX P w K mg base 1 "deed_of" ["word"] (spDeedX C CE) := d_deed T Kb G
  have Mwants : MethI P w K mg base 1 "wants" ["self"] C spWants := m_wants T
  refine T.f_chead.dfX Kb G sc_check_head (fun _ _ _ _ _ _ us hl => match us, hl with | [_, _, _, _], _ => rfl) (by rintro vs H Q E ⟨r, p1, ap, us, as, rfl, _⟩; rfl) (fun f cdv A outer s H vs Q E hr h => ?_)
  obtain ⟨r, p1, ap, us, as, rfl, hsm, hp1, hul, hap, q⟩ := h
  have hn1 : r.name.length ≤ 1000 := hsm.name.sm.1
  have hw1 : r.word.length ≤ 1000 := hsm.word.sm.1
  refine ⟨_, (pss_cons (ps_if (pt_not (pt_val (pe_callD Dis_name (hr.mono (by decide)) rfl (pa_cons (pv 0) pa_nil (se rfl)) (he := se rfl) (hpl := nst rfl)))) (pss_one (ps_raise (ES := fun _ c d H' => E c d H') T.x_BadName rfl (fun _ _ z => z) rfl (pa_cons (pe_fstr (pj_repr (pv 0) (pj_str (by decide) pj_nil))) pa_nil (se rfl)) (he := se rfl) (hpl := nst rfl))) pss_nil)
    (pss_cons (ps_if (pt_cmpR op_in_seq (pv 0) (pv 3) (by with_unfolding_all rfl)) (pss_one (ps_raise (ES := fun _ c d H' => E c d H') T.x_Twice rfl (fun _ _ z => z) rfl (pa_cons (pe_fstr (pj_str (by decide) (pj_plain (pv 0) (pj_str (by decide) pj_nil)))) pa_nil (se rfl)) (he := se rfl) (hpl := nst rfl))) pss_nil)
    (pss_one (ps_if (pt_cmpR op_ne (pe_callB call_len_seq rfl T.nlen PySem.boot_len (pa_cons (pv 2) pa_nil (se rfl)) (he := se rfl) (hpl := nst rfl)) (pe_methI0 Mwants (pe_callX (ES := fun _ c d H' => E c d H') Ddeed_of (hr.mono (by decide)) (fun _ _ z => z) rfl (pa_cons (pv 1) pa_nil (se rfl)) (he := se rfl) (hpl := nst rfl)) (hr.mono (by decide))) (nomark _)) (pss_one (ps_raise (ES := fun _ c d H' => E c d H') T.x_BadCount rfl (fun _ _ z => z) rfl (pa_cons (pe_fstr (pj_str (by decide) (pj_plain (pv 0) (pj_str (by decide) (pj_plain (pv 1) (pj_str (by decide) pj_nil)))))) pa_nil (se rfl)) (he := se rfl) (hpl := nst rfl))) pss_nil)))), ?_⟩
  walk_at "rd"
  refine ⟨r.name, rfl, hn1, fun H1 s1 => ?_⟩
  cases hnm : isNm r.name with
  | false =>
    rw [show refHead as r = some .BadName by unfold refHead; rw [if_pos hnm]] at q
    walk_at "rd"
    refine ⟨⟨r.name, rfl, hsm.name.sm⟩, ?_⟩
    walk_at "rd"
    intro z'
    walk_at "rd"
    exact ⟨by show 1 ≤ sizeLine; decide, q _ s1⟩
  | true =>
    walk_at "rd"
    refine i_inL (sqL_inj_of (s1 _ _ hap)) rfl (flat_strs as) ?_
    by_cases hin : r.name ∈ as
    · rw [inV_mem hin]
      rw [show refHead as r = some .Twice by unfold refHead; rw [if_neg (by rw [hnm]; exact Bool.noConfusion), if_pos hin]] at q
      walk_at "rd"
      refine ⟨⟨r.name, rfl, hn1⟩, ?_⟩
      walk_at "rd"
      intro z'
      walk_at "rd"
      exact ⟨by show 1 ≤ sizeLine; decide, q _ s1⟩
    · rw [inV_not hin]
      walk_at "rd"
      refine ⟨_, _, rfl, .inr (.inl (.inl (s1 _ _ hp1))), ?_⟩
      walk_at "rd"
      refine i_methI ?_
      walk_at "rd"
      cases hd : dkOf r.word with
      | none =>
        rw [show refHead as r = some .NoDeed by unfold refHead; rw [if_neg (by rw [hnm]; exact Bool.noConfusion), if_neg hin, hd]] at q
        exact .inr ⟨r.word, rfl, hsm.word.sm, dkOf_none hd, q _ s1⟩
      | some d =>
        have ew := dkOf_some hd
        refine .inl ⟨d, by rw [ew]; rfl, fun x dx H2 hN2 => ?_⟩
        refine ⟨d, x, dx, [], rfl, hN2.at, rfl, ?_⟩
        walk_at "rd"
        refine ⟨x, rfl, ?_⟩
        walk_at "rd"
        by_cases hc : r.reads.length = d.wants
        · rw [show refHead as r = none by unfold refHead; rw [if_neg (by rw [hnm]; exact Bool.noConfusion), if_neg hin, hd]; exact if_pos hc] at q
          rw [decide_eq_true (show V.int (us.length : Int) = V.int (d.wants : Nat) by rw [hul, hc])]
          walk_at "rd"
          exact q _ (s1.trans hN2.same)
        · rw [show refHead as r = some .BadCount by unfold refHead; rw [if_neg (by rw [hnm]; exact Bool.noConfusion), if_neg hin, hd]; exact if_neg hc] at q
          rw [decide_eq_false (show ¬ V.int (us.length : Int) = V.int (d.wants : Nat) from fun z => hc (by have := V.int.inj z; omega))]
          walk_at "rd"
          refine ⟨⟨r.name, rfl, hn1⟩, ?_⟩
          walk_at "rd"
          refine ⟨⟨r.word, rfl, hw1⟩, ?_⟩
          walk_at "rd"
          intro z'
          walk_at "rd"
          exact ⟨by show 1 ≤ sizeLine; decide, q _ (s1.trans hN2.same)⟩
def spCRows (CE : Xk → Addr) : Sp := fun vs H Q E => ∃ (p : Addr) (us : List V) (rs : List RowX), vs = [.ref p] ∧ H p = some (.lst us) ∧ RowsXAt H rs us ∧ (∀ r ∈ rs, RowSm r) ∧ rs.length ≤ 100 ∧ Out CE (refRows rs) H Q E
theorem d_crows (T : Txt K mg C CE) (Kb : K.In base) (G : base.Ns mainGlobals mg) : DfX P w K mg base 4 "check_rows" ["rows"] (spCRows CE) := by
  have Dcheck_head : DfX P w K mg base 3 "check_head" ["name", "word", "reads", "above"] (spCHead CE) := d_chead T Kb G
  have Dcheck_read : DfX P w K mg base 2 "check_read" ["read", "names", "above"] (spCRead CE) := d_cread T Kb G
  refine T.f_crows.dfX Kb G sc_check_rows (fun _ _ _ _ _ _ us hl => match us, hl with | [_], _ => rfl) (by rintro vs H Q E ⟨p, us, rs, rfl, _⟩; rfl) (fun f cdv A outer s H vs Q E hr h => ?_)
  obtain ⟨p, us, rs, rfl, hp, hu, hsm, h100, q⟩ := h
  refine ⟨_, (pss_cons (ps_if (pt_not (pt_chain op_le op_le pe_int (pe_callB call_len_seq rfl T.nlen PySem.boot_len (pa_cons (pv 0) pa_nil (se rfl)) (he := se rfl) (hpl := nst rfl)) (pe_val T.v_MOST_ROWS rfl))) (pss_one (ps_raise (ES := fun _ c d H' => E c d H') T.x_BadRows rfl (fun _ _ z => z) rfl (pa_cons pe_str pa_nil (se rfl)) (he := se rfl) (hpl := nst rfl))) pss_nil)
    (pss_cons (ps_lc (i := 1) sc_check_rows.nd rfl rfl (by with_unfolding_all rfl) (Blk.of (caps := []) (ix := []) rfl) rfl (pi_list (pv 0)) (fun _ _ _ _ => pf_nil) (fun _ _ _ _ => (pe_ix (ix_seqK (K := K) rfl) (pv 0) pe_int (fun _ _ => rfl))))
    (pss_one (ps_for (passes_own own_cxX) rfl (pi_enum rfl T.nenumerate (pa_cons (pv 0) pa_nil (se rfl))) (pg_tup rfl (pgs_cons (pg_name (i := 2) sc_check_rows.nd rfl (Or.inl rfl)) (pgs_cons (pg_name (i := 3) sc_check_rows.nd rfl (Or.inl rfl)) pgs_nil)))
      (pss_cons (ps_set (i := 4) sc_check_rows.nd rfl (by first | exact Or.inl rfl | exact Or.inr rfl) (pe_slice sl_listA (pv 1) po_none (po_some (pv 2))))
    (pss_cons (ps_expr (pe_callX (ES := fun _ c d H' => E c d H') Dcheck_head (hr.mono (by decide)) (fun _ _ z => z) rfl (pa_cons (pe_ix ix_seq (pv 3) pe_int (fun _ _ => rfl)) (pa_cons (pe_ix ix_seq (pv 3) pe_int (fun _ _ => rfl)) (pa_cons (pe_ix ix_seq (pv 3) pe_int (fun _ _ => rfl)) (pa_cons (pv 4) pa_nil (se rfl)) (se rfl)) (se rfl)) (se rfl)) (he := se rfl) (hpl := nst rfl)))
    (pss_one (ps_for (passes_own own_cxX) rfl (pi_tup (pe_ix ix_seq (pv 3) pe_int (fun _ _ => rfl))) (pg_name (i := 5) sc_check_rows.nd rfl (Or.inl rfl))
      (pss_one (ps_expr (pe_callX (ES := fun _ c d H' => E c d H') Dcheck_read (hr.mono (by decide)) (fun _ _ z => z) rfl (pa_cons (pv 5) (pa_cons (pv 1) (pa_cons (pv 4) pa_nil (se rfl)) (se rfl)) (se rfl)) (he := se rfl) (hpl := nst rfl)))))))))))), ?_⟩
  have l1 := hu.len
  have lb := line_big
  walk_at "rd"
  refine ⟨_, _, rfl, .inl (sqL_inj_of hp), ?_⟩
  walk_at "rd"
  by_cases hlen : 1 ≤ rs.length ∧ rs.length ≤ 12
  · refine i_iteDt (by omega) ?_
    walk_at "rd"
    rw [decide_eq_true (show (us.length : Int) ≤ 12 by omega)]
    walk_at "rd"
    refine i_setLc (i_lc (i_list ?_))
    walk_at "rd"
    refine lcNL us (fun D i y H' => ∃ r, rs[i]? = some r ∧ y = .str r.name) (sqL_inj_of hp) (by omega) (fun D i y H' H'' _ h => h) (fun D i v H' R hv hD hy s r => ?_) (fun D ys H1 hD s1 hHD hyl hP => ?_)
    · have hir : i < rs.length := by rw [l1]; exact (List.getElem?_eq_some_iff.mp hv).1
      have hri := List.getElem?_eq_getElem hir
      obtain ⟨p1, p2, vs, rfl, h1, h2, h3⟩ := (hu.at_ i rs[i] v hri hv).same s
      walk_at "rd"
      refine i_ixT (.inl (.inl h1)) (show atI _ 0 = some (.str rs[i].name) from rfl) ?_
      exact r _ _ (Same.refl _) ⟨rs[i], hri, rfl⟩
    have hnp : H1 D = some (.lst (List.map V.str (rs.map (·.name)))) := by
      rw [hHD]
      congr 1; congr 1
      refine List.ext_getElem? fun i => ?_
      rw [List.getElem?_map, List.getElem?_map]
      by_cases hi : i < ys.length
      · obtain ⟨r, hr1, hr2⟩ := hP i ys[i] (List.getElem?_eq_getElem hi)
        rw [List.getElem?_eq_getElem hi, hr2, hr1]; rfl
      · rw [List.getElem?_eq_none (by omega), List.getElem?_eq_none (by omega)]; rfl
    have eR : refRows rs = first (refAll (rs.map (·.name)) rs) := if_pos hlen
    rw [eR] at q
    generalize rs.map (·.name) = zs at *
    have eA : ∀ (i : Nat) r, rs[i]? = some r → (refAll zs rs)[i]? = some (refRow zs i r) := fun i r e => by
      unfold refAll; rw [List.getElem?_mapIdx, e]; rfl
    dsimp only
    refine i_for (i_enumI ?_)
    walk_at "rd"
    refine ⟨p, rfl, ⟨us, sqL_inj_of (s1 _ _ hp)⟩, ?_⟩
    refine for_enum (xs := us) (fun i σ H' => Same H1 H' ∧ (∀ j, j < i → (refAll zs rs)[j]? = some none) ∧ ∃ x2 x3 x4 x5, σ = [some (.ref p), some (.ref D), x2, x3, x4, x5]) ⟨Same.refl _, fun j hj => absurd hj (Nat.not_lt_zero _), none, none, none, none, rfl⟩ (fun i σ H' _ h => sqL_inj_of (h.1 _ _ (s1 _ _ hp))) ?_ ?_
    · rintro i u t σ H2 H3 hui ⟨s2, hno, x2, x3, x4, x5, rfl⟩ hN3
      have s3 := s2.trans hN3.same
      have hir : i < rs.length := by rw [l1]; exact (List.getElem?_eq_some_iff.mp hui).1
      have hri := List.getElem?_eq_getElem hir
      have rsm := hsm rs[i] (List.getElem_mem hir)
      have rat := (hu.at_ i rs[i] u hri hui).same (s1.trans s3)
      have eAi := eA i rs[i] hri
      generalize rs[i] = rw at *
      have hE : ∀ e, refRow zs i rw = some e → ∀ H2, Same H H2 → E (.ref (CE e)) none H2 := fun e he => by
        rw [he] at eAi
        rw [first_at hno eAi] at q
        exact q
      obtain ⟨p1, p2, vs, rfl, r1, r2, r3⟩ := rat
      have r3l := r3.len
      refine i_gtup hN3.tup rfl ?_
      walk_at "rd"
      refine i_slLA (sqL_inj_of (s3 _ _ hnp)) fun ap H4 hN4 => ?_
      rw [cutV_take, ← List.map_take] at hN4
      have s4 := s3.trans hN4.same
      walk_at "rd"
      refine i_ixT (.inl (.inl (hN4.same _ _ r1))) (show atI _ 0 = some (.str rw.name) from rfl) ?_
      walk_at "rd"
      refine i_ixT (.inl (.inl (hN4.same _ _ r1))) (show atI _ 1 = some (.str rw.word) from rfl) ?_
      walk_at "rd"
      refine i_ixT (.inl (.inl (hN4.same _ _ r1))) (show atI _ 2 = some (.ref p1) from rfl) ?_
      walk_at "rd"
      refine ⟨rw, p1, ap, vs, zs.take i, rfl, rsm, hN4.same _ _ r2, r3l.symm, hN4.at, ?_⟩
      cases hh : refHead (zs.take i) rw with
      | some e => exact fun H5 s5 => hE e (by unfold refRow; rw [hh]) H5 ((s1.trans s4).trans s5)
      | none =>
        intro H5 s5
        have eRow : refRow zs i rw = first (rw.reads.map (refRd zs (zs.take i))) := by unfold refRow; rw [hh]
        walk_at "rd"
        dsimp only
        refine i_for (i_tupI ?_)
        walk_at "rd"
        refine i_ixT (.inl (.inl (s5 _ _ (hN4.same _ _ r1)))) (show atI _ 2 = some (.ref p1) from rfl) ?_
        have r2' := s5 _ _ (hN4.same _ _ r2)
        refine ⟨p1, rfl, ⟨vs, .inl (.inl r2')⟩, ?_⟩
        refine for_tup (xs := vs) (fun j σ H' => Same H5 H' ∧ (∀ j', j' < j → (rw.reads.map (refRd zs (zs.take i)))[j']? = some none) ∧ ∃ x5, σ = [some (.ref p), some (.ref D), some (.int (i : Int)), some (.ref p2), some (.ref ap), x5]) ⟨Same.refl _, fun j hj => absurd hj (Nat.not_lt_zero _), x5, rfl⟩ (fun j σ H' _ h => .inl (.inl (h.1 _ _ r2'))) ?_ ?_
        · rintro j v σ H' hvj ⟨s6, hno2, x5, rfl⟩
          have hjr : j < rw.reads.length := by rw [r3l]; exact (List.getElem?_eq_some_iff.mp hvj).1
          have hrj := List.getElem?_eq_getElem hjr
          have ra := ((((r3.at_ j rw.reads[j] v hrj hvj).same hN4.same).same s5).same s6)
          have ro := rsm.reads rw.reads[j] (List.getElem_mem hjr)
          have eJ : (rw.reads.map (refRd zs (zs.take i)))[j]? = some (refRd zs (zs.take i) rw.reads[j]) := by rw [List.getElem?_map, hrj]; rfl
          generalize rw.reads[j] = rd at *
          walk_at "rd"
          refine ⟨v, D, ap, zs, zs.take i, rd, rfl, ((s4.trans s5).trans s6) _ _ hnp, s6 _ _ (s5 _ _ hN4.at), ra, ro, ?_⟩
          cases hr2 : refRd zs (zs.take i) rd with
          | some e =>
            rw [hr2] at eJ
            exact fun H7 s7 => hE e (by rw [eRow]; exact first_at hno2 eJ) H7 ((((s1.trans s4).trans s5).trans s6).trans s7)
          | none =>
            intro H7 s7
            rw [hr2] at eJ
            walk_at "rd"
            refine ⟨s6.trans s7, fun j' hj' => ?_, _, rfl⟩
            by_cases e : j' = j
            · rw [e]; exact eJ
            · exact hno2 j' (by omega)
        · rintro σ H' ⟨s6, hno2, x5, rfl⟩
          refine ⟨(s4.trans s5).trans s6, fun j hj => ?_, _, _, _, _, rfl⟩
          by_cases e : j = i
          · rw [e, eAi, eRow, first_none fun j' hj' => hno2 j' (by rw [List.length_map] at hj'; omega)]
          · exact hno j (by omega)
    · rintro σ H2 ⟨s2, hno, x2, x3, x4, x5, rfl⟩
      rw [first_none (l := refAll zs rs) fun j hj => hno j (by unfold refAll at hj; rw [List.length_mapIdx] at hj; omega)] at q
      exact q _ (s1.trans s2)
  · rw [show refRows rs = some .BadRows from if_neg hlen] at q
    refine i_iteD (fun h1 => ?_) (fun h1 => ?_)
    · walk_at "rd"
      rw [decide_eq_false (show ¬ (us.length : Int) ≤ 12 by omega)]
      walk_at "rd"
      exact ⟨by show 1 ≤ sizeLine; decide, q _ (Same.refl _)⟩
    · walk_at "rd"
      exact ⟨by show 1 ≤ sizeLine; decide, q _ (Same.refl _)⟩
def spCopy : Sp := fun vs H Q _ => ∃ (u : V) (r : RowX), vs = [u] ∧ r.reads.length ≤ 100 ∧ RowXAt H r u ∧ ∀ v H2, Same H H2 → RowXAt H2 r v → Q v H2
theorem d_copy (T : Txt K mg C CE) (Kb : K.In base) (G : base.Ns mainGlobals mg) : Df P w K mg base 1 "copy_of_row" ["row"] spCopy := by
  refine T.f_copy.df Kb G sc_copy_of_row (fun _ _ _ _ _ _ us hl => match us, hl with | [_], _ => rfl) (by rintro vs H Q E ⟨u, r, rfl, _⟩; rfl) (fun f cdv A outer s H vs Q E hr h => ?_)
  obtain ⟨u, r, rfl, hl3, hrow, q⟩ := h
  obtain ⟨p1, p2, vs, rfl, r1, r2, r3⟩ := hrow
  have r3l := r3.len
  have lb := line_big
  refine ⟨_, (pss_cons (ps_lc (i := 1) sc_copy_of_row.nd rfl rfl (by with_unfolding_all rfl) (Blk.of (caps := []) (ix := []) rfl) rfl (pi_tup (pe_ix ix_seq (pv 0) pe_int (fun _ _ => rfl))) (fun _ _ _ _ => pf_nil) (fun _ _ _ _ => (pe_ifExp (pt_val (pe_callB (call_isiK (K := K) rfl) rfl T.nisi PyProof.Rows.boot_isinstance (pa_cons (pv 0) (pa_cons (pe_bltn (v := .ty "int") rfl T.nint PyProof.Rows.boot_int rfl) pa_nil (se rfl)) (se rfl)) (he := se rfl) (hpl := nst rfl))) (pv 0) (pe_callTy (call_tupleK (K := K) rfl) rfl T.ntuple PyProof.Rows.boot_tuple (pa_cons (pv 0) pa_nil (se rfl)) (he := se rfl) (hpl := nst rfl)))))
    (pss_one (ps_ret (pe_tupA (pa_cons (pe_ix ix_seq (pv 0) pe_int (fun _ _ => rfl)) (pa_cons (pe_ix ix_seq (pv 0) pe_int (fun _ _ => rfl)) (pa_cons (pe_callTy call_tupleA rfl T.ntuple PyProof.Rows.boot_tuple (pa_cons (pv 1) pa_nil (se rfl)) (he := se rfl) (hpl := nst rfl)) pa_nil (se rfl)) (se rfl)) (se rfl)))))), ?_⟩
  walk_at "rd"
  refine i_setLc (i_lc (i_tupI ?_))
  walk_at "rd"
  refine i_ixT (.inl (.inl r1)) (show atI _ 2 = some (.ref p1) from rfl) ?_
  refine lcT vs id (.inl (.inl r2)) (by omega) (fun i v H' R hv s k => ?_) (fun D H1 hN1 => ?_)
  · have hir : i < r.reads.length := by rw [r3l]; exact (List.getElem?_eq_some_iff.mp hv).1
    have ra := (r3.at_ i r.reads[i] v (List.getElem?_eq_getElem hir) hv).same s
    generalize r.reads[i] = rd at *
    cases rd with
    | num i =>
      have e : v = .int i := ra
      subst e
      walk_at "rd"
      refine i_isiI T.kII ?_
      walk_at "rd"
      exact k
    | back z b =>
      obtain ⟨t, rfl, ht⟩ := ra
      walk_at "rd"
      refine i_isiT ht T.kTI ?_
      walk_at "rd"
      refine i_tupleAT (.inl (.inl ht)) ?_
      exact k
  rw [List.map_id] at hN1
  walk_at "rd"
  have r1' := hN1.same _ _ r1
  refine i_ixT (.inl (.inl r1')) (show atI _ 0 = some (.str r.name) from rfl) ?_
  walk_at "rd"
  refine i_ixT (.inl (.inl r1')) (show atI _ 1 = some (.str r.word) from rfl) ?_
  walk_at "rd"
  refine i_tupleAL hN1.lst fun p3 H2 hN2 => ?_
  walk_at "rd"
  refine ⟨by show 3 ≤ sizeLine; decide, fun p4 H3 hN3 => ?_⟩
  have s3 := (hN1.same.trans hN2.same).trans hN3.same
  exact q _ _ s3 ⟨p3, p4, vs, rfl, hN3.at, hN3.same _ _ hN2.at, r3.same s3⟩
def IntD (kvs : List (Key × V)) : Prop := ∀ y : Str, ∃ i : Int, (valV kvs (Sum.inr y)).getD (.int 0) = .int i
theorem IntD.put {kvs : List (Key × V)} (h : IntD kvs) (y : Str) (b : Int) : IntD (putK kvs (Sum.inr y) (.int b)) := by
  intro z
  rw [valV_put]
  by_cases hz : (Sum.inr z : Key) = Sum.inr y
  · rw [if_pos hz]; exact ⟨b, rfl⟩
  · rw [if_neg hz]; exact h z
def spDepths : Sp := fun vs H Q _ => ∃ (p : Addr) (us : List V) (rs : List RowX), vs = [.ref p] ∧ H p = some (.lst us) ∧ RowsXAt H rs us ∧ rs.length ≤ 12 ∧ (∀ r ∈ rs, r.reads.length ≤ 100) ∧ ∀ d H2, Same H H2 → Q (.ref d) H2
theorem d_depths (T : Txt K mg C CE) (Kb : K.In base) (G : base.Ns mainGlobals mg) : Df P w K mg base 1 "depths_of" ["rows"] spDepths := by
  refine T.f_depths.df Kb G sc_depths_of (fun _ _ _ _ _ _ us hl => match us, hl with | [_], _ => rfl) (by rintro vs H Q E ⟨p, us, rs, rfl, _⟩; rfl) (fun f cdv A outer s H vs Q E hr h => ?_)
  obtain ⟨p, us, rs, rfl, hp, hu, h12, h3, q⟩ := h
  refine ⟨_, (pss_cons (ps_set (i := 1) sc_depths_of.nd rfl (by first | exact Or.inl rfl | exact Or.inr rfl) pe_dnewK)
    (pss_cons (ps_for PassesOwn.never rfl (pi_list (pv 0)) (pg_name (i := 2) sc_depths_of.nd rfl (Or.inl rfl))
      (pss_one (ps_for PassesOwn.never rfl (pi_tup (pe_ix ix_seq (pv 2) pe_int (fun _ _ => rfl))) (pg_name (i := 3) sc_depths_of.nd rfl (Or.inl rfl))
      (pss_one (ps_join (ps_if (pt_not (pt_val (pe_callB call_isi rfl T.nisi PyProof.Rows.boot_isinstance (pa_cons (pv 3) (pa_cons (pe_bltn (v := .ty "int") rfl T.nint PyProof.Rows.boot_int rfl) pa_nil (se rfl)) (se rfl)) (he := se rfl) (hpl := nst rfl)))) (pss_one (ps_dput (hu_of hr) (pv 1) (pe_ix ix_seq (pv 3) pe_int (fun _ _ => rfl)) (pe_callB (call_max2 rfl) rfl T.nmax PyProof.Rows.boot_max (pa_cons (pe_ix ix_seq (pv 3) pe_int (fun _ _ => rfl)) (pa_cons (pe_dget2 (hu_of hr) (pv 1) (pe_ix ix_seq (pv 3) pe_int (fun _ _ => rfl)) pe_int ⟨rfl, rfl, rfl, rfl⟩) pa_nil (se rfl)) (se rfl)) (he := se rfl) (hpl := nst rfl)) rfl)) pss_nil))))))
    (pss_one (ps_ret (pv 1))))), ?_⟩
  have l1 := hu.len
  have lb := line_big
  walk_at "rd"
  refine i_dnew fun d hd => ?_
  have hs0 : Same H (upd H d (.dK [])) := Same.new hd
  have hd0 : upd H d (.dK []) d = some (.dK []) := upd_same
  generalize upd H d (.dK []) = H0 at *
  walk_at "rd"
  dsimp only
  refine i_for (i_list ?_)
  walk_at "rd"
  refine ⟨p, rfl, ⟨us, sqL_inj_of (hs0 _ _ hp)⟩, ?_⟩
  refine for_list (xs := us) (fun i σ H' => Same H H' ∧ ∃ kvs x2 x3, σ = [some (.ref p), some (.ref d), x2, x3] ∧ H' d = some (.dK kvs) ∧ kvs.length ≤ 100 * i ∧ IntD kvs)
    ⟨hs0, [], none, none, rfl, hd0, Nat.zero_le _, fun z => ⟨0, rfl⟩⟩ (fun i σ H' _ h => sqL_inj_of (h.1 _ _ hp)) ?_ ?_
  · rintro i u σ H' hui ⟨s1, kvs, x2, x3, rfl, hdk, hkl, hdep⟩
    have hiu := (List.getElem?_eq_some_iff.mp hui).1
    have hir : i < rs.length := by rw [l1]; exact hiu
    have hri := List.getElem?_eq_getElem hir
    have r1 := hu.at_ i rs[i] u hri hui
    have hr3 := h3 rs[i] (List.getElem_mem hir)
    generalize rs[i] = rw at *
    obtain ⟨p1, p2, vs, rfl, h1, h2, hv⟩ := r1
    have hvl := hv.len
    walk_at "rd"
    dsimp only
    refine i_for (i_tupI ?_)
    walk_at "rd"
    refine i_ixT (.inl (.inl (s1 _ _ h1))) (show atI _ 2 = some (.ref p1) from rfl) ?_
    refine ⟨p1, rfl, ⟨vs, .inl (.inl (s1 _ _ h2))⟩, ?_⟩
    refine for_tup (xs := vs) (fun j σ H2 => Same H H2 ∧ ∃ kvs x3, σ = [some (.ref p), some (.ref d), some (.ref p2), x3] ∧ H2 d = some (.dK kvs) ∧ kvs.length ≤ 100 * i + j ∧ IntD kvs)
      ⟨s1, kvs, x3, rfl, hdk, hkl, hdep⟩ (fun j σ H2 _ h => .inl (.inl (h.1 _ _ h2))) ?_ ?_
    · rintro j v σ H2 hvj ⟨s2, kv2, x3, rfl, hd2, hk2, hdep2⟩
      have hjv := (List.getElem?_eq_some_iff.mp hvj).1
      have hjr : j < rw.reads.length := by rw [hvl]; exact hjv
      have hrj := List.getElem?_eq_getElem hjr
      have r3 := (hv.at_ j rw.reads[j] v hrj hvj).same s2
      generalize rw.reads[j] = rd at *
      walk_at "rd"
      refine i_join (fun σ' H3 => Same H H3 ∧ σ' = [some (.ref p), some (.ref d), some (.ref p2), some v] ∧ ∃ kv3, H3 d = some (.dK kv3) ∧ kv3.length ≤ 100 * i + (j + 1) ∧ IntD kv3) ?_ (fun σ' H3 ⟨a, b, kv3, c⟩ => ⟨a, kv3, _, b, c⟩)
      cases rd with
      | num i' =>
        have e : v = .int i' := r3
        subst e
        walk_at "rd"
        refine i_isiI T.kII ?_
        walk_at "rd"
        exact ⟨s2, rfl, kv2, hd2, by omega, hdep2⟩
      | back y b =>
        obtain ⟨t, rfl, ht⟩ := r3
        walk_at "rd"
        refine i_isiT ht T.kTI ?_
        walk_at "rd"
        refine i_dput ?_
        walk_at "rd"
        refine i_ixT (.inl (.inl ht)) (show atI _ 1 = some (.int b) from rfl) ?_
        walk_at "rd"
        refine i_dget2 ?_
        walk_at "rd"
        refine ⟨d, rfl, .inl ⟨kv2, .inl hd2⟩, ?_⟩
        walk_at "rd"
        refine i_ixT (.inl (.inl ht)) (show atI _ 0 = some (.str y) from rfl) ?_
        walk_at "rd"
        refine ⟨_, DGet.k (k := Sum.inr y) hd2, ?_⟩
        obtain ⟨g, hg⟩ := hdep2 y
        rw [hg]
        walk_at "rd"
        refine ⟨b, g, rfl, ?_⟩
        walk_at "rd"
        refine i_ixT (.inl (.inl ht)) (show atI _ 0 = some (.str y) from rfl) ?_
        refine ⟨d, _, rfl, DPut.k (k := Sum.inr y) hd2 (by omega), ?_⟩
        refine ⟨fun b' u e => ?_, rfl, _, upd_same, ?_, hdep2.put y _⟩
        · rw [upd_ne (ne_of_none e hd)]; exact s2 _ _ e
        · have := length_putK kv2 (Sum.inr y : Key) (.int (if g > b then g else b)); omega
    · rintro σ H2 ⟨s2, kv2, x3, rfl, hd2, hk2, hdep2⟩
      exact ⟨s2, kv2, _, _, rfl, hd2, by omega, hdep2⟩
  · rintro σ H' ⟨s1, kvs, x2, x3, rfl, hdk, hkl, hdep⟩
    walk_at "rd"
    exact q d H' s1
def TK (H H' : Hp) : Prop := ∀ b xs, H b = some (.tup xs) → H' b = some (.tup xs)
theorem TK.upd {H : Hp} {x : Addr} {o u : HO} (h : H x = some o) (n : ∀ xs, o ≠ .tup xs) : TK H (L2.upd H x u) := fun b xs e => by
  rw [upd_ne (fun z => by rw [z, h] at e; exact n xs (Option.some.inj e))]; exact e
theorem RdAt.keep {H H' : Hp} {r : Rd} {v : V} (s : TK H H') (h : RdAt H r v) : RdAt H' r v := by
  cases r with
  | num i => exact h
  | back z b => obtain ⟨a, e, q⟩ := h; exact ⟨a, e, s _ _ q⟩
theorem RowXAt.keep {H H' : Hp} {r : RowX} {v : V} (s : TK H H') (h : RowXAt H r v) : RowXAt H' r v := by
  obtain ⟨p1, p2, vs, e, h1, h2, h3⟩ := h
  exact ⟨p1, p2, vs, e, s _ _ h1, s _ _ h2, h3.len, fun i r v e1 e2 => (h3.at_ i r v e1 e2).keep s⟩
theorem RowsXAt.keep {H H' : Hp} {rs : List RowX} {us : List V} (s : TK H H') (h : RowsXAt H rs us) : RowsXAt H' rs us := ⟨h.len, fun i r u e1 e2 => (h.at_ i r u e1 e2).keep s⟩
def OutA (CE : Xk → Addr) (o : Option Xk) (Q : VK) (E : XK) : Prop := match o with
  | none => ∀ H2, Q .non H2
  | some e => ∀ H2, E (.ref (CE e)) none H2
def spInit (CE : Xk → Addr) : Sp := fun vs H Q E => ∃ (x dx p : Addr) (m : Int) (us : List V) (rs : List RowX), vs = [.ref x, .int m, .ref p] ∧ H x = some (.ins (CE .Loop) dx []) ∧ H p = some (.lst us) ∧ RowsXAt H rs us ∧ (∀ r ∈ rs, RowSm r) ∧ rs.length ≤ 100 ∧ OutA CE (refLoop m rs) Q E
theorem mk_loop (T : Txt K mg C CE) (Kb : K.In base) (G : base.Ns mainGlobals mg) : MkX P w K mg base 5 (CE .Loop) ["self", "measure", "rows"] (spInit CE) := by
  have Dcheck_measure : DfX P w K mg base 1 "check_measure" ["measure"] (spCMeas CE) := d_cmeas T Kb G
  have Dcheck_rows : DfX P w K mg base 4 "check_rows" ["rows"] (spCRows CE) := d_crows T Kb G
  have Dcopy_of_row : Df P w K mg base 1 "copy_of_row" ["row"] spCopy := d_copy T Kb G
  have Ddepths_of : Df P w K mg base 1 "depths_of" ["rows"] spDepths := d_depths T Kb G
  refine T.i_Loop.mkx sc_Loop___init__ (fun _ _ _ _ _ _ us hl => match us, hl with | [_, _, _], _ => rfl) (by rintro vs H Q E ⟨x, dx, p, m, us, rs, rfl, _⟩; rfl) (fun f cdv A outer s H vs Q E hr h => ?_)
  obtain ⟨x, dx, p, m, us, rs, rfl, hx, hp, hu, hsm, h100, q⟩ := h
  refine ⟨_, (pss_cons (ps_expr (pe_callX (ES := fun _ c d H' => E c d H') Dcheck_measure (hr.mono (by decide)) (fun _ _ z => z) rfl (pa_cons (pv 1) pa_nil (se rfl)) (he := se rfl) (hpl := nst rfl)))
    (pss_cons (ps_expr (pe_callX (ES := fun _ c d H' => E c d H') Dcheck_rows (hr.mono (by decide)) (fun _ _ z => z) rfl (pa_cons (pv 2) pa_nil (se rfl)) (he := se rfl) (hpl := nst rfl)))
    (pss_cons (ps_fld (pv 0) (pv 1) (by with_unfolding_all rfl))
    (pss_cons (ps_fld (pv 0) (pe_lc (Blk.of (caps := []) (ix := []) rfl) rfl (pi_list (pv 2)) (fun _ _ _ _ => pf_nil) (fun _ _ _ _ => (pe_callD Dcopy_of_row (hr.mono (by decide)) rfl (pa_cons (pv 0) pa_nil (se rfl)) (he := se rfl) (hpl := nst rfl)))) (by with_unfolding_all rfl))
    (pss_one (ps_fld (pv 0) (pe_callD Ddepths_of (hr.mono (by decide)) rfl (pa_cons (pe_fld (pv 0) rfl) pa_nil (se rfl)) (he := se rfl) (hpl := nst rfl)) (by with_unfolding_all rfl))))))), ?_⟩
  have l1 := hu.len
  have lb := line_big
  walk_at "rd"
  refine ⟨m, rfl, ?_⟩
  cases hM : refM m with
  | some e =>
    rw [show refLoop m rs = some e by unfold refLoop; rw [hM]] at q
    exact fun H2 _ => q H2
  | none =>
  rw [show refLoop m rs = refRows rs by unfold refLoop; rw [hM]] at q
  intro H0 s0
  clear hM
  walk_at "rd"
  refine ⟨p, us, rs, rfl, s0 _ _ hp, hu.same s0, hsm, h100, ?_⟩
  cases hR : refRows rs with
  | some e =>
    rw [hR] at q
    exact fun H2 _ => q H2
  | none =>
  have h12 : rs.length ≤ 12 := by
    by_cases h : 1 ≤ rs.length ∧ rs.length ≤ 12
    · exact h.2
    · rw [show refRows rs = some .BadRows from if_neg h] at hR; cases hR
  rw [hR] at q
  intro H1 s1'
  have s1 := s0.trans s1'
  walk_at "rd"
  refine i_setFld ?_
  walk_at "rd"
  refine ⟨x, _, dx, [], rfl, s1 _ _ hx, T.i_Loop.cl, T.nM, by show 0 < 1000; decide, ?_⟩
  have x2 : upd H1 x (.ins (CE .Loop) dx (putF (Str.ofString "measure") (.int m) [])) x = some (.ins (CE .Loop) dx (putF (Str.ofString "measure") (.int m) [])) := upd_same
  have u2 : RowsXAt (upd H1 x (.ins (CE .Loop) dx (putF (Str.ofString "measure") (.int m) []))) rs us := (hu.same s1).keep (TK.upd (s1 _ _ hx) (by intro xs z; cases z))
  have hpx : p ≠ x := ne_of hp hx (by intro z; cases z)
  have p2 : upd H1 x (.ins (CE .Loop) dx (putF (Str.ofString "measure") (.int m) [])) p = some (.lst us) := by rw [upd_ne hpx]; exact s1 _ _ hp
  generalize upd H1 x (.ins (CE .Loop) dx (putF (Str.ofString "measure") (.int m) [])) = H2 at *
  walk_at "rd"
  dsimp only
  refine i_setFld ?_
  refine i_lc (i_list ?_)
  walk_at "rd"
  refine lcNL us (fun D i y H' => ∃ r, rs[i]? = some r ∧ RowXAt (hide D H') r y) (sqL_inj_of p2) (by omega) (fun D i y H' H'' s' h => ?_) (fun D i v H' R hv hD hy s' r => ?_) (fun k ws H3 hk s3 hk3 hwl hP => ?_)
  · obtain ⟨r, e1, e2⟩ := h
    exact ⟨r, e1, e2.same (hide_sameB s')⟩
  · obtain ⟨ys, hy⟩ := hy
    have hir : i < rs.length := by rw [l1]; exact (List.getElem?_eq_some_iff.mp hv).1
    have hri := List.getElem?_eq_getElem hir
    walk_at "rd"
    refine ⟨v, rs[i], rfl, (hsm _ (List.getElem_mem hir)).many, (u2.at_ i rs[i] v hri hv).same s', fun v' H'' s'' hrow => ?_⟩
    exact r v' H'' s'' ⟨rs[i], hri, hrow.hide (s'' _ _ hy)⟩
  have w3 : RowsXAt H3 rs ws := ⟨by omega, fun i r u e1 e2 => by
    obtain ⟨r', e3, e4⟩ := hP i u e2
    rw [e1] at e3; cases e3
    exact e4.same (hide_same k H3)⟩
  have x3 := s3 _ _ x2
  have hkx : k ≠ x := fun z => by rw [z, x2] at hk; cases hk
  walk_at "rd"
  refine ⟨x, _, dx, _, rfl, x3, T.i_Loop.cl, T.nK, (show 1 < 1000 by decide), ?_⟩
  have x4 : upd H3 x (.ins (CE .Loop) dx (putF (Str.ofString "kept") (.ref k) (putF (Str.ofString "measure") (.int m) []))) x = some (.ins (CE .Loop) dx (putF (Str.ofString "kept") (.ref k) (putF (Str.ofString "measure") (.int m) []))) := upd_same
  have w4 : RowsXAt (upd H3 x (.ins (CE .Loop) dx (putF (Str.ofString "kept") (.ref k) (putF (Str.ofString "measure") (.int m) [])))) rs ws := w3.keep (TK.upd x3 (by intro xs z; cases z))
  have k4 : upd H3 x (.ins (CE .Loop) dx (putF (Str.ofString "kept") (.ref k) (putF (Str.ofString "measure") (.int m) []))) k = some (.lst ws) := by rw [upd_ne hkx]; exact hk3
  generalize upd H3 x (.ins (CE .Loop) dx (putF (Str.ofString "kept") (.ref k) (putF (Str.ofString "measure") (.int m) []))) = H4 at *
  dsimp only
  refine i_setFld ?_
  walk_at "rd"
  refine i_fld ?_
  walk_at "rd"
  refine ⟨x, _, dx, _, .ref k, rfl, x4, T.i_Loop.cl, T.nK, rfl, ?_⟩
  walk_at "rd"
  refine ⟨k, ws, rs, rfl, k4, w4, h12, fun r hr => (hsm r hr).many, fun d H5 s5 => ?_⟩
  walk_at "rd"
  refine ⟨x, _, dx, _, rfl, s5 _ _ x4, T.i_Loop.cl, T.nD, (show 2 < 1000 by decide), ?_⟩
  exact q _
def code : Option Xk → Int
  | some .BadBack => 1 | some .BadCount => 2 | some .BadName => 5 | some .BadNumber => 6 | some .BadRows => 8 | some .NoDeed => 13 | some .NoMeasure => 14 | some .NoRow => 15 | some .TooEarly => 17 | some .Twice => 18 | _ => -1
def spLIs : Sp := fun vs H Q _ => ∃ z : Str, vs = [.str z] ∧ z.length ≤ 1000 ∧ Q (.bl (isNm z)) H
theorem d_lis (T : Txt K mg C CE) (Kb : K.In base) (G : base.Ns mainGlobals mg) : Df P w K mg base 1 "_law_is_name" ["_law_text"] spLIs := by
  refine T.f_lisname.df Kb G sc_law_is_name (fun _ _ _ _ _ _ us hl => match us, hl with | [_], _ => rfl) (by rintro vs H Q E ⟨z, rfl, _⟩; rfl) (fun f cdv A outer s H vs Q E hr h => ?_)
  obtain ⟨z, rfl, hz, q⟩ := h
  refine ⟨_, (pss_cons (ps_if (PW.pt (pw_or (pt_cmpR op_lt (pe_callB call_lenS rfl T.nlen PySem.boot_len (pa_cons (pv 0) pa_nil (se rfl)) (he := se rfl) (hpl := nst rfl)) pe_int (nomark _)) (pw_or1 (pt_cmpR op_gt (pe_callB call_lenS rfl T.nlen PySem.boot_len (pa_cons (pv 0) pa_nil (se rfl)) (he := se rfl) (hpl := nst rfl)) pe_int (nomark _))))) (pss_one (ps_ret pe_bl)) pss_nil)
    (pss_cons (ps_for PassesOwn.never rfl (pi_str (pv 0)) (pg_name (i := 1) sc_law_is_name.nd rfl (Or.inl rfl))
      (pss_one (ps_if (pt_cmpR op_ninS (pv 1) pe_str (by with_unfolding_all rfl)) (pss_one (ps_ret pe_bl)) pss_nil)))
    (pss_one (ps_ret pe_bl)))), ?_⟩
  have lb := line_big
  walk_at "rd"
  refine i_lenS (by omega) ?_
  walk_at "rd"
  refine i_iteD (fun h1 => ?_) (fun h1 => ?_)
  · walk_at "rd"
    rw [show isNm z = false by unfold isNm; rw [decide_eq_false (by omega)]; rfl] at q
    exact q
  · walk_at "rd"
    refine i_lenS (by omega) ?_
    walk_at "rd"
    refine i_iteD (fun h2 => ?_) (fun h2 => ?_)
    · walk_at "rd"
      rw [show isNm z = false by unfold isNm; rw [decide_eq_false (by omega)]; rfl] at q
      exact q
    · walk_at "rd"
      refine i_for (i_strI ?_)
      walk_at "rd"
      refine ⟨z, rfl, ?_⟩
      refine for_str (fun i σ H' => H' = H ∧ (∀ j c, j < i → z.cps.toList[j]? = some c → c ∈ lets.cps.toList) ∧ ∃ x, σ = [some (.str z), x]) ⟨rfl, fun j c hj => absurd hj (Nat.not_lt_zero _), none, rfl⟩ ?_ ?_
      · rintro i c σ H' hc ⟨rfl, hno, x, rfl⟩
        walk_at "rd"
        refine i_ninS ?_
        by_cases hin : c ∈ lets.cps.toList
        · rw [decide_eq_true hin]
          walk_at "rd"
          refine ⟨rfl, fun j c' hj hc' => ?_, _, rfl⟩
          by_cases e : j = i
          · rw [e, hc] at hc'; cases hc'; exact hin
          · exact hno j c' (by omega) hc'
        · rw [decide_eq_false hin]
          walk_at "rd"
          rw [show isNm z = false by
            unfold isNm
            rw [Bool.and_eq_false_iff]
            refine .inr (Bool.eq_false_iff.mpr fun ha => hin ?_)
            exact of_decide_eq_true (List.all_eq_true.mp ha c (List.mem_iff_getElem?.mpr ⟨i, hc⟩))] at q
          exact q
      · rintro σ H' ⟨rfl, hno, x, rfl⟩
        walk_at "rd"
        rw [show isNm z = true by
          unfold isNm
          rw [decide_eq_true (show 1 ≤ z.length ∧ z.length ≤ 12 by omega), Bool.true_and, List.all_eq_true]
          intro c hc
          obtain ⟨j, hj⟩ := List.mem_iff_getElem?.mp hc
          have hjl : j < z.cps.size := by have := (List.getElem?_eq_some_iff.mp hj).1; rwa [Array.length_toList] at this
          exact decide_eq_true (hno j c hjl hj)] at q
        exact q
def spRDue : Sp := fun vs H Q _ => ∃ (np : Addr) (zs : List Str) (k : Nat) (v : V) (rd : Rd), vs = [.ref np, .int (k : Int), v] ∧ H np = some (.lst (List.map V.str zs)) ∧ RdAt H rd v ∧ ∀ H2, Same H H2 → Q (.int (code (refRd zs (zs.take k) rd))) H2
theorem two_at (a b : Int) (c : Bool) : atI [V.int a, V.int b] (if c then 1 else 0) = some (.int (if c then b else a)) := by cases c <;> rfl
theorem d_rdue (T : Txt K mg C CE) (Kb : K.In base) (G : base.Ns mainGlobals mg) : Df P w K mg base 1 "_law_read_due" ["_law_names_here", "_law_at", "_law_read"] spRDue := by
  refine T.f_rdue.df Kb G sc_law_read_due (fun _ _ _ _ _ _ us hl => match us, hl with | [_, _, _], _ => rfl) (by rintro vs H Q E ⟨np, zs, k, v, rd, rfl, _⟩; rfl) (fun f cdv A outer s H vs Q E hr h => ?_)
  obtain ⟨np, zs, k, v, rd, rfl, hnp, hrd, q⟩ := h
  refine ⟨_, (pss_cons (ps_if (pt_not (pt_val (pe_callB call_isi rfl T.nisi PyProof.Rows.boot_isinstance (pa_cons (pv 2) (pa_cons (pe_bltn (v := .ty "tuple") rfl T.ntuple PyProof.Rows.boot_tuple rfl) pa_nil (se rfl)) (se rfl)) (he := se rfl) (hpl := nst rfl)))) (pss_one (ps_ret (pe_ix ix_seq (pe_lstA (pa_cons (pe_un un_neg pe_int) (pa_cons pe_int pa_nil (se rfl)) (se rfl))) (pe_callTy call_int1 rfl T.nint PyProof.Rows.boot_int (pa_cons (pe_or (pe_cmpR op_lt (pv 2) pe_int (nomark _)) (pe_one (pe_cmpR op_ge (pv 2) (pe_op op_pow pe_int pe_int) (nomark _)))) pa_nil (se rfl)) (he := se rfl) (hpl := nst rfl)) (fun _ _ => rfl)))) pss_nil)
    (pss_cons (ps_if (pt_cmpR op_notIn_seq (pe_ix ix_seq (pv 2) pe_int (fun _ _ => rfl)) (pv 0) (by with_unfolding_all rfl)) (pss_one (ps_ret pe_int)) pss_nil)
    (pss_cons (ps_if (PW.pt (pw_or (pt_cmpR op_lt (pe_ix ix_seq (pv 2) pe_int (fun _ _ => rfl)) pe_int (nomark _)) (pw_or1 (pt_cmpR op_gt (pe_ix ix_seq (pv 2) pe_int (fun _ _ => rfl)) pe_int (nomark _))))) (pss_one (ps_ret pe_int)) pss_nil)
    (pss_one (ps_ret (pe_ix ix_seq (pe_lstA (pa_cons (pe_un un_neg pe_int) (pa_cons pe_int pa_nil (se rfl)) (se rfl))) (pe_callTy call_int1 rfl T.nint PyProof.Rows.boot_int (pa_cons (pe_and (pe_cmpR op_eq (pe_ix ix_seq (pv 2) pe_int (fun _ _ => rfl)) pe_int (nomark _)) (pe_one (pe_cmpR op_notIn_seq (pe_ix ix_seq (pv 2) pe_int (fun _ _ => rfl)) (pe_slice sl_listA (pv 0) po_none (po_some (pv 1))) (by with_unfolding_all rfl)))) pa_nil (se rfl)) (he := se rfl) (hpl := nst rfl)) (fun _ _ => rfl))))))), ?_⟩
  cases rd with
  | num i =>
    have e : v = .int i := hrd
    subst e
    walk_at "rd"
    refine ⟨_, _, _, _, rfl, rfl, .int i, T.kIT, ?_⟩
    walk_at "rd"
    refine ⟨by show 2 ≤ sizeLine; decide, fun p H2 hN => ?_⟩
    walk_at "rd"
    by_cases h0 : i < 0
    · refine i_iteDt h0 ?_
      walk_at "rd"
      refine .inr ⟨_, rfl, ?_⟩
      refine i_ixL hN.lst (two_at (-1) 6 true) ?_
      have := q _ hN.same
      rw [show refRd zs (zs.take k) (.num i) = some .BadNumber from if_neg fun z => by omega] at this
      exact this
    · refine i_iteDf h0 ?_
      walk_at "rd"
      refine .inr ⟨_, rfl, ?_⟩
      refine i_ixL hN.lst (two_at (-1) 6 _) ?_
      have := q _ hN.same
      by_cases h1 : i ≥ 10 ^ (60 : Int).toNat
      · rw [show refRd zs (zs.take k) (.num i) = some .BadNumber from if_neg fun z => by have := z.2; omega] at this
        rw [decide_eq_true h1]
        exact this
      · rw [show refRd zs (zs.take k) (.num i) = none from if_pos ⟨by omega, by omega⟩] at this
        rw [decide_eq_false h1]
        exact this
  | back z b =>
    obtain ⟨t, rfl, ht⟩ := hrd
    walk_at "rd"
    refine i_isiT ht T.kTT ?_
    walk_at "rd"
    refine i_ixT (.inl (.inl ht)) (show atI _ 0 = some (.str z) from rfl) ?_
    walk_at "rd"
    refine i_ninL (sqL_inj_of hnp) rfl (flat_strs zs) ?_
    by_cases hm : z ∈ zs
    · rw [inV_mem hm]
      walk_at "rd"
      refine i_ixT (.inl (.inl ht)) (show atI _ 1 = some (.int b) from rfl) ?_
      walk_at "rd"
      by_cases hb : 0 ≤ b ∧ b ≤ 6
      · refine i_iteDf (by omega) ?_
        walk_at "rd"
        refine i_ixT (.inl (.inl ht)) (show atI _ 1 = some (.int b) from rfl) ?_
        walk_at "rd"
        refine i_iteDf (by omega) ?_
        walk_at "rd"
        refine ⟨by show 2 ≤ sizeLine; decide, fun p H2 hN => ?_⟩
        walk_at "rd"
        refine i_ixT (.inl (.inl (hN.same _ _ ht))) (show atI _ 1 = some (.int b) from rfl) ?_
        walk_at "rd"
        refine i_iteI (fun h0 => ?_) (fun h0 => ?_)
        · walk_at "rd"
          refine i_ixT (.inl (.inl (hN.same _ _ ht))) (show atI _ 0 = some (.str z) from rfl) ?_
          walk_at "rd"
          refine i_slLA (sqL_inj_of (hN.same _ _ hnp)) fun ap H4 hN4 => ?_
          rw [cutV_take, ← List.map_take] at hN4
          refine i_ninL hN4.lst rfl (flat_strs _) ?_
          refine .inr ⟨_, rfl, ?_⟩
          refine i_ixL (sqL_inj_of (hN4.same _ _ hN.at)) (two_at (-1) 17 _) ?_
          have := q _ (hN.same.trans hN4.same)
          by_cases ha : z ∈ zs.take k
          · rw [show refRd zs (zs.take k) (.back z b) = none by simp only [refRd]; rw [if_neg (fun n => n hm), if_neg (fun n => n hb), if_neg (fun n => n.2 ha)]] at this
            rw [inV_mem ha]
            exact this
          · rw [show refRd zs (zs.take k) (.back z b) = some .TooEarly by simp only [refRd]; rw [if_neg (fun n => n hm), if_neg (fun n => n hb), if_pos ⟨h0, ha⟩]] at this
            rw [inV_not ha]
            exact this
        · walk_at "rd"
          refine .inr ⟨_, rfl, ?_⟩
          refine i_ixL hN.lst (two_at (-1) 17 false) ?_
          have := q _ hN.same
          rw [show refRd zs (zs.take k) (.back z b) = none by simp only [refRd]; rw [if_neg (fun n => n hm), if_neg (fun n => n hb), if_neg (fun n => h0 n.1)]] at this
          exact this
      · have := q _ (Same.refl _)
        rw [show refRd zs (zs.take k) (.back z b) = some .BadBack by simp only [refRd]; rw [if_neg (fun n => n hm), if_pos hb]] at this
        refine i_iteD (fun h1 => ?_) (fun h1 => ?_)
        · walk_at "rd"
          exact this
        · walk_at "rd"
          refine i_ixT (.inl (.inl ht)) (show atI _ 1 = some (.int b) from rfl) ?_
          walk_at "rd"
          refine i_iteDt (by omega) ?_
          walk_at "rd"
          exact this
    · rw [inV_not hm]
      walk_at "rd"
      have := q _ (Same.refl _)
      rw [show refRd zs (zs.take k) (.back z b) = some .NoRow by simp only [refRd]; rw [if_pos hm]] at this
      exact this
theorem refRd_code {zs as : List Str} {rd : Rd} {e : Xk} (h : refRd zs as rd = some e) : 0 ≤ code (some e) := by
  cases rd with
  | num i =>
    simp only [refRd] at h
    split at h
    · cases h
    · cases h; decide
  | back z b =>
    simp only [refRd] at h
    split at h
    · cases h; decide
    · split at h
      · cases h; decide
      · split at h
        · cases h; decide
        · cases h
theorem in_words {w : Str} {d : Dk} (h : dkOf w = some d) : w ∈ dks.map Dk.word := List.mem_map.mpr ⟨d, by cases d <;> decide, (dkOf_some h).symm⟩
theorem no_words {w : Str} (h : dkOf w = none) : ¬ w ∈ dks.map Dk.word := fun hm => by
  obtain ⟨d, _, e⟩ := List.mem_map.mp hm
  exact dkOf_none h d e.symm
def spDue : Sp := fun vs H Q _ => ∃ (m : Int) (p : Addr) (us : List V) (rs : List RowX), vs = [.int m, .ref p] ∧ H p = some (.lst us) ∧ RowsXAt H rs us ∧ (∀ r ∈ rs, RowSm r) ∧ rs.length ≤ 100 ∧ ∀ H2, Same H H2 → Q (.int (code (refLoop m rs))) H2
theorem d_due (T : Txt K mg C CE) (Kb : K.In base) (G : base.Ns mainGlobals mg) : Df P w K mg base 2 "_law_due" ["_law_measure_here", "_law_rows_here"] spDue := by
  have D_law_is_name : Df P w K mg base 1 "_law_is_name" ["_law_text"] spLIs := d_lis T Kb G
  have D_law_wants : Df P w K mg base 1 "_law_wants" ["_law_word"] spLWants := d_lwants T Kb G
  have D_law_read_due : Df P w K mg base 1 "_law_read_due" ["_law_names_here", "_law_at", "_law_read"] spRDue := d_rdue T Kb G
  refine T.f_due.df Kb G sc_law_due (fun _ _ _ _ _ _ us hl => match us, hl with | [_, _], _ => rfl) (by rintro vs H Q E ⟨m, p, us, rs, rfl, _⟩; rfl) (fun f cdv A outer s H vs Q E hr h => ?_)
  obtain ⟨m, p, us, rs, rfl, hp, hu, hsm, h100, q⟩ := h
  refine ⟨_, (pss_cons (ps_if (PW.pt (pw_or (pt_cmpR op_lt (pv 0) pe_int (nomark _)) (pw_or1 (pt_cmpR op_gt (pv 0) (pe_op op_pow pe_int pe_int) (nomark _))))) (pss_one (ps_ret pe_int)) pss_nil)
    (pss_cons (ps_if (PW.pt (pw_or (pt_cmpR op_lt (pe_callB call_len_seq rfl T.nlen PySem.boot_len (pa_cons (pv 1) pa_nil (se rfl)) (he := se rfl) (hpl := nst rfl)) pe_int (nomark _)) (pw_or1 (pt_cmpR op_gt (pe_callB call_len_seq rfl T.nlen PySem.boot_len (pa_cons (pv 1) pa_nil (se rfl)) (he := se rfl) (hpl := nst rfl)) pe_int (nomark _))))) (pss_one (ps_ret pe_int)) pss_nil)
    (pss_cons (ps_lc (i := 2) sc_law_due.nd rfl rfl (by with_unfolding_all rfl) (Blk.of (caps := []) (ix := []) rfl) rfl (pi_list (pv 1)) (fun _ _ _ _ => pf_nil) (fun _ _ _ _ => (pe_ix (ix_seqK (K := K) rfl) (pv 0) pe_int (fun _ _ => rfl))))
    (pss_cons (ps_for PassesOwn.never rfl (pi_enum rfl T.nenumerate (pa_cons (pv 1) pa_nil (se rfl))) (pg_tup rfl (pgs_cons (pg_name (i := 3) sc_law_due.nd rfl (Or.inl rfl)) (pgs_cons (pg_name (i := 4) sc_law_due.nd rfl (Or.inl rfl)) pgs_nil)))
      (pss_cons (ps_if (pt_not (pt_val (pe_callD D_law_is_name (hr.mono (by decide)) rfl (pa_cons (pe_ix ix_seq (pv 4) pe_int (fun _ _ => rfl)) pa_nil (se rfl)) (he := se rfl) (hpl := nst rfl)))) (pss_one (ps_ret pe_int)) pss_nil)
    (pss_cons (ps_if (pt_cmpR op_in_seq (pe_ix ix_seq (pv 4) pe_int (fun _ _ => rfl)) (pe_slice sl_listA (pv 2) po_none (po_some (pv 3))) (by with_unfolding_all rfl)) (pss_one (ps_ret pe_int)) pss_nil)
    (pss_cons (ps_if (pt_cmpR op_notIn_seq (pe_ix ix_seq (pv 4) pe_int (fun _ _ => rfl)) (pe_lstA (pa_cons pe_str (pa_cons pe_str (pa_cons pe_str (pa_cons pe_str (pa_cons pe_str (pa_cons pe_str (pa_cons pe_str (pa_cons pe_str (pa_cons pe_str pa_nil (se rfl)) (se rfl)) (se rfl)) (se rfl)) (se rfl)) (se rfl)) (se rfl)) (se rfl)) (se rfl))) (by with_unfolding_all rfl)) (pss_one (ps_ret pe_int)) pss_nil)
    (pss_cons (ps_if (pt_cmpR op_ne (pe_callB call_len_seq rfl T.nlen PySem.boot_len (pa_cons (pe_ix ix_seq (pv 4) pe_int (fun _ _ => rfl)) pa_nil (se rfl)) (he := se rfl) (hpl := nst rfl)) (pe_callD D_law_wants (hr.mono (by decide)) rfl (pa_cons (pe_ix ix_seq (pv 4) pe_int (fun _ _ => rfl)) pa_nil (se rfl)) (he := se rfl) (hpl := nst rfl)) (nomark _)) (pss_one (ps_ret pe_int)) pss_nil)
    (pss_one (ps_for PassesOwn.never rfl (pi_tup (pe_ix ix_seq (pv 4) pe_int (fun _ _ => rfl))) (pg_name (i := 5) sc_law_due.nd rfl (Or.inl rfl))
      (pss_one (ps_if (pt_cmpR op_ge (pe_callD D_law_read_due (hr.mono (by decide)) rfl (pa_cons (pv 2) (pa_cons (pv 3) (pa_cons (pv 5) pa_nil (se rfl)) (se rfl)) (se rfl)) (he := se rfl) (hpl := nst rfl)) pe_int (nomark _)) (pss_one (ps_ret (pe_callD D_law_read_due (hr.mono (by decide)) rfl (pa_cons (pv 2) (pa_cons (pv 3) (pa_cons (pv 5) pa_nil (se rfl)) (se rfl)) (se rfl)) (he := se rfl) (hpl := nst rfl)))) pss_nil)))))))))
    (pss_one (ps_ret (pe_un un_neg pe_int))))))), ?_⟩
  have l1 := hu.len
  have lb := line_big
  walk_at "rd"
  by_cases hm : 2 ≤ m ∧ m ≤ 10 ^ (60 : Int).toNat
  case neg =>
    have q' := q _ (Same.refl _)
    rw [show refLoop m rs = some .NoMeasure by unfold refLoop; rw [show refM m = some .NoMeasure from if_neg hm]] at q'
    refine i_iteD (fun h1 => ?_) (fun h1 => ?_)
    · clear hm
      walk_at "rd"
      exact q'
    · have h2 : m > 10 ^ (60 : Int).toNat := by
        by_cases h : m ≤ 10 ^ (60 : Int).toNat
        · exact absurd ⟨by omega, h⟩ hm
        · omega
      clear hm
      walk_at "rd"
      rw [decide_eq_true h2]
      clear h2
      walk_at "rd"
      exact q'
  have eM : refLoop m rs = refRows rs := by unfold refLoop; rw [show refM m = none from if_pos hm]
  rw [eM] at q
  refine i_iteDf (by omega) ?_
  have hm2 : ¬ m > 10 ^ (60 : Int).toNat := by have := hm.2; omega
  clear hm eM
  walk_at "rd"
  rw [decide_eq_false hm2]
  clear hm2
  walk_at "rd"
  refine ⟨_, _, rfl, .inl (sqL_inj_of hp), ?_⟩
  walk_at "rd"
  by_cases hlen : 1 ≤ rs.length ∧ rs.length ≤ 12
  case neg =>
    have q' := q _ (Same.refl _)
    rw [show refRows rs = some .BadRows from if_neg hlen] at q'
    refine i_iteD (fun h1 => ?_) (fun h1 => ?_)
    · walk_at "rd"
      exact q'
    · walk_at "rd"
      refine ⟨_, _, rfl, .inl (sqL_inj_of hp), ?_⟩
      walk_at "rd"
      refine i_iteDt (by omega) ?_
      walk_at "rd"
      exact q'
  refine i_iteDf (by omega) ?_
  walk_at "rd"
  refine ⟨_, _, rfl, .inl (sqL_inj_of hp), ?_⟩
  walk_at "rd"
  refine i_iteDf (by omega) ?_
  walk_at "rd"
  refine i_setLc (i_lc (i_list ?_))
  walk_at "rd"
  refine lcNL us (fun D i y H' => ∃ r, rs[i]? = some r ∧ y = .str r.name) (sqL_inj_of hp) (by omega) (fun D i y H' H'' _ h => h) (fun D i v H' R hv hD hy s r => ?_) (fun D ys H1 hD s1 hHD hyl hP => ?_)
  · have hir : i < rs.length := by rw [l1]; exact (List.getElem?_eq_some_iff.mp hv).1
    have hri := List.getElem?_eq_getElem hir
    obtain ⟨p1, p2, vs, rfl, h1, h2, h3⟩ := (hu.at_ i rs[i] v hri hv).same s
    walk_at "rd"
    refine i_ixT (.inl (.inl h1)) (show atI _ 0 = some (.str rs[i].name) from rfl) ?_
    exact r _ _ (Same.refl _) ⟨rs[i], hri, rfl⟩
  have hnp : H1 D = some (.lst (List.map V.str (rs.map (·.name)))) := by
    rw [hHD]
    congr 1; congr 1
    refine List.ext_getElem? fun i => ?_
    rw [List.getElem?_map, List.getElem?_map]
    by_cases hi : i < ys.length
    · obtain ⟨r, hr1, hr2⟩ := hP i ys[i] (List.getElem?_eq_getElem hi)
      rw [List.getElem?_eq_getElem hi, hr2, hr1]; rfl
    · rw [List.getElem?_eq_none (by omega), List.getElem?_eq_none (by omega)]; rfl
  have eR : refRows rs = first (refAll (rs.map (·.name)) rs) := if_pos hlen
  rw [eR] at q
  generalize rs.map (·.name) = zs at *
  have eA : ∀ (i : Nat) r, rs[i]? = some r → (refAll zs rs)[i]? = some (refRow zs i r) := fun i r e => by
    unfold refAll; rw [List.getElem?_mapIdx, e]; rfl
  dsimp only
  refine i_for (i_enumI ?_)
  walk_at "rd"
  refine ⟨p, rfl, ⟨us, sqL_inj_of (s1 _ _ hp)⟩, ?_⟩
  refine for_enum (xs := us) (fun i σ H' => Same H1 H' ∧ (∀ j, j < i → (refAll zs rs)[j]? = some none) ∧ ∃ x2 x3 x4, σ = [some (.int m), some (.ref p), some (.ref D), x2, x3, x4]) ⟨Same.refl _, fun j hj => absurd hj (Nat.not_lt_zero _), none, none, none, rfl⟩ (fun i σ H' _ h => sqL_inj_of (h.1 _ _ (s1 _ _ hp))) ?_ ?_
  · rintro i u t σ H2 H3 hui ⟨s2, hno, x2, x3, x4, rfl⟩ hN3
    have s3 := s2.trans hN3.same
    have hir : i < rs.length := by rw [l1]; exact (List.getElem?_eq_some_iff.mp hui).1
    have hri := List.getElem?_eq_getElem hir
    have rsm := hsm rs[i] (List.getElem_mem hir)
    have rat := (hu.at_ i rs[i] u hri hui).same (s1.trans s3)
    have eAi := eA i rs[i] hri
    generalize rs[i] = rw at *
    have hE : ∀ e, refRow zs i rw = some e → ∀ H2, Same H H2 → Q (.int (code (some e))) H2 := fun e he => by
      rw [he] at eAi
      rw [first_at hno eAi] at q
      exact q
    have hH : ∀ e, refHead (zs.take i) rw = some e → ∀ H2, Same H H2 → Q (.int (code (some e))) H2 := fun e he => hE e (by unfold refRow; rw [he])
    obtain ⟨p1, p2, vs, rfl, r1, r2, r3⟩ := rat
    have r3l := r3.len
    refine i_gtup hN3.tup rfl ?_
    walk_at "rd"
    refine i_ixT (.inl (.inl r1)) (show atI _ 0 = some (.str rw.name) from rfl) ?_
    walk_at "rd"
    refine ⟨rw.name, rfl, rsm.name.sm.1, ?_⟩
    cases hnm : isNm rw.name with
    | false =>
      walk_at "rd"
      exact hH .BadName (by unfold refHead; rw [if_pos hnm]) _ (s1.trans s3)
    | true =>
    walk_at "rd"
    refine i_ixT (.inl (.inl r1)) (show atI _ 0 = some (.str rw.name) from rfl) ?_
    walk_at "rd"
    refine i_slLA (sqL_inj_of (s3 _ _ hnp)) fun ap H4 hN4 => ?_
    rw [cutV_take, ← List.map_take] at hN4
    have s4 := s3.trans hN4.same
    refine i_inL hN4.lst rfl (flat_strs _) ?_
    by_cases hin : rw.name ∈ zs.take i
    · rw [inV_mem hin]
      walk_at "rd"
      exact hH .Twice (by unfold refHead; rw [if_neg (by rw [hnm]; exact Bool.noConfusion), if_pos hin]) _ (s1.trans s4)
    rw [inV_not hin]
    walk_at "rd"
    refine i_ixT (.inl (.inl (hN4.same _ _ r1))) (show atI _ 1 = some (.str rw.word) from rfl) ?_
    walk_at "rd"
    refine ⟨by show 9 ≤ sizeLine; decide, fun wp H5 hN5 => ?_⟩
    have s5 := s4.trans hN5.same
    refine i_ninL (xs := List.map V.str (dks.map Dk.word)) (sqL_inj_of hN5.at) rfl (flat_strs _) ?_
    cases hd : dkOf rw.word with
    | none =>
      rw [inV_not (no_words hd)]
      walk_at "rd"
      exact hH .NoDeed (by unfold refHead; rw [if_neg (by rw [hnm]; exact Bool.noConfusion), if_neg hin, hd]) _ (s1.trans s5)
    | some d =>
    rw [inV_mem (in_words hd)]
    walk_at "rd"
    have r1' := hN5.same _ _ (hN4.same _ _ r1)
    have r2' := hN5.same _ _ (hN4.same _ _ r2)
    refine i_ixT (.inl (.inl r1')) (show atI _ 2 = some (.ref p1) from rfl) ?_
    walk_at "rd"
    refine ⟨_, _, rfl, .inr (.inl (.inl r2')), ?_⟩
    walk_at "rd"
    refine i_ixT (.inl (.inl r1')) (show atI _ 1 = some (.str rw.word) from rfl) ?_
    walk_at "rd"
    refine ⟨d, by rw [dkOf_some hd]; rfl, fun H6 s6' => ?_⟩
    have s6 := s5.trans s6'
    walk_at "rd"
    by_cases hc : rw.reads.length = d.wants
    case neg =>
      rw [decide_eq_false (show ¬ V.int (vs.length : Int) = V.int (d.wants : Nat) from fun z => hc (by have := V.int.inj z; omega))]
      walk_at "rd"
      exact hH .BadCount (by unfold refHead; rw [if_neg (by rw [hnm]; exact Bool.noConfusion), if_neg hin, hd]; exact if_neg hc) _ (s1.trans s6)
    rw [decide_eq_true (show V.int (vs.length : Int) = V.int (d.wants : Nat) by rw [← r3l, hc])]
    have hhn : refHead (zs.take i) rw = none := by unfold refHead; rw [if_neg (by rw [hnm]; exact Bool.noConfusion), if_neg hin, hd]; exact if_pos hc
    have eRow : refRow zs i rw = first (rw.reads.map (refRd zs (zs.take i))) := by unfold refRow; rw [hhn]
    walk_at "rd"
    dsimp only
    refine i_for (i_tupI ?_)
    walk_at "rd"
    refine i_ixT (.inl (.inl (s6' _ _ r1'))) (show atI _ 2 = some (.ref p1) from rfl) ?_
    have r2'' := s6' _ _ r2'
    refine ⟨p1, rfl, ⟨vs, .inl (.inl r2'')⟩, ?_⟩
    refine for_tup (xs := vs) (fun j σ H' => Same H6 H' ∧ (∀ j', j' < j → (rw.reads.map (refRd zs (zs.take i)))[j']? = some none) ∧ ∃ x5, σ = [some (.int m), some (.ref p), some (.ref D), some (.int (i : Int)), some (.ref p2), x5]) ⟨Same.refl _, fun j hj => absurd hj (Nat.not_lt_zero _), x4, rfl⟩ (fun j σ H' _ h => .inl (.inl (h.1 _ _ r2''))) ?_ ?_
    · rintro j v σ H' hvj ⟨s7, hno2, x5, rfl⟩
      have hjr : j < rw.reads.length := by rw [r3l]; exact (List.getElem?_eq_some_iff.mp hvj).1
      have hrj := List.getElem?_eq_getElem hjr
      have s67 := s6.trans s7
      have ra0 := (r3.at_ j rw.reads[j] v hrj hvj).same (((hN4.same.trans hN5.same).trans s6').trans s7)
      have eJ : (rw.reads.map (refRd zs (zs.take i)))[j]? = some (refRd zs (zs.take i) rw.reads[j]) := by rw [List.getElem?_map, hrj]; rfl
      generalize rw.reads[j] = rd at *
      walk_at "rd"
      refine ⟨D, zs, i, v, rd, rfl, s67 _ _ hnp, ra0, fun H8 s8 => ?_⟩
      walk_at "rd"
      cases hr2 : refRd zs (zs.take i) rd with
      | some e =>
        rw [hr2] at eJ
        refine i_iteDt (refRd_code hr2) ?_
        walk_at "rd"
        refine ⟨D, zs, i, v, rd, rfl, s8 _ _ (s67 _ _ hnp), ra0.same s8, fun H9 s9 => ?_⟩
        rw [hr2]
        exact hE e (by rw [eRow]; exact first_at hno2 eJ) H9 (((s1.trans s67).trans s8).trans s9)
      | none =>
        rw [hr2] at eJ
        refine i_iteDf (by decide) ?_
        walk_at "rd"
        refine ⟨s7.trans s8, fun j' hj' => ?_, _, rfl⟩
        by_cases e : j' = j
        · rw [e]; exact eJ
        · exact hno2 j' (by omega)
    · rintro σ H' ⟨s7, hno2, x5, rfl⟩
      refine ⟨s6.trans s7, fun j hj => ?_, _, _, _, rfl⟩
      by_cases e : j = i
      · rw [e, eAi, eRow, first_none fun j' hj' => hno2 j' (by rw [List.length_map] at hj'; omega)]
      · exact hno j (by omega)
  · rintro σ H2 ⟨s2, hno, x2, x3, x4, rfl⟩
    rw [first_none (l := refAll zs rs) fun j hj => hno j (by unfold refAll at hj; rw [List.length_mapIdx] at hj; omega)] at q
    walk_at "rd"
    exact q _ (s1.trans s2)
def TB (B : Nat) (z : Str) : Prop := z.length ≤ B ∧ ∀ c ∈ z.cps.toList, c < 16 ^ 8
theorem TB.mono {B B' : Nat} {z : Str} (h : TB B z) (hb : B ≤ B') : TB B' z := ⟨Nat.le_trans h.1 hb, h.2⟩
theorem TB.app {A B : Nat} {x y : Str} (hx : TB A x) (hy : TB B y) : TB (A + B) (x ++ y) := by
  refine ⟨by rw [strLen_append]; have := hx.1; have := hy.1; omega, fun c hc => ?_⟩
  rw [app_list] at hc
  exact (List.mem_append.mp hc).elim (hx.2 c) (hy.2 c)
theorem TB.cut {B : Nat} {x : Str} (hx : TB B x) (lo hi : Option Int) : TB B (cutS x lo hi) :=
  ⟨Nat.le_trans (cutS_len x lo hi) hx.1, fun c hc => hx.2 c (List.mem_of_mem_drop (List.mem_of_mem_take (by simpa [cutS] using hc)))⟩
theorem TB.one {c : Nat} (h : c < 16 ^ 8) : TB 1 ⟨#[c]⟩ := ⟨Nat.le_refl 1, fun d hd => by
  have : d = c := by simpa using hd
  rw [this]; exact h⟩
theorem Lo.tb {z : Str} {B : Nat} (h : Lo z) (hl : z.length ≤ B) : TB B z := ⟨hl, fun c hc => by have := (h c hc).2; omega⟩
def RdB (B : Nat) : Rd → Prop
  | .num _ => True
  | .back z _ => TB B z
structure RowB (B R : Nat) (r : RowX) : Prop where
  name : TB B r.name
  word : TB B r.word
  many : r.reads.length ≤ R
  reads : ∀ rd ∈ r.reads, RdB B rd
def spBad : Sp := fun vs H Q _ => ∃ (z : Str) (n B : Nat), vs = [.str z, .int (n : Int)] ∧ TB B z ∧ B ≤ 60 ∧ ∀ r : Str, TB (3 * B + 13) r → Q (.str r) H
theorem d_bad (T : Txt K mg C CE) (Kb : K.In base) (G : base.Ns mainGlobals mg) : Df P w K mg base 1 "_law_bad_name" ["_law_name", "_law_number"] spBad := by
  refine T.f_bad.df Kb G sc_law_bad_name (fun _ _ _ _ _ _ us hl => match us, hl with | [_, _], _ => rfl) (by rintro vs H Q E ⟨z, n, B, rfl, _⟩; rfl) (fun f cdv A outer s H vs Q E hr h => ?_)
  obtain ⟨z, n, B, rfl, hz, hB, q⟩ := h
  refine ⟨_, (pss_cons (ps_set (i := 2) sc_law_bad_name.nd rfl (by first | exact Or.inl rfl | exact Or.inr rfl) (pe_op op_addS pe_str pe_str))
    (pss_cons (ps_if (pt_cmpR op_eq (pe_op op_mod (pv 1) pe_int) pe_int (nomark _)) (pss_one (ps_ret pe_str)) pss_nil)
    (pss_cons (ps_if (pt_cmpR op_eq (pe_op op_mod (pv 1) pe_int) pe_int (nomark _)) (pss_one (ps_ret (pe_slice sl_str (pe_op op_addS (pv 0) pe_str) po_none (po_some pe_int)))) pss_nil)
    (pss_cons (ps_set (i := 3) sc_law_bad_name.nd rfl (by first | exact Or.inl rfl | exact Or.inr rfl) (pe_op op_mod (pe_op op_fdiv (pv 1) pe_int) (pe_callB (call_max2 rfl) rfl T.nmax PyProof.Rows.boot_max (pa_cons pe_int (pa_cons (pe_callB call_lenS rfl T.nlen PySem.boot_len (pa_cons (pv 0) pa_nil (se rfl)) (he := se rfl) (hpl := nst rfl)) pa_nil (se rfl)) (se rfl)) (he := se rfl) (hpl := nst rfl))))
    (pss_one (ps_ret (pe_op op_addS (pe_op op_addS (pe_slice sl_str (pv 0) po_none (po_some (pv 3))) (pe_ix ix_seq (pv 2) (pe_op op_mod (pe_op op_fdiv (pv 1) pe_int) pe_int) (fun _ _ => rfl))) (pe_slice sl_str (pv 0) (po_some (pe_op op_add (pv 3) pe_int)) po_none)))))))), ?_⟩
  have lb := line_big
  have hzl := hz.1
  walk_at "rd"
  refine i_addS (by decide +kernel) ?_
  walk_at "rd"
  refine i_iteI (fun _ => ?_) (fun _ => ?_)
  · walk_at "rd"
    exact q _ ⟨by show 0 ≤ _; exact Nat.zero_le _, by decide +kernel⟩
  walk_at "rd"
  refine i_iteI (fun _ => ?_) (fun _ => ?_)
  · walk_at "rd"
    refine i_addS (by show _ + 13 ≤ _; omega) ?_
    have ha : TB (B + 13) (z ++ Str.ofString "abcdefghijklm") := hz.app ⟨by decide +kernel, by decide +kernel⟩
    walk_at "rd"
    refine i_slS (by have := ha.1; omega) ?_
    exact q _ ((ha.cut _ _).mono (by omega))
  walk_at "rd"
  refine i_lenS (by omega) ?_
  refine ⟨1, _, rfl, ?_⟩
  have hp : (0 : Int) < (if (z.length : Int) > 1 then (z.length : Int) else 1) := by split <;> omega
  walk_at "rd"
  refine i_slS (by omega) ?_
  walk_at "rd"
  have b11 := mod_b ((n : Int) / 50) (show (0 : Int) < 11 by decide)
  obtain ⟨ch, hch, hat⟩ := at_all (l := (Str.ofString " AZ0_-.@z" ++ Str.ofString "`{").cps.toList) (p := fun c => c < 16 ^ 8) (by decide +kernel) b11.1 (by
    have : (Str.ofString " AZ0_-.@z" ++ Str.ofString "`{").cps.toList.length = 11 := by decide +kernel
    rw [this]; exact b11.2)
  refine i_ixS (by decide +kernel) hat ?_
  generalize (n : Int) / 3 % (if (z.length : Int) > 1 then (z.length : Int) else 1) = at_ at *
  have a1 := hz.cut none (some at_)
  have a2 := a1.app (TB.one hch)
  refine i_addS (by have := a1.1; show _ + 1 ≤ _; omega) ?_
  walk_at "rd"
  refine i_slS (by omega) ?_
  have a3 := hz.cut (some (at_ + 1)) none
  refine i_addS (by have := a2.1; have := a3.1; omega) ?_
  exact q _ ((a2.app a3).mono (by omega))
theorem four_at (a b c d : Int) {j : Int} (h0 : 0 ≤ j) (h1 : j < 4) : ∃ i : Int, atI [V.int a, V.int b, V.int c, V.int d] j = some (.int i) := by
  rcases (by omega : j = 0 ∨ j = 1 ∨ j = 2 ∨ j = 3) with e | e | e | e <;> subst e
  · exact ⟨a, rfl⟩
  · exact ⟨b, rfl⟩
  · exact ⟨c, rfl⟩
  · exact ⟨d, rfl⟩
theorem at_v {us : List V} {i : Nat} (h : i < us.length) : atI us (i : Int) = some us[i] := atI_nat (List.getElem?_eq_getElem h)
def spOther : Sp := fun vs H Q _ => ∃ (p : Addr) (us : List V) (rs : List RowX) (n B R : Nat), vs = [.ref p, .int (n : Int)] ∧ H p = some (.lst us) ∧ RowsXAt H rs us ∧ (∀ r ∈ rs, RowB B R r) ∧ B ≤ 60 ∧ 0 < us.length ∧
  ∀ v rd H2, Same H H2 → RdAt H2 rd v → RdB (3 * B + 13) rd → Q v H2
theorem d_other (T : Txt K mg C CE) (Kb : K.In base) (G : base.Ns mainGlobals mg) : Df P w K mg base 2 "_law_other_read" ["_law_rows_here", "_law_number"] spOther := by
  have D_law_bad_name : Df P w K mg base 1 "_law_bad_name" ["_law_name", "_law_number"] spBad := d_bad T Kb G
  refine T.f_other.df Kb G sc_law_other_read (fun _ _ _ _ _ _ us hl => match us, hl with | [_, _], _ => rfl) (by rintro vs H Q E ⟨p, us, rs, n, B, R, rfl, _⟩; rfl) (fun f cdv A outer s H vs Q E hr h => ?_)
  obtain ⟨p, us, rs, n, B, R, rfl, hp, hu, hsm, hB, h0, q⟩ := h
  refine ⟨_, (pss_cons (ps_if (pt_cmpR op_eq (pe_op op_mod (pv 1) pe_int) pe_int (nomark _)) (pss_one (ps_ret (pe_ix ix_seq (pe_lstA (pa_cons (pe_un un_neg pe_int) (pa_cons (pe_op op_pow pe_int pe_int) (pa_cons (pe_op op_add (pe_op op_pow pe_int pe_int) (pe_op op_mod (pv 1) (pe_op op_pow pe_int pe_int))) (pa_cons (pe_un un_neg (pe_op op_mod (pv 1) (pe_op op_pow pe_int pe_int))) pa_nil (se rfl)) (se rfl)) (se rfl)) (se rfl))) (pe_op op_mod (pe_op op_fdiv (pv 1) pe_int) pe_int) (fun _ _ => rfl)))) pss_nil)
    (pss_cons (ps_if (pt_cmpR op_eq (pe_op op_mod (pv 1) pe_int) pe_int (nomark _)) (pss_one (ps_ret (pe_tupA (pa_cons (pe_callD D_law_bad_name (hr.mono (by decide)) rfl (pa_cons (pe_ix ix_seq (pe_ix ix_seq (pv 0) pe_int (fun _ _ => rfl)) pe_int (fun _ _ => rfl)) (pa_cons (pe_op op_fdiv (pv 1) pe_int) pa_nil (se rfl)) (se rfl)) (he := se rfl) (hpl := nst rfl)) (pa_cons (pe_ix ix_seq (pe_lstA (pa_cons pe_int (pa_cons pe_int (pa_cons (pe_un un_neg pe_int) (pa_cons pe_int pa_nil (se rfl)) (se rfl)) (se rfl)) (se rfl))) (pe_op op_mod (pe_op op_fdiv (pv 1) pe_int) pe_int) (fun _ _ => rfl)) pa_nil (se rfl)) (se rfl))))) pss_nil)
    (pss_cons (ps_if (pt_cmpR op_eq (pe_op op_mod (pv 1) pe_int) pe_int (nomark _)) (pss_one (ps_ret (pe_tupA (pa_cons (pe_ix ix_seq (pe_ix ix_seq (pv 0) (pe_op op_mod (pe_op op_fdiv (pv 1) pe_int) (pe_callB call_len_seq rfl T.nlen PySem.boot_len (pa_cons (pv 0) pa_nil (se rfl)) (he := se rfl) (hpl := nst rfl))) (fun _ _ => rfl)) pe_int (fun _ _ => rfl)) (pa_cons (pe_ix ix_seq (pe_lstA (pa_cons pe_int (pa_cons (pe_un un_neg pe_int) (pa_cons pe_int (pa_cons pe_int pa_nil (se rfl)) (se rfl)) (se rfl)) (se rfl))) (pe_op op_mod (pe_op op_fdiv (pv 1) pe_int) pe_int) (fun _ _ => rfl)) pa_nil (se rfl)) (se rfl))))) pss_nil)
    (pss_one (ps_ret (pe_tupA (pa_cons (pe_ix ix_seq (pe_ix ix_seq (pv 0) (pe_op op_mod (pe_op op_fdiv (pv 1) pe_int) (pe_callB call_len_seq rfl T.nlen PySem.boot_len (pa_cons (pv 0) pa_nil (se rfl)) (he := se rfl) (hpl := nst rfl))) (fun _ _ => rfl)) pe_int (fun _ _ => rfl)) (pa_cons pe_int pa_nil (se rfl)) (se rfl)))))))), ?_⟩
  have l1 := hu.len
  walk_at "rd"
  refine i_iteI (fun _ => ?_) (fun _ => ?_)
  · walk_at "rd"
    refine ⟨by show 4 ≤ sizeLine; decide, fun l H1 hN1 => ?_⟩
    walk_at "rd"
    have b4 := mod_b ((n : Int) / 4) (show (0 : Int) < 4 by decide)
    obtain ⟨i, hi⟩ := four_at _ _ _ _ b4.1 b4.2
    refine i_ixL hN1.lst hi ?_
    exact q _ (.num i) _ hN1.same rfl trivial
  walk_at "rd"
  refine i_iteI (fun _ => ?_) (fun _ => ?_)
  · walk_at "rd"
    refine i_ixL (sqL_inj_of hp) (at_v h0) ?_
    have hir : 0 < rs.length := by omega
    have r1 := hu.at_ 0 rs[0] us[0] (List.getElem?_eq_getElem hir) (List.getElem?_eq_getElem h0)
    have rb := hsm rs[0] (List.getElem_mem hir)
    generalize us[0] = u at *
    generalize rs[0] = rw at *
    obtain ⟨p1, p2, vs, rfl, h1, h2, h3⟩ := r1
    walk_at "rd"
    refine i_ixT (.inl (.inl h1)) (show atI _ 0 = some (.str rw.name) from rfl) ?_
    walk_at "rd"
    refine ⟨rw.name, n / 4, B, rfl, rb.name, hB, fun r hr => ?_⟩
    walk_at "rd"
    refine ⟨by show 4 ≤ sizeLine; decide, fun l H1 hN1 => ?_⟩
    walk_at "rd"
    have b4 := mod_b ((n : Int) / 1000) (show (0 : Int) < 4 by decide)
    obtain ⟨i, hi⟩ := four_at _ _ _ _ b4.1 b4.2
    refine i_ixL hN1.lst hi ?_
    walk_at "rd"
    refine ⟨by show 2 ≤ sizeLine; decide, fun t H2 hN2 => ?_⟩
    exact q _ (.back r i) _ (hN1.same.trans hN2.same) ⟨t, rfl, hN2.at⟩ hr
  walk_at "rd"
  have step : ∀ j : Int, 0 ≤ j → j < us.length → ∃ (u : V) (rw : RowX), atI us j = some u ∧ RowXAt H rw u ∧ RowB B R rw := fun j j0 j1 => by
    obtain ⟨k, rfl⟩ := Int.eq_ofNat_of_zero_le j0
    have hk : k < us.length := by omega
    have hkr : k < rs.length := by omega
    exact ⟨us[k], rs[k], at_v hk, hu.at_ k rs[k] us[k] (List.getElem?_eq_getElem hkr) (List.getElem?_eq_getElem hk), hsm _ (List.getElem_mem hkr)⟩
  have bl := mod_b ((n : Int) / 4) (show (0 : Int) < (us.length : Int) by omega)
  obtain ⟨u, rw, hu1, r1, rb⟩ := step _ bl.1 bl.2
  obtain ⟨p1, p2, vs, rfl, h1, h2, h3⟩ := r1
  have rbn : TB (3 * B + 13) rw.name := rb.name.mono (by omega)
  refine i_iteI (fun _ => ?_) (fun _ => ?_)
  · walk_at "rd"
    refine ⟨_, _, rfl, .inl (sqL_inj_of hp), ?_⟩
    walk_at "rd"
    refine i_ixL (sqL_inj_of hp) hu1 ?_
    walk_at "rd"
    refine i_ixT (.inl (.inl h1)) (show atI _ 0 = some (.str rw.name) from rfl) ?_
    walk_at "rd"
    refine ⟨by show 4 ≤ sizeLine; decide, fun l H1 hN1 => ?_⟩
    walk_at "rd"
    have b4 := mod_b ((n : Int) / 50) (show (0 : Int) < 4 by decide)
    obtain ⟨i, hi⟩ := four_at _ _ _ _ b4.1 b4.2
    refine i_ixL hN1.lst hi ?_
    walk_at "rd"
    refine ⟨by show 2 ≤ sizeLine; decide, fun t H2 hN2 => ?_⟩
    exact q _ (.back rw.name i) _ (hN1.same.trans hN2.same) ⟨t, rfl, hN2.at⟩ rbn
  · walk_at "rd"
    refine ⟨_, _, rfl, .inl (sqL_inj_of hp), ?_⟩
    walk_at "rd"
    refine i_ixL (sqL_inj_of hp) hu1 ?_
    walk_at "rd"
    refine i_ixT (.inl (.inl h1)) (show atI _ 0 = some (.str rw.name) from rfl) ?_
    walk_at "rd"
    refine ⟨by show 2 ≤ sizeLine; decide, fun t H2 hN2 => ?_⟩
    exact q _ (.back rw.name 0) _ hN2.same ⟨t, rfl, hN2.at⟩ rbn
theorem get_cut {α : Type} {l : List α} {a b i : Nat} {x : α} (h : ((l.drop a).take b)[i]? = some x) : l[a + i]? = some x := by
  rw [List.getElem?_take] at h
  split at h
  · rwa [List.getElem?_drop] at h
  · cases h
theorem get_app {α β : Type} {P : α → β → Prop} {l1 l2 : List α} {m1 m2 : List β} (hl : l1.length = m1.length) (h1 : ∀ (i : Nat) x y, l1[i]? = some x → m1[i]? = some y → P x y) (h2 : ∀ (i : Nat) x y, l2[i]? = some x → m2[i]? = some y → P x y) :
    ∀ (i : Nat) x y, (l1 ++ l2)[i]? = some x → (m1 ++ m2)[i]? = some y → P x y := fun i x y e1 e2 => by
  by_cases hi : i < l1.length
  · rw [List.getElem?_append_left hi] at e1
    rw [List.getElem?_append_left (by omega)] at e2
    exact h1 i x y e1 e2
  · rw [List.getElem?_append_right (by omega)] at e1
    rw [List.getElem?_append_right (by omega), ← hl] at e2
    exact h2 _ x y e1 e2
theorem RdsAt.cut {H : Hp} {rs : List Rd} {vs : List V} (h : RdsAt H rs vs) (lo hi : Option Int) : ∃ rs', RdsAt H rs' (cutV vs lo hi) ∧ rs'.length ≤ rs.length ∧ ∀ rd ∈ rs', rd ∈ rs := by
  refine ⟨(rs.drop (HT.sIx vs.length 0 lo)).take (HT.sIx vs.length vs.length hi - HT.sIx vs.length 0 lo), ⟨?_, fun i r v e1 e2 => h.at_ _ r v (get_cut e1) (get_cut e2)⟩, ?_, fun rd hrd => List.mem_of_mem_drop (List.mem_of_mem_take hrd)⟩
  · have := h.len
    unfold cutV
    rw [List.length_take, List.length_take, List.length_drop, List.length_drop, this]
  · rw [List.length_take, List.length_drop]; omega
theorem RdsAt.cat {H : Hp} {r1 r2 : List Rd} {v1 v2 : List V} (h1 : RdsAt H r1 v1) (h2 : RdsAt H r2 v2) : RdsAt H (r1 ++ r2) (v1 ++ v2) := by
  have a := h1.len; have b := h2.len
  exact ⟨by rw [List.length_append, List.length_append, a, b], get_app a h1.at_ h2.at_⟩
theorem RowsXAt.cat {H : Hp} {r1 r2 : List RowX} {v1 v2 : List V} (h1 : RowsXAt H r1 v1) (h2 : RowsXAt H r2 v2) : RowsXAt H (r1 ++ r2) (v1 ++ v2) := by
  have a := h1.len; have b := h2.len
  exact ⟨by rw [List.length_append, List.length_append, a, b], get_app a h1.at_ h2.at_⟩
theorem cutV_drop (xs : List V) (k : Nat) : cutV xs (some (k : Int)) none = xs.drop k := by
  unfold cutV
  have e1 : HT.sIx xs.length xs.length none = xs.length := rfl
  have e2 : HT.sIx xs.length 0 (some (k : Int)) = min k xs.length := by
    show (if (k : Int) < 0 then ((k : Int) + (xs.length : Int)).toNat else min (k : Int).toNat xs.length) = _
    rw [if_neg (by omega)]; omega
  rw [e1, e2]
  by_cases h : k ≤ xs.length
  · rw [Nat.min_eq_left h]; exact List.take_of_length_le (by rw [List.length_drop]; exact Nat.le_refl _)
  · rw [Nat.min_eq_right (by omega), List.drop_of_length_le (Nat.le_refl _), List.drop_of_length_le (by omega)]; simp
theorem RowsXAt.take {H : Hp} {rs : List RowX} {us : List V} (h : RowsXAt H rs us) (k : Nat) : RowsXAt H (rs.take k) (us.take k) := by
  refine ⟨by rw [List.length_take, List.length_take, h.len], fun i r u e1 e2 => ?_⟩
  rw [List.getElem?_take] at e1 e2
  split at e1
  · rename_i hk; rw [if_pos hk] at e2; exact h.at_ i r u e1 e2
  · cases e1
theorem RowsXAt.drop {H : Hp} {rs : List RowX} {us : List V} (h : RowsXAt H rs us) (k : Nat) : RowsXAt H (rs.drop k) (us.drop k) := by
  refine ⟨by rw [List.length_drop, List.length_drop, h.len], fun i r u e1 e2 => ?_⟩
  rw [List.getElem?_drop] at e1 e2
  exact h.at_ _ r u e1 e2
theorem RowsXAt.one {H : Hp} {r : RowX} {u : V} (h : RowXAt H r u) : RowsXAt H [r] [u] := ⟨rfl, fun i r' u' e1 e2 => by
  cases i with
  | zero => cases e1; cases e2; exact h
  | succ i => simp at e1⟩
theorem two_atV (a b : V) {j : Int} (h0 : 0 ≤ j) (h1 : j < 2) : atI [a, b] j = some a ∨ atI [a, b] j = some b := by
  rcases (by omega : j = 0 ∨ j = 1) with e | e <;> subst e
  · exact .inl rfl
  · exact .inr rfl
theorem RdB.mono {B B' : Nat} {rd : Rd} (h : RdB B rd) (hb : B ≤ B') : RdB B' rd := by
  cases rd with
  | num _ => trivial
  | back z b => exact TB.mono h hb
theorem eight_at {j : Int} (h0 : 0 ≤ j) (h1 : j < 8) : ∃ w : Str, TB 5 w ∧ atI [V.str (Str.ofString ""), V.str (Str.ofString "Sum"), V.str (Str.ofString "sums"), V.str (Str.ofString "add"), V.str (Str.ofString " sum"), V.str (Str.ofString "takes"), V.str (Str.ofString "tel"), V.str (Str.ofString "sum ")] j = some (.str w) := by
  rcases (by omega : j = 0 ∨ j = 1 ∨ j = 2 ∨ j = 3 ∨ j = 4 ∨ j = 5 ∨ j = 6 ∨ j = 7) with e | e | e | e | e | e | e | e <;> subst e
  all_goals exact ⟨_, ⟨by decide +kernel, by decide +kernel⟩, rfl⟩
def spSRow : Sp := fun vs H Q _ => ∃ (p : Addr) (us : List V) (rs : List RowX) (k n B R : Nat), vs = [.ref p, .int (k : Int), .int (n : Int)] ∧ H p = some (.lst us) ∧ RowsXAt H rs us ∧ (∀ r ∈ rs, RowB B R r) ∧ B ≤ 60 ∧ R ≤ 20 ∧ k < us.length ∧ us.length ≤ 13 ∧
  ∀ p' us' rs' H2, Same H H2 → H2 p' = some (.lst us') → RowsXAt H2 rs' us' → (∀ r ∈ rs', RowB (3 * B + 13) (2 * R + 1) r) → rs'.length = rs.length → Q (.ref p') H2
theorem d_srow (T : Txt K mg C CE) (Kb : K.In base) (G : base.Ns mainGlobals mg) : Df P w K mg base 3 "_law_spoiled_row" ["_law_rows_here", "_law_at", "_law_number"] spSRow := by
  have D_law_bad_name : Df P w K mg base 1 "_law_bad_name" ["_law_name", "_law_number"] spBad := d_bad T Kb G
  have D_law_other_read : Df P w K mg base 2 "_law_other_read" ["_law_rows_here", "_law_number"] spOther := d_other T Kb G
  refine T.f_srow.df Kb G sc_law_spoiled_row (fun _ _ _ _ _ _ us hl => match us, hl with | [_, _, _], _ => rfl) (by rintro vs H Q E ⟨p, us, rs, k, n, B, R, rfl, _⟩; rfl) (fun f cdv A outer s H vs Q E hr h => ?_)
  obtain ⟨p, us, rs, k, n, B, R, rfl, hp, hu, hsm, hB, hR, hk, h13, q⟩ := h
  refine ⟨_, (pss_cons (ps_asg (pe_ix ix_seq (pv 0) (pv 1) (fun _ _ => rfl)) (pg_tup rfl (pgs_cons (pg_name (i := 3) sc_law_spoiled_row.nd rfl (Or.inl rfl)) (pgs_cons (pg_name (i := 4) sc_law_spoiled_row.nd rfl (Or.inl rfl)) (pgs_cons (pg_name (i := 5) sc_law_spoiled_row.nd rfl (Or.inl rfl)) pgs_nil)))))
    (pss_cons (ps_set (i := 6) sc_law_spoiled_row.nd rfl (by first | exact Or.inl rfl | exact Or.inr rfl) (pe_op op_mod (pv 2) pe_int))
    (pss_cons (ps_set (i := 2) sc_law_spoiled_row.nd rfl (by first | exact Or.inl rfl | exact Or.inr rfl) (pe_op op_fdiv (pv 2) pe_int))
    (pss_cons (ps_join (ps_if (pt_cmpR op_eq (pv 6) pe_int (nomark _)) (pss_one (ps_set (i := 3) sc_law_spoiled_row.nd rfl (by first | exact Or.inl rfl | exact Or.inr rfl) (pe_callD D_law_bad_name (hr.mono (by decide)) rfl (pa_cons (pv 3) (pa_cons (pv 2) pa_nil (se rfl)) (se rfl)) (he := se rfl) (hpl := nst rfl)))) pss_nil))
    (pss_cons (ps_join (ps_if (pt_cmpR op_eq (pv 6) pe_int (nomark _)) (pss_one (ps_set (i := 3) sc_law_spoiled_row.nd rfl (by first | exact Or.inl rfl | exact Or.inr rfl) (pe_ix ix_seq (pe_ix ix_seq (pv 0) (pe_op op_mod (pv 2) (pe_callB call_len_seq rfl T.nlen PySem.boot_len (pa_cons (pv 0) pa_nil (se rfl)) (he := se rfl) (hpl := nst rfl))) (fun _ _ => rfl)) pe_int (fun _ _ => rfl)))) pss_nil))
    (pss_cons (ps_join (ps_if (pt_cmpR op_eq (pv 6) pe_int (nomark _)) (pss_one (ps_set (i := 4) sc_law_spoiled_row.nd rfl (by first | exact Or.inl rfl | exact Or.inr rfl) (pe_ix ix_seq (pe_lstA (pa_cons pe_str (pa_cons pe_str (pa_cons pe_str (pa_cons pe_str (pa_cons pe_str (pa_cons pe_str (pa_cons pe_str (pa_cons pe_str pa_nil (se rfl)) (se rfl)) (se rfl)) (se rfl)) (se rfl)) (se rfl)) (se rfl)) (se rfl))) (pe_op op_mod (pv 2) pe_int) (fun _ _ => rfl)))) pss_nil))
    (pss_cons (ps_join (ps_if (pt_cmpR op_eq (pv 6) pe_int (nomark _)) (pss_cons (ps_set (i := 7) sc_law_spoiled_row.nd rfl (by first | exact Or.inl rfl | exact Or.inr rfl) (pe_op op_mod (pe_op op_fdiv (pv 2) pe_int) (pe_op op_add (pe_callB call_len_seq rfl T.nlen PySem.boot_len (pa_cons (pv 5) pa_nil (se rfl)) (he := se rfl) (hpl := nst rfl)) pe_int)))
    (pss_one (ps_set (i := 5) sc_law_spoiled_row.nd rfl (by first | exact Or.inl rfl | exact Or.inr rfl) (pe_op op_catTA (pe_op op_catTA (pe_slice sl_tupA (pv 5) po_none (po_some (pv 7))) (pe_ix ix_seq (pe_lstA (pa_cons (pe_tupA (pa_cons pe_int pa_nil (se rfl))) (pa_cons (pe_tupA pa_nil) pa_nil (se rfl)) (se rfl))) (pe_op op_mod (pv 2) pe_int) (fun _ _ => rfl))) (pe_slice sl_tupA (pv 5) (po_some (pe_op op_add (pv 7) (pe_op op_mod (pv 2) pe_int))) po_none))))) pss_nil))
    (pss_cons (ps_join (ps_if (PW.pt (pw_and (pt_cmpR op_eq (pv 6) pe_int (nomark _)) (pw_and1 (pt_cmpR op_gt (pe_callB call_len_seq rfl T.nlen PySem.boot_len (pa_cons (pv 5) pa_nil (se rfl)) (he := se rfl) (hpl := nst rfl)) pe_int (nomark _))))) (pss_cons (ps_set (i := 7) sc_law_spoiled_row.nd rfl (by first | exact Or.inl rfl | exact Or.inr rfl) (pe_op op_mod (pe_op op_fdiv (pv 2) pe_int) (pe_callB call_len_seq rfl T.nlen PySem.boot_len (pa_cons (pv 5) pa_nil (se rfl)) (he := se rfl) (hpl := nst rfl))))
    (pss_cons (ps_set (i := 8) sc_law_spoiled_row.nd rfl (by first | exact Or.inl rfl | exact Or.inr rfl) (pe_callD D_law_other_read (hr.mono (by decide)) rfl (pa_cons (pv 0) (pa_cons (pe_op op_fdiv (pv 2) pe_int) pa_nil (se rfl)) (se rfl)) (he := se rfl) (hpl := nst rfl)))
    (pss_one (ps_set (i := 5) sc_law_spoiled_row.nd rfl (by first | exact Or.inl rfl | exact Or.inr rfl) (pe_op op_catTA (pe_op op_catTA (pe_slice sl_tupA (pv 5) po_none (po_some (pv 7))) (pe_tupA (pa_cons (pv 8) pa_nil (se rfl)))) (pe_slice sl_tupA (pv 5) (po_some (pe_op op_add (pv 7) pe_int)) po_none)))))) pss_nil))
    (pss_one (ps_ret (pe_op op_catA (pe_op op_catA (pe_slice sl_listA (pv 0) po_none (po_some (pv 1))) (pe_lstA (pa_cons (pe_tupA (pa_cons (pv 3) (pa_cons (pv 4) (pa_cons (pv 5) pa_nil (se rfl)) (se rfl)) (se rfl))) pa_nil (se rfl)))) (pe_slice sl_listA (pv 0) (po_some (pe_op op_add (pv 1) pe_int)) po_none)))))))))))), ?_⟩
  have l1 := hu.len
  have lb := line_big
  have hkr : k < rs.length := by omega
  have r1 := hu.at_ k rs[k] us[k] (List.getElem?_eq_getElem hkr) (List.getElem?_eq_getElem hk)
  have rb := hsm rs[k] (List.getElem_mem hkr)
  walk_at "rd"
  refine i_ixL (sqL_inj_of hp) (at_v hk) ?_
  generalize us[k] = u at *
  generalize rs[k] = rw at *
  obtain ⟨p1, p2, vs, rfl, h1, h2, h3⟩ := r1
  refine i_gtup (.inl (.inl h1)) rfl ?_
  walk_at "rd"
  have hrn : rw.reads.length ≤ R := rb.many
  have h3l := h3.len
  refine i_join (fun σ' H' => Same H H' ∧ ∃ z w : Str, σ' = [some (.ref p), some (.int (k : Int)), some (.int ((n / 5 : Nat) : Int)), some (.str z), some (.str w), some (.ref p1), some (.int ((n : Int) % 5)), none, none] ∧ TB (3 * B + 13) z ∧ TB (3 * B + 13) w) ?_ ?_
  · walk_at "rd"
    refine i_iteI (fun _ => ?_) (fun _ => ?_)
    · walk_at "rd"
      refine ⟨rw.name, n / 5, B, rfl, rb.name, hB, fun r hr => ?_⟩
      walk_at "rd"
      exact ⟨Same.refl _, r, rw.word, rfl, hr, rb.word.mono (by omega)⟩
    · walk_at "rd"
      exact ⟨Same.refl _, rw.name, rw.word, rfl, rb.name.mono (by omega), rb.word.mono (by omega)⟩
  rintro σ1 H1 ⟨s1, z1, w1, rfl, hz1, hw1⟩
  walk_at "rd"
  refine i_join (fun σ' H' => Same H H' ∧ ∃ z w : Str, σ' = [some (.ref p), some (.int (k : Int)), some (.int ((n / 5 : Nat) : Int)), some (.str z), some (.str w), some (.ref p1), some (.int ((n : Int) % 5)), none, none] ∧ TB (3 * B + 13) z ∧ TB (3 * B + 13) w) ?_ ?_
  · walk_at "rd"
    refine i_iteI (fun _ => ?_) (fun _ => ?_)
    · walk_at "rd"
      refine ⟨_, _, rfl, .inl (sqL_inj_of (s1 _ _ hp)), ?_⟩
      have bl := mod_b ((n / 5 : Nat) : Int) (show (0 : Int) < (us.length : Int) by omega)
      walk_at "rd"
      obtain ⟨j, hj⟩ := Int.eq_ofNat_of_zero_le bl.1
      rw [hj] at bl ⊢
      have hjl : j < us.length := by omega
      have hjr : j < rs.length := by omega
      refine i_ixL (sqL_inj_of (s1 _ _ hp)) (at_v hjl) ?_
      have rj := hu.at_ j rs[j] us[j] (List.getElem?_eq_getElem hjr) (List.getElem?_eq_getElem hjl)
      have rjb := hsm rs[j] (List.getElem_mem hjr)
      generalize us[j] = uj at *
      generalize rs[j] = rwj at *
      obtain ⟨pp1, pp2, vvs, rfl, g1, g2, g3⟩ := rj
      walk_at "rd"
      refine i_ixT (.inl (.inl (s1 _ _ g1))) (show atI _ 0 = some (.str rwj.name) from rfl) ?_
      walk_at "rd"
      exact ⟨s1, rwj.name, w1, rfl, rjb.name.mono (by omega), hw1⟩
    · walk_at "rd"
      exact ⟨s1, z1, w1, rfl, hz1, hw1⟩
  rintro σ2 H2 ⟨s2, z2, w2, rfl, hz2, hw2⟩
  walk_at "rd"
  refine i_join (fun σ' H' => Same H H' ∧ ∃ z w : Str, σ' = [some (.ref p), some (.int (k : Int)), some (.int ((n / 5 : Nat) : Int)), some (.str z), some (.str w), some (.ref p1), some (.int ((n : Int) % 5)), none, none] ∧ TB (3 * B + 13) z ∧ TB (3 * B + 13) w) ?_ ?_
  · walk_at "rd"
    refine i_iteI (fun _ => ?_) (fun _ => ?_)
    · walk_at "rd"
      refine ⟨by show 8 ≤ sizeLine; decide, fun l H3 hN3 => ?_⟩
      walk_at "rd"
      have b8 := mod_b ((n / 5 : Nat) : Int) (show (0 : Int) < 8 by decide)
      obtain ⟨w, hw, hat⟩ := eight_at b8.1 b8.2
      refine i_ixL hN3.lst hat ?_
      walk_at "rd"
      exact ⟨s2.trans hN3.same, z2, w, rfl, hz2, hw.mono (by omega)⟩
    · walk_at "rd"
      exact ⟨s2, z2, w2, rfl, hz2, hw2⟩
  rintro σ3 H3 ⟨s3, z3, w3, rfl, hz3, hw3⟩
  walk_at "rd"
  refine i_join (fun σ' H' => Same H H' ∧ ∃ (q1 : Addr) (qs : List V) (rds : List Rd) (x7 : Option V), σ' = [some (.ref p), some (.int (k : Int)), some (.int ((n / 5 : Nat) : Int)), some (.str z3), some (.str w3), some (.ref q1), some (.int ((n : Int) % 5)), x7, none] ∧ H' q1 = some (.tup qs) ∧ RdsAt H' rds qs ∧ rds.length ≤ 2 * R + 1 ∧ (∀ rd ∈ rds, RdB (3 * B + 13) rd) ∧ (¬ (n : Int) % 5 = 3 → rds.length ≤ R)) ?_ ?_
  · walk_at "rd"
    refine i_iteI (fun h30 => ?_) (fun h30 => ?_)
    · walk_at "rd"
      refine ⟨_, _, rfl, .inr (.inl (.inl (s3 _ _ h2))), ?_⟩
      have hpos : (0 : Int) < (vs.length : Int) + 1 := by omega
      walk_at "rd"
      refine i_slTA (s3 _ _ h2) fun a1 H4 s4 ha1 => ?_
      walk_at "rd"
      refine ⟨by show 1 ≤ sizeLine; decide, fun t1 H5 hN5 => ?_⟩
      walk_at "rd"
      refine ⟨by show 0 ≤ sizeLine; exact Nat.zero_le _, fun t2 H6 hN6 => ?_⟩
      walk_at "rd"
      refine ⟨by show 2 ≤ sizeLine; decide, fun l H7 hN7 => ?_⟩
      walk_at "rd"
      have s47 := (hN5.same.trans hN6.same).trans hN7.same
      have mid : ∃ (m1 : Addr) (ms : List V) (mr : List Rd), atI [V.ref t1, V.ref t2] (((n / 5 : Nat) : Int) % 2) = some (.ref m1) ∧ H7 m1 = some (.tup ms) ∧ RdsAt H7 mr ms ∧ mr.length ≤ 1 ∧ ∀ rd ∈ mr, RdB (3 * B + 13) rd := by
        have b2 := mod_b ((n / 5 : Nat) : Int) (show (0 : Int) < 2 by decide)
        rcases two_atV (.ref t1) (.ref t2) b2.1 b2.2 with e | e
        · refine ⟨t1, _, [.num 7], e, hN7.same _ _ (hN6.same _ _ hN5.at), ⟨rfl, fun i r v e1 e2 => ?_⟩, Nat.le_refl _, fun rd hrd => ?_⟩
          · cases i with
            | zero => cases e1; cases e2; exact rfl
            | succ i => simp at e1
          · rw [show rd = .num 7 by simpa using hrd]; trivial
        · exact ⟨t2, _, [], e, hN7.same _ _ hN6.at, ⟨rfl, fun i r v e1 => by simp at e1⟩, Nat.zero_le _, fun rd hrd => by simp at hrd⟩
      obtain ⟨m1, ms, mr, hmat, hm1, hmr, hml, hmb⟩ := mid
      refine i_ixL hN7.lst hmat ?_
      obtain ⟨c1, hc1, hc1l, hc1m⟩ := (h3.same (s3.trans s4)).cut none (some (((n / 5 : Nat) : Int) / 2 % ((vs.length : Int) + 1)))
      have hc1' := hc1.same s47
      have e1l := hc1.len
      have e2l := hmr.len
      refine i_catTA (s47 _ _ ha1) hm1 (by omega) fun b1 H8 s8 hb1 => ?_
      walk_at "rd"
      have t8 := ((s3.trans s4).trans s47).trans s8
      refine i_slTA (t8 _ _ h2) fun a2 H9 s9 ha2 => ?_
      obtain ⟨c2, hc2, hc2l, hc2m⟩ := (h3.same (t8.trans s9)).cut (some (((n / 5 : Nat) : Int) / 2 % ((vs.length : Int) + 1) + ((n / 5 : Nat) : Int) % 2)) none
      have e3l := hc2.len
      refine i_catTA (s9 _ _ hb1) ha2 (by rw [List.length_append]; omega) fun b2 H10 s10 hb2 => ?_
      walk_at "rd"
      refine ⟨(t8.trans s9).trans s10, b2, _, c1 ++ mr ++ c2, _, rfl, hb2, (((hc1'.cat hmr).same (s8.trans s9)).cat hc2).same s10, by rw [List.length_append, List.length_append]; omega, fun rd hrd => ?_, fun n3 => absurd h30 n3⟩
      rcases List.mem_append.mp hrd with h | h
      · rcases List.mem_append.mp h with h | h
        · exact (rb.reads rd (hc1m rd h)).mono (by omega)
        · exact hmb rd h
      · exact (rb.reads rd (hc2m rd h)).mono (by omega)
    · walk_at "rd"
      exact ⟨s3, p1, vs, rw.reads, _, rfl, s3 _ _ h2, h3.same s3, by omega, fun rd hrd => (rb.reads rd hrd).mono (by omega), fun _ => hrn⟩
  rintro σ4 H4 ⟨s4, q1, qs, rds, x7, rfl, hq1, hqs, hql, hqb, hqR⟩
  have eql := hqs.len
  walk_at "rd"
  refine i_join (fun σ' H' => Same H H' ∧ ∃ (q1 : Addr) (qs : List V) (rds : List Rd) (x7 x8 : Option V), σ' = [some (.ref p), some (.int (k : Int)), some (.int ((n / 5 : Nat) : Int)), some (.str z3), some (.str w3), some (.ref q1), some (.int ((n : Int) % 5)), x7, x8] ∧ H' q1 = some (.tup qs) ∧ RdsAt H' rds qs ∧ rds.length ≤ 2 * R + 1 ∧ (∀ rd ∈ rds, RdB (3 * B + 13) rd)) ?_ ?_
  · walk_at "rd"
    refine i_iteI (fun h40 => ?_) (fun h40 => ?_)
    · walk_at "rd"
      refine ⟨_, _, rfl, .inr (.inl (.inl hq1)), ?_⟩
      walk_at "rd"
      refine i_iteD (fun hpos => ?_) (fun hpos => ?_)
      · have hRR := hqR (by omega)
        walk_at "rd"
        refine ⟨_, _, rfl, .inr (.inl (.inl hq1)), ?_⟩
        have hpos' : (0 : Int) < (qs.length : Int) := hpos
        walk_at "rd"
        refine ⟨p, us, rs, n / 5 / 200, B, R, rfl, s4 _ _ hp, hu.same s4, hsm, hB, by omega, fun v rd H5 s5 hv hrd => ?_⟩
        walk_at "rd"
        refine i_slTA (s5 _ _ hq1) fun a1 H6 s6 ha1 => ?_
        walk_at "rd"
        refine ⟨by show 1 ≤ sizeLine; decide, fun t1 H7 hN7 => ?_⟩
        obtain ⟨c1, hc1, hc1l, hc1m⟩ := ((hqs.same s5).same s6).cut none (some (((n / 5 : Nat) : Int) / 50 % (qs.length : Int)))
        have e1l := hc1.len
        have m1 : RdsAt H7 [rd] [v] := ⟨rfl, fun i r v' e1 e2 => by
          cases i with
          | zero => cases e1; cases e2; exact (hv.same s6).same hN7.same
          | succ i => simp at e1⟩
        refine i_catTA (hN7.same _ _ ha1) hN7.at (by show _ + 1 ≤ _; omega) fun b1 H8 s8 hb1 => ?_
        walk_at "rd"
        have t8 := ((s5.trans s6).trans hN7.same).trans s8
        refine i_slTA (t8 _ _ hq1) fun a2 H9 s9 ha2 => ?_
        obtain ⟨c2, hc2, hc2l, hc2m⟩ := (hqs.same (t8.trans s9)).cut (some (((n / 5 : Nat) : Int) / 50 % (qs.length : Int) + 1)) none
        have e3l := hc2.len
        refine i_catTA (s9 _ _ hb1) ha2 (by rw [List.length_append]; show _ + 1 + _ ≤ _; omega) fun b2 H10 s10 hb2 => ?_
        walk_at "rd"
        refine ⟨((s4.trans t8).trans s9).trans s10, b2, _, c1 ++ [rd] ++ c2, _, _, rfl, hb2, ((((hc1.same hN7.same).cat m1).same (s8.trans s9)).cat hc2).same s10, by rw [List.length_append, List.length_append, List.length_singleton]; omega, fun rd' hrd' => ?_⟩
        rcases List.mem_append.mp hrd' with h | h
        · rcases List.mem_append.mp h with h | h
          · exact hqb rd' (hc1m rd' h)
          · rw [show rd' = rd by simpa using h]; exact hrd
        · exact hqb rd' (hc2m rd' h)
      · walk_at "rd"
        exact ⟨s4, q1, qs, rds, _, _, rfl, hq1, hqs, hql, hqb⟩
    · walk_at "rd"
      exact ⟨s4, q1, qs, rds, _, _, rfl, hq1, hqs, hql, hqb⟩
  rintro σ5 H5 ⟨s5, q2, qs2, rds2, x7', x8', rfl, hq2, hqs2, hql2, hqb2⟩
  walk_at "rd"
  refine i_slLA (sqL_inj_of (s5 _ _ hp)) fun l1' H6 hN6 => ?_
  rw [cutV_take] at hN6
  walk_at "rd"
  refine ⟨by show 3 ≤ sizeLine; decide, fun t H7 hN7 => ?_⟩
  walk_at "rd"
  refine ⟨by show 1 ≤ sizeLine; decide, fun l2' H8 hN8 => ?_⟩
  have s68 := hN7.same.trans hN8.same
  refine i_catA (s68 _ _ hN6.at) hN8.at (by rw [List.length_take]; show _ + 1 ≤ _; omega) fun l3 H9 hN9 => ?_
  walk_at "rd"
  have t9 := ((s5.trans hN6.same).trans s68).trans hN9.same
  refine i_slLA (lo := some (((k + 1 : Nat) : Int))) (sqL_inj_of (t9 _ _ hp)) fun l4 H10 hN10 => ?_
  rw [cutV_drop] at hN10
  refine i_catA (hN10.same _ _ hN9.at) hN10.at (by rw [List.length_append, List.length_take, List.length_drop]; show _ + 1 + _ ≤ _; omega) fun l5 H11 hN11 => ?_
  have t11 := (t9.trans hN10.same).trans hN11.same
  have rowN : RowXAt H11 ⟨z3, w3, rds2⟩ (.ref t) := ⟨q2, t, qs2, rfl, hN11.same _ _ (hN10.same _ _ (hN9.same _ _ (hN8.same _ _ hN7.at))), ((((hN6.same.trans s68).trans hN9.same).trans hN10.same).trans hN11.same) _ _ hq2, hqs2.same ((((hN6.same.trans s68).trans hN9.same).trans hN10.same).trans hN11.same)⟩
  refine q l5 _ (rs.take k ++ [⟨z3, w3, rds2⟩] ++ rs.drop (k + 1)) H11 t11 hN11.at (((((hu.same t11).take k).cat (RowsXAt.one rowN))).cat ((hu.same t11).drop (k + 1))) (fun r hr => ?_) (by rw [List.length_append, List.length_append, List.length_take, List.length_drop, List.length_singleton]; omega)
  have old : ∀ r ∈ rs, RowB (3 * B + 13) (2 * R + 1) r := fun r hr => ⟨(hsm r hr).name.mono (by omega), (hsm r hr).word.mono (by omega), by have := (hsm r hr).many; omega, fun rd hrd => ((hsm r hr).reads rd hrd).mono (by omega)⟩
  rcases List.mem_append.mp hr with h | h
  · rcases List.mem_append.mp h with h | h
    · exact old r (List.mem_of_mem_take h)
    · rw [show r = ⟨z3, w3, rds2⟩ by simpa using h]; exact ⟨hz3, hw3, hql2, hqb2⟩
  · exact old r (List.mem_of_mem_drop h)
theorem five_at (a b c d e : Int) {j : Int} (h0 : 0 ≤ j) (h1 : j < 5) : ∃ i : Int, atI [V.int a, V.int b, V.int c, V.int d, V.int e] j = some (.int i) := by
  rcases (by omega : j = 0 ∨ j = 1 ∨ j = 2 ∨ j = 3 ∨ j = 4) with z | z | z | z | z <;> subst z
  · exact ⟨a, rfl⟩
  · exact ⟨b, rfl⟩
  · exact ⟨c, rfl⟩
  · exact ⟨d, rfl⟩
  · exact ⟨e, rfl⟩
theorem z_ch : ∀ c ∈ (Str.ofString "z").cps.toList, c < 16 ^ 8 := by decide +kernel
def spSpoil : Sp := fun vs H Q _ => ∃ (m : Int) (p : Addr) (us : List V) (rs : List RowX) (n B R : Nat), vs = [.int m, .ref p, .int (n : Int)] ∧ H p = some (.lst us) ∧ RowsXAt H rs us ∧ (∀ r ∈ rs, RowB B R r) ∧ B ≤ 60 ∧ R ≤ 20 ∧ us.length ≤ 13 ∧
  ∀ l m' p' us' rs' H2, Same H H2 → H2 l = some (.lst [.int m', .ref p']) → H2 p' = some (.lst us') → RowsXAt H2 rs' us' → (∀ r ∈ rs', RowB (3 * B + 13) (2 * R + 1) r) → us'.length ≤ 13 → Q (.ref l) H2
theorem d_spoil (T : Txt K mg C CE) (Kb : K.In base) (G : base.Ns mainGlobals mg) : Df P w K mg base 4 "_law_spoiled" ["_law_measure_here", "_law_rows_here", "_law_number"] spSpoil := by
  have D_law_spoiled_row : Df P w K mg base 3 "_law_spoiled_row" ["_law_rows_here", "_law_at", "_law_number"] spSRow := d_srow T Kb G
  refine T.f_spoil.df Kb G sc_law_spoiled (fun _ _ _ _ _ _ us hl => match us, hl with | [_, _, _], _ => rfl) (by rintro vs H Q E ⟨m, p, us, rs, n, B, R, rfl, _⟩; rfl) (fun f cdv A outer s H vs Q E hr h => ?_)
  obtain ⟨m, p, us, rs, n, B, R, rfl, hp, hu, hsm, hB, hR, h13, q⟩ := h
  refine ⟨_, (pss_cons (ps_set (i := 3) sc_law_spoiled.nd rfl (by first | exact Or.inl rfl | exact Or.inr rfl) (pe_op op_mod (pv 2) pe_int))
    (pss_cons (ps_set (i := 2) sc_law_spoiled.nd rfl (by first | exact Or.inl rfl | exact Or.inr rfl) (pe_op op_fdiv (pv 2) pe_int))
    (pss_cons (ps_join (ps_if (pt_cmpR op_eq (pv 3) pe_int (nomark _)) (pss_one (ps_set (i := 0) sc_law_spoiled.nd rfl (by first | exact Or.inl rfl | exact Or.inr rfl) (pe_ix ix_seq (pe_lstA (pa_cons pe_int (pa_cons pe_int (pa_cons (pe_un un_neg (pv 0)) (pa_cons (pe_op op_add (pe_op op_pow pe_int pe_int) pe_int) (pa_cons (pe_op op_add (pe_op op_pow pe_int pe_int) (pv 0)) pa_nil (se rfl)) (se rfl)) (se rfl)) (se rfl)) (se rfl))) (pe_op op_mod (pv 2) pe_int) (fun _ _ => rfl)))) pss_nil))
    (pss_cons (ps_join (ps_if (pt_cmpR op_eq (pv 3) pe_int (nomark _)) (pss_cons (ps_lc (i := 4) sc_law_spoiled.nd rfl rfl (by with_unfolding_all rfl) (Blk.of (caps := []) (ix := []) rfl) rfl (pi_range1 rfl T.nrange (pa_cons (pe_op op_sub pe_int (pe_callB call_len_seq rfl T.nlen PySem.boot_len (pa_cons (pv 1) pa_nil (se rfl)) (he := se rfl) (hpl := nst rfl))) pa_nil (se rfl))) (fun _ _ _ _ => pf_nil) (fun _ _ _ _ => (pe_tupA (pa_cons (pe_op op_repS pe_str (pe_op op_add (pv 0) pe_int)) (pa_cons pe_str (pa_cons (pe_tupA pa_nil) pa_nil (se rfl)) (se rfl)) (se rfl)))))
    (pss_one (ps_set (i := 1) sc_law_spoiled.nd rfl (by first | exact Or.inl rfl | exact Or.inr rfl) (pe_ix ix_seq (pe_lstA (pa_cons (pe_lstA pa_nil) (pa_cons (pe_op op_catA (pv 1) (pv 4)) pa_nil (se rfl)) (se rfl))) (pe_op op_mod (pv 2) pe_int) (fun _ _ => rfl))))) pss_nil))
    (pss_cons (ps_join (ps_if (PW.pt (pw_and (pt_cmpR op_gt (pv 3) pe_int (nomark _)) (pw_and1 (pt_cmpR op_gt (pe_callB call_len_seq rfl T.nlen PySem.boot_len (pa_cons (pv 1) pa_nil (se rfl)) (he := se rfl) (hpl := nst rfl)) pe_int (nomark _))))) (pss_one (ps_set (i := 1) sc_law_spoiled.nd rfl (by first | exact Or.inl rfl | exact Or.inr rfl) (pe_callD D_law_spoiled_row (hr.mono (by decide)) rfl (pa_cons (pv 1) (pa_cons (pe_op op_mod (pv 2) (pe_callB call_len_seq rfl T.nlen PySem.boot_len (pa_cons (pv 1) pa_nil (se rfl)) (he := se rfl) (hpl := nst rfl))) (pa_cons (pe_op op_fdiv (pv 2) pe_int) pa_nil (se rfl)) (se rfl)) (se rfl)) (he := se rfl) (hpl := nst rfl)))) pss_nil))
    (pss_one (ps_ret (pe_lstA (pa_cons (pv 0) (pa_cons (pv 1) pa_nil (se rfl)) (se rfl)))))))))), ?_⟩
  have l1 := hu.len
  have lb := line_big
  have old : ∀ r ∈ rs, RowB (3 * B + 13) (2 * R + 1) r := fun r hr => ⟨(hsm r hr).name.mono (by omega), (hsm r hr).word.mono (by omega), by have := (hsm r hr).many; omega, fun rd hrd => ((hsm r hr).reads rd hrd).mono (by omega)⟩
  walk_at "rd"
  refine i_join (fun σ' H' => Same H H' ∧ ∃ m' : Int, σ' = [some (.int m'), some (.ref p), some (.int ((n / 8 : Nat) : Int)), some (.int ((n : Int) % 8)), none]) ?_ ?_
  · walk_at "rd"
    refine i_iteI (fun _ => ?_) (fun _ => ?_)
    · walk_at "rd"
      refine ⟨by show 5 ≤ sizeLine; decide, fun l H1 hN1 => ?_⟩
      walk_at "rd"
      have b5 := mod_b ((n / 8 : Nat) : Int) (show (0 : Int) < 5 by decide)
      obtain ⟨i, hi⟩ := five_at _ _ _ _ _ b5.1 b5.2
      refine i_ixL hN1.lst hi ?_
      walk_at "rd"
      exact ⟨hN1.same, i, rfl⟩
    · walk_at "rd"
      exact ⟨Same.refl _, m, rfl⟩
  rintro σ1 H1 ⟨s1, m1, rfl⟩
  walk_at "rd"
  refine i_join (fun σ' H' => Same H H' ∧ ∃ (p' : Addr) (us' : List V) (rs' : List RowX) (x4 : Option V), σ' = [some (.int m1), some (.ref p'), some (.int ((n / 8 : Nat) : Int)), some (.int ((n : Int) % 8)), x4] ∧ H' p' = some (.lst us') ∧ RowsXAt H' rs' us' ∧ (∀ r ∈ rs', RowB (3 * B + 13) (2 * R + 1) r) ∧ us'.length ≤ 13 ∧ (¬ (n : Int) % 8 = 1 → rs' = rs)) ?_ ?_
  · walk_at "rd"
    refine i_iteI (fun h10 => ?_) (fun h10 => ?_)
    · walk_at "rd"
      refine i_setLc (i_lc (i_rng1 ?_))
      walk_at "rd"
      refine ⟨_, _, rfl, .inl (sqL_inj_of (s1 _ _ hp)), ?_⟩
      walk_at "rd"
      refine ⟨_, rfl, by omega, by omega, ?_⟩
      have hn13 : (13 - (us.length : Int)).toNat = 13 - us.length := by omega
      rw [hn13]
      refine lcN LcIt.rng (fun D i y H' => ∃ r, RowB (3 * B + 13) (2 * R + 1) r ∧ RowXAt (hide D H') r y) (by omega) (fun D i y H' H'' s h => ?_) (fun D i H' R' hi hD hy s r => ?_) (fun D ys H2 hD s2 hHD hyl hP => ?_)
      · obtain ⟨r, e1, e2⟩ := h
        exact ⟨r, e1, e2.same (hide_sameB s)⟩
      · obtain ⟨ys, hy⟩ := hy
        walk_at "rd"
        refine ⟨_, _, rfl, rfl, by omega, by omega, by decide +kernel, fun z hz hc => ?_⟩
        walk_at "rd"
        refine ⟨by show 0 ≤ sizeLine; exact Nat.zero_le _, fun t1 H3 hN3 => ?_⟩
        walk_at "rd"
        refine ⟨by show 3 ≤ sizeLine; decide, fun t2 H4 hN4 => ?_⟩
        have hzl : z.length ≤ 13 := by
          refine Nat.le_trans hz ?_
          have e1 : (Str.ofString "z").length = 1 := by decide +kernel
          rw [e1]; omega
        have s34 := hN3.same.trans hN4.same
        refine r _ _ s34 ⟨⟨z, Str.ofString "take", []⟩, ⟨⟨by show z.length ≤ _; omega, fun c h => z_ch c (hc c h)⟩, ⟨by show 4 ≤ _; omega, by show ∀ c ∈ (Str.ofString "take").cps.toList, c < 16 ^ 8; decide +kernel⟩, Nat.zero_le _, fun rd h => by simp at h⟩, ?_⟩
        exact RowXAt.hide (s34 _ _ hy) ⟨t1, t2, [], rfl, hN4.at, hN4.same _ _ hN3.at, rfl, fun i r v e => by simp at e⟩
      · obtain ⟨ms, hml, hms⟩ := pick_list ys (fun i r y => RowB (3 * B + 13) (2 * R + 1) r ∧ RowXAt (hide D H2) r y) hP
        have t2 := s1.trans s2
        walk_at "rd"
        refine ⟨by show 0 ≤ sizeLine; exact Nat.zero_le _, fun e1 H3 hN3 => ?_⟩
        walk_at "rd"
        refine i_catA (hN3.same _ _ (t2 _ _ hp)) (hN3.same _ _ hHD) (by omega) fun c1 H4 hN4 => ?_
        walk_at "rd"
        refine ⟨by show 2 ≤ sizeLine; decide, fun l H5 hN5 => ?_⟩
        walk_at "rd"
        have b2 := mod_b ((n / 8 : Nat) : Int) (show (0 : Int) < 2 by decide)
        have s35 := (hN3.same.trans hN4.same).trans hN5.same
        rcases two_atV (.ref e1) (.ref c1) b2.1 b2.2 with e | e
        · refine i_ixL hN5.lst e ?_
          walk_at "rd"
          exact ⟨t2.trans s35, e1, [], [], _, rfl, hN5.same _ _ (hN4.same _ _ hN3.at), ⟨rfl, fun i r u e => by simp at e⟩, fun r h => by simp at h, Nat.zero_le _, fun n1 => absurd h10 n1⟩
        · refine i_ixL hN5.lst e ?_
          walk_at "rd"
          refine ⟨t2.trans s35, c1, _, rs ++ ms, _, rfl, hN5.same _ _ hN4.at, (hu.same (t2.trans s35)).cat ⟨hml, fun i r u a b => ((hms i r u a b).2.same (hide_same D H2)).same s35⟩, fun r hr => ?_, by rw [List.length_append]; omega, fun n1 => absurd h10 n1⟩
          rcases List.mem_append.mp hr with h | h
          · exact old r h
          · obtain ⟨i, hi⟩ := List.mem_iff_getElem?.mp h
            have hil : i < ys.length := by rw [← hml]; exact (List.getElem?_eq_some_iff.mp hi).1
            exact (hms i r ys[i] hi (List.getElem?_eq_getElem hil)).1
    · walk_at "rd"
      exact ⟨s1, p, us, rs, none, rfl, s1 _ _ hp, hu.same s1, old, h13, fun _ => rfl⟩
  rintro σ2 H2 ⟨s2, p2, us2, rs2, x4, rfl, hp2, hu2, hb2, hl2, he2⟩
  have l2 := hu2.len
  walk_at "rd"
  refine i_join (fun σ' H' => Same H H' ∧ ∃ (p' : Addr) (us' : List V) (rs' : List RowX), σ' = [some (.int m1), some (.ref p'), some (.int ((n / 8 : Nat) : Int)), some (.int ((n : Int) % 8)), x4] ∧ H' p' = some (.lst us') ∧ RowsXAt H' rs' us' ∧ (∀ r ∈ rs', RowB (3 * B + 13) (2 * R + 1) r) ∧ us'.length ≤ 13) ?_ ?_
  · walk_at "rd"
    refine i_iteD (fun hw => ?_) (fun hw => ?_)
    · walk_at "rd"
      refine ⟨_, _, rfl, .inl (sqL_inj_of hp2), ?_⟩
      walk_at "rd"
      refine i_iteD (fun hpos => ?_) (fun hpos => ?_)
      · have hpos' : (0 : Int) < (us2.length : Int) := hpos
        have ers := he2 (by omega)
        walk_at "rd"
        refine ⟨_, _, rfl, .inl (sqL_inj_of hp2), ?_⟩
        walk_at "rd"
        have bl := mod_b ((n / 8 : Nat) : Int) hpos'
        obtain ⟨j, hj⟩ := Int.eq_ofNat_of_zero_le bl.1
        rw [hj] at bl ⊢
        refine ⟨p2, us2, rs2, j, n / 8 / 12, B, R, rfl, hp2, hu2, by rw [ers]; exact hsm, hB, hR, by omega, hl2, fun p' us' rs' H3 s3 h1 h2 h3 h4 => ?_⟩
        walk_at "rd"
        exact ⟨s2.trans s3, p', us', rs', rfl, h1, h2, h3, by have := h2.len; omega⟩
      · walk_at "rd"
        exact ⟨s2, p2, us2, rs2, rfl, hp2, hu2, hb2, hl2⟩
    · walk_at "rd"
      exact ⟨s2, p2, us2, rs2, rfl, hp2, hu2, hb2, hl2⟩
  rintro σ3 H3 ⟨s3, p3, us3, rs3, rfl, hp3, hu3, hb3, hl3⟩
  walk_at "rd"
  refine ⟨by show 2 ≤ sizeLine; decide, fun l H4 hN4 => ?_⟩
  exact q l m1 p3 us3 rs3 H4 (s3.trans hN4.same) hN4.at (hN4.same _ _ hp3) (hu3.same hN4.same) hb3 hl3
def raised : List Xk := [.NoDeed, .NoMeasure, .BadRows, .BadName, .Twice, .BadCount, .BadNumber, .NoRow, .BadBack, .TooEarly]
theorem kX (T : Txt K mg C CE) {e : Xk} (he : e ∈ raised) (f : Xk) (h1 : f ≠ .LapError) (h2 : f ≠ .Loop) : PySem.W.kitOne K (.ref (CE e)) (.ref (CE f)) = some (decide (f = e)) := by
  have : e = .NoDeed ∨ e = .NoMeasure ∨ e = .BadRows ∨ e = .BadName ∨ e = .Twice ∨ e = .BadCount ∨ e = .BadNumber ∨ e = .NoRow ∨ e = .BadBack ∨ e = .TooEarly := by simpa [raised] using he
  rcases this with z | z | z | z | z | z | z | z | z | z <;> subst z
  · exact T.kX_NoDeed f h1 h2
  · exact T.kX_NoMeasure f h1 h2
  · exact T.kX_BadRows f h1 h2
  · exact T.kX_BadName f h1 h2
  · exact T.kX_Twice f h1 h2
  · exact T.kX_BadCount f h1 h2
  · exact T.kX_BadNumber f h1 h2
  · exact T.kX_NoRow f h1 h2
  · exact T.kX_BadBack f h1 h2
  · exact T.kX_TooEarly f h1 h2
theorem kV (T : Txt K mg C CE) {e : Xk} (he : e ∈ raised) : PySem.W.kitOne K (.ref (CE e)) (.type "ValueError") = some true ∧ PySem.W.kitOne K (.ref (CE e)) (.ref (CE .LapError)) = some true ∧ XCls K (CE e) ∧ PySem.W.mroIn K (CE e) (.ref (CE .LapError)) = some true := by
  have : e = .NoDeed ∨ e = .NoMeasure ∨ e = .BadRows ∨ e = .BadName ∨ e = .Twice ∨ e = .BadCount ∨ e = .BadNumber ∨ e = .NoRow ∨ e = .BadBack ∨ e = .TooEarly := by simpa [raised] using he
  rcases this with z | z | z | z | z | z | z | z | z | z <;> subst z
  · exact ⟨T.kV_NoDeed, T.kL_NoDeed, T.x_NoDeed.xc, T.m_NoDeed⟩
  · exact ⟨T.kV_NoMeasure, T.kL_NoMeasure, T.x_NoMeasure.xc, T.m_NoMeasure⟩
  · exact ⟨T.kV_BadRows, T.kL_BadRows, T.x_BadRows.xc, T.m_BadRows⟩
  · exact ⟨T.kV_BadName, T.kL_BadName, T.x_BadName.xc, T.m_BadName⟩
  · exact ⟨T.kV_Twice, T.kL_Twice, T.x_Twice.xc, T.m_Twice⟩
  · exact ⟨T.kV_BadCount, T.kL_BadCount, T.x_BadCount.xc, T.m_BadCount⟩
  · exact ⟨T.kV_BadNumber, T.kL_BadNumber, T.x_BadNumber.xc, T.m_BadNumber⟩
  · exact ⟨T.kV_NoRow, T.kL_NoRow, T.x_NoRow.xc, T.m_NoRow⟩
  · exact ⟨T.kV_BadBack, T.kL_BadBack, T.x_BadBack.xc, T.m_BadBack⟩
  · exact ⟨T.kV_TooEarly, T.kL_TooEarly, T.x_TooEarly.xc, T.m_TooEarly⟩
def alpha : List Xk := [.BadArms, .BadBack, .BadCount, .BadDelay, .BadHold, .BadName, .BadNumber, .BadPlan, .BadRows, .BadText, .BadTurns, .BadWidth, .NoArm, .NoDeed, .NoMeasure, .NoRow, .Short, .TooEarly, .Twice, .Unfit]
def spClasses (CE : Xk → Addr) : Sp := fun vs H Q _ => ∃ (e : Addr) (x : Xk), vs = [.ref e] ∧ x ∈ raised ∧ H e = some (excO e (CE x) none) ∧ ∀ H2, Same H H2 → Q (.int (code (some x))) H2
theorem d_classes (T : Txt K mg C CE) (Kb : K.In base) (G : base.Ns mainGlobals mg) : Df P w K mg base 1 "_law_classes" ["_law_kept"] (spClasses CE) := by
  refine T.f_classes.df Kb G sc_law_classes (fun _ _ _ _ _ _ us hl => match us, hl with | [_], _ => rfl) (by rintro vs H Q E ⟨e, x, rfl, _⟩; rfl) (fun f cdv A outer s H vs Q E hr h => ?_)
  obtain ⟨e, x, rfl, hx, he, q⟩ := h
  obtain ⟨kv, kl, xc, _⟩ := kV T hx
  refine ⟨_, (pss_cons (ps_set (i := 1) sc_law_classes.nd rfl (by first | exact Or.inl rfl | exact Or.inr rfl) (pe_lstA (pa_cons (pe_callB call_isiX rfl T.nisi PyProof.Rows.boot_isinstance (pa_cons (pv 0) (pa_cons (pe_glob (v := .ref _) rfl (T.mg_BadArms) rfl) pa_nil (se rfl)) (se rfl)) (he := se rfl) (hpl := nst rfl)) (pa_cons (pe_callB call_isiX rfl T.nisi PyProof.Rows.boot_isinstance (pa_cons (pv 0) (pa_cons (pe_glob (v := .ref _) rfl (T.mg_BadBack) rfl) pa_nil (se rfl)) (se rfl)) (he := se rfl) (hpl := nst rfl)) (pa_cons (pe_callB call_isiX rfl T.nisi PyProof.Rows.boot_isinstance (pa_cons (pv 0) (pa_cons (pe_glob (v := .ref _) rfl (T.mg_BadCount) rfl) pa_nil (se rfl)) (se rfl)) (he := se rfl) (hpl := nst rfl)) pa_nil (se rfl)) (se rfl)) (se rfl))))
    (pss_cons (ps_set (i := 1) sc_law_classes.nd rfl (by first | exact Or.inl rfl | exact Or.inr rfl) (pe_op op_catA (pv 1) (pe_lstA (pa_cons (pe_callB call_isiX rfl T.nisi PyProof.Rows.boot_isinstance (pa_cons (pv 0) (pa_cons (pe_glob (v := .ref _) rfl (T.mg_BadDelay) rfl) pa_nil (se rfl)) (se rfl)) (he := se rfl) (hpl := nst rfl)) (pa_cons (pe_callB call_isiX rfl T.nisi PyProof.Rows.boot_isinstance (pa_cons (pv 0) (pa_cons (pe_glob (v := .ref _) rfl (T.mg_BadHold) rfl) pa_nil (se rfl)) (se rfl)) (he := se rfl) (hpl := nst rfl)) pa_nil (se rfl)) (se rfl)))))
    (pss_cons (ps_set (i := 1) sc_law_classes.nd rfl (by first | exact Or.inl rfl | exact Or.inr rfl) (pe_op op_catA (pv 1) (pe_lstA (pa_cons (pe_callB call_isiX rfl T.nisi PyProof.Rows.boot_isinstance (pa_cons (pv 0) (pa_cons (pe_glob (v := .ref _) rfl (T.mg_BadName) rfl) pa_nil (se rfl)) (se rfl)) (he := se rfl) (hpl := nst rfl)) (pa_cons (pe_callB call_isiX rfl T.nisi PyProof.Rows.boot_isinstance (pa_cons (pv 0) (pa_cons (pe_glob (v := .ref _) rfl (T.mg_BadNumber) rfl) pa_nil (se rfl)) (se rfl)) (he := se rfl) (hpl := nst rfl)) pa_nil (se rfl)) (se rfl)))))
    (pss_cons (ps_set (i := 1) sc_law_classes.nd rfl (by first | exact Or.inl rfl | exact Or.inr rfl) (pe_op op_catA (pv 1) (pe_lstA (pa_cons (pe_callB call_isiX rfl T.nisi PyProof.Rows.boot_isinstance (pa_cons (pv 0) (pa_cons (pe_glob (v := .ref _) rfl (T.mg_BadPlan) rfl) pa_nil (se rfl)) (se rfl)) (he := se rfl) (hpl := nst rfl)) (pa_cons (pe_callB call_isiX rfl T.nisi PyProof.Rows.boot_isinstance (pa_cons (pv 0) (pa_cons (pe_glob (v := .ref _) rfl (T.mg_BadRows) rfl) pa_nil (se rfl)) (se rfl)) (he := se rfl) (hpl := nst rfl)) (pa_cons (pe_callB call_isiX rfl T.nisi PyProof.Rows.boot_isinstance (pa_cons (pv 0) (pa_cons (pe_glob (v := .ref _) rfl (T.mg_BadText) rfl) pa_nil (se rfl)) (se rfl)) (he := se rfl) (hpl := nst rfl)) pa_nil (se rfl)) (se rfl)) (se rfl)))))
    (pss_cons (ps_set (i := 1) sc_law_classes.nd rfl (by first | exact Or.inl rfl | exact Or.inr rfl) (pe_op op_catA (pv 1) (pe_lstA (pa_cons (pe_callB call_isiX rfl T.nisi PyProof.Rows.boot_isinstance (pa_cons (pv 0) (pa_cons (pe_glob (v := .ref _) rfl (T.mg_BadTurns) rfl) pa_nil (se rfl)) (se rfl)) (he := se rfl) (hpl := nst rfl)) (pa_cons (pe_callB call_isiX rfl T.nisi PyProof.Rows.boot_isinstance (pa_cons (pv 0) (pa_cons (pe_glob (v := .ref _) rfl (T.mg_BadWidth) rfl) pa_nil (se rfl)) (se rfl)) (he := se rfl) (hpl := nst rfl)) (pa_cons (pe_callB call_isiX rfl T.nisi PyProof.Rows.boot_isinstance (pa_cons (pv 0) (pa_cons (pe_glob (v := .ref _) rfl (T.mg_NoArm) rfl) pa_nil (se rfl)) (se rfl)) (he := se rfl) (hpl := nst rfl)) pa_nil (se rfl)) (se rfl)) (se rfl)))))
    (pss_cons (ps_set (i := 1) sc_law_classes.nd rfl (by first | exact Or.inl rfl | exact Or.inr rfl) (pe_op op_catA (pv 1) (pe_lstA (pa_cons (pe_callB call_isiX rfl T.nisi PyProof.Rows.boot_isinstance (pa_cons (pv 0) (pa_cons (pe_glob (v := .ref _) rfl (T.mg_NoDeed) rfl) pa_nil (se rfl)) (se rfl)) (he := se rfl) (hpl := nst rfl)) (pa_cons (pe_callB call_isiX rfl T.nisi PyProof.Rows.boot_isinstance (pa_cons (pv 0) (pa_cons (pe_glob (v := .ref _) rfl (T.mg_NoMeasure) rfl) pa_nil (se rfl)) (se rfl)) (he := se rfl) (hpl := nst rfl)) (pa_cons (pe_callB call_isiX rfl T.nisi PyProof.Rows.boot_isinstance (pa_cons (pv 0) (pa_cons (pe_glob (v := .ref _) rfl (T.mg_NoRow) rfl) pa_nil (se rfl)) (se rfl)) (he := se rfl) (hpl := nst rfl)) pa_nil (se rfl)) (se rfl)) (se rfl)))))
    (pss_cons (ps_set (i := 1) sc_law_classes.nd rfl (by first | exact Or.inl rfl | exact Or.inr rfl) (pe_op op_catA (pv 1) (pe_lstA (pa_cons (pe_callB call_isiX rfl T.nisi PyProof.Rows.boot_isinstance (pa_cons (pv 0) (pa_cons (pe_glob (v := .ref _) rfl (T.mg_Short) rfl) pa_nil (se rfl)) (se rfl)) (he := se rfl) (hpl := nst rfl)) (pa_cons (pe_callB call_isiX rfl T.nisi PyProof.Rows.boot_isinstance (pa_cons (pv 0) (pa_cons (pe_glob (v := .ref _) rfl (T.mg_TooEarly) rfl) pa_nil (se rfl)) (se rfl)) (he := se rfl) (hpl := nst rfl)) (pa_cons (pe_callB call_isiX rfl T.nisi PyProof.Rows.boot_isinstance (pa_cons (pv 0) (pa_cons (pe_glob (v := .ref _) rfl (T.mg_Twice) rfl) pa_nil (se rfl)) (se rfl)) (he := se rfl) (hpl := nst rfl)) pa_nil (se rfl)) (se rfl)) (se rfl)))))
    (pss_cons (ps_set (i := 1) sc_law_classes.nd rfl (by first | exact Or.inl rfl | exact Or.inr rfl) (pe_op op_catA (pv 1) (pe_lstA (pa_cons (pe_callB call_isiX rfl T.nisi PyProof.Rows.boot_isinstance (pa_cons (pv 0) (pa_cons (pe_glob (v := .ref _) rfl (T.mg_Unfit) rfl) pa_nil (se rfl)) (se rfl)) (he := se rfl) (hpl := nst rfl)) pa_nil (se rfl)))))
    (pss_cons (ps_if (PW.pt (pw_or (pt_not (pt_val (pe_callB call_isiX rfl T.nisi PyProof.Rows.boot_isinstance (pa_cons (pv 0) (pa_cons (pe_glob (v := .ref _) rfl (T.mg_LapError) rfl) pa_nil (se rfl)) (se rfl)) (he := se rfl) (hpl := nst rfl)))) (pw_or1 (pt_not (pt_val (pe_callB call_isiX rfl T.nisi PyProof.Rows.boot_isinstance (pa_cons (pv 0) (pa_cons (pe_bltn (v := .ty "ValueError") rfl T.nVE boot_ValueError rfl) pa_nil (se rfl)) (se rfl)) (he := se rfl) (hpl := nst rfl))))))) (pss_one (ps_ret (pe_un un_neg pe_int))) pss_nil)
    (pss_cons (ps_if (pt_cmpR op_ne (pe_callB (call_sum rfl) rfl T.nsum boot_sum0 (pa_cons (pe_lc (Blk.of (caps := []) (ix := []) rfl) rfl (pi_list (pv 1)) (fun _ _ _ _ => pf_nil) (fun _ _ _ _ => (pe_callTy call_int1 rfl T.nint PyProof.Rows.boot_int (pa_cons (pv 0) pa_nil (se rfl)) (he := se rfl) (hpl := nst rfl)))) pa_nil (se rfl)) (he := se rfl) (hpl := nst rfl)) pe_int (nomark _)) (pss_one (ps_ret (pe_un un_neg pe_int))) pss_nil)
    (pss_one (ps_ret (pe_bm PySem.F.plainAttrs_list PySem.F.slot_list_index PySem.F.type_list_index mt_indexV (pv 1) (pa_cons pe_bl pa_nil (se rfl)) (hs := se rfl) (hplain := nst rfl)))))))))))))), ?_⟩
  walk_at "rd"
  refine ⟨_, _, none, _, _, rfl, rfl, he, .inl rfl, xc, kX T hx .BadArms (by decide) (by decide), ?_⟩
  walk_at "rd"
  refine ⟨_, _, none, _, _, rfl, rfl, he, .inl rfl, xc, kX T hx .BadBack (by decide) (by decide), ?_⟩
  walk_at "rd"
  refine ⟨_, _, none, _, _, rfl, rfl, he, .inl rfl, xc, kX T hx .BadCount (by decide) (by decide), ?_⟩
  walk_at "rd"
  refine ⟨by show 3 ≤ sizeLine; decide, fun r0 H0 hM0 => ?_⟩
  have s0 : Same H H0 := hM0.same
  walk_at "rd"
  have he0 := s0 _ _ he
  refine ⟨_, _, none, _, _, rfl, rfl, he0, .inl rfl, xc, kX T hx .BadDelay (by decide) (by decide), ?_⟩
  walk_at "rd"
  refine ⟨_, _, none, _, _, rfl, rfl, he0, .inl rfl, xc, kX T hx .BadHold (by decide) (by decide), ?_⟩
  walk_at "rd"
  refine ⟨by show 2 ≤ sizeLine; decide, fun q0 G0 hL0 => ?_⟩
  refine i_catA (hL0.same _ _ hM0.at) hL0.at (by show 5 ≤ sizeLine; decide) fun r1 H1 hM1 => ?_
  have s1 : Same H H1 := (s0.trans hL0.same).trans hM1.same
  walk_at "rd"
  have he1 := s1 _ _ he
  refine ⟨_, _, none, _, _, rfl, rfl, he1, .inl rfl, xc, kX T hx .BadName (by decide) (by decide), ?_⟩
  walk_at "rd"
  refine ⟨_, _, none, _, _, rfl, rfl, he1, .inl rfl, xc, kX T hx .BadNumber (by decide) (by decide), ?_⟩
  walk_at "rd"
  refine ⟨by show 2 ≤ sizeLine; decide, fun q1 G1 hL1 => ?_⟩
  refine i_catA (hL1.same _ _ hM1.at) hL1.at (by show 7 ≤ sizeLine; decide) fun r2 H2 hM2 => ?_
  have s2 : Same H H2 := (s1.trans hL1.same).trans hM2.same
  walk_at "rd"
  have he2 := s2 _ _ he
  refine ⟨_, _, none, _, _, rfl, rfl, he2, .inl rfl, xc, kX T hx .BadPlan (by decide) (by decide), ?_⟩
  walk_at "rd"
  refine ⟨_, _, none, _, _, rfl, rfl, he2, .inl rfl, xc, kX T hx .BadRows (by decide) (by decide), ?_⟩
  walk_at "rd"
  refine ⟨_, _, none, _, _, rfl, rfl, he2, .inl rfl, xc, kX T hx .BadText (by decide) (by decide), ?_⟩
  walk_at "rd"
  refine ⟨by show 3 ≤ sizeLine; decide, fun q2 G2 hL2 => ?_⟩
  refine i_catA (hL2.same _ _ hM2.at) hL2.at (by show 10 ≤ sizeLine; decide) fun r3 H3 hM3 => ?_
  have s3 : Same H H3 := (s2.trans hL2.same).trans hM3.same
  walk_at "rd"
  have he3 := s3 _ _ he
  refine ⟨_, _, none, _, _, rfl, rfl, he3, .inl rfl, xc, kX T hx .BadTurns (by decide) (by decide), ?_⟩
  walk_at "rd"
  refine ⟨_, _, none, _, _, rfl, rfl, he3, .inl rfl, xc, kX T hx .BadWidth (by decide) (by decide), ?_⟩
  walk_at "rd"
  refine ⟨_, _, none, _, _, rfl, rfl, he3, .inl rfl, xc, kX T hx .NoArm (by decide) (by decide), ?_⟩
  walk_at "rd"
  refine ⟨by show 3 ≤ sizeLine; decide, fun q3 G3 hL3 => ?_⟩
  refine i_catA (hL3.same _ _ hM3.at) hL3.at (by show 13 ≤ sizeLine; decide) fun r4 H4 hM4 => ?_
  have s4 : Same H H4 := (s3.trans hL3.same).trans hM4.same
  walk_at "rd"
  have he4 := s4 _ _ he
  refine ⟨_, _, none, _, _, rfl, rfl, he4, .inl rfl, xc, kX T hx .NoDeed (by decide) (by decide), ?_⟩
  walk_at "rd"
  refine ⟨_, _, none, _, _, rfl, rfl, he4, .inl rfl, xc, kX T hx .NoMeasure (by decide) (by decide), ?_⟩
  walk_at "rd"
  refine ⟨_, _, none, _, _, rfl, rfl, he4, .inl rfl, xc, kX T hx .NoRow (by decide) (by decide), ?_⟩
  walk_at "rd"
  refine ⟨by show 3 ≤ sizeLine; decide, fun q4 G4 hL4 => ?_⟩
  refine i_catA (hL4.same _ _ hM4.at) hL4.at (by show 16 ≤ sizeLine; decide) fun r5 H5 hM5 => ?_
  have s5 : Same H H5 := (s4.trans hL4.same).trans hM5.same
  walk_at "rd"
  have he5 := s5 _ _ he
  refine ⟨_, _, none, _, _, rfl, rfl, he5, .inl rfl, xc, kX T hx .Short (by decide) (by decide), ?_⟩
  walk_at "rd"
  refine ⟨_, _, none, _, _, rfl, rfl, he5, .inl rfl, xc, kX T hx .TooEarly (by decide) (by decide), ?_⟩
  walk_at "rd"
  refine ⟨_, _, none, _, _, rfl, rfl, he5, .inl rfl, xc, kX T hx .Twice (by decide) (by decide), ?_⟩
  walk_at "rd"
  refine ⟨by show 3 ≤ sizeLine; decide, fun q5 G5 hL5 => ?_⟩
  refine i_catA (hL5.same _ _ hM5.at) hL5.at (by show 19 ≤ sizeLine; decide) fun r6 H6 hM6 => ?_
  have s6 : Same H H6 := (s5.trans hL5.same).trans hM6.same
  walk_at "rd"
  have he6 := s6 _ _ he
  refine ⟨_, _, none, _, _, rfl, rfl, he6, .inl rfl, xc, kX T hx .Unfit (by decide) (by decide), ?_⟩
  walk_at "rd"
  refine ⟨by show 1 ≤ sizeLine; decide, fun q6 G6 hL6 => ?_⟩
  refine i_catA (hL6.same _ _ hM6.at) hL6.at (by show 20 ≤ sizeLine; decide) fun r7 H7 hM7 => ?_
  have s7 : Same H H7 := (s6.trans hL6.same).trans hM7.same
  walk_at "rd"
  have heL := s7 _ _ he
  have hf : H7 r7 = some (.lst (List.map V.bl (alpha.map fun f => decide (f = x)))) := hM7.at
  refine ⟨_, _, none, _, _, rfl, rfl, heL, .inl rfl, xc, kl, ?_⟩
  walk_at "rd"
  refine ⟨_, _, none, _, _, rfl, rfl, heL, .inl rfl, xc, kv, ?_⟩
  walk_at "rd"
  refine i_lc (i_list ?_)
  walk_at "rd"
  refine lcL (List.map V.bl (alpha.map fun f => decide (f = x))) (fun v => match v with | .bl b => .int (if b then 1 else 0) | v => v) (sqL_inj_of hf) (by rw [List.length_map, List.length_map]; show 20 ≤ sizeLine; decide) (fun i v H' R hv s r => ?_) (fun D HD hND => ?_)
  · rw [List.getElem?_map] at hv
    cases hb : (alpha.map fun f => decide (f = x))[i]? with
    | none => rw [hb] at hv; cases hv
    | some b =>
      rw [hb] at hv
      have ev : V.bl b = v := Option.some.inj hv
      subst ev
      walk_at "rd"
      refine .inr ⟨b, rfl, ?_⟩
      exact r
  have eint : (List.map V.bl (alpha.map fun f => decide (f = x))).map (fun v => match v with | .bl b => V.int (if b then 1 else 0) | v => v) = List.map V.int (alpha.map fun f => if decide (f = x) then (1 : Int) else 0) := by
    rw [List.map_map, List.map_map, List.map_map]; rfl
  rw [eint] at hND
  walk_at "rd"
  refine i_sum hND.lst ?_
  have hxl : x = .NoDeed ∨ x = .NoMeasure ∨ x = .BadRows ∨ x = .BadName ∨ x = .Twice ∨ x = .BadCount ∨ x = .BadNumber ∨ x = .NoRow ∨ x = .BadBack ∨ x = .TooEarly := by simpa [raised] using hx
  have esum : (alpha.map fun f => if decide (f = x) then (1 : Int) else 0).sum = 1 := by
    rcases hxl with z | z | z | z | z | z | z | z | z | z <;> subst z <;> decide
  rw [esum]
  walk_at "rd"
  rw [decide_eq_true (rfl : V.int 1 = V.int 1)]
  walk_at "rd"
  refine ⟨.inl ⟨rfl, _, sqL_inj_of (hND.same _ _ hf)⟩, ?_⟩
  walk_at "rd"
  have hix : ∃ j : Nat, (j : Int) = code (some x) ∧ j < 20 ∧ (∀ y, (List.map V.bl (alpha.map fun f => decide (f = x)))[j]? = some y → eqV y (.bl true) = true) ∧ (∀ i y, i < j → (List.map V.bl (alpha.map fun f => decide (f = x)))[i]? = some y → eqV y (.bl true) = false) := by
    have key : ∀ (bs : List Bool) (j : Nat), bs[j]? = some true → (∀ i, i < j → bs[i]? = some false) → (∀ y, (List.map V.bl bs)[j]? = some y → eqV y (.bl true) = true) ∧ (∀ i y, i < j → (List.map V.bl bs)[i]? = some y → eqV y (.bl true) = false) := by
      intro bs j h1 h2
      constructor
      · intro y hy
        rw [List.getElem?_map, h1] at hy
        cases hy; rfl
      · intro i y hi hy
        rw [List.getElem?_map, h2 i hi] at hy
        cases hy; rfl
    rcases hxl with z | z | z | z | z | z | z | z | z | z <;> subst z
    · exact ⟨13, rfl, by decide, key _ 13 (by decide) (by decide)⟩
    · exact ⟨14, rfl, by decide, key _ 14 (by decide) (by decide)⟩
    · exact ⟨8, rfl, by decide, key _ 8 (by decide) (by decide)⟩
    · exact ⟨5, rfl, by decide, key _ 5 (by decide) (by decide)⟩
    · exact ⟨18, rfl, by decide, key _ 18 (by decide) (by decide)⟩
    · exact ⟨2, rfl, by decide, key _ 2 (by decide) (by decide)⟩
    · exact ⟨6, rfl, by decide, key _ 6 (by decide) (by decide)⟩
    · exact ⟨15, rfl, by decide, key _ 15 (by decide) (by decide)⟩
    · exact ⟨1, rfl, by decide, key _ 1 (by decide) (by decide)⟩
    · exact ⟨17, rfl, by decide, key _ 17 (by decide) (by decide)⟩
  obtain ⟨j, hj, hj20, ja, jb⟩ := hix
  refine ⟨_, _, .bl true, j, rfl, rfl, rfl, by rw [List.all_map]; exact List.all_eq_true.mpr fun _ _ => rfl, sqL_inj_of (hND.same _ _ hf), by rw [List.length_map, List.length_map]; exact hj20, ja, jb, by rw [List.length_map, List.length_map]; show 20 ≤ 1000; decide, ?_⟩
  rw [hj]
  exact q _ (s7.trans hND.same)
theorem first_mem {e : Xk} : ∀ {l : List (Option Xk)}, first l = some e → some e ∈ l
  | none :: l, h => List.mem_cons_of_mem _ (first_mem (l := l) h)
  | some e' :: l, h => by cases h; exact List.mem_cons_self
  | [], h => by cases h
theorem refRd_mem {zs as : List Str} {rd : Rd} {e : Xk} (h : refRd zs as rd = some e) : e ∈ raised := by
  cases rd with
  | num i =>
    simp only [refRd] at h
    split at h
    · cases h
    · cases h; decide
  | back z b =>
    simp only [refRd] at h
    split at h
    · cases h; decide
    · split at h
      · cases h; decide
      · split at h
        · cases h; decide
        · cases h
theorem refHead_mem {as : List Str} {r : RowX} {e : Xk} (h : refHead as r = some e) : e ∈ raised := by
  unfold refHead at h
  split at h
  · cases h; decide
  · split at h
    · cases h; decide
    · split at h
      · cases h; decide
      · split at h
        · cases h
        · cases h; decide
theorem refLoop_mem {m : Int} {rs : List RowX} {e : Xk} (h : refLoop m rs = some e) : e ∈ raised := by
  unfold refLoop at h
  cases hM : refM m with
  | some x =>
    rw [hM] at h
    cases h
    unfold refM at hM
    split at hM
    · cases hM
    · cases hM; decide
  | none =>
    rw [hM] at h
    have h : refRows rs = some e := h
    unfold refRows at h
    split at h
    · have hm := first_mem h
      unfold refAll at hm
      obtain ⟨i, hi⟩ := List.mem_iff_getElem?.mp hm
      rw [List.getElem?_mapIdx] at hi
      cases hr : rs[i]? with
      | none => rw [hr] at hi; cases hi
      | some r =>
        rw [hr] at hi
        have h2 : refRow (rs.map (·.name)) i r = some e := Option.some.inj hi
        unfold refRow at h2
        cases hh : refHead ((rs.map (·.name)).take i) r with
        | some x => rw [hh] at h2; cases h2; exact refHead_mem hh
        | none =>
          rw [hh] at h2
          have hm2 := first_mem h2
          obtain ⟨rd, _, hrd⟩ := List.mem_map.mp hm2
          exact refRd_mem hrd
    · cases h; decide
theorem code_pos {e : Xk} (h : e ∈ raised) : 0 ≤ code (some e) := by
  have : e = .NoDeed ∨ e = .NoMeasure ∨ e = .BadRows ∨ e = .BadName ∨ e = .Twice ∨ e = .BadCount ∨ e = .BadNumber ∨ e = .NoRow ∨ e = .BadBack ∨ e = .TooEarly := by simpa [raised] using h
  rcases this with z | z | z | z | z | z | z | z | z | z <;> subst z <;> decide
def Row.x (r : Row) : RowX := ⟨r.name, r.d.word, r.reads⟩
theorem dk_tb (d : Dk) : TB 12 d.word := by cases d <;> exact ⟨by decide +kernel, by decide +kernel⟩
theorem rows_x {H : Hp} {rs : List Row} {us : List V} (h : RowsAt H rs us) : RowsXAt H (rs.map Row.x) us := by
  refine ⟨by rw [List.length_map]; exact h.len, fun i r u e1 e2 => ?_⟩
  rw [List.getElem?_map] at e1
  cases hr : rs[i]? with
  | none => rw [hr] at e1; cases e1
  | some r0 =>
    rw [hr] at e1
    have e : r0.x = r := Option.some.inj e1
    subst e
    exact h.at_ i r0 u hr e2
theorem rows_b {zs : List Str} {rs : List Row} (h : RowsOk zs rs) : ∀ r ∈ rs.map Row.x, RowB 12 3 r := fun r hr => by
  obtain ⟨r0, hr0, rfl⟩ := List.mem_map.mp hr
  obtain ⟨i, hi⟩ := List.mem_iff_getElem?.mp hr0
  have ok := h.at_ i r0 hi
  obtain ⟨_, place, n, hn⟩ := h.names
  have tb : ∀ (j : Nat) z, zs[j]? = some z → TB 12 z := fun j z hz => (hn j z hz).2.2.1.tb (hn j z hz).2.1
  refine ⟨tb i _ ok.name, dk_tb _, by show r0.reads.length ≤ 3; rw [ok.many]; exact wants3 _, fun rd hrd => ?_⟩
  have := ok.reads rd hrd
  cases rd with
  | num _ => trivial
  | back z b => obtain ⟨j, hj, _⟩ := this; exact tb j z hj
def spLaw (K : PySem.W.Frag) (ns : List Int) : Sp := fun vs H Q _ => ∃ a : Addr, vs = [.ref a] ∧ SqL K H a (ns.map V.int) ∧ ∀ H', Q (.bl true) H'
theorem ok_law {f : Addr} {fd : FuncData} (T : Txt K mg C CE) (F : Fun K "law" "law" st_law f fd) (Kb : K.In base) (G : base.Ns mainGlobals mg) {ns : List Int} (hl : ns.length ≤ 63) (hb : ∀ i ∈ ns, Builtin.Int.intBits i ≤ 1048576) : FnOk P w K mg base CX0 8 f fd ["_law_script"] (spLaw K ns) := by
  have D_law_cell_at : Df P w K mg base 1 "_law_cell_at" ["_law_script", "_law_k"] (spCell K) := d_cell T Kb G
  have D_law_mix : Df P w K mg base 1 "_law_mix" ["_law_cell", "_law_k"] spMix := d_mix T Kb G
  have D_law_rows : Df P w K mg base 3 "_law_rows" ["_law_script", "_law_many"] (spRows K) := d_rows T Kb G
  have D_law_measure : Df P w K mg base 2 "_law_measure" ["_law_script"] (spMeasure K) := d_measure T Kb G
  have D_law_spoiled : Df P w K mg base 4 "_law_spoiled" ["_law_measure_here", "_law_rows_here", "_law_number"] spSpoil := d_spoil T Kb G
  have D_law_due : Df P w K mg base 2 "_law_due" ["_law_measure_here", "_law_rows_here"] spDue := d_due T Kb G
  have D_law_classes : Df P w K mg base 1 "_law_classes" ["_law_kept"] (spClasses CE) := d_classes T Kb G
  have MLoop : MkX P w K mg base 5 (CE .Loop) ["self", "measure", "rows"] (spInit CE) := mk_loop T Kb G
  refine (F.ok sc_law (k := 6) (by rintro vs H Q E ⟨a, rfl, _⟩; rfl) (fun cdv A outer s H vs Q E hr h => ?_)).mono (by decide)
  obtain ⟨a, rfl, hS, q⟩ := h
  refine ⟨_, (pss_cons (ps_set (i := 1) sc_law.nd rfl (by first | exact Or.inl rfl | exact Or.inr rfl) (pe_callD D_law_mix (hr.mono (by decide)) rfl (pa_cons (pe_callD D_law_cell_at (hr.mono (by decide)) rfl (pa_cons (pv 0) (pa_cons pe_int pa_nil (se rfl)) (se rfl)) (he := se rfl) (hpl := nst rfl)) (pa_cons pe_int pa_nil (se rfl)) (se rfl)) (he := se rfl) (hpl := nst rfl)))
    (pss_cons (ps_set (i := 2) sc_law.nd rfl (by first | exact Or.inl rfl | exact Or.inr rfl) (pe_callD D_law_rows (hr.mono (by decide)) rfl (pa_cons (pv 0) (pa_cons (pe_op op_add pe_int (pe_op op_mod (pv 1) pe_int)) pa_nil (se rfl)) (se rfl)) (he := se rfl) (hpl := nst rfl)))
    (pss_cons (ps_set (i := 3) sc_law.nd rfl (by first | exact Or.inl rfl | exact Or.inr rfl) (pe_callD D_law_measure (hr.mono (by decide)) rfl (pa_cons (pv 0) pa_nil (se rfl)) (he := se rfl) (hpl := nst rfl)))
    (pss_cons (ps_join (ps_if (pt_cmpR op_gt (pe_op op_mod (pe_op op_fdiv (pv 1) pe_int) pe_int) pe_int (nomark _)) (pss_one (ps_asg (pe_callD D_law_spoiled (hr.mono (by decide)) rfl (pa_cons (pv 3) (pa_cons (pv 2) (pa_cons (pe_callD D_law_mix (hr.mono (by decide)) rfl (pa_cons (pe_callD D_law_cell_at (hr.mono (by decide)) rfl (pa_cons (pv 0) (pa_cons pe_int pa_nil (se rfl)) (se rfl)) (he := se rfl) (hpl := nst rfl)) (pa_cons pe_int pa_nil (se rfl)) (se rfl)) (he := se rfl) (hpl := nst rfl)) pa_nil (se rfl)) (se rfl)) (se rfl)) (he := se rfl) (hpl := nst rfl)) (pg_lst rfl (pgs_cons (pg_name (i := 3) sc_law.nd rfl (Or.inl rfl)) (pgs_cons (pg_name (i := 2) sc_law.nd rfl (Or.inl rfl)) pgs_nil))))) pss_nil))
    (pss_cons (ps_join (ps_if (pt_cmpR op_eq (pe_op op_mod (pe_op op_fdiv (pv 1) pe_int) pe_int) pe_int (nomark _)) (pss_one (ps_asg (pe_callD D_law_spoiled (hr.mono (by decide)) rfl (pa_cons (pv 3) (pa_cons (pv 2) (pa_cons (pe_callD D_law_mix (hr.mono (by decide)) rfl (pa_cons (pe_callD D_law_cell_at (hr.mono (by decide)) rfl (pa_cons (pv 0) (pa_cons pe_int pa_nil (se rfl)) (se rfl)) (he := se rfl) (hpl := nst rfl)) (pa_cons pe_int pa_nil (se rfl)) (se rfl)) (he := se rfl) (hpl := nst rfl)) pa_nil (se rfl)) (se rfl)) (se rfl)) (he := se rfl) (hpl := nst rfl)) (pg_lst rfl (pgs_cons (pg_name (i := 3) sc_law.nd rfl (Or.inl rfl)) (pgs_cons (pg_name (i := 2) sc_law.nd rfl (Or.inl rfl)) pgs_nil))))) pss_nil))
    (pss_cons (ps_set (i := 4) sc_law.nd rfl (by first | exact Or.inl rfl | exact Or.inr rfl) (pe_callD D_law_due (hr.mono (by decide)) rfl (pa_cons (pv 3) (pa_cons (pv 2) pa_nil (se rfl)) (se rfl)) (he := se rfl) (hpl := nst rfl)))
    (pss_cons (ps_set (i := 5) sc_law.nd rfl (by first | exact Or.inl rfl | exact Or.inr rfl) pe_non)
    (pss_cons (ps_try (i := 6) ⟨rfl, rfl⟩ rfl sc_law.nd rfl rfl T.lapB T.lapT rfl T.mg_LapError (fun _ ES => (pss_one (ps_expr (pe_makeX (ES := ES) MLoop (hr.mono (by decide)) (fun _ _ z => z) rfl T.mg_Loop (pa_cons (pv 3) (pa_cons (pe_callTy (call_listK (K := K) rfl) rfl T.nlist PyProof.Rows.boot_list (pa_cons (pv 2) pa_nil (se rfl)) (he := se rfl) (hpl := nst rfl)) pa_nil (se rfl)) (se rfl)) (he := se rfl) (hpl := nst rfl))))) (fun _ _ => (pss_one (ps_set (i := 5) sc_law.nd rfl (by first | exact Or.inl rfl | exact Or.inr rfl) (pv 6)))))
    (pss_cons (ps_if (pt_cmpR op_lt (pv 4) pe_int (nomark _)) (pss_one (ps_ret (pe_cmpR op_isN (pv 5) pe_non (nomark _)))) pss_nil)
    (pss_one (ps_ret (pe_cmpR op_eq (pe_callD D_law_classes (hr.mono (by decide)) rfl (pa_cons (pv 5) pa_nil (se rfl)) (he := se rfl) (hpl := nst rfl)) (pv 4) (nomark _))))))))))))), ?_⟩
  walk_at "rd"
  refine ⟨a, ns, 0, rfl, hS, fun c => ?_⟩
  walk_at "rd"
  refine ⟨c, 0, rfl, by decide, fun n => ?_⟩
  walk_at "rd"
  have b12 := mod_b (n : Int) (show (0 : Int) < 12 by decide)
  obtain ⟨mn, hmn⟩ := Int.eq_ofNat_of_zero_le b12.1
  rw [hmn] at b12 ⊢
  refine ⟨a, ns, 1 + mn, rfl, hS, by omega, fun p H1 zs rs us s1 hp hu0 hok hrl => ?_⟩
  have hu := rows_x hu0
  have hrb := rows_b hok
  have hrl' : us.length ≤ 13 := by have := hu0.len; omega
  generalize rs.map Row.x = rx at *
  walk_at "rd"
  refine ⟨a, ns, rfl, s1.seq hS, fun m m2 m60 => ?_⟩
  clear m60 m2
  walk_at "rd"
  refine i_join (fun σ' H' => Same H H' ∧ ∃ (m : Int) (p : Addr) (us : List V) (rx : List RowX), σ' = [some (.ref a), some (.int (n : Int)), some (.ref p), some (.int m), none, none, none] ∧ H' p = some (.lst us) ∧ RowsXAt H' rx us ∧ (∀ r ∈ rx, RowB 49 7 r) ∧ us.length ≤ 13) ?_ ?_
  · walk_at "rd"
    refine i_iteD (fun _ => ?_) (fun _ => ?_)
    · walk_at "rd"
      refine ⟨a, ns, 3, rfl, s1.seq hS, fun c3 => ?_⟩
      walk_at "rd"
      refine ⟨c3, 5, rfl, by decide, fun n5 => ?_⟩
      walk_at "rd"
      refine ⟨m, p, us, rx, n5, 12, 3, rfl, hp, hu, hrb, by decide, by decide, hrl', fun l m' p' us' rs' H2 s2 h1 h2 h3 h4 h5 => ?_⟩
      refine i_glst (sqL_inj_of h1) rfl ?_
      walk_at "rd"
      exact ⟨s1.trans s2, m', p', us', rs', rfl, h2, h3, h4, h5⟩
    · walk_at "rd"
      exact ⟨s1, m, p, us, rx, rfl, hp, hu, fun r hr => ⟨(hrb r hr).name.mono (by decide), (hrb r hr).word.mono (by decide), Nat.le_trans (hrb r hr).many (by decide), fun rd hrd => ((hrb r hr).reads rd hrd).mono (by decide)⟩, hrl'⟩
  rintro σ2 H2 ⟨s2, m2, p2, us2, rx2, rfl, hp2, hu2, hb2, hl2⟩
  walk_at "rd"
  refine i_join (fun σ' H' => Same H H' ∧ ∃ (m : Int) (p : Addr) (us : List V) (rx : List RowX), σ' = [some (.ref a), some (.int (n : Int)), some (.ref p), some (.int m), none, none, none] ∧ H' p = some (.lst us) ∧ RowsXAt H' rx us ∧ (∀ r ∈ rx, RowSm r) ∧ us.length ≤ 13) ?_ ?_
  · walk_at "rd"
    refine i_iteI (fun _ => ?_) (fun _ => ?_)
    · walk_at "rd"
      refine ⟨a, ns, 3, rfl, s2.seq hS, fun c3 => ?_⟩
      walk_at "rd"
      refine ⟨c3, 6, rfl, by decide, fun n6 => ?_⟩
      walk_at "rd"
      refine ⟨m2, p2, us2, rx2, n6, 49, 7, rfl, hp2, hu2, hb2, by decide, by decide, hl2, fun l m' p' us' rs' H3 s3 h1 h2 h3 h4 h5 => ?_⟩
      refine i_glst (sqL_inj_of h1) rfl ?_
      walk_at "rd"
      refine ⟨s2.trans s3, m', p', us', rs', rfl, h2, h3, fun r hr => ⟨⟨Nat.le_trans (h4 r hr).name.1 (by decide), (h4 r hr).name.2⟩, ⟨Nat.le_trans (h4 r hr).word.1 (by decide), (h4 r hr).word.2⟩, Nat.le_trans (h4 r hr).many (by decide), fun rd hrd => ?_⟩, h5⟩
      have := (h4 r hr).reads rd hrd
      cases rd with
      | num _ => trivial
      | back z b => exact ⟨Nat.le_trans this.1 (by decide), this.2⟩
    · walk_at "rd"
      refine ⟨s2, m2, p2, us2, rx2, rfl, hp2, hu2, fun r hr => ⟨⟨Nat.le_trans (hb2 r hr).name.1 (by decide), (hb2 r hr).name.2⟩, ⟨Nat.le_trans (hb2 r hr).word.1 (by decide), (hb2 r hr).word.2⟩, Nat.le_trans (hb2 r hr).many (by decide), fun rd hrd => ?_⟩, hl2⟩
      have := (hb2 r hr).reads rd hrd
      cases rd with
      | num _ => trivial
      | back z b => exact ⟨Nat.le_trans this.1 (by decide), this.2⟩
  rintro σ3 H3 ⟨s3, m3, p3, us3, rx3, rfl, hp3, hu3, hb3, hl3⟩
  have hrl3 := hu3.len
  walk_at "rd"
  refine ⟨m3, p3, us3, rx3, rfl, hp3, hu3, hb3, by omega, fun H4 s4 => ?_⟩
  walk_at "rd"
  refine i_try ?_
  walk_at "rd"
  refine i_makeX ?_
  walk_at "rd"
  refine i_listAL (sqL_inj_of (s4 _ _ hp3)) fun hp' H5 hN5 => ?_
  walk_at "rd"
  intro x dx hx hdx hne
  have sA : Same H5 (upd (upd H5 dx (.own x)) x (.ins (CE .Loop) dx [])) := Same.upd (Same.new hdx) (by rw [upd_ne hne.symm]; exact hx)
  have xA : upd (upd H5 dx (.own x)) x (.ins (CE .Loop) dx []) x = some (.ins (CE .Loop) dx []) := upd_same
  generalize upd (upd H5 dx (.own x)) x (.ins (CE .Loop) dx []) = HA at *
  refine ⟨x, dx, hp', m3, us3, rx3, rfl, xA, sA _ _ hN5.at, ((hu3.same s4).same hN5.same).same sA, hb3, by omega, ?_⟩
  cases hR : refLoop m3 rx3 with
  | none =>
    intro H6
    refine ⟨rfl, ?_⟩
    walk_at "rd"
    refine i_iteDt (show (-1 : Int) < 0 by decide) ?_
    walk_at "rd"
    refine ⟨rfl, ?_⟩
    rw [decide_eq_true (rfl : V.non = V.non)]
    exact q _
  | some e =>
    have hm := refLoop_mem hR
    obtain ⟨_, _, xc, hmro⟩ := kV T hm
    intro H6
    refine ⟨_, rfl, xc, hmro, fun ea H7 hN7 => ?_⟩
    walk_at "rd"
    refine ⟨⟨_, rfl⟩, ?_⟩
    walk_at "rd"
    refine i_iteDf (by have := code_pos hm; omega) ?_
    walk_at "rd"
    refine ⟨ea, e, rfl, hm, hN7.at, fun H8 s8 => ?_⟩
    walk_at "rd"
    rw [decide_eq_true (rfl : V.int (code (some e)) = V.int (code (some e)))]
    exact q _
def Cof (a1 a2 a3 a4 a5 a6 a7 a8 a9 : Addr) : Dk → Addr
  | .sum => a1
  | .less => a2
  | .times => a3
  | .least => a4
  | .most => a5
  | .pick => a6
  | .same => a7
  | .tell => a8
  | .take => a9
def Eof (b1 b2 b3 b4 b5 b6 b7 b8 b9 b10 b11 b12 b13 b14 b15 b16 b17 b18 b19 b20 b21 b22 : Addr) : Xk → Addr
  | .LapError => b1
  | .NoDeed => b2
  | .NoMeasure => b3
  | .BadRows => b4
  | .BadName => b5
  | .Twice => b6
  | .BadCount => b7
  | .BadNumber => b8
  | .NoRow => b9
  | .BadBack => b10
  | .TooEarly => b11
  | .BadTurns => b12
  | .Short => b13
  | .BadWidth => b14
  | .BadArms => b15
  | .NoArm => b16
  | .BadDelay => b17
  | .BadHold => b18
  | .BadPlan => b19
  | .Unfit => b20
  | .BadText => b21
  | .Loop => b22
theorem tp0_mk {K : PySem.W.Frag} {a1 a2 a3 a4 a5 a6 a7 a8 a9 b1 b2 b3 b4 b5 b6 b7 b8 b9 b10 b11 b12 b13 b14 b15 b16 b17 b18 b19 b20 b21 b22 : Addr}
    (c_Sum : HasC K "Sum" a1)
    (c_Less : HasC K "Less" a2)
    (c_Times : HasC K "Times" a3)
    (c_Least : HasC K "Least" a4)
    (c_Most : HasC K "Most" a5)
    (c_Pick : HasC K "Pick" a6)
    (c_Same : HasC K "Same" a7)
    (c_Tell : HasC K "Tell" a8)
    (c_Take : HasC K "Take" a9)
    (g_LapError : PySem.W.nsIn K mainGlobals "LapError" = some (some (.ref b1)))
    (g_NoDeed : PySem.W.nsIn K mainGlobals "NoDeed" = some (some (.ref b2)))
    (g_NoMeasure : PySem.W.nsIn K mainGlobals "NoMeasure" = some (some (.ref b3)))
    (g_BadRows : PySem.W.nsIn K mainGlobals "BadRows" = some (some (.ref b4)))
    (g_BadName : PySem.W.nsIn K mainGlobals "BadName" = some (some (.ref b5)))
    (g_Twice : PySem.W.nsIn K mainGlobals "Twice" = some (some (.ref b6)))
    (g_BadCount : PySem.W.nsIn K mainGlobals "BadCount" = some (some (.ref b7)))
    (g_BadNumber : PySem.W.nsIn K mainGlobals "BadNumber" = some (some (.ref b8)))
    (g_NoRow : PySem.W.nsIn K mainGlobals "NoRow" = some (some (.ref b9)))
    (g_BadBack : PySem.W.nsIn K mainGlobals "BadBack" = some (some (.ref b10)))
    (g_TooEarly : PySem.W.nsIn K mainGlobals "TooEarly" = some (some (.ref b11)))
    (g_BadTurns : PySem.W.nsIn K mainGlobals "BadTurns" = some (some (.ref b12)))
    (g_Short : PySem.W.nsIn K mainGlobals "Short" = some (some (.ref b13)))
    (g_BadWidth : PySem.W.nsIn K mainGlobals "BadWidth" = some (some (.ref b14)))
    (g_BadArms : PySem.W.nsIn K mainGlobals "BadArms" = some (some (.ref b15)))
    (g_NoArm : PySem.W.nsIn K mainGlobals "NoArm" = some (some (.ref b16)))
    (g_BadDelay : PySem.W.nsIn K mainGlobals "BadDelay" = some (some (.ref b17)))
    (g_BadHold : PySem.W.nsIn K mainGlobals "BadHold" = some (some (.ref b18)))
    (g_BadPlan : PySem.W.nsIn K mainGlobals "BadPlan" = some (some (.ref b19)))
    (g_Unfit : PySem.W.nsIn K mainGlobals "Unfit" = some (some (.ref b20)))
    (g_BadText : PySem.W.nsIn K mainGlobals "BadText" = some (some (.ref b21)))
    (g_Loop : PySem.W.nsIn K mainGlobals "Loop" = some (some (.ref b22))) : Tp0 K (Cof a1 a2 a3 a4 a5 a6 a7 a8 a9) (Eof b1 b2 b3 b4 b5 b6 b7 b8 b9 b10 b11 b12 b13 b14 b15 b16 b17 b18 b19 b20 b21 b22) :=
  ⟨c_Sum, c_Less, c_Times, c_Least, c_Most, c_Pick, c_Same, c_Tell, c_Take, g_LapError, g_NoDeed, g_NoMeasure, g_BadRows, g_BadName, g_Twice, g_BadCount, g_BadNumber, g_NoRow, g_BadBack, g_TooEarly, g_BadTurns, g_Short, g_BadWidth, g_BadArms, g_NoArm, g_BadDelay, g_BadHold, g_BadPlan, g_Unfit, g_BadText, g_Loop⟩
theorem tp1_mk {K : PySem.W.Frag} {a1 a2 a3 a4 a5 a6 a7 a8 a9 b1 b2 b3 b4 b5 b6 b7 b8 b9 b10 b11 b12 b13 b14 b15 b16 b17 b18 b19 b20 b21 b22 : Addr}
    (f_wa_sum : HasM K a1 "wants" "Sum.wants" st_Sum_wants)
    (f_wa_less : HasM K a2 "wants" "Less.wants" st_Less_wants)
    (f_wa_times : HasM K a3 "wants" "Times.wants" st_Times_wants)
    (f_wa_least : HasM K a4 "wants" "Least.wants" st_Least_wants)
    (f_wa_most : HasM K a5 "wants" "Most.wants" st_Most_wants)
    (f_wa_pick : HasM K a6 "wants" "Pick.wants" st_Pick_wants)
    (f_wa_same : HasM K a7 "wants" "Deed.wants" st_Deed_wants)
    (f_wa_tell : HasM K a8 "wants" "Deed.wants" st_Deed_wants)
    (f_wa_take : HasM K a9 "wants" "Take.wants" st_Take_wants)
    (x_NoDeed : HasX K "NoDeed" b2)
    (m_NoDeed : PySem.W.mroIn K b2 (.ref b1) = some true)
    (x_NoMeasure : HasX K "NoMeasure" b3)
    (m_NoMeasure : PySem.W.mroIn K b3 (.ref b1) = some true)
    (x_BadRows : HasX K "BadRows" b4)
    (m_BadRows : PySem.W.mroIn K b4 (.ref b1) = some true)
    (x_BadName : HasX K "BadName" b5)
    (m_BadName : PySem.W.mroIn K b5 (.ref b1) = some true)
    (x_Twice : HasX K "Twice" b6)
    (m_Twice : PySem.W.mroIn K b6 (.ref b1) = some true)
    (x_BadCount : HasX K "BadCount" b7)
    (m_BadCount : PySem.W.mroIn K b7 (.ref b1) = some true)
    (x_BadNumber : HasX K "BadNumber" b8)
    (m_BadNumber : PySem.W.mroIn K b8 (.ref b1) = some true)
    (x_NoRow : HasX K "NoRow" b9)
    (m_NoRow : PySem.W.mroIn K b9 (.ref b1) = some true)
    (x_BadBack : HasX K "BadBack" b10)
    (m_BadBack : PySem.W.mroIn K b10 (.ref b1) = some true)
    (x_TooEarly : HasX K "TooEarly" b11)
    (m_TooEarly : PySem.W.mroIn K b11 (.ref b1) = some true)
    (lapB : PySem.W.mroIn K b1 (.type "BaseException") = some true)
    (lapT : PySem.W.typeIn K (.ref b1) = some (.type "type"))
    (i_Loop : HasCI K "Loop" b22 "Loop.__init__" st_Loop___init__)
    (w_LETTERS : HasV K "LETTERS" (.str (Str.ofString "abcdefghijklmnopqrstuvwxyz")))
    (w_MOST_LETTERS : HasV K "MOST_LETTERS" (.int 12))
    (w_MOST_ROWS : HasV K "MOST_ROWS" (.int 12))
    (w_MOST_BACK : HasV K "MOST_BACK" (.int 6)) : Tp1 K (Cof a1 a2 a3 a4 a5 a6 a7 a8 a9) (Eof b1 b2 b3 b4 b5 b6 b7 b8 b9 b10 b11 b12 b13 b14 b15 b16 b17 b18 b19 b20 b21 b22) :=
  ⟨f_wa_sum, f_wa_less, f_wa_times, f_wa_least, f_wa_most, f_wa_pick, f_wa_same, f_wa_tell, f_wa_take, x_NoDeed, m_NoDeed, x_NoMeasure, m_NoMeasure, x_BadRows, m_BadRows, x_BadName, m_BadName, x_Twice, m_Twice, x_BadCount, m_BadCount, x_BadNumber, m_BadNumber, x_NoRow, m_NoRow, x_BadBack, m_BadBack, x_TooEarly, m_TooEarly, lapB, lapT, i_Loop, w_LETTERS, w_MOST_LETTERS, w_MOST_ROWS, w_MOST_BACK⟩
theorem tp2_mk {K : PySem.W.Frag} {a1 a2 a3 a4 a5 a6 a7 a8 a9 b1 b2 b3 b4 b5 b6 b7 b8 b9 b10 b11 b12 b13 b14 b15 b16 b17 b18 b19 b20 b21 b22 : Addr}
    (f_deed : HasF K "deed_of" st_deed_of)
    (f_islet : HasF K "is_lettered" st_is_lettered)
    (f_isname : HasF K "is_name" st_is_name)
    (f_cmeas : HasF K "check_measure" st_check_measure)
    (f_crows : HasF K "check_rows" st_check_rows)
    (f_chead : HasF K "check_head" st_check_head)
    (f_cread : HasF K "check_read" st_check_read)
    (f_cnum : HasF K "check_number" st_check_number)
    (f_clook : HasF K "check_look_back" st_check_look_back)
    (f_copy : HasF K "copy_of_row" st_copy_of_row)
    (f_depths : HasF K "depths_of" st_depths_of)
    (f_cell : HasF K "_law_cell_at" st_law_cell_at)
    (f_mix : HasF K "_law_mix" st_law_mix)
    (f_letters : HasF K "_law_letters" st_law_letters)
    (f_names : HasF K "_law_names" st_law_names)
    (f_wants : HasF K "_law_wants" st_law_wants)
    (f_row : HasF K "_law_row" st_law_row)
    (f_rows : HasF K "_law_rows" st_law_rows)
    (f_measure : HasF K "_law_measure" st_law_measure)
    (f_classes : HasF K "_law_classes" st_law_classes)
    (f_lisname : HasF K "_law_is_name" st_law_is_name)
    (f_rdue : HasF K "_law_read_due" st_law_read_due)
    (f_due : HasF K "_law_due" st_law_due)
    (f_bad : HasF K "_law_bad_name" st_law_bad_name)
    (f_other : HasF K "_law_other_read" st_law_other_read)
    (f_srow : HasF K "_law_spoiled_row" st_law_spoiled_row)
    (f_spoil : HasF K "_law_spoiled" st_law_spoiled)
    (z_len : PySem.W.nsIn K mainGlobals "len" = some none)
    (z_isinstance : PySem.W.nsIn K mainGlobals "isinstance" = some none)
    (z_int : PySem.W.nsIn K mainGlobals "int" = some none)
    (z_bool : PySem.W.nsIn K mainGlobals "bool" = some none)
    (z_range : PySem.W.nsIn K mainGlobals "range" = some none)
    (z_max : PySem.W.nsIn K mainGlobals "max" = some none)
    (z_list : PySem.W.nsIn K mainGlobals "list" = some none)
    (z_tuple : PySem.W.nsIn K mainGlobals "tuple" = some none)
    (z_all : PySem.W.nsIn K mainGlobals "all" = some none) : Tp2 K (Cof a1 a2 a3 a4 a5 a6 a7 a8 a9) (Eof b1 b2 b3 b4 b5 b6 b7 b8 b9 b10 b11 b12 b13 b14 b15 b16 b17 b18 b19 b20 b21 b22) :=
  ⟨f_deed, f_islet, f_isname, f_cmeas, f_crows, f_chead, f_cread, f_cnum, f_clook, f_copy, f_depths, f_cell, f_mix, f_letters, f_names, f_wants, f_row, f_rows, f_measure, f_classes, f_lisname, f_rdue, f_due, f_bad, f_other, f_srow, f_spoil, z_len, z_isinstance, z_int, z_bool, z_range, z_max, z_list, z_tuple, z_all⟩
theorem tp3_mk {K : PySem.W.Frag} {a1 a2 a3 a4 a5 a6 a7 a8 a9 b1 b2 b3 b4 b5 b6 b7 b8 b9 b10 b11 b12 b13 b14 b15 b16 b17 b18 b19 b20 b21 b22 : Addr}
    (z_enumerate : PySem.W.nsIn K mainGlobals "enumerate" = some none)
    (z_sum : PySem.W.nsIn K mainGlobals "sum" = some none)
    (z_ValueError : PySem.W.nsIn K mainGlobals "ValueError" = some none)
    (kII : PySem.W.kitOne K (.type "int") (.type "int") = some true)
    (kIB : PySem.W.kitOne K (.type "int") (.type "bool") = some false)
    (kTT : PySem.W.kitOne K (.type "tuple") (.type "tuple") = some true)
    (kTI : PySem.W.kitOne K (.type "tuple") (.type "int") = some false)
    (kIT : PySem.W.kitOne K (.type "int") (.type "tuple") = some false)
    (nM : NoAttr K b22 "measure")
    (nK : NoAttr K b22 "kept")
    (nD : NoAttr K b22 "depths")
    (kX_NoDeed : ∀ f, f ≠ .LapError → f ≠ .Loop → PySem.W.kitOne K (.ref b2) (.ref (Eof b1 b2 b3 b4 b5 b6 b7 b8 b9 b10 b11 b12 b13 b14 b15 b16 b17 b18 b19 b20 b21 b22 f)) = some (decide (f = .NoDeed)))
    (kV_NoDeed : PySem.W.kitOne K (.ref b2) (.type "ValueError") = some true)
    (kL_NoDeed : PySem.W.kitOne K (.ref b2) (.ref b1) = some true)
    (kX_NoMeasure : ∀ f, f ≠ .LapError → f ≠ .Loop → PySem.W.kitOne K (.ref b3) (.ref (Eof b1 b2 b3 b4 b5 b6 b7 b8 b9 b10 b11 b12 b13 b14 b15 b16 b17 b18 b19 b20 b21 b22 f)) = some (decide (f = .NoMeasure)))
    (kV_NoMeasure : PySem.W.kitOne K (.ref b3) (.type "ValueError") = some true)
    (kL_NoMeasure : PySem.W.kitOne K (.ref b3) (.ref b1) = some true)
    (kX_BadRows : ∀ f, f ≠ .LapError → f ≠ .Loop → PySem.W.kitOne K (.ref b4) (.ref (Eof b1 b2 b3 b4 b5 b6 b7 b8 b9 b10 b11 b12 b13 b14 b15 b16 b17 b18 b19 b20 b21 b22 f)) = some (decide (f = .BadRows)))
    (kV_BadRows : PySem.W.kitOne K (.ref b4) (.type "ValueError") = some true)
    (kL_BadRows : PySem.W.kitOne K (.ref b4) (.ref b1) = some true)
    (kX_BadName : ∀ f, f ≠ .LapError → f ≠ .Loop → PySem.W.kitOne K (.ref b5) (.ref (Eof b1 b2 b3 b4 b5 b6 b7 b8 b9 b10 b11 b12 b13 b14 b15 b16 b17 b18 b19 b20 b21 b22 f)) = some (decide (f = .BadName)))
    (kV_BadName : PySem.W.kitOne K (.ref b5) (.type "ValueError") = some true)
    (kL_BadName : PySem.W.kitOne K (.ref b5) (.ref b1) = some true)
    (kX_Twice : ∀ f, f ≠ .LapError → f ≠ .Loop → PySem.W.kitOne K (.ref b6) (.ref (Eof b1 b2 b3 b4 b5 b6 b7 b8 b9 b10 b11 b12 b13 b14 b15 b16 b17 b18 b19 b20 b21 b22 f)) = some (decide (f = .Twice)))
    (kV_Twice : PySem.W.kitOne K (.ref b6) (.type "ValueError") = some true)
    (kL_Twice : PySem.W.kitOne K (.ref b6) (.ref b1) = some true)
    (kX_BadCount : ∀ f, f ≠ .LapError → f ≠ .Loop → PySem.W.kitOne K (.ref b7) (.ref (Eof b1 b2 b3 b4 b5 b6 b7 b8 b9 b10 b11 b12 b13 b14 b15 b16 b17 b18 b19 b20 b21 b22 f)) = some (decide (f = .BadCount)))
    (kV_BadCount : PySem.W.kitOne K (.ref b7) (.type "ValueError") = some true)
    (kL_BadCount : PySem.W.kitOne K (.ref b7) (.ref b1) = some true)
    (kX_BadNumber : ∀ f, f ≠ .LapError → f ≠ .Loop → PySem.W.kitOne K (.ref b8) (.ref (Eof b1 b2 b3 b4 b5 b6 b7 b8 b9 b10 b11 b12 b13 b14 b15 b16 b17 b18 b19 b20 b21 b22 f)) = some (decide (f = .BadNumber)))
    (kV_BadNumber : PySem.W.kitOne K (.ref b8) (.type "ValueError") = some true)
    (kL_BadNumber : PySem.W.kitOne K (.ref b8) (.ref b1) = some true)
    (kX_NoRow : ∀ f, f ≠ .LapError → f ≠ .Loop → PySem.W.kitOne K (.ref b9) (.ref (Eof b1 b2 b3 b4 b5 b6 b7 b8 b9 b10 b11 b12 b13 b14 b15 b16 b17 b18 b19 b20 b21 b22 f)) = some (decide (f = .NoRow)))
    (kV_NoRow : PySem.W.kitOne K (.ref b9) (.type "ValueError") = some true)
    (kL_NoRow : PySem.W.kitOne K (.ref b9) (.ref b1) = some true)
    (kX_BadBack : ∀ f, f ≠ .LapError → f ≠ .Loop → PySem.W.kitOne K (.ref b10) (.ref (Eof b1 b2 b3 b4 b5 b6 b7 b8 b9 b10 b11 b12 b13 b14 b15 b16 b17 b18 b19 b20 b21 b22 f)) = some (decide (f = .BadBack))) : Tp3 K (Cof a1 a2 a3 a4 a5 a6 a7 a8 a9) (Eof b1 b2 b3 b4 b5 b6 b7 b8 b9 b10 b11 b12 b13 b14 b15 b16 b17 b18 b19 b20 b21 b22) :=
  ⟨z_enumerate, z_sum, z_ValueError, kII, kIB, kTT, kTI, kIT, nM, nK, nD, kX_NoDeed, kV_NoDeed, kL_NoDeed, kX_NoMeasure, kV_NoMeasure, kL_NoMeasure, kX_BadRows, kV_BadRows, kL_BadRows, kX_BadName, kV_BadName, kL_BadName, kX_Twice, kV_Twice, kL_Twice, kX_BadCount, kV_BadCount, kL_BadCount, kX_BadNumber, kV_BadNumber, kL_BadNumber, kX_NoRow, kV_NoRow, kL_NoRow, kX_BadBack⟩
theorem tp4_mk {K : PySem.W.Frag} {a1 a2 a3 a4 a5 a6 a7 a8 a9 b1 b2 b3 b4 b5 b6 b7 b8 b9 b10 b11 b12 b13 b14 b15 b16 b17 b18 b19 b20 b21 b22 : Addr}
    (kV_BadBack : PySem.W.kitOne K (.ref b10) (.type "ValueError") = some true)
    (kL_BadBack : PySem.W.kitOne K (.ref b10) (.ref b1) = some true)
    (kX_TooEarly : ∀ f, f ≠ .LapError → f ≠ .Loop → PySem.W.kitOne K (.ref b11) (.ref (Eof b1 b2 b3 b4 b5 b6 b7 b8 b9 b10 b11 b12 b13 b14 b15 b16 b17 b18 b19 b20 b21 b22 f)) = some (decide (f = .TooEarly)))
    (kV_TooEarly : PySem.W.kitOne K (.ref b11) (.type "ValueError") = some true)
    (kL_TooEarly : PySem.W.kitOne K (.ref b11) (.ref b1) = some true) : Tp4 K (Cof a1 a2 a3 a4 a5 a6 a7 a8 a9) (Eof b1 b2 b3 b4 b5 b6 b7 b8 b9 b10 b11 b12 b13 b14 b15 b16 b17 b18 b19 b20 b21 b22) :=
  ⟨kV_BadBack, kL_BadBack, kX_TooEarly, kV_TooEarly, kL_TooEarly⟩
theorem all_mk {l : PySem.W.OpenLaw} {w : World} {K : PySem.W.Frag} {h : Heap} {mg : Str → Option Value} {fa : Addr} {a1 a2 a3 a4 a5 a6 a7 a8 a9 b1 b2 b3 b4 b5 b6 b7 b8 b9 b10 b11 b12 b13 b14 b15 b16 b17 b18 b19 b20 b21 b22 : Addr} (X : K.In h) (G : h.Ns mainGlobals mg) (hfa : mg "law" = some (.ref fa)) (fl : HasF K "law" st_law)
    (t0 : Tp0 K (Cof a1 a2 a3 a4 a5 a6 a7 a8 a9) (Eof b1 b2 b3 b4 b5 b6 b7 b8 b9 b10 b11 b12 b13 b14 b15 b16 b17 b18 b19 b20 b21 b22)) (t1 : Tp1 K (Cof a1 a2 a3 a4 a5 a6 a7 a8 a9) (Eof b1 b2 b3 b4 b5 b6 b7 b8 b9 b10 b11 b12 b13 b14 b15 b16 b17 b18 b19 b20 b21 b22)) (t2 : Tp2 K (Cof a1 a2 a3 a4 a5 a6 a7 a8 a9) (Eof b1 b2 b3 b4 b5 b6 b7 b8 b9 b10 b11 b12 b13 b14 b15 b16 b17 b18 b19 b20 b21 b22)) (t3 : Tp3 K (Cof a1 a2 a3 a4 a5 a6 a7 a8 a9) (Eof b1 b2 b3 b4 b5 b6 b7 b8 b9 b10 b11 b12 b13 b14 b15 b16 b17 b18 b19 b20 b21 b22)) (t4 : Tp4 K (Cof a1 a2 a3 a4 a5 a6 a7 a8 a9) (Eof b1 b2 b3 b4 b5 b6 b7 b8 b9 b10 b11 b12 b13 b14 b15 b16 b17 b18 b19 b20 b21 b22)) :
    ∃ fd : FuncData, (∀ (s : Shared) (v : Value), BindsTo s fd ⟨[v], []⟩ [("_law_script", v)]) ∧ ∀ (base : Heap) (ns : List Int), K.In base → base.Ns mainGlobals mg → ns.length ≤ 63 → (∀ i ∈ ns, Builtin.Int.intBits i ≤ 1048576) → FnOk l.prog w K mg base CX0 8 fa fd ["_law_script"] (spLaw K ns) := by
  obtain ⟨f, fdd, a, F⟩ := fl.ex
  have e := hfa.symm.trans (PySem.W.mg_of X G a)
  cases e
  have T := (Tp.mk t0 t1 t2 t3 t4).txt X G
  refine ⟨fdd, fun s v => ?_, fun base ns kb nb hl hb => ok_law T F kb nb hl hb⟩
  obtain ⟨oc, od, kV, doc, pm, an, cdv, ct, osl, rfl, lk, hcd⟩ := F.ex
  exact .of_eq rfl
theorem walk {l : PySem.W.OpenLaw} {q : Program} {loose : List Str} {XP : (Str → Option Value) → Heap → Prop} {YP : World → Heap → Prop} {d : DefRec} {K : Params → PySem.W.Frag} (hn : l.most = some 63) (hdf : d.params.defaults = [])
    (hY : ∀ (w : World) (h : Heap), YP w h → (K w.params).In h)
    (F : ∀ (w : World) (mg : Str → Option Value) (fa : Addr) (h : Heap), (K w.params).In h → h.Ns mainGlobals mg → mg d.name = some (.ref fa) →
      ∃ fd : FuncData, (∀ (s : Shared) (u : Value), BindsTo s fd ⟨[u], []⟩ [("_law_script", u)]) ∧ ∀ (base : Heap) (ns : List Int), (K w.params).In base → base.Ns mainGlobals mg → ns.length ≤ 63 → (∀ i ∈ ns, Builtin.Int.intBits i ≤ 1048576) → FnOk l.prog w (K w.params) mg base CX0 8 fa fd ["_law_script"] (spLaw (K w.params) ns)) :
    PySem.W.WalkO q loose XP YP l.row.toRowW d [] (fun f vs => PySem.call f vs) :=
  L2.walk_bits (n := 63) (k := 8) (x := "_law_script") (CX := fun _ => CX0) (sp := fun w ns => spLaw (K w.params) ns) hn (by decide) hdf ⟨rfl, by decide, by decide⟩ hY F (fun _ _ a ns hl hb _ hS => ⟨a, rfl, hS, fun _ => rfl⟩) fun _ _ _ _ _ z => z
end
end Lap
local macro_rules | `(tactic| walk_at "lapC") => `(tactic| (refine' L2.hasC_mk ?a ?pg ?hd ?po ?sa ?mk ?i ?kc; (case a => k_is); (case pg => k_is); (case hd => k_is); (case po => k_is); (case sa => k_is); (case mk => k_is); (case i => k_is); (case kc => k_is)))
local macro_rules | `(tactic| walk_at "lapM") => `(tactic| (refine' L2.hasM_mk ?a ?i ?l ?c ?k; (case a => k_is); (case i => k_is); (case l => k_is); (case c => k_is); (case k => k_is)))
local macro_rules | `(tactic| walk_at "lapF") => `(tactic| (refine' L2.hasF_mk ?a ?l ?c ?k; (case a => k_is); (case l => k_is); (case c => k_is); (case k => k_is)))
local macro_rules | `(tactic| walk_at "lapX") => `(tactic| (refine' L2.HasX.mk ?a ?e (L2.XCls.mk ?x1 ?x2 ?x3 ?x4 ?x5 ?x6 ?x7); (case a => k_is); (case e => k_exc); (case x1 => k_is); (case x2 => k_is); (case x3 => k_is); (case x4 => k_is); (case x5 => k_is); (case x6 => k_is); (case x7 => k_is)))
local macro_rules | `(tactic| walk_at "lapI") => `(tactic| (refine' L2.hasCI_mk ?a ?pg ?hd ?po ?sa ?mk ?i ?fn ?kc ?l ?c ?k; (case a => k_is); (case pg => k_is); (case hd => k_is); (case po => k_is); (case sa => k_is); (case mk => k_is); (case i => k_is); (case fn => k_is); (case kc => k_is); (case l => k_is); (case c => k_is); (case k => k_is)))
local macro_rules | `(tactic| walk_at "lapV") => `(tactic| first | (refine' L2.hasV_int ?a; (case a => k_is)) | (refine' L2.hasV_str ?a; (case a => k_is)))
namespace PySem.W.Fast
def tw3629445189741290386:=()
def tw15925464158541081488:=()
def tw12109422779978764429:=()
def tw2211767766670338320:=()
def tw8220986374155533987:=()
def tw11632289146179157359:=()
def tw11919323575810965054:=()
def tw17811108975629939647:=()
def tw15648252721037206736:=()
def tw11048326934078956047:=()
def tw7505451046300241699:=()
def tw3359194773070989306:=()
def tw3046584932312052736:=()
def tw17145325966177336320:=()
def tw9509451251620773952:=()
def tw18109247250841830464:=()
def tw15605418855290120288:=()
def tw1568111591853751424:=()
def tw3134255619309151424:=()
def tw12939991890048499936:=()
def tw9549105750086694208:=()
def tw9114865180921500000:=()
def tw7771557704857831808:=()
def tw11238158605465075072:=()
def tw1065132771334174112:=()
def tw11073615360218425760:=()
def tw15320884506614946272:=()
def tw4055256394130768384:=()
def tw9194620853592481280:=()
def tw3984626803285162528:=()
def tw2114533251334306336:=()
def tw11897258756055037536:=()
def tw15412869579457886848:=()
def tw11504811599539814048:=()
def tw15044276896666041024:=()
def tw7676021085382455040:=()
def tw11447996746499824416:=()
def tw10726167958407957280:=()
def tw8211073474518939520:=()
def tw3692233401892045728:=()
def tw10869938003753845696:=()
def tw17053484228197439489:=()
def tw10137468981524621345:=()
def tw1290235882779829345:=()
def tw17395312375417962657:=()
def tw4378595565369280705:=()
def tw15144695197049499873:=()
def tw1523268635523639521:=()
def tw1416129800477747457:=()
def tw8223456755226961185:=()
def tw17915276651393144129:=()
def tw3416515293440991553:=()
def tw15662201549962741089:=()
def tw1244932694484033921:=()
def tw8405568606244268417:=()
def tw15228663274059462049:=()
def tw10653301814931371489:=()
def tw15059936491996908033:=()
def tw5201121714614943233:=()
def tw651194097111038465:=()
def tw14292588638207928929:=()
def tw14825988338378361665:=()
def tw1042795600220700545:=()
def tw9370860503253692353:=()
def tw13267287502994076609:=()
def tw8561288352147752929:=()
def tw1018161209017121794:=()
def tw11592129045765670914:=()
def tw13647161356814010370:=()
def tw2928014169250847746:=()
def tw9720364788842273826:=()
def tw3007523550498567202:=()
def tw16544754736681659522:=()
def tw2741124186825046146:=()
def tw6779949701550105730:=()
def tw12814998921652070530:=()
def tw13384538035921566882:=()
def tw7186134274815900834:=()
def tw12722088598852329634:=()
def tw5053057564890723490:=()
def tw3796164216206995682:=()
def tw16613828054944479458:=()
def tw9419842798196455682:=()
def tw6118420617410889058:=()
def tw1028518310985404802:=()
def tw2847456286617814402:=()
def tw5547524363755714946:=()
def tw18275446061322763682:=()
def tw835887802992231874:=()
def tw17357929948934517186:=()
def tw790234895467668930:=()
def tw5569434219974261186:=()
def tw2275531442349497826:=()
def tw12212335068051996130:=()
def tw6452263531972394498:=()
def tw10175585557044880962:=()
def tw7939082233706738274:=()
def tw16303330798720399010:=()
def tw16292927140154374818:=()
def tw6205283679603240642:=()
def tw14940594819601702658:=()
def tw13333526218985292546:=()
def tw16116581520845341506:=()
def tw10329701983182351170:=()
def tw9412748036964873058:=()
def tw2949053633715052386:=()
def tw18116958367995875202:=()
def tw9270251153954329474:=()
def tw2907041144599452578:=()
def tw2995831422029532163:=()
def tw15334212730020325411:=()
def tw13226241015882614851:=()
def tw4178887346272858243:=()
def tw2648438000724443299:=()
def tw14121794234909608099:=()
def tw9898597609256078531:=()
def tw13166501215218097379:=()
def tw7503881552834237699:=()
def tw13342357409031257379:=()
def tw12629206676981177667:=()
def tw4911896707529964867:=()
def tw3991158110369151395:=()
def tw1567099636909621763:=()
def tw3304559916630348387:=()
def tw16696327601207221955:=()
def tw6463544230402264835:=()
def tw5407107171008283427:=()
def tw10130821225238589219:=()
def tw14433166977422747459:=()
def tw5088197837569170243:=()
def tw1233307083875973987:=()
def tw1839915798051543939:=()
def tw10223203219427520387:=()
def tw6096458879122481059:=()
def tw5628494920909292483:=()
def tw17910544086992351171:=()
def tw16970584261571489828:=()
def tw4523188510664725636:=()
def tw11578093103691274404:=()
def tw17972393621040798916:=()
def tw5894413787438642404:=()
def tw13658129808514687236:=()
def tw11347331919961760004:=()
def tw1901933092334389508:=()
def tw6443408740981884228:=()
def tw5259882910377578948:=()
def tw17886202215142008260:=()
def tw11935989694213419460:=()
def tw10410465538365989348:=()
def tw5128738660327469540:=()
def tw16844798536339954244:=()
def tw13541870270694655556:=()
def tw7429856247087498884:=()
def tw475754686739297956:=()
def tw5843095687192387300:=()
def tw18330801981887308516:=()
def tw8939433359505764100:=()
def tw17994406678426279684:=()
def tw6654400599558692772:=()
def tw4502612408697400260:=()
def tw14364617807418170373:=()
def tw1293206939460689925:=()
def tw8849604661779129349:=()
def tw6830343470755254309:=()
def tw7338685459087176773:=()
def tw10454857330923299909:=()
def tw11340555286748920901:=()
def tw3168460199539387493:=()
def tw14935924395780533349:=()
def tw17469474158310193253:=()
def tw2500110955793273061:=()
def tw17268156274386425061:=()
def tw1339509013056412901:=()
def tw2840857162101396741:=()
def tw18375271767040762149:=()
def tw14724011820962085349:=()
def tw9179887417447420421:=()
def tw13316377837283487237:=()
def tw17471676327680954885:=()
def tw6663456807236508229:=()
def tw2720654598371165797:=()
def tw8404958594100093605:=()
def tw14466138489762845413:=()
def tw9294398273605892837:=()
def tw17382717179706987301:=()
def tw15954210903416047461:=()
def tw888227356443020133:=()
def tw13825078761651485541:=()
def tw17565628852612383621:=()
def tw8114427726650531717:=()
def tw5326392638472793126:=()
def tw6159908193205144710:=()
def tw369771880663755014:=()
def tw2577506061166200070:=()
def tw1410210943617337638:=()
def tw5309231476911298950:=()
def tw3776561981765411206:=()
def tw8398421822665955750:=()
def tw12453993279128790726:=()
def tw7996420985265701574:=()
def tw17075176522093512422:=()
def tw232840101281747718:=()
def tw15757528996533611334:=()
def tw16187996302272821094:=()
def tw1355631648283624326:=()
def tw2442506606082690950:=()
def tw13556636341793085318:=()
def tw17235826547846234054:=()
def tw2489113531257279462:=()
def tw1726658273609307143:=()
def tw4513316045065010215:=()
def tw5505260364467647559:=()
def tw1005115648322269319:=()
def tw262293063335329959:=()
def tw1302175312895667367:=()
def tw6027341838586281127:=()
def tw2220550348101352647:=()
def tw15705611413623541159:=()
def tw16318453291060433319:=()
def tw17458299482777043367:=()
def tw1271916839071573415:=()
def tw1859921823763114439:=()
def tw2222417834643546599:=()
def tw2635804197710456295:=()
def tw17218498582263391719:=()
def tw1942795700377764359:=()
def tw10008917093974730279:=()
def tw1569138259667572327:=()
def tw11304571749418796679:=()
def tw12855372487123743527:=()
def tw11071934940681399079:=()
def tw11891861643962883911:=()
def tw6135859074927246151:=()
def tw11639926238855189319:=()
def tw11774598401906503495:=()
def tw98660720540858215:=()
def tw8511651725800036231:=()
def tw2624997593120142215:=()
def tw3757113224864287655:=()
def tw7928960525018432455:=()
def tw4590061729987971208:=()
def tw17868115118450150568:=()
def tw2126907167367448776:=()
def tw5877229792226691304:=()
def tw8563614035695851752:=()
def tw1999588502545886440:=()
def tw2115693591449068808:=()
def tw17518614192321556744:=()
def tw13354985624145829160:=()
def tw14746584377268979016:=()
def tw14891496251561661768:=()
def tw6722441027419998568:=()
def tw11714151756398074280:=()
def tw1666764161661187528:=()
def tw397938192758848008:=()
def tw8880495308614636072:=()
def tw3010024086389732104:=()
def tw579425175836211016:=()
def tw13622741133387558760:=()
def tw17284994568104096680:=()
def tw2756050308925512680:=()
def tw756591473102225384:=()
def tw4652714173932406825:=()
def tw17980086733575800905:=()
def tw6042395873801686089:=()
def tw15350033453008794793:=()
def tw12819450545838608553:=()
def tw5689433369044074697:=()
def tw7437962524083170537:=()
def tw17209982611730054409:=()
def tw9061868911021008201:=()
def tw2146600196717324617:=()
def tw8591603257795377513:=()
def tw14446719476648710569:=()
def tw6709661892890556873:=()
def tw8689639952544918025:=()
def tw7146530934916372009:=()
def tw864478538568369769:=()
def tw12089024701366908553:=()
def tw13848949069944834729:=()
def tw10352484256167793417:=()
def tw3011020924023130889:=()
def tw6906017844846648073:=()
def tw7426321738284729129:=()
def tw18133138038994307977:=()
def tw2482877661622002601:=()
def tw11381693716113824713:=()
def tw15913660654964605929:=()
def tw3714949121713573865:=()
def tw3999911456762039306:=()
def tw5277474732499411050:=()
def tw17072582443158659210:=()
def tw3229730465355701450:=()
def tw9159463737173313834:=()
def tw15719210273504796970:=()
def tw4855797314274216234:=()
def tw12566791732140744010:=()
def tw15014435615327286602:=()
def tw18421238356116808074:=()
def tw9078550049877383562:=()
def tw9802857490644123050:=()
def tw760192030989101546:=()
def tw13671621863729084938:=()
def tw15955278509795703306:=()
def tw7819386107147695690:=()
def tw9599671428911969866:=()
def tw14307980684947047018:=()
def tw5947777504665797258:=()
def tw10213683715917722250:=()
def tw8521302621110960906:=()
def tw4865320553108275978:=()
def tw11779841022215143210:=()
def tw5817599862633775018:=()
def tw630149240678306730:=()
def tw5565391666588905386:=()
def tw14419508843624454090:=()
def tw955267694995119082:=()
def tw1744623276350900235:=()
def tw9584858567839255563:=()
def tw15351970692154966027:=()
def tw8123625192065165323:=()
def tw14666381731502188555:=()
def tw7708703375682133099:=()
def tw7290436837301114987:=()
def tw156367008645001355:=()
def tw5627611019150224555:=()
def tw3894706382543940843:=()
def tw9815673352661548299:=()
def tw11554726316644406603:=()
def tw17044469342413736267:=()
def tw4396612644735812043:=()
def tw9485666654153029131:=()
def tw5058593118827953675:=()
def tw428169814841308715:=()
def tw6278231510520758859:=()
def tw6405711989629152875:=()
def tw16888432515688375947:=()
def tw4249410646579628715:=()
def tw17425463215847910059:=()
def tw12443792488955219659:=()
def tw17728504543644599019:=()
def tw13163841368742952683:=()
def tw2513945161257353995:=()
def tw573110954894725899:=()
def tw17854234520899775307:=()
def tw6119019583258597259:=()
def tw4607866166301456363:=()
def tw17828968614544409579:=()
def tw5779301084333037580:=()
def tw11120442133661217804:=()
def tw4774719922820058156:=()
def tw9910862973180260396:=()
def tw13901584407139007628:=()
def tw9582742950914597036:=()
def tw8946087297321185452:=()
def tw5207296898553429228:=()
def tw17541929606553296140:=()
def tw11590377349405318412:=()
def tw16437344235655889228:=()
def tw6715532844329631084:=()
def tw10836793062923792812:=()
def tw9635304944349854156:=()
def tw8578694982470418892:=()
def tw11908967547267073516:=()
def tw15507477980245742092:=()
def tw9259795459052676652:=()
def tw6772263003096985132:=()
def tw12629066338076710444:=()
def tw15840090451788986924:=()
def tw9273375515710196428:=()
def tw12151656753235149516:=()
def tw9998261071372107564:=()
def tw16951333688046632748:=()
def tw4745210858264314700:=()
def tw16875492872496385900:=()
def tw18109035914627432300:=()
def tw11845376768963554188:=()
def tw8613271554364485580:=()
def tw2305645673199674348:=()
def tw799300378940071916:=()
def tw16591816846491181036:=()
def tw3998472390071397421:=()
def tw5389222591408295149:=()
def tw4918396888818963693:=()
def tw1314584123850616237:=()
def tw2644566979803479469:=()
def tw10303461105138379213:=()
def tw6297164238915114445:=()
def tw9610205006584343085:=()
def tw4422228735408665229:=()
def tw3324491956169851533:=()
def tw10682377590603673261:=()
def tw15057253752274101965:=()
def tw9469640653193016109:=()
def tw12320483710106472397:=()
def tw17511296685884814285:=()
def tw14522706083214773358:=()
def tw16725865423246213294:=()
def tw18023774276879897774:=()
def tw3593790569727501550:=()
def tw2893145689303681294:=()
def tw17880804805141384462:=()
def tw639363211659013422:=()
def tw6438107406813954382:=()
def tw17300471457672520078:=()
def tw3701148934514550190:=()
def tw1358620713830367662:=()
def tw13454693635111417262:=()
def tw4306637396604792302:=()
def tw16907843583437667822:=()
def tw16483398223537177134:=()
def tw12074359898788563502:=()
def tw9098694849488568878:=()
def tw8972568328495060590:=()
def tw5885612648385403598:=()
def tw6051430520681015054:=()
def tw12795882668072728366:=()
def tw15559869669375458190:=()
def tw17925227348647391214:=()
def tw3781358367394564111:=()
def tw4104381737601717327:=()
def tw11587647808197285999:=()
def tw9083979623887428751:=()
def tw4895335120227975375:=()
def tw14178697577677670607:=()
def tw2176072698731144495:=()
def tw14103931324574707023:=()
def tw4878933738283876687:=()
def tw4540522739645275567:=()
def tw7544724397281717679:=()
def tw3388540907844274639:=()
def tw14778969871442283983:=()
def tw2985225993708516943:=()
def tw7514161868133301903:=()
def tw4667160556897540783:=()
def tw15121896218260915887:=()
def tw15443419269571971791:=()
def tw11934770236871486159:=()
def tw16962598609076298543:=()
def tw4804771688931872591:=()
def tw14395378463024831311:=()
def tw6220473401463404367:=()
def tw7323615700700428336:=()
def tw13539577416530081040:=()
def tw11292621517318303152:=()
def tw8019417933606904240:=()
def tw12169499527667904944:=()
def tw7145068023309550032:=()
def tw13399693044107308496:=()
def tw5710416436624099888:=()
def tw5587262955814200912:=()
def tw2086443570826296912:=()
def tw9732395886753534544:=()
def tw18006090726819428976:=()
def tw2614656242458709648:=()
def tw15464048975549592240:=()
def tw1996973151004718768:=()
def tw11867244990710530832:=()
def tw9347487520585669424:=()
def tw2672815776792244048:=()
def tw4401519619140473712:=()
def tw4487968142039309264:=()
def tw17842931157695614001:=()
def tw6330260916985327665:=()
def tw16192831340156696657:=()
def tw14754155678721365105:=()
def tw2386471532374723729:=()
def tw9719358429206650001:=()
def tw7969592277591423121:=()
def tw14613021875693723825:=()
def tw8603495443309483185:=()
def tw15313827292095425777:=()
def tw13097692255550619953:=()
def tw2768002887523163473:=()
def tw14172938577515827569:=()
def tw16503852032083943825:=()
def tw12332591027500818865:=()
def tw8464407381477011889:=()
def tw6950878929410850257:=()
def tw11301257949506272721:=()
def tw10503035453437109777:=()
def tw1120562765363815025:=()
def tw389279376787806865:=()
def tw17688424207922182801:=()
def tw5409464734038940337:=()
def tw8522453643078658769:=()
def tw6076041970882795313:=()
def tw13784491540560213905:=()
def tw10771561081841568689:=()
def tw3204244274417979345:=()
def tw4357767717202183282:=()
def tw5021284529301237906:=()
def tw6380129149337895058:=()
def tw15926450156477201586:=()
def tw16323910776797667602:=()
def tw11280823947041764626:=()
def tw11373633232222302514:=()
def tw513913254057785650:=()
def tw12074809748754019698:=()
def tw13075925884236383602:=()
def tw16573617545748424082:=()
def tw11482003483981911506:=()
def tw6743063163864260050:=()
def tw16308593725487706610:=()
def tw12178668836691969586:=()
def tw4510220520101200498:=()
def tw3845692746536768114:=()
def tw795651455154730674:=()
def tw10034605356808852146:=()
def tw14276340442384127698:=()
def tw3754151090747960114:=()
def tw8775527408674035570:=()
def tw9046014841653993362:=()
def tw10922772736043851666:=()
def tw13139963147149621299:=()
def tw15851370557334471731:=()
def tw5420828158959875155:=()
def tw5327305463869925587:=()
def tw3124993503303898355:=()
def tw16494214757918827763:=()
def tw15872159744181439827:=()
def tw12051704297209386323:=()
def tw8954723769129605491:=()
def tw9713291412647472531:=()
def tw14981577614212766323:=()
def tw10540005471829111443:=()
def tw5248958543518277299:=()
def tw18086198245131259603:=()
def tw13173888184022212307:=()
def tw1298030170967066323:=()
def tw15429546701438405363:=()
def tw11071061274707237651:=()
def tw12654958932032040787:=()
def tw3791522955177980755:=()
def tw9666230051475519315:=()
def tw7457841737813876659:=()
def tw10540550460664385491:=()
def tw10798094707612889075:=()
def tw3764230647224878067:=()
def tw13425972244480008212:=()
def tw17966290222478665844:=()
def tw12475001173464312948:=()
def tw8157049865679133844:=()
def tw1556806223826022644:=()
def tw5125327523285837044:=()
def tw1169628481262789940:=()
def tw2588530320151727412:=()
def tw4774049846715383092:=()
def tw17095446240114554260:=()
def tw12119525644612488628:=()
def tw12364004433163035060:=()
def tw12758031471777477076:=()
def tw4497069225805911540:=()
def tw745381146755976692:=()
def tw6036301868185789972:=()
def tw2481304905355565684:=()
def tw13482340275977574004:=()
def tw3722609528018598516:=()
def tw10600728446036459156:=()
def tw11575379777565387444:=()
def tw17290390647649352436:=()
def tw3992577165858736916:=()
def tw5230676890811939636:=()
def tw5039188640754647860:=()
def tw13145808529465595732:=()
def tw17564276383961863060:=()
def tw9566682884684256180:=()
def tw15862715465867781044:=()
def tw17334265908051729364:=()
def tw7257358786658156693:=()
def tw1928178445544289429:=()
def tw4875362769219658933:=()
def tw2855889085876719797:=()
def tw9887048751972013237:=()
def tw4273450879341679829:=()
def tw14529792367495275797:=()
def tw1215453790051678517:=()
def tw1663046145188678997:=()
def tw10905921907299086677:=()
def tw16727000293689788789:=()
def tw444865241214485877:=()
def tw3399290315658887573:=()
def tw5645175757101739477:=()
def tw17714783661836860917:=()
def tw6393485963125950005:=()
def tw5538176070657419861:=()
def tw1351232110157322837:=()
def tw14122564786298927733:=()
def tw2310923147935361685:=()
def tw1372831263440168597:=()
def tw16318951241179562677:=()
def tw5234951949688456917:=()
def tw3506499103709786933:=()
def tw16673829763769326421:=()
def tw12337076775848305493:=()
def tw18029436728442941269:=()
def tw12337060557315894165:=()
def tw10006708238835232693:=()
def tw10687543978749163574:=()
def tw12237147311648760918:=()
def tw2059175336416775286:=()
def tw9888821193552173174:=()
def tw13650844087452567702:=()
def tw9320465296201652374:=()
def tw7854050661478473878:=()
def tw1795287586368575638:=()
def tw3658838542159963286:=()
def tw8980972151419276534:=()
def tw11333251510926296374:=()
def tw12746741486554448246:=()
def tw4850359015852384790:=()
def tw13899987806310264342:=()
def tw9223457257696784918:=()
def tw6228861956873567830:=()
def tw14207817431253842518:=()
def tw12281121063702369942:=()
def tw10426351697957795478:=()
def tw11492658026697672374:=()
def tw5440133866072281814:=()
def tw14287815707147277046:=()
def tw3706454102480578326:=()
def tw14723350578235825974:=()
def tw655121598166661942:=()
def tw11070063492152320886:=()
def tw13476550941766556566:=()
def tw16898111002648313814:=()
def tw17659401621713015798:=()
def tw16363004832477201431:=()
def tw3998221639696966679:=()
def tw10372669906023166007:=()
def tw10712760294119339063:=()
def tw17022490469507871831:=()
def tw2801135483970603159:=()
def tw1348842111986649271:=()
def tw8600185451117043895:=()
def tw6834908673352798423:=()
def tw4071990779305206999:=()
def tw6480222835618962679:=()
def tw9750052789840648439:=()
def tw12229141995300820343:=()
def tw10082797321020899735:=()
def tw3289408798605545879:=()
def tw15704928966223080855:=()
def tw64355510741676439:=()
def tw14405465518902627767:=()
def tw15664170404067836439:=()
def tw10050317543695750679:=()
def tw693816552984811031:=()
def tw11518973221969970743:=()
def tw7164684548062344759:=()
def tw10511706904519201367:=()
def tw11124216456160746103:=()
def tw9527404546944240279:=()
def tw10225154853323519671:=()
def tw17654694719341072119:=()
def tw14582567223118487287:=()
def tw9361229253767655159:=()
def tw18096424790049059575:=()
def tw17304613858712781655:=()
def tw13842395016848267095:=()
def tw14991752982998650743:=()
def tw5722006551821804407:=()
def tw7053579027529613207:=()
def tw4938651638115313623:=()
def tw13314721094767728664:=()
def tw3132850421149368376:=()
def tw17748639910988489784:=()
def tw1479084981520150584:=()
def tw3122051273499011160:=()
def tw4261521415085909144:=()
def tw4450172348143409336:=()
def tw14075294018855066808:=()
def tw1464228005837076728:=()
def tw3332313811922773400:=()
def tw6087229229208838584:=()
def tw798428651816040952:=()
def tw12326648737226051096:=()
def tw9522168352688504344:=()
def tw2579039927738764888:=()
def tw4519340550912136792:=()
def tw16007348599368975992:=()
def tw12645825791897454200:=()
def tw4521935924596529784:=()
def tw9098247860525594264:=()
def tw9892318191235061432:=()
def tw9158323559403814584:=()
def tw7797657506970176280:=()
def tw15770531911735592760:=()
def tw1476646645996257112:=()
def tw8153254647547264888:=()
def tw5732780794703765464:=()
def tw8843928856735103960:=()
def tw2068847804458265625:=()
def tw4259766021702195289:=()
def tw9345288146544224345:=()
def tw6740465550955934873:=()
def tw4886543260093613305:=()
def tw11425464925911583097:=()
def tw17152171612079242617:=()
def tw14593308096181498265:=()
def tw7261899785002834489:=()
def tw1795934584157046393:=()
def tw12880200457028011673:=()
def tw16464658554251639449:=()
def tw8422341984139361977:=()
def tw8538544215903263545:=()
def tw14662391604884007769:=()
def tw7319654412461488025:=()
def tw635165857138788281:=()
def tw15929255543996952537:=()
def tw8087841178592735258:=()
def tw1332247688774028410:=()
def tw10702085990536339674:=()
def tw13860994002107347194:=()
def tw12526111362801433850:=()
def tw12562947737874830618:=()
def tw13978358717072940378:=()
def tw4153502325718632826:=()
def tw5204538901577539994:=()
def tw15755287749124679098:=()
def tw14683265318713733626:=()
def tw18389225939425581594:=()
def tw11805285005506789946:=()
def tw10560905098770401882:=()
def tw15242124338482339418:=()
def tw12854782185521225338:=()
def tw14704675476170992378:=()
def tw11366349143014710042:=()
def tw15292394003801721626:=()
def tw8824130226176627514:=()
def tw15063725089646888762:=()
def tw12957059004367076186:=()
def tw8964583641129009018:=()
def tw13938210644491427738:=()
def tw2447232083751808954:=()
def tw11307003865791317946:=()
def tw414234861006986331:=()
def tw7799393218461442171:=()
def tw2321609350295388315:=()
def tw642259878174018715:=()
def tw2560884254770957499:=()
def tw5747835463645938875:=()
def tw7607680751697826011:=()
def tw3323336918152475899:=()
def tw10070602142824313147:=()
def tw4613694546878601563:=()
def tw17734535938024333659:=()
def tw667999728755406235:=()
def tw3359195041756594651:=()
def tw17380469502982613499:=()
def tw1059442537146357275:=()
def tw47532469188558363:=()
def tw8293693321572296251:=()
def tw2139431646801520315:=()
def tw6005959752325360315:=()
def tw5568077834902536923:=()
def tw5677629836418389787:=()
def tw10555909301865770779:=()
def tw4423212295207251867:=()
def tw14667414593063116731:=()
def tw7484501088863791067:=()
def tw13161380294294430715:=()
def tw12924245223170819164:=()
def tw16409506057739462748:=()
def tw6280861394969262236:=()
def tw8460223512789060892:=()
def tw15791020798419565852:=()
def tw8988128937202607452:=()
def tw18381261325186947452:=()
def tw9761902689224300956:=()
def tw9917723762659143068:=()
def tw18062151797632464284:=()
def tw9396738658929053148:=()
def tw9907951872843552252:=()
def tw11836066313415810588:=()
def tw5542810598387958332:=()
def tw11388396696120218172:=()
def tw6690705549103809148:=()
def tw16577005265351823004:=()
def tw10360754078041224924:=()
def tw5977145971185115868:=()
def tw11417207532796926716:=()
def tw13737847041074200316:=()
def tw16345446854668245788:=()
def tw1595414980896096060:=()
def tw15912616711343572828:=()
def tw1502734579843038044:=()
def tw13057152387419383708:=()
def tw8089423131180720092:=()
def tw1644438386186626044:=()
def tw12402188773644036092:=()
def tw8580437666816853021:=()
def tw7255729765287995421:=()
def tw18145596454749818909:=()
def tw2175121041030108221:=()
def tw6885484332928998493:=()
def tw6235012656497122397:=()
def tw13682964980058026077:=()
def tw6843767618522679421:=()
def tw4880964624696897693:=()
def tw14814605815564900541:=()
def tw13996994484154836285:=()
def tw10866575069456715069:=()
def tw5398331522818421117:=()
def tw11416400945219703197:=()
def tw13241629188374928797:=()
def tw13564614428858483165:=()
def tw1360787419914715741:=()
def tw12409442292721474269:=()
def tw10484782171463001853:=()
def tw12494214789131436829:=()
def tw17106700955080919869:=()
def tw14141492279653819197:=()
def tw9085498615700761437:=()
def tw15740936790670690141:=()
def tw15402402790849120093:=()
def tw518767970457751421:=()
def tw6637655669234669437:=()
def tw16909742025196159869:=()
def tw12991531128857591677:=()
def tw2207265934153255837:=()
def tw5461780863556862877:=()
def tw5525941747287737406:=()
def tw9366722566866848862:=()
def tw17899622840866532446:=()
def tw6020788621253112926:=()
def tw7957844005729038494:=()
def tw5501195329127999678:=()
def tw11938876514972168478:=()
def tw1263761909078444478:=()
def tw11801330662743369342:=()
def tw11789429920304818814:=()
def tw873050719474177694:=()
def tw4547635694553804478:=()
def tw15652370840073152222:=()
def tw1171600609547376350:=()
def tw4994739561485513470:=()
def tw9473251347981807390:=()
def tw6257968880659814174:=()
def tw8803903603672934174:=()
def tw14611267143287096126:=()
def tw4614367644550703966:=()
def tw13343778580589932414:=()
def tw11425559839075069822:=()
def tw14000504232107347870:=()
def tw8019676954748704670:=()
def tw9228068108666934238:=()
def tw11338131346648377342:=()
def tw2523717042583704639:=()
def tw17084226047265189983:=()
def tw2099605811597659231:=()
def tw7977206432177440927:=()
def tw5382944265160408383:=()
def tw1202634809436424543:=()
def tw5687508704211471775:=()
def tw4718574778638997919:=()
def tw6754880361697022527:=()
def tw11407832952475640415:=()
def tw12040244502972899967:=()
def tw11524864779089563295:=()
def tw17005476694244240095:=()
def tw5267292756739885823:=()
def tw12367085592348772095:=()
def tw8770030218538558303:=()
def tw13378715043301401503:=()
def tw11070671081953946623:=()
def tw9067474499055580159:=()
end PySem.W.Fast
open PySem PySem.W PyProof.Rows
set_option maxRecDepth 100000 in
set_option maxHeartbeats 0 in
theorem PySem.Challenge.cw_lapwork_k11_loops_refused_holds : PySem.Challenge.rw_lapwork_k11_loops_refused.Holds := by
  w_on; o_law; k_head; (case hw => w_witness2)
  k_fill
  refine Lap.walk (l := PySem.Challenge.rw_lapwork_k11_loops_refused) rfl rfl (fun w h Y => PySem.W.kIn_of Y) ?F
  case F =>
    intro w mg fa h KX G hmg
    refine' Lap.all_mk KX G hmg ?fl ?t0 ?t1 ?t2 ?t3 ?t4
    (case fl => walk_at "lapF")
    (case t0 =>
      refine' Lap.tp0_mk ?c_Sum ?c_Less ?c_Times ?c_Least ?c_Most ?c_Pick ?c_Same ?c_Tell ?c_Take ?g_LapError ?g_NoDeed ?g_NoMeasure ?g_BadRows ?g_BadName ?g_Twice ?g_BadCount ?g_BadNumber ?g_NoRow ?g_BadBack ?g_TooEarly ?g_BadTurns ?g_Short ?g_BadWidth ?g_BadArms ?g_NoArm ?g_BadDelay ?g_BadHold ?g_BadPlan ?g_Unfit ?g_BadText ?g_Loop
      (case c_Sum => walk_at "lapC")
      (case c_Less => walk_at "lapC")
      (case c_Times => walk_at "lapC")
      (case c_Least => walk_at "lapC")
      (case c_Most => walk_at "lapC")
      (case c_Pick => walk_at "lapC")
      (case c_Same => walk_at "lapC")
      (case c_Tell => walk_at "lapC")
      (case c_Take => walk_at "lapC")
      (case g_LapError => k_is)
      (case g_NoDeed => k_is)
      (case g_NoMeasure => k_is)
      (case g_BadRows => k_is)
      (case g_BadName => k_is)
      (case g_Twice => k_is)
      (case g_BadCount => k_is)
      (case g_BadNumber => k_is)
      (case g_NoRow => k_is)
      (case g_BadBack => k_is)
      (case g_TooEarly => k_is)
      (case g_BadTurns => k_is)
      (case g_Short => k_is)
      (case g_BadWidth => k_is)
      (case g_BadArms => k_is)
      (case g_NoArm => k_is)
      (case g_BadDelay => k_is)
      (case g_BadHold => k_is)
      (case g_BadPlan => k_is)
      (case g_Unfit => k_is)
      (case g_BadText => k_is)
      (case g_Loop => k_is))
    (case t1 =>
      refine' Lap.tp1_mk ?f_wa_sum ?f_wa_less ?f_wa_times ?f_wa_least ?f_wa_most ?f_wa_pick ?f_wa_same ?f_wa_tell ?f_wa_take ?x_NoDeed ?m_NoDeed ?x_NoMeasure ?m_NoMeasure ?x_BadRows ?m_BadRows ?x_BadName ?m_BadName ?x_Twice ?m_Twice ?x_BadCount ?m_BadCount ?x_BadNumber ?m_BadNumber ?x_NoRow ?m_NoRow ?x_BadBack ?m_BadBack ?x_TooEarly ?m_TooEarly ?lapB ?lapT ?i_Loop ?w_LETTERS ?w_MOST_LETTERS ?w_MOST_ROWS ?w_MOST_BACK
      (case f_wa_sum => walk_at "lapM")
      (case f_wa_less => walk_at "lapM")
      (case f_wa_times => walk_at "lapM")
      (case f_wa_least => walk_at "lapM")
      (case f_wa_most => walk_at "lapM")
      (case f_wa_pick => walk_at "lapM")
      (case f_wa_same => walk_at "lapM")
      (case f_wa_tell => walk_at "lapM")
      (case f_wa_take => walk_at "lapM")
      (case x_NoDeed => walk_at "lapX")
      (case m_NoDeed => k_is)
      (case x_NoMeasure => walk_at "lapX")
      (case m_NoMeasure => k_is)
      (case x_BadRows => walk_at "lapX")
      (case m_BadRows => k_is)
      (case x_BadName => walk_at "lapX")
      (case m_BadName => k_is)
      (case x_Twice => walk_at "lapX")
      (case m_Twice => k_is)
      (case x_BadCount => walk_at "lapX")
      (case m_BadCount => k_is)
      (case x_BadNumber => walk_at "lapX")
      (case m_BadNumber => k_is)
      (case x_NoRow => walk_at "lapX")
      (case m_NoRow => k_is)
      (case x_BadBack => walk_at "lapX")
      (case m_BadBack => k_is)
      (case x_TooEarly => walk_at "lapX")
      (case m_TooEarly => k_is)
      (case lapB => k_is)
      (case lapT => k_is)
      (case i_Loop => walk_at "lapI")
      (case w_LETTERS => walk_at "lapV")
      (case w_MOST_LETTERS => walk_at "lapV")
      (case w_MOST_ROWS => walk_at "lapV")
      (case w_MOST_BACK => walk_at "lapV"))
    (case t2 =>
      refine' Lap.tp2_mk ?f_deed ?f_islet ?f_isname ?f_cmeas ?f_crows ?f_chead ?f_cread ?f_cnum ?f_clook ?f_copy ?f_depths ?f_cell ?f_mix ?f_letters ?f_names ?f_wants ?f_row ?f_rows ?f_measure ?f_classes ?f_lisname ?f_rdue ?f_due ?f_bad ?f_other ?f_srow ?f_spoil ?z_len ?z_isinstance ?z_int ?z_bool ?z_range ?z_max ?z_list ?z_tuple ?z_all
      (case f_deed => walk_at "lapF")
      (case f_islet => walk_at "lapF")
      (case f_isname => walk_at "lapF")
      (case f_cmeas => walk_at "lapF")
      (case f_crows => walk_at "lapF")
      (case f_chead => walk_at "lapF")
      (case f_cread => walk_at "lapF")
      (case f_cnum => walk_at "lapF")
      (case f_clook => walk_at "lapF")
      (case f_copy => walk_at "lapF")
      (case f_depths => walk_at "lapF")
      (case f_cell => walk_at "lapF")
      (case f_mix => walk_at "lapF")
      (case f_letters => walk_at "lapF")
      (case f_names => walk_at "lapF")
      (case f_wants => walk_at "lapF")
      (case f_row => walk_at "lapF")
      (case f_rows => walk_at "lapF")
      (case f_measure => walk_at "lapF")
      (case f_classes => walk_at "lapF")
      (case f_lisname => walk_at "lapF")
      (case f_rdue => walk_at "lapF")
      (case f_due => walk_at "lapF")
      (case f_bad => walk_at "lapF")
      (case f_other => walk_at "lapF")
      (case f_srow => walk_at "lapF")
      (case f_spoil => walk_at "lapF")
      (case z_len => k_is)
      (case z_isinstance => k_is)
      (case z_int => k_is)
      (case z_bool => k_is)
      (case z_range => k_is)
      (case z_max => k_is)
      (case z_list => k_is)
      (case z_tuple => k_is)
      (case z_all => k_is))
    (case t3 =>
      refine' Lap.tp3_mk ?z_enumerate ?z_sum ?z_ValueError ?kII ?kIB ?kTT ?kTI ?kIT ?nM ?nK ?nD ?kX_NoDeed ?kV_NoDeed ?kL_NoDeed ?kX_NoMeasure ?kV_NoMeasure ?kL_NoMeasure ?kX_BadRows ?kV_BadRows ?kL_BadRows ?kX_BadName ?kV_BadName ?kL_BadName ?kX_Twice ?kV_Twice ?kL_Twice ?kX_BadCount ?kV_BadCount ?kL_BadCount ?kX_BadNumber ?kV_BadNumber ?kL_BadNumber ?kX_NoRow ?kV_NoRow ?kL_NoRow ?kX_BadBack
      (case z_enumerate => k_is)
      (case z_sum => k_is)
      (case z_ValueError => k_is)
      (case kII => kit_is)
      (case kIB => kit_is)
      (case kTT => kit_is)
      (case kTI => kit_is)
      (case kIT => kit_is)
      (case nM => (unfold L2.NoAttr; k_is))
      (case nK => (unfold L2.NoAttr; k_is))
      (case nD => (unfold L2.NoAttr; k_is))
      (case kX_NoDeed => (intro e h1 h2; cases e <;> first | exact absurd rfl h1 | exact absurd rfl h2 | kit_is))
      (case kV_NoDeed => kit_is)
      (case kL_NoDeed => kit_is)
      (case kX_NoMeasure => (intro e h1 h2; cases e <;> first | exact absurd rfl h1 | exact absurd rfl h2 | kit_is))
      (case kV_NoMeasure => kit_is)
      (case kL_NoMeasure => kit_is)
      (case kX_BadRows => (intro e h1 h2; cases e <;> first | exact absurd rfl h1 | exact absurd rfl h2 | kit_is))
      (case kV_BadRows => kit_is)
      (case kL_BadRows => kit_is)
      (case kX_BadName => (intro e h1 h2; cases e <;> first | exact absurd rfl h1 | exact absurd rfl h2 | kit_is))
      (case kV_BadName => kit_is)
      (case kL_BadName => kit_is)
      (case kX_Twice => (intro e h1 h2; cases e <;> first | exact absurd rfl h1 | exact absurd rfl h2 | kit_is))
      (case kV_Twice => kit_is)
      (case kL_Twice => kit_is)
      (case kX_BadCount => (intro e h1 h2; cases e <;> first | exact absurd rfl h1 | exact absurd rfl h2 | kit_is))
      (case kV_BadCount => kit_is)
      (case kL_BadCount => kit_is)
      (case kX_BadNumber => (intro e h1 h2; cases e <;> first | exact absurd rfl h1 | exact absurd rfl h2 | kit_is))
      (case kV_BadNumber => kit_is)
      (case kL_BadNumber => kit_is)
      (case kX_NoRow => (intro e h1 h2; cases e <;> first | exact absurd rfl h1 | exact absurd rfl h2 | kit_is))
      (case kV_NoRow => kit_is)
      (case kL_NoRow => kit_is)
      (case kX_BadBack => (intro e h1 h2; cases e <;> first | exact absurd rfl h1 | exact absurd rfl h2 | kit_is)))
    (case t4 =>
      refine' Lap.tp4_mk ?kV_BadBack ?kL_BadBack ?kX_TooEarly ?kV_TooEarly ?kL_TooEarly
      (case kV_BadBack => kit_is)
      (case kL_BadBack => kit_is)
      (case kX_TooEarly => (intro e h1 h2; cases e <;> first | exact absurd rfl h1 | exact absurd rfl h2 | kit_is))
      (case kV_TooEarly => kit_is)
      (case kL_TooEarly => kit_is))
