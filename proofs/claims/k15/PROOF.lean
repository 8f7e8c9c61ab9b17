import PyProof.Rows.All
import Wide.All
import OpenK.AllK
import Wide.FinOn
import Lean
import PyProof.EqAt
import PyProof.EqKinds
import PyProof.TupleCall
import PySem.Challenge.RW_lapwork_k15_whole_run_on
-- CHANGE: your row's module here, as the last of these rows
set_option Elab.async false
set_option linter.all false
set_option maxRecDepth 100000
namespace L2
open PySem PySem.Spec PyProof.Rows
abbrev Key := Sum Int Str
def keyIs : Key → Value → Bool
  | .inl k, v => Value.isInt k v
  | .inr x, v => Value.isStrOf x v
def keyH (w : World) : Key → Int
  | .inl k => hashInt k
  | .inr x => hashStr w x
theorem keyIs_shape : ∀ {k : Key} {v : Value}, keyIs k v = true → (∃ i t, k = Sum.inl i ∧ v = Value.int i t) ∨ (∃ x t, k = Sum.inr x ∧ v = Value.str x t)
  | .inl i, v, h => by
    obtain ⟨t, e⟩ := Value.isInt_shape (k := i) (v := v) h
    exact .inl ⟨i, t, rfl, e⟩
  | .inr x, v, h => by
    obtain ⟨t, e⟩ := Value.isStrOf_shape (x := x) (v := v) h
    exact .inr ⟨x, t, rfl, e⟩
theorem keyIs_int (i : Int) (t : Tok) : keyIs (.inl i) (.int i t) = true := by simp [keyIs, Value.isInt]
theorem keyIs_str (x : Str) (t : Tok) : keyIs (.inr x) (.str x t) = true := by simp [keyIs, Value.isStrOf]
theorem key_ll (a b : Int) : decide ((Sum.inl a : Key) = Sum.inl b) = (a == b) := by
  by_cases e : a = b
  · subst e; simp
  · have h : ¬ (Sum.inl a : Key) = Sum.inl b := fun q => e (Sum.inl.inj q)
    rw [decide_eq_false h]
    exact (beq_eq_false_iff_ne.mpr e).symm
theorem key_rr (a b : Str) : decide ((Sum.inr a : Key) = Sum.inr b) = decide (a = b) := by
  by_cases e : a = b
  · subst e; simp
  · have h : ¬ (Sum.inr a : Key) = Sum.inr b := fun q => e (Sum.inr.inj q)
    rw [decide_eq_false h, decide_eq_false e]
theorem key_lr (a : Int) (b : Str) : decide ((Sum.inl a : Key) = Sum.inr b) = false := decide_eq_false (fun q => nomatch q)
theorem key_rl (a : Str) (b : Int) : decide ((Sum.inr a : Key) = Sum.inl b) = false := decide_eq_false (fun q => nomatch q)
def mixKind (prog : Program) (w : World) : PySem.KeyKind prog w Key where
  is := keyIs
  hash := keyH w
  inj := fun v a b ha hb => by
    rcases keyIs_shape ha with ⟨i, t, rfl, rfl⟩ | ⟨x, t, rfl, rfl⟩
    · rcases keyIs_shape hb with ⟨j, u, rfl, e⟩ | ⟨y, u, rfl, e⟩
      · injection e with e1 _; rw [e1]
      · exact nomatch e
    · rcases keyIs_shape hb with ⟨j, u, rfl, e⟩ | ⟨y, u, rfl, e⟩
      · exact nomatch e
      · injection e with e1 _; rw [e1]
  byValue := fun k v h => by
    rcases keyIs_shape h with ⟨i, t, rfl, rfl⟩ | ⟨x, t, rfl, rfl⟩ <;> rfl
  pyHash := fun hv h => by
    rcases keyIs_shape hv with ⟨i, t, rfl, rfl⟩ | ⟨x, t, rfl, rfl⟩
    · exact wpAny_pyHash_int h
    · exact wpAny_pyHash_str h
  eqBool := fun hu hv h => by
    rcases keyIs_shape hu with ⟨i, t, rfl, rfl⟩ | ⟨x, t, rfl, rfl⟩
    · rcases keyIs_shape hv with ⟨j, u, rfl, rfl⟩ | ⟨y, u, rfl, rfl⟩
      · rw [key_ll] at h; exact wpAny_eqBool_int h
      · rw [key_lr] at h; exact SeqAt.EqAt.int_str i t y u _ _ _ _ h
    · rcases keyIs_shape hv with ⟨j, u, rfl, rfl⟩ | ⟨y, u, rfl, rfl⟩
      · rw [key_rl] at h; exact SeqAt.EqAt.str_int x t j u _ _ _ _ h
      · rw [key_rr] at h; exact wpAny_eqBool_str h
  «strs» := fun k x t v h => by
    rcases keyIs_shape h with ⟨i, u, rfl, e⟩ | ⟨y, u, rfl, e⟩
    · exact nomatch e
    · injection e with e1 _
      subst e1
      cases v <;> rfl
theorem mixKind_int (prog : Program) (w : World) (i : Int) (t : Tok) : (mixKind prog w).is (.inl i) (.int i t) = true := keyIs_int i t
theorem mixKind_str (prog : Program) (w : World) (x : Str) (t : Tok) : (mixKind prog w).is (.inr x) (.str x t) = true := keyIs_str x t
end L2
namespace L2
open PySem PySem.Spec PyProof.Rows
inductive V where
  | non | bl (b : Bool) | int (i : Int) | str (x : Str) | byt (b : Array UInt8) | flt (b : UInt64) | ref (a : Addr) | ty (n : String)
  deriving DecidableEq
def RelV : V → Value → Prop
  | .non, u => u = Value.none
  | .bl b, u => u = Value.bool b
  | .int i, u => ∃ t, u = Value.int i t
  | .str x, u => ∃ t, u = Value.str x t
  | .byt b, u => ∃ t, u = Value.bytes b t
  | .flt b, u => ∃ t, u = Value.float b t
  | .ref a, u => u = Value.ref a
  | .ty n, u => u = Value.type n
abbrev Vals : List V → List Value → Prop := Paired RelV
theorem Vals.length {xs : List V} {us : List Value} (r : Vals xs us) : xs.length = us.length := Paired.length r
theorem Vals.get : ∀ {xs : List V} {us : List Value} {i : Nat} {x : V}, Vals xs us → xs[i]? = some x → ∃ u, us[i]? = some u ∧ RelV x u
  | _, _, _, _, .nil, e => by simp at e
  | _, _, 0, _, .cons r _, e => by simp at e; subst e; exact ⟨_, rfl, r⟩
  | _, _, i + 1, x, .cons _ t, e => by
    obtain ⟨u, h1, h2⟩ := Vals.get (i := i) (x := x) t (by simpa using e)
    exact ⟨u, by simpa using h1, h2⟩
theorem Vals.append : ∀ {xs ys : List V} {us ws : List Value}, Vals xs us → Vals ys ws → Vals (xs ++ ys) (us ++ ws)
  | _, _, _, _, .nil, s => s
  | _, _, _, _, .cons r t, s => .cons r (Vals.append t s)
theorem Vals.take : ∀ {xs : List V} {us : List Value} (n : Nat), Vals xs us → Vals (xs.take n) (us.take n)
  | _, _, 0, _ => .nil
  | _, _, _ + 1, .nil => .nil
  | _, _, n + 1, .cons r t => .cons r (Vals.take n t)
theorem Vals.drop : ∀ {xs : List V} {us : List Value} (n : Nat), Vals xs us → Vals (xs.drop n) (us.drop n)
  | _, _, 0, r => r
  | _, _, _ + 1, .nil => .nil
  | _, _, n + 1, .cons _ t => Vals.drop n t
def RelO : Option V → Option Value → Prop
  | some v, some u => RelV v u
  | none, none => True
  | _, _ => False
def KV {κ : Type} : List (κ × V) → List (κ × Value) → Prop := Paired fun (p : κ × V) (q : κ × Value) => p.1 = q.1 ∧ RelV p.2 q.2
def kV : Key → V
  | .inl i => .int i
  | .inr x => .str x
inductive HO where
  | lst (xs : List V)
  | tup (xs : List V)
  | dK (kvs : List (Key × V)) | dT (kvs : List (List Key × V))
  | set (S : Int → Bool) (n : Nat)
  | ins (C dx : Addr) (fs : List (Str × V))
  | own (x : Addr)
  | xd (fs : List (Str × V))
  | met (f x : Addr)
  | rng (lo hi : Int)
  | frz (o : Obj) (u : HO)
  | tbl (ps : Array Value)
  | ext (φ : Heap → Prop)
abbrev Hp := Addr → Option HO
def upd (H : Hp) (a : Addr) (o : HO) : Hp := fun b => if b = a then some o else H b
theorem upd_same {H : Hp} {a : Addr} {o : HO} : upd H a o a = some o := by unfold upd; rw [if_pos rfl]
theorem upd_ne {H : Hp} {a b : Addr} {o : HO} (h : b ≠ a) : upd H a o b = H b := by unfold upd; rw [if_neg h]
theorem upd_upd {H : Hp} {a : Addr} {o u : HO} : upd (upd H a o) a u = upd H a u := by
  funext b; unfold upd; split <;> rfl
theorem ne_of {H : Hp} {a b : Addr} {o u : HO} (h : H a = some o) (h' : H b = some u) (d : o ≠ u) : a ≠ b := by
  intro e; subst e; rw [h] at h'; exact d (Option.some.inj h')
theorem ne_of_none {H : Hp} {a b : Addr} {o : HO} (h : H a = some o) (h' : H b = none) : a ≠ b := by
  intro e; subst e; rw [h] at h'; cases h'
section
variable (P : Program) (w : World)
def ObjOk (H : Hp) (h : Heap) (a : Addr) : HO → Prop
  | .lst xs => xs.length ≤ sizeLine ∧ ∃ (its : List Value) (n : Nat), Vals xs its ∧ h.get? a = some { cls := .type "list", data := .seq its.toArray n }
  | .tup xs => xs.length ≤ sizeLine ∧ ∃ its : List Value, Vals xs its ∧ IsTup h a its.toArray
  | .dK kvs => kvs.length ≤ sizeLine ∧ (a == sysModules) = false ∧ ∃ vs, KV kvs vs ∧ h.DictOf (mixKind P w) a vs
  | .dT kvs => kvs.length ≤ sizeLine ∧ (a == sysModules) = false ∧ ∃ xs : List (List Key × Addr × Value),
      Paired (fun (p : List Key × V) (q : List Key × Addr × Value) => p.1 = q.1 ∧ H q.2.1 = some (.tup (p.1.map kV)) ∧ RelV p.2 q.2.2) kvs xs ∧
      ∃ o es ep, h.get? a = some o ∧ o.ExactDict ∧ o.data = .dict es ep ∧ es.toList = xs.map (entryOfKey (tupleKind (mixKind P w))) ∧ (xs.map (·.1)).Nodup
  | .set S n => h.SetOf (intKind P w) a S n
  | .ins C dx fs => H dx = some (.own a) ∧ fs.length ≤ 1000 ∧ dx ≠ a ∧ h.get? a = some (PySem.W.instObj C dx) ∧
      ∃ mA, h.Ns1 dx mA ∧ (∀ f, RelO (fs.lookup f) (mA f)) ∧ PySem.Within mA (fs.map (·.1))
  | .own _ => ∃ o, h.get? a = some o
  | .xd fs => ∃ mA, h.Ns1 a mA ∧ ∀ f, RelO (fs.lookup f) (mA f)
  | .rng lo hi => ∃ t u v, h.get? a = some { cls := .type "range", data := .fields #[.int lo t, .int hi u, .int 1 v] }
  | .frz o u => h.get? a = some o ∧ ObjOk H h a u
  | .tbl ps => h.get? a = some { cls := .none, data := .fields ps }
  | .met f x => h.get? a = some (PySem.W.methodObj (.ref f) (.ref x))
  | .ext φ => φ h ∧ (∃ o, h.get? a = some o) ∧ ∀ h1 h2 : Heap, φ h1 → (∀ o, h1.get? a = some o → h2.get? a = some o) → φ h2
def HOk (H : Hp) (h : Heap) : Prop := ∀ a o, H a = some o → ObjOk P w H h a o
end
section
variable {P : Program} {w : World} {H H' : Hp} {h h' : Heap} {a : Addr} {o : HO}
theorem ObjOk.lt (x : ObjOk P w H h a o) : a < h.objs.size := by
  cases o with
  | lst xs => obtain ⟨_, _, _, _, e⟩ := x; exact Heap.lt_size e
  | tup xs => obtain ⟨_, _, _, p⟩ := x; exact p.lt
  | dK kvs => obtain ⟨_, _, _, _, o, _, _, e, _⟩ := x; exact Heap.lt_size e
  | dT kvs => obtain ⟨_, _, _, _, o, _, _, e, _⟩ := x; exact Heap.lt_size e
  | set S n => obtain ⟨o, _, _, _, e, _⟩ := x; exact Heap.lt_size e
  | ins C dx fs => obtain ⟨_, _, _, e, _⟩ := x; exact Heap.lt_size e
  | own y => obtain ⟨_, e⟩ := x; exact Heap.lt_size e
  | xd fs => obtain ⟨_, ⟨_, _, _, e, _⟩, _⟩ := x; exact Heap.lt_size e
  | rng lo hi => obtain ⟨_, _, _, e⟩ := x; exact Heap.lt_size e
  | frz ob u => obtain ⟨e, _⟩ := x; exact Heap.lt_size e
  | tbl ps => exact Heap.lt_size (show h.get? a = some _ from x)
  | met f y => exact Heap.lt_size (show h.get? a = some _ from x)
  | ext φ => obtain ⟨_, ⟨_, e⟩, _⟩ := x; exact Heap.lt_size e
theorem Paired.mapP {α β : Type} {F G : α → β → Prop} : ∀ {l₁ : List α} {l₂ : List β}, Paired F l₁ l₂ → (∀ a b, F a b → G a b) → Paired G l₁ l₂
  | _, _, .nil, _ => .nil
  | _, _, .cons r t, f => .cons (f _ _ r) (Paired.mapP t f)
theorem ObjOk.stay (x : ObjOk P w H h a o) (k : ∀ b u, (b = a ∨ H b = some (.own a)) → h.get? b = some u → h'.get? b = some u)
    (ho : ∀ b, H b = some (.own a) → H' b = some (.own a)) (ht : ∀ b xs, H b = some (.tup xs) → H' b = some (.tup xs)) : ObjOk P w H' h' a o := by
  induction o with
  | lst xs => obtain ⟨z, its, n, r, e⟩ := x; exact ⟨z, its, n, r, k _ _ (.inl rfl) e⟩
  | tup xs => obtain ⟨z, its, r, ob, e, c⟩ := x; exact ⟨z, its, r, ob, k _ _ (.inl rfl) e, c⟩
  | dK kvs => obtain ⟨z, y, vs, r, ob, es, ep, e, c⟩ := x; exact ⟨z, y, vs, r, ob, es, ep, k _ _ (.inl rfl) e, c⟩
  | dT kvs =>
    obtain ⟨z, y, xs, r, ob, es, ep, e, c⟩ := x
    exact ⟨z, y, xs, Paired.mapP r fun p q z => ⟨z.1, ht _ _ z.2.1, z.2.2⟩, ob, es, ep, k _ _ (.inl rfl) e, c⟩
  | set S n => obtain ⟨ob, es, ep, t, e, c⟩ := x; exact ⟨ob, es, ep, t, k _ _ (.inl rfl) e, c⟩
  | ins C dx fs =>
    obtain ⟨d, z, ne, e, mA, ⟨od, es, ep, e2, c⟩, r⟩ := x
    exact ⟨ho _ d, z, ne, k _ _ (.inl rfl) e, mA, ⟨od, es, ep, k _ _ (.inr d) e2, c⟩, r⟩
  | own y => obtain ⟨ob, e⟩ := x; exact ⟨ob, k _ _ (.inl rfl) e⟩
  | xd fs => obtain ⟨mA, ⟨od, es, ep, e, c⟩, r⟩ := x; exact ⟨mA, ⟨od, es, ep, k _ _ (.inl rfl) e, c⟩, r⟩
  | rng lo hi => obtain ⟨t, u, v, e⟩ := x; exact ⟨t, u, v, k _ _ (.inl rfl) e⟩
  | frz ob u ih => obtain ⟨e, q⟩ := x; exact ⟨k _ _ (.inl rfl) e, ih q⟩
  | tbl ps =>
    have e : h.get? a = some { cls := .none, data := .fields ps } := x
    show h'.get? a = some { cls := .none, data := .fields ps }
    exact k a _ (.inl rfl) e
  | met f y =>
    have e : h.get? a = some (PySem.W.methodObj (.ref f) (.ref y)) := x
    show h'.get? a = some (PySem.W.methodObj (.ref f) (.ref y))
    exact k a _ (.inl rfl) e
  | ext φ => obtain ⟨p, ⟨o, e⟩, st⟩ := x; exact ⟨st _ _ p fun o q => k _ _ (.inl rfl) q, ⟨o, k _ _ (.inl rfl) e⟩, st⟩
theorem HOk.lt (x : HOk P w H h) (e : H a = some o) : a < h.objs.size := (x a o e).lt
theorem HOk.fresh (x : HOk P w H h) (e : h.objs.size ≤ a) : H a = none := by
  cases q : H a with
  | none => rfl
  | some u => exact absurd (Nat.lt_of_lt_of_le (x.lt q) e) (Nat.lt_irrefl _)
theorem HOk.kept (x : HOk P w H h) (k : ∀ b u, h.get? b = some u → h'.get? b = some u) : HOk P w H h' := fun a o e =>
  (x a o e).stay (fun b u _ q => k b u q) (fun _ q => q) fun _ _ q => q
theorem HOk.laid (x : HOk P w H h) (k : ∀ b u, h.get? b = some u → h'.get? b = some u) (hp : h.objs.size ≤ a) (new : ObjOk P w (upd H a o) h' a o) : HOk P w (upd H a o) h' := fun b u e => by
  have hn := x.fresh hp
  by_cases hb : b = a
  · subst hb; rw [upd_same] at e; cases e; exact new
  · rw [upd_ne hb] at e
    exact (x b u e).stay (fun c v _ q => k c v q) (fun c q => by rw [upd_ne (ne_of_none q hn)]; exact q) fun c xs q => by rw [upd_ne (ne_of_none q hn)]; exact q
end
def Rd (H : Hp) (a : Addr) (u : HO) : Prop := H a = some u ∨ ∃ o, H a = some (.frz o u)
theorem Rd.ok {P : Program} {w : World} {H : Hp} {h : Heap} {a : Addr} {u : HO} (r : Rd H a u) (x : HOk P w H h) : ObjOk P w H h a u := by
  rcases r with r | ⟨o, r⟩
  · exact x a u r
  · obtain ⟨_, q⟩ := x a _ r
    exact q
def Mut : Option HO → Prop
  | some (.lst _) => True
  | some (.dK _) => True
  | some (.dT _) => True
  | some (.set _ _) => True
  | some (.ins _ _ _) => True
  | some (.ext _) => True
  | _ => False
section
variable {P : Program} {w : World} {H : Hp} {h h' : Heap} {x e : Addr} {o' : HO}
theorem HOk.write (ok : HOk P w H h) (mu : Mut (H x)) (he : e = x ∨ H e = some (.own x)) (k : ∀ b u, b ≠ e → h.get? b = some u → h'.get? b = some u) (heo : ∃ u, h'.get? e = some u)
    (new : ObjOk P w (upd H x o') h' x o') : HOk P w (upd H x o') h' := fun b u q => by
  have nown : ∀ c y, H c = some (.own y) → c ≠ x := fun c y r z => by subst z; rw [r] at mu; exact mu
  have ntup : ∀ c xs, H c = some (.tup xs) → c ≠ x := fun c xs r z => by subst z; rw [r] at mu; exact mu
  by_cases hb : b = x
  · subst hb; rw [upd_same] at q; cases q; exact new
  · rw [upd_ne hb] at q
    by_cases hbe : b = e
    · have q' : H b = some (.own x) := by
        rcases he with z | z
        · exact absurd (hbe.trans z) hb
        · rw [hbe]; exact z
      rw [q] at q'; cases q'
      obtain ⟨v, hv⟩ := heo
      exact ⟨v, by rw [hbe]; exact hv⟩
    · refine (ok b u q).stay (fun c v hc r => k c v ?_ r) (fun c r => by rw [upd_ne (nown c b r)]; exact r) fun c xs r => by rw [upd_ne (ntup c xs r)]; exact r
      rcases hc with rfl | hc
      · exact hbe
      · rintro rfl
        rcases he with z | z
        · exact nown c b hc z
        · rw [hc] at z; cases z; exact hb rfl
end
structure Un (fs ex : List Addr) (H H' : Hp) (h h' : Heap) : Prop where
  keep : ∀ b o, h.get? b = some o → H b = none → b ∉ fs → b ∉ ex → h'.get? b = some o
  slot : ∀ b o, h.get? b = some o → H b = none → b ∈ fs → b ∉ ex → ∃ sl, h'.get? b = some { o with slots := sl }
  free : ∀ b o, h.get? b = some o → H b = none → b ∉ ex → H' b = none
  there : ∀ b o, h.get? b = some o → b ∉ ex → ∃ o', h'.get? b = some o'
  tups : ∀ b xs, H b = some (.tup xs) → H' b = some (.tup xs)
  frzs : ∀ b o u, H b = some (.frz o u) → H' b = some (.frz o u)
  tbls : ∀ b ps, H b = some (.tbl ps) → ∃ more, H' b = some (.tbl (ps ++ more))
section
variable {fs fs' ex ex' : List Addr} {H H1 H2 : Hp} {h h1 h2 h' : Heap} {a x e : Addr} {o : HO}
theorem Un.any (u : Un fs ex H H1 h h1) {b : Addr} {ob : Obj} (q : h.get? b = some ob) (n : H b = none) (hx : b ∉ ex) : ∃ sl, h1.get? b = some { ob with slots := sl } := by
  by_cases hb : b ∈ fs
  · exact u.slot b ob q n hb hx
  · exact ⟨ob.slots, u.keep b ob q n hb hx⟩
theorem Un.kept (k : ∀ b u, h.get? b = some u → h'.get? b = some u) : Un fs ex H H h h' :=
  ⟨fun b ob q _ _ _ => k b ob q, fun b ob q _ _ _ => ⟨ob.slots, k b ob q⟩, fun _ _ _ n _ => n, fun b ob q _ => ⟨ob, k b ob q⟩, fun _ _ q => q, fun _ _ _ q => q, fun _ ps q => ⟨#[], by rw [q]; simp⟩⟩
theorem Un.refl : Un fs ex H H h h := Un.kept fun _ _ q => q
theorem Un.laid (k : ∀ b u, h.get? b = some u → h'.get? b = some u) (hp : h.objs.size ≤ a) (hn : H a = none) : Un fs ex H (upd H a o) h h' where
  keep := fun b u q _ _ _ => k b u q
  slot := fun b u q _ _ _ => ⟨u.slots, k b u q⟩
  free := fun b u q n _ => by rw [upd_ne (Nat.ne_of_lt (Nat.lt_of_lt_of_le (Heap.lt_size q) hp))]; exact n
  there := fun b u q _ => ⟨u, k b u q⟩
  tups := fun b xs q => by rw [upd_ne (ne_of_none q hn)]; exact q
  frzs := fun b u xs q => by rw [upd_ne (ne_of_none q hn)]; exact q
  tbls := fun b ps q => ⟨#[], by rw [upd_ne (ne_of_none q hn), q]; simp⟩
theorem Un.write (mu : Mut (H x)) (he : e = x ∨ H e = some (.own x)) (k : ∀ b u, b ≠ e → h.get? b = some u → h'.get? b = some u) (heo : ∃ u, h'.get? e = some u) : Un fs ex H (upd H x o) h h' := by
  have hx : ∀ b, H b = none → b ≠ x := fun b n z => by subst z; rw [n] at mu; exact mu
  have hb : ∀ b, H b = none → b ≠ e := fun b n z => by
    subst z
    rcases he with r | r
    · exact hx b n r
    · rw [n] at r; cases r
  have hm : ∀ b u, H b = some u → ¬ Mut (some u) → b ≠ x := fun b u q nm z => by subst z; rw [q] at mu; exact nm mu
  refine ⟨fun b u q n _ _ => k b u (hb b n) q, fun b u q n _ _ => ⟨u.slots, k b u (hb b n) q⟩, fun b u q n _ => by rw [upd_ne (hx b n)]; exact n, fun b u q _ => ?_,
    fun b xs q => by rw [upd_ne (hm b _ q fun z => z)]; exact q, fun b u xs q => by rw [upd_ne (hm b _ q fun z => z)]; exact q, fun b ps q => ⟨#[], by rw [upd_ne (hm b _ q fun z => z), q]; simp⟩⟩
  by_cases hbe : b = e
  · subst hbe; exact heo
  · exact ⟨u, k b u hbe q⟩
end
def trk (h : Heap) (H : Hp) : List Addr := (List.range h.objs.size).filter fun a => (H a).isSome
def hidT (h : Heap) (H : Hp) : Heap := PySem.W.hideAll h (trk h H)
theorem hidT_size (h : Heap) (H : Hp) : (hidT h H).objs.size = h.objs.size := PySem.W.hideAll_size _ _
theorem hidT_get {h : Heap} {H : Hp} {b : Addr} {o : Obj} (e : h.get? b = some o) (n : H b = none) : (hidT h H).get? b = some o :=
  PySem.W.hideAll_get _ e fun hm => by
    have q : (H b).isSome = true := (List.mem_filter.mp hm).2
    rw [n] at q; simp at q
theorem of_hidT {h : Heap} {H : Hp} {b : Addr} {o : Obj} (e : (hidT h H).get? b = some o) : h.get? b = some o ∧ H b = none := by
  have e' : h.get? b = some o := PySem.W.of_hideAll (trk h H) e
  refine ⟨e', ?_⟩
  cases q : H b with
  | none => rfl
  | some x =>
    have hm : b ∈ trk h H := List.mem_filter.mpr ⟨List.mem_range.mpr (Heap.lt_size e'), by simp [q]⟩
    have z : (hidT h H).get? b = none := PySem.W.hideAll_none (trk h H) hm
    rw [z] at e; cases e
end L2
namespace L2
open PySem PySem.Spec PyProof.Rows
structure Mod (K : PySem.W.Frag) (mg : Str → Option Value) (base : Heap) : Prop where
  kin : K.In base
  glob : base.Ns mainGlobals mg
  blt : ∃ mb, base.Ns builtinsNs mb ∧ ∀ x : Str, x ≠ "__name__" → mb x = bootBuiltins x
  nolimit : base.NoLimit
structure Cx where
  prog : Program
  w : World
  K : PySem.W.Frag
  mg : Str → Option Value
  base : Heap
  A : Around
  N : List Str
  s₀ : Shared
  H₀ : Hp
  env : Env
  outer : List Env
  stack : List Env
  ex : List Addr
  fn : Str → Bool
  calm : Bool
  pn : List (Addr × Obj)
  xe : Value → Shared → Prop
def frs (l : List Env) : List Addr := l.filterMap (·.frame)
abbrev Cx.fs (X : Cx) : List Addr := frs X.outer
def Vis (sc : Scope) (x : Str) : Prop := sc.names.lookup x = some .local ∨ sc.names.lookup x = some .cell ∨ sc.names.lookup x = some .free
def Loc (sc : Scope) (x : Str) : Prop := sc.names.lookup x = some .local ∨ sc.names.lookup x = some .cell
def Look (env : Env) (h : Heap) (m : Str → Option Value) (x : Str) (u : Value) : Prop :=
  (env.kindOf x = some .local ∧ m x = some u) ∨ ((env.kindOf x = some .cell ∨ env.kindOf x = some .free) ∧ ∃ c, env.cells.lookup x = some c ∧ h.IsCell c (some u))
structure Cx.Ok (X : Cx) : Prop where
  mod : Mod X.K X.mg X.base
  kind : X.env.scope.kind = .function
  glob : X.env.globals = mainGlobals
  blt : X.env.builtins = builtinsNs
  above : X.s₀.heap.objs.size ≤ X.env.locals
  inj : ∀ x y c, X.env.cells.lookup x = some c → X.env.cells.lookup y = some c → x = y
  has : ∀ x, (X.env.kindOf x = some .cell ∨ X.env.kindOf x = some .free) → ∃ c, X.env.cells.lookup x = some c
  cab : ∀ x c, X.fn x = true → X.env.cells.lookup x = some c → X.s₀.heap.objs.size ≤ c
  hd : X.calm = true → X.A.handled = none
  frames : X.A.frames = some X.stack
  stk : X.stack = X.outer ∨ (X.stack = X.env :: X.outer ∧ X.env.frame = some X.env.locals)
  exf : ∀ b ∈ X.ex, b ≠ X.env.locals ∧ ∀ x c, X.env.cells.lookup x = some c → c ≠ b
  bs : ∀ b o, X.base.get? b = some o → X.s₀.heap.get? b = some o ∧ X.H₀ b = none
  bsz : X.base.objs.size ≤ X.s₀.heap.objs.size
  noex : ∀ b o, X.base.get? b = some o → b ∉ X.ex
  exfs : ∀ b ∈ X.ex, b ∉ X.fs
  funs : X.s₀.heap.FunFrames X.base X.outer
  frf : ∀ b ∈ X.fs, X.H₀ b = none
structure Inv (X : Cx) (pins : List (Addr × Obj)) (σ : List (Option V)) (H : Hp) (s : Shared) : Prop where
  ok : X.Ok
  os : s.os = X.s₀.os
  bare : AllBare s.gens
  base : Un X.fs X.ex X.H₀ H X.s₀.heap s.heap
  loc : ∃ m, s.heap.Ns X.env.locals m ∧ ∀ (i : Nat) (x : Str) (v : V), X.N[i]? = some x → σ[i]? = some (some v) → Vis X.env.scope x → ∃ u, RelV v u ∧ Look X.env s.heap m x u
  cell : ∀ x c, X.env.cells.lookup x = some c → ∃ v, s.heap.IsCell c v
  free : H X.env.locals = none
  freeC : ∀ x c, X.env.cells.lookup x = some c → H c = none
  pin : ∀ p ∈ X.pn ++ pins, s.heap.get? p.1 = some p.2 ∧ H p.1 = none ∧ p.1 ≠ X.env.locals ∧ p.1 ∉ X.fs ∧ ∀ v, p.2.data ≠ .cell v
  hok : HOk X.prog X.w H s.heap
  len : σ.length = X.N.length
section
variable {X : Cx} {pins : List (Addr × Obj)} {σ : List (Option V)} {H H' : Hp} {s : Shared} {h' : Heap}
theorem Cx.Ok.nofr (ok : X.Ok) {b : Addr} {o : Obj} (e : X.base.get? b = some o) : b ∉ X.fs := fun hb => by
  have := (ok.funs.mem hb).1
  rw [e] at this; cases this
theorem Inv.bs (I : Inv X pins σ H s) : ∀ b o, X.base.get? b = some o → s.heap.get? b = some o ∧ H b = none := fun b o e =>
  ⟨I.base.keep b o (I.ok.bs b o e).1 (I.ok.bs b o e).2 (I.ok.nofr e) (I.ok.noex b o e), I.base.free b o (I.ok.bs b o e).1 (I.ok.bs b o e).2 (I.ok.noex b o e)⟩
theorem Inv.bk (I : Inv X pins σ H s) : ∀ b o, X.base.get? b = some o → s.heap.get? b = some o := fun b o e => (I.bs b o e).1
theorem Inv.mod (I : Inv X pins σ H s) : Mod X.K X.mg X.base := I.ok.mod
theorem Inv.kIn (I : Inv X pins σ H s) : X.K.In s.heap := I.ok.mod.kin.keeps I.bk
theorem Inv.lt (I : Inv X pins σ H s) : X.env.locals < s.heap.objs.size := let ⟨_, hn, _⟩ := I.loc; hn.lt
theorem Inv.sz (I : Inv X pins σ H s) : X.s₀.heap.objs.size ≤ s.heap.objs.size := Nat.le_trans I.ok.above (Nat.le_of_lt I.lt)
theorem Inv.nofs (I : Inv X pins σ H s) {a : Addr} (h : s.heap.objs.size ≤ a) : a ∉ X.fs := fun hb => by
  obtain ⟨_, o, ho, _⟩ := I.ok.funs.mem hb
  exact absurd (Nat.lt_of_lt_of_le (Heap.lt_size ho) (Nat.le_trans I.sz h)) (Nat.lt_irrefl _)
theorem Inv.cne (I : Inv X pins σ H s) : ∀ x c, X.env.cells.lookup x = some c → c ≠ X.env.locals := fun x c e z => by
  obtain ⟨v, o, ho, hd⟩ := I.cell x c e
  obtain ⟨m, ⟨o', es, ep, ho', hd', _⟩, _⟩ := I.loc
  rw [z, ho'] at ho; cases ho; rw [hd'] at hd; cases hd
theorem Inv.funs (I : Inv X pins σ H s) : s.heap.FunFrames X.base X.outer := by
  have all : ∀ (l : List Env), (∀ b ∈ frs l, b ∈ X.fs) → X.s₀.heap.FunFrames X.base l → s.heap.FunFrames X.base l := by
    intro l
    induction l with
    | nil => intro _ _; trivial
    | cons env r ih =>
      intro hs hl
      obtain ⟨hk, ⟨L, o, hf, hn, ho, hd⟩, hr⟩ := hl
      have hL : L ∈ X.fs := hs L (by unfold frs; rw [List.filterMap_cons, hf]; exact List.mem_cons_self)
      obtain ⟨sl, e⟩ := I.base.slot L o ho (I.ok.frf L hL) hL fun z => I.ok.exfs L z hL
      exact ⟨hk, ⟨L, _, hf, hn, e, hd⟩, ih (fun b hb => hs b (by unfold frs; rw [List.filterMap_cons, hf]; exact List.mem_cons_of_mem _ hb)) hr⟩
  exact all X.outer (fun _ hb => hb) I.ok.funs
theorem Inv.stack (I : Inv X pins σ H s) : s.heap.FunFrames X.base X.stack := by
  rcases I.ok.stk with e | ⟨e, hf⟩
  · rw [e]; exact I.funs
  · rw [e]
    obtain ⟨m, hn, _⟩ := I.loc
    refine .cons (by rw [I.ok.kind]; decide) hf hn ?_ I.funs
    exact Heap.get?_none_of_le (Nat.le_trans I.ok.bsz I.ok.above)
theorem Inv.stkSub (I : Inv X pins σ H s) : ∀ b ∈ frs X.stack, b ∈ X.env.locals :: X.fs := fun b hb => by
  rcases I.ok.stk with e | ⟨e, hf⟩
  · rw [e] at hb; exact List.mem_cons_of_mem _ hb
  · rw [e] at hb
    unfold frs at hb
    rw [List.filterMap_cons, hf] at hb
    exact hb
theorem Inv.stkFree (I : Inv X pins σ H s) : ∀ b ∈ frs X.stack, H b = none := fun b hb => by
  rcases List.mem_cons.mp (I.stkSub b hb) with e | hb
  · rw [e]; exact I.free
  · obtain ⟨_, o, ho, _⟩ := I.ok.funs.mem hb
    exact I.base.free b o ho (I.ok.frf b hb) fun z => I.ok.exfs b z hb
theorem Inv.step {g' : Array GenState} {t' : Nat} {d' : Drawn} {ch : List Addr} (I : Inv X pins σ H s)
    (hch : ∀ b ∈ ch, (b ∈ X.ex ∨ X.s₀.heap.get? b = none) ∧ b ≠ X.env.locals ∧ (∀ x c, X.env.cells.lookup x = some c → c ≠ b) ∧ ∀ p ∈ X.pn ++ pins, p.1 ≠ b)
    (keep : ∀ b o, b ≠ X.env.locals → b ∉ X.fs → b ∉ ch → s.heap.get? b = some o → H b = none → h'.get? b = some o)
    (slot : ∀ b o, b ≠ X.env.locals → b ∈ X.fs → b ∉ ch → s.heap.get? b = some o → H b = none → ∃ sl, h'.get? b = some { o with slots := sl }) (free : ∀ b o, b ∉ ch → s.heap.get? b = some o → H b = none → H' b = none)
    (there : ∀ b o, b ∉ ch → s.heap.get? b = some o → ∃ o', h'.get? b = some o')
    (tups : ∀ b xs, H b = some (.tup xs) → H' b = some (.tup xs)) (frzs : ∀ b o u, H b = some (.frz o u) → H' b = some (.frz o u)) (tbls : ∀ b ps, H b = some (.tbl ps) → ∃ more, H' b = some (.tbl (ps ++ more)))
    (ns : ∀ m, s.heap.Ns X.env.locals m → h'.Ns X.env.locals m) (hok : HOk X.prog X.w H' h') (hg : AllBare g') :
    Inv X pins σ H' { s with heap := h', gens := g', drawn := d', toks := t' } := by
  have neL : ∀ b o, X.s₀.heap.get? b = some o → b ≠ X.env.locals := fun b o e => Nat.ne_of_lt (Nat.lt_of_lt_of_le (Heap.lt_size e) I.ok.above)
  have neC : ∀ b o, X.s₀.heap.get? b = some o → b ∉ X.ex → b ∉ ch := fun b o e hx hb => by
    rcases (hch b hb).1 with z | z
    · exact hx z
    · rw [z] at e; cases e
  have cellK : ∀ x c, X.env.cells.lookup x = some c → ∀ v, s.heap.IsCell c v → h'.IsCell c v := fun x c e v ⟨o, ho, hd⟩ => by
    have nch : c ∉ ch := fun z => (hch c z).2.2.1 x c e rfl
    by_cases hc : c ∈ X.fs
    · obtain ⟨sl, q⟩ := slot c o (I.cne x c e) hc nch ho (I.freeC x c e)
      exact ⟨_, q, hd⟩
    · exact ⟨o, keep c o (I.cne x c e) hc nch ho (I.freeC x c e), hd⟩
  refine ⟨I.ok, I.os, hg, ⟨fun b o e n hb hx => ?_, fun b o e n hb hx => ?_, fun b o e n hx => ?_, fun b o e hx => ?_, fun b xs e => tups b xs (I.base.tups b xs e), fun b o xs e => frzs b o xs (I.base.frzs b o xs e), fun b ps e => ?_⟩, ?_, fun x c e => ?_, ?_, fun x c e => ?_, fun p hp => ?_, hok, I.len⟩
  · exact keep b o (neL b o e) hb (neC b o e hx) (I.base.keep b o e n hb hx) (I.base.free b o e n hx)
  · obtain ⟨sl, e1⟩ := I.base.slot b o e n hb hx
    obtain ⟨sl', e2⟩ := slot b _ (neL b o e) hb (neC b o e hx) e1 (I.base.free b o e n hx)
    exact ⟨sl', e2⟩
  · obtain ⟨o', e1⟩ := I.base.there b o e hx
    exact free b o' (neC b o e hx) e1 (I.base.free b o e n hx)
  · obtain ⟨o', e1⟩ := I.base.there b o e hx
    exact there b o' (neC b o e hx) e1
  · obtain ⟨m1, e1⟩ := I.base.tbls b ps e
    obtain ⟨m2, e2⟩ := tbls b _ e1
    exact ⟨m1 ++ m2, by rw [e2, Array.append_assoc]⟩
  · obtain ⟨m, hn, hl⟩ := I.loc
    refine ⟨m, ns m hn, fun i x v e1 e2 e3 => ?_⟩
    obtain ⟨u, r, l⟩ := hl i x v e1 e2 e3
    refine ⟨u, r, ?_⟩
    rcases l with l | ⟨k, c, e, z⟩
    · exact .inl l
    · exact .inr ⟨k, c, e, cellK x c e _ z⟩
  · obtain ⟨v, z⟩ := I.cell x c e
    exact ⟨v, cellK x c e v z⟩
  · obtain ⟨m, ⟨o, _, _, ho, _⟩, _⟩ := I.loc
    exact free _ o (fun z => (hch _ z).2.1 rfl) ho I.free
  · obtain ⟨v, o, ho, hd⟩ := I.cell x c e
    exact free c o (fun z => (hch c z).2.2.1 x c e rfl) ho (I.freeC x c e)
  · obtain ⟨e, n, ne, nf, d⟩ := I.pin p hp
    have nch : p.1 ∉ ch := fun z => (hch p.1 z).2.2.2 p hp rfl
    exact ⟨keep p.1 p.2 ne nf nch e n, free p.1 p.2 nch e n, ne, nf, d⟩
theorem Inv.un {t' : Nat} (I : Inv X pins σ H s) (u : Un X.fs [] H H' s.heap h') (hok : HOk X.prog X.w H' h') : Inv X pins σ H' { s with heap := h', toks := t' } := by
  obtain ⟨m, ⟨o, es, ep, ho, r⟩, _⟩ := id I.loc
  obtain ⟨sl, hL⟩ := u.any ho I.free (by simp)
  exact I.step (g' := s.gens) (d' := s.drawn) (ch := []) (fun _ z => nomatch z) (fun b o _ hb _ e n => u.keep b o e n hb (by simp)) (fun b o _ hb _ e n => u.slot b o e n hb (by simp)) (fun b o _ e n => u.free b o e n (by simp)) (fun b o _ e => u.there b o e (by simp)) u.tups u.frzs u.tbls (fun m' hm => by
    obtain ⟨o', es', ep', ho', r'⟩ := hm
    rw [ho] at ho'; cases ho'
    exact ⟨_, es', ep', hL, r'⟩) hok I.bare
theorem Inv.call {g' : Array GenState} {t' : Nat} {d' : Drawn} {ch : List Addr} (I : Inv X pins σ H s) (u : Un (frs X.stack) ch H H' s.heap h') (hok : HOk X.prog X.w H' h') (hg : AllBare g')
    (hch : ∀ b ∈ ch, (b ∈ X.ex ∨ X.s₀.heap.get? b = none) ∧ b ≠ X.env.locals ∧ (∀ x c, X.env.cells.lookup x = some c → c ≠ b) ∧ ∀ p ∈ X.pn ++ pins, p.1 ≠ b) :
    Inv X pins σ H' { s with heap := h', gens := g', drawn := d', toks := t' } := by
  obtain ⟨m, ⟨o, es, ep, ho, r⟩, _⟩ := id I.loc
  obtain ⟨sl, hL⟩ := u.any ho I.free fun z => (hch _ z).2.1 rfl
  exact I.step (ch := ch) hch (fun b o hL hb hc e n => u.keep b o e n (fun z => (List.mem_cons.mp (I.stkSub b z)).elim hL hb) hc) (fun b o _ _ hc e n => u.any e n hc) (fun b o hc e n => u.free b o e n hc) (fun b o hc e => u.there b o e hc) u.tups u.frzs u.tbls (fun m' hm => by
    obtain ⟨o', es', ep', ho', r'⟩ := hm
    rw [ho] at ho'; cases ho'
    exact ⟨_, es', ep', hL, r'⟩) hok hg
theorem Inv.turned {t' : Nat} {it : Addr} (I : Inv X pins σ H s) (k : ∀ b o, b ≠ it → s.heap.get? b = some o → h'.get? b = some o) (hn : H it = none) (hL : it ≠ X.env.locals)
    (h1 : it ∈ X.ex ∨ X.s₀.heap.get? it = none) (h2 : ∀ x c, X.env.cells.lookup x = some c → c ≠ it) (h3 : ∀ p ∈ X.pn ++ pins, p.1 ≠ it) : Inv X pins σ H { s with heap := h', toks := t' } := by
  have nit : ∀ b u, H b = some u → b ≠ it := fun b u e z => by rw [z, hn] at e; cases e
  refine I.step (g' := s.gens) (d' := s.drawn) (ch := [it]) (fun b hb => ?_) (fun b o _ _ hc e _ => k b o (fun z => hc (by simp [z])) e) (fun b o _ _ hc e _ => ⟨o.slots, k b o (fun z => hc (by simp [z])) e⟩) (fun _ _ _ _ n => n)
    (fun b o hc e => ⟨o, k b o (fun z => hc (by simp [z])) e⟩) (fun _ _ e => e) (fun _ _ _ e => e) (fun b ps e => ⟨#[], by rw [e]; simp⟩) (fun m hm => ?_) (fun b u e => ?_) I.bare
  · have e : b = it := by simpa using hb
    subst e
    exact ⟨h1, hL, h2, h3⟩
  · obtain ⟨o, es, ep, ho, r⟩ := hm
    exact ⟨o, es, ep, k _ o (Ne.symm hL) ho, r⟩
  · refine (I.hok b u e).stay (fun c v hc q => k c v ?_ q) (fun _ q => q) fun _ _ q => q
    rcases hc with z | z
    · rw [z]; exact nit b u e
    · exact nit c _ z
theorem Inv.tok (I : Inv X pins σ H s) (t : Nat) : Inv X pins σ H { s with toks := t } := I.un (h' := s.heap) (t' := t) Un.refl I.hok
theorem Inv.kept {t' : Nat} (I : Inv X pins σ H s) (k : ∀ b u, s.heap.get? b = some u → h'.get? b = some u) : Inv X pins σ H { s with heap := h', toks := t' } := I.un (Un.kept k) (I.hok.kept k)
theorem Inv.laid {a : Addr} {o : HO} {t' : Nat} (I : Inv X pins σ H s) (k : ∀ b u, s.heap.get? b = some u → h'.get? b = some u) (hp : s.heap.objs.size ≤ a) (new : ObjOk X.prog X.w (upd H a o) h' a o) :
    Inv X pins σ (upd H a o) { s with heap := h', toks := t' } := I.un (Un.laid k hp (I.hok.fresh hp)) (I.hok.laid k hp new)
theorem Inv.write {x e : Addr} {o : HO} {t' : Nat} (I : Inv X pins σ H s) (mu : Mut (H x)) (he : e = x ∨ H e = some (.own x)) (k : ∀ b u, b ≠ e → s.heap.get? b = some u → h'.get? b = some u) (heo : ∃ u, h'.get? e = some u)
    (new : ObjOk X.prog X.w (upd H x o) h' x o) : Inv X pins σ (upd H x o) { s with heap := h', toks := t' } := I.un (Un.write mu he k heo) (I.hok.write mu he k heo new)
theorem Inv.pins_of {pins' : List (Addr × Obj)} (I : Inv X pins σ H s) (h : ∀ p ∈ pins', s.heap.get? p.1 = some p.2 ∧ H p.1 = none ∧ p.1 ≠ X.env.locals ∧ p.1 ∉ X.fs ∧ ∀ v, p.2.data ≠ .cell v) : Inv X pins' σ H s :=
  ⟨I.ok, I.os, I.bare, I.base, I.loc, I.cell, I.free, I.freeC, fun p hp => (List.mem_append.mp hp).elim (fun z => I.pin p (List.mem_append_left _ z)) (h p), I.hok, I.len⟩
theorem nodup_ix {N : List Str} (hN : N.Nodup) {i j : Nat} {x : Str} (a : N[i]? = some x) (b : N[j]? = some x) : i = j := by
  obtain ⟨h1, e1⟩ := List.getElem?_eq_some_iff.mp a
  obtain ⟨h2, e2⟩ := List.getElem?_eq_some_iff.mp b
  exact (List.getElem_inj hN).mp (e1.trans e2.symm)
theorem store_ok2 {M : Model} {A : Around} {E : Value → Shared → Prop} {i : Nat} {x : Str} {v : V} {u : Value} {Q : Unit → Shared → Prop} (I : Inv X pins σ H s) (hN : X.N.Nodup) (hi : X.N[i]? = some x) (hx : Loc X.env.scope x) (r : RelV v u)
    (h : ∀ s', Inv X pins (σ.set i (some v)) H s' → (∃ a, Heap.SameBut a s.heap s'.heap ∧ (a = X.env.locals ∨ X.env.cells.lookup x = some a)) → Q () s') (hf : X.fn x = true ∨ X.env.scope.names.lookup x = some .local := by first | exact .inl rfl | exact .inr rfl | assumption) : wpAny M A (storeName X.env x u) Q E s := by
  obtain ⟨m, hn, hl⟩ := id I.loc
  have hcls : (X.env.scope.kind == .class || (X.env.scope.kind == .module && X.env.locals != X.env.globals)) = false := by rw [I.ok.kind]; rfl
  have hiσ : i < σ.length := by rw [I.len]; exact (List.getElem?_eq_some_iff.mp hi).1
  have cne := I.cne
  have tracked : ∀ {a : Addr} {h' : Heap}, (∃ o, s.heap.get? a = some o ∧ H a = none) → Heap.SameBut a s.heap h' → HOk X.prog X.w H h' := fun {a h'} ha hs b ob e => by
    obtain ⟨_, _, hfree⟩ := ha
    refine (I.hok b ob e).stay (fun c w' hc q => (hs.2 c ?_).trans q) (fun _ q => q) fun _ _ q => q
    rintro rfl
    rcases hc with rfl | hc
    · rw [hfree] at e; cases e
    · rw [hfree] at hc; cases hc
  rcases hx with hk | hk
  · refine wpAny_storeName_local hk hn (fun h' hn' hs => ?_) hcls
    obtain ⟨oL, _, _, hoL, _⟩ := id hn
    refine h _ ⟨I.ok, I.os, I.bare, ⟨fun b o e n hb hx => ?_, fun b o e n hb hx => ?_, I.base.free, fun b o e hx => ?_, I.base.tups, I.base.frzs, I.base.tbls⟩, ⟨_, hn', fun j y v' e1 e2 e3 => ?_⟩, fun y c e => ?_, I.free, I.freeC, fun p hp => ?_, tracked ⟨oL, hoL, I.free⟩ hs, by simpa using I.len⟩ ⟨_, hs, .inl rfl⟩
    · exact (hs.2 b (Nat.ne_of_lt (Nat.lt_of_lt_of_le (Heap.lt_size e) I.ok.above))).trans (I.base.keep b o e n hb hx)
    · obtain ⟨sl, e1⟩ := I.base.slot b o e n hb hx
      exact ⟨sl, (hs.2 b (Nat.ne_of_lt (Nat.lt_of_lt_of_le (Heap.lt_size e) I.ok.above))).trans e1⟩
    · obtain ⟨o', e1⟩ := I.base.there b o e hx
      exact ⟨o', (hs.2 b (Nat.ne_of_lt (Nat.lt_of_lt_of_le (Heap.lt_size e) I.ok.above))).trans e1⟩
    · by_cases hj : j = i
      · subst hj
        rw [hi] at e1; cases e1
        rw [List.getElem?_set_self hiσ] at e2
        cases e2
        exact ⟨u, r, .inl ⟨hk, by simp⟩⟩
      · rw [List.getElem?_set_ne (Ne.symm hj)] at e2
        obtain ⟨u', r', q⟩ := hl j y v' e1 e2 e3
        refine ⟨u', r', ?_⟩
        rcases q with ⟨k, e⟩ | ⟨k, c, e, z⟩
        · refine .inl ⟨k, ?_⟩
          have : y ≠ x := fun e => hj (nodup_ix hN e1 (e ▸ hi))
          simp [this, e]
        · exact .inr ⟨k, c, e, z.sameBut hs (cne y c e)⟩
    · obtain ⟨w', z⟩ := I.cell y c e
      exact ⟨w', z.sameBut hs (cne y c e)⟩
    · obtain ⟨e, n, ne, nf, d⟩ := I.pin p hp
      exact ⟨(hs.2 p.1 ne).trans e, n, ne, nf, d⟩
  · have hfn : X.fn x = true := by
      rcases hf with z | z
      · exact z
      · rw [z] at hk; cases hk
    obtain ⟨c, hc⟩ := I.ok.has x (.inl hk)
    obtain ⟨w', z⟩ := I.cell x c hc
    refine wpAny_storeName_cell I.ok.kind hk hc z (fun h' hc' hs => ?_)
    obtain ⟨oc, hoc, hocd⟩ := id z
    refine h { s with heap := h' } ⟨I.ok, I.os, I.bare, ⟨fun b o e n hb hx => ?_, fun b o e n hb hx => ?_, I.base.free, fun b o e hx => ?_, I.base.tups, I.base.frzs, I.base.tbls⟩, ⟨m, hn.sameBut hs (Ne.symm (cne x c hc)), fun j y v' e1 e2 e3 => ?_⟩, fun y c' e => ?_, I.free, I.freeC, fun p hp => ?_, tracked ⟨oc, hoc, I.freeC x c hc⟩ hs, by simpa using I.len⟩ ⟨c, hs, .inr hc⟩
    · exact (hs.2 b (Nat.ne_of_lt (Nat.lt_of_lt_of_le (Heap.lt_size e) (I.ok.cab x c hfn hc)))).trans (I.base.keep b o e n hb hx)
    · obtain ⟨sl, e1⟩ := I.base.slot b o e n hb hx
      exact ⟨sl, (hs.2 b (Nat.ne_of_lt (Nat.lt_of_lt_of_le (Heap.lt_size e) (I.ok.cab x c hfn hc)))).trans e1⟩
    · obtain ⟨o', e1⟩ := I.base.there b o e hx
      exact ⟨o', (hs.2 b (Nat.ne_of_lt (Nat.lt_of_lt_of_le (Heap.lt_size e) (I.ok.cab x c hfn hc)))).trans e1⟩
    · by_cases hj : j = i
      · subst hj
        rw [hi] at e1; cases e1
        rw [List.getElem?_set_self hiσ] at e2
        cases e2
        exact ⟨u, r, .inr ⟨.inl hk, c, hc, hc'⟩⟩
      · rw [List.getElem?_set_ne (Ne.symm hj)] at e2
        obtain ⟨u', r', q⟩ := hl j y v' e1 e2 e3
        refine ⟨u', r', ?_⟩
        rcases q with q | ⟨k, c', e, z'⟩
        · exact .inl q
        · refine .inr ⟨k, c', e, z'.sameBut hs ?_⟩
          rintro rfl
          exact hj (nodup_ix hN e1 (I.ok.inj _ _ _ e hc ▸ hi))
    · by_cases hcc : c' = c
      · subst hcc; exact ⟨_, hc'⟩
      · obtain ⟨w2, z2⟩ := I.cell y c' e
        exact ⟨w2, z2.sameBut hs hcc⟩
    · obtain ⟨e, n, ne, nf, d⟩ := I.pin p hp
      refine ⟨(hs.2 p.1 ?_).trans e, n, ne, nf, d⟩
      intro q
      rw [q, hoc] at e
      have q' : oc = p.2 := Option.some.inj e
      exact d w' (by rw [← q']; exact hocd)
theorem store_ok {M : Model} {A : Around} {E : Value → Shared → Prop} {i : Nat} {x : Str} {v : V} {u : Value} {Q : Unit → Shared → Prop} (I : Inv X pins σ H s) (hN : X.N.Nodup) (hi : X.N[i]? = some x) (hx : Loc X.env.scope x) (r : RelV v u)
    (h : ∀ s', Inv X pins (σ.set i (some v)) H s' → Q () s') (hf : X.fn x = true ∨ X.env.scope.names.lookup x = some .local := by first | exact .inl rfl | exact .inr rfl | assumption) : wpAny M A (storeName X.env x u) Q E s :=
  store_ok2 I hN hi hx r (fun s' I' _ => h s' I') hf
theorem Inv.call' {s' : Shared} {ch : List Addr} (I : Inv X pins σ H s) (ho : s'.os = s.os) (u : Un (frs X.stack) ch H H' s.heap s'.heap) (hok : HOk X.prog X.w H' s'.heap) (hg : AllBare s'.gens)
    (hch : ∀ b ∈ ch, (b ∈ X.ex ∨ X.s₀.heap.get? b = none) ∧ b ≠ X.env.locals ∧ (∀ x c, X.env.cells.lookup x = some c → c ≠ b) ∧ ∀ p ∈ X.pn ++ pins, p.1 ≠ b) : Inv X pins σ H' s' := by
  obtain ⟨h', g', d', t', o'⟩ := s'
  have e : o' = s.os := ho
  subst e
  exact I.call (g' := g') (t' := t') (d' := d') u hok hg hch
end
abbrev XK := Value → Option Addr → Hp → Prop
abbrev St := List (Option V)
abbrev VK := V → Hp → Prop
abbrev TE := St → Hp → VK → Prop
abbrev TT := St → Hp → (Bool → Hp → Prop) → Prop
abbrev TA := St → Hp → (List V → Hp → Prop) → Prop
structure Ends where
  nx : St → Hp → Prop
  rt : VK
  bk : St → Hp → Prop := fun _ _ => False
  ct : St → Hp → Prop := fun _ _ => False
abbrev TS := Ends → St → Hp → Prop
def EP (X : Cx) (pins : List (Addr × Obj)) (σ : St) (Q : VK) (u : Value) (s' : Shared) : Prop := ∃ v H', Inv X pins σ H' s' ∧ RelV v u ∧ Q v H'
def TP (X : Cx) (pins : List (Addr × Obj)) (σ : St) (Q : Bool → Hp → Prop) (b : Bool) (s' : Shared) : Prop := ∃ H', Inv X pins σ H' s' ∧ Q b H'
def AP (X : Cx) (pins : List (Addr × Obj)) (σ : St) (Q : List V → Hp → Prop) (us : List Value) (s' : Shared) : Prop := ∃ vs H', Inv X pins σ H' s' ∧ Vals vs us ∧ Q vs H'
def SP (X : Cx) (pins : List (Addr × Obj)) (D : Ends) (f : Flow) (s' : Shared) : Prop :=
  match f with
  | .next => ∃ σ' H', Inv X pins σ' H' s' ∧ D.nx σ' H'
  | .brk => ∃ σ' H', Inv X pins σ' H' s' ∧ D.bk σ' H'
  | .cont => ∃ σ' H', Inv X pins σ' H' s' ∧ D.ct σ' H'
  | .ret u => ∃ v σ' H', Inv X pins σ' H' s' ∧ RelV v u ∧ D.rt v H'
def PE (X : Cx) (e : Expr) (t : TE) : Prop :=
  ∀ (pins : List (Addr × Obj)) (s : Shared) (σ : St) (H : Hp) (Q : VK), Inv X pins σ H s → t σ H Q → wpAny (model X.prog X.w) X.A (eval e X.env) (EP X pins σ Q) X.xe s
def PT (X : Cx) (e : Expr) (t : TT) : Prop :=
  ∀ (pins : List (Addr × Obj)) (s : Shared) (σ : St) (H : Hp) (Q : Bool → Hp → Prop), Inv X pins σ H s → t σ H Q → wpAny (model X.prog X.w) X.A (isTrue e X.env (eval e X.env)) (TP X pins σ Q) X.xe s
def PW (X : Cx) (e : Expr) (t : TT) : Prop :=
  ∀ (whole : Sem Value) (pins : List (Addr × Obj)) (s : Shared) (σ : St) (H : Hp) (Q : Bool → Hp → Prop), Inv X pins σ H s → t σ H Q → wpAny (model X.prog X.w) X.A (isTrue e X.env whole) (TP X pins σ Q) X.xe s
theorem PW.pt {X : Cx} {e : Expr} {t : TT} (h : PW X e t) : PT X e t := h _
def PA (X : Cx) (es : List Expr) (t : TA) : Prop :=
  ∀ (pos : Pos) (pins : List (Addr × Obj)) (s : Shared) (σ : St) (H : Hp) (Q : List V → Hp → Prop), Inv X pins σ H s → t σ H Q → wpAny (model X.prog X.w) X.A (spliced (backTo pos (starEach es X.env))) (AP X pins σ Q) X.xe s
def PS (X : Cx) (st : Stmt) (t : TS) : Prop :=
  ∀ (pins : List (Addr × Obj)) (s : Shared) (σ : St) (H : Hp) (D : Ends), Inv X pins σ H s → t D σ H → wpAny (model X.prog X.w) X.A (exec st X.env) (SP X pins D) X.xe s
def PSs (X : Cx) (st : List Stmt) (t : TS) : Prop :=
  ∀ (pins : List (Addr × Obj)) (s : Shared) (σ : St) (H : Hp) (D : Ends), Inv X pins σ H s → t D σ H → wpAny (model X.prog X.w) X.A (execs st X.env) (SP X pins D) X.xe s
theorem thn {α : Type} {t : Sem α} {Q Q' : α → Shared → Prop} {M : Model} {A : Around} {E : Value → Shared → Prop} {s : Shared} (h : wpAny M A t Q E s) (hQ : ∀ a s, Q a s → Q' a s) : wpAny M A t Q' E s := wpAny_mono h hQ fun _ _ x => x
end L2
namespace L2
open PySem PySem.Spec PyProof.Rows
section
variable {X : Cx}
theorem bin {a b : Expr} {ta tb : TE} (ha : PE X a ta) (hb : PE X b tb) {pins : List (Addr × Obj)} {s : Shared} {σ : St} {H : Hp} {R : V → V → Hp → Prop} (I : Inv X pins σ H s) (h : ta σ H fun x H1 => tb σ H1 fun y H2 => R x y H2)
    {α : Type} {Q : α → Shared → Prop} {f : Value → Value → Sem α}
    (hf : ∀ v u s2 x y H2, Inv X pins σ H2 s2 → RelV x v → RelV y u → R x y H2 → wpAny (model X.prog X.w) X.A (f v u) Q X.xe s2) :
    wpAny (model X.prog X.w) X.A (eval a X.env) (fun v s₁ => wpAny (model X.prog X.w) X.A (eval b X.env) (fun u s₂ => wpAny (model X.prog X.w) X.A (f v u) Q X.xe s₂) X.xe s₁) X.xe s := by
  refine thn (ha pins s σ H _ I h) fun v s1 ⟨x, H1, I1, r1, q1⟩ => ?_
  refine thn (hb pins s1 σ H1 _ I1 q1) fun u s2 ⟨y, H2, I2, r2, q2⟩ => ?_
  exact hf v u s2 x y H2 I2 r1 r2 q2
def tVar (i : Nat) : TE := fun σ H Q => ∃ v, σ[i]? = some (some v) ∧ Q v H
def tC (v : V) : TE := fun _ H Q => Q v H
theorem pe_var {i : Nat} {x : Str} {pos : Pos} (hN : X.N[i]? = some x) (hv : Vis X.env.scope x) (hd : (x == ("__debug__" : Str)) = false := by decide) (hcd : (x == ("__classdict__" : Str)) = false := by decide) : PE X (.Name x pos) (tVar i) := by
  intro pins s σ H Q I h
  obtain ⟨v, e, h⟩ := h
  obtain ⟨m, hn, hl⟩ := I.loc
  obtain ⟨u, r, l⟩ := hl i x v hN e hv
  have fin : EP X pins σ Q u s := ⟨v, H, I, r, h⟩
  rcases l with ⟨hk, hm⟩ | ⟨hk, c, hc, hcell⟩
  · exact wpAny_Name (wpAny_loadName_local I.ok.kind hk hn hm fin) hd
  · rcases hk with hk | hk
    · exact wpAny_Name (wpAny_loadName_cell I.ok.kind hk hc hcell fin) hd
    · exact wpAny_Name (wpAny_loadName_free I.ok.kind hk hc hcell fin hcd) hd
theorem pe_int {i j pos} : PE X (.Constant (.int i) j pos) (tC (.int i)) := fun _ _ _ H _ I h => wpAny_Constant_int ⟨.int i, H, I.tok _, ⟨_, rfl⟩, h⟩
theorem pe_bl {b j pos} : PE X (.Constant (.bool b) j pos) (tC (.bl b)) := fun _ _ _ H _ I h => Constant_bool ⟨.bl b, H, I, rfl, h⟩
theorem pe_str {x j pos} : PE X (.Constant (.str x) j pos) (tC (.str x)) := fun _ _ _ H _ I h => Calls.Constant_str ⟨.str x, H, I.tok _, ⟨_, rfl⟩, h⟩
def Gl (X : Cx) (x : Str) : Prop := X.env.kindOf x = some .globalImplicit
theorem ld_glob {E : Value → Shared → Prop} {pins : List (Addr × Obj)} {s : Shared} {σ : St} {H : Hp} {x : Str} {u : Value} {pos : Pos} {Q : Value → Shared → Prop} (I : Inv X pins σ H s) (hg : Gl X x) (hm : X.mg x = some u) (h : Q u s)
    (hd : (x == ("__debug__" : Str)) = false := by decide) : wpAny (model X.prog X.w) X.A (eval (.Name x pos) X.env) Q E s :=
  Calls.Name_function_global I.ok.kind hg (Calls.loadGlobal_global (by rw [I.ok.glob]; exact I.mod.glob.keeps I.bk) hm h) hd
theorem ld_blt {E : Value → Shared → Prop} {pins : List (Addr × Obj)} {s : Shared} {σ : St} {H : Hp} {x : Str} {u : Value} {pos : Pos} {Q : Value → Shared → Prop} (I : Inv X pins σ H s) (hg : Gl X x) (hm : X.mg x = none) (hv : bootBuiltins x = some u) (h : Q u s)
    (hn : x ≠ "__name__" := by decide) (hd : (x == ("__debug__" : Str)) = false := by decide) : wpAny (model X.prog X.w) X.A (eval (.Name x pos) X.env) Q E s := by
  obtain ⟨mb, h1, h2⟩ := I.mod.blt
  exact Calls.Name_function_global I.ok.kind hg (Calls.loadGlobal_builtin (by rw [I.ok.glob]; exact I.mod.glob.keeps I.bk) hm (by rw [I.ok.blt]; exact h1.keeps I.bk) ((h2 x hn).trans hv) h) hd
theorem pe_glob {x : Str} {v : V} {u : Value} {pos : Pos} (hg : Gl X x) (hm : X.mg x = some u) (r : RelV v u) (hd : (x == ("__debug__" : Str)) = false := by decide) : PE X (.Name x pos) (tC v) :=
  fun _ _ _ H _ I h => ld_glob I hg hm ⟨v, H, I, r, h⟩ hd
theorem pe_bltn {x : Str} {v : V} {u : Value} {pos : Pos} (hg : Gl X x) (hm : X.mg x = none) (hv : bootBuiltins x = some u) (r : RelV v u) (hn : x ≠ "__name__" := by decide) (hd : (x == ("__debug__" : Str)) = false := by decide) : PE X (.Name x pos) (tC v) :=
  fun _ _ _ H _ I h => ld_blt I hg hm hv ⟨v, H, I, r, h⟩ hn hd
variable {a b : Expr} {ta tb : TE} {pos : Pos}
def PC (X : Cx) (op : CmpOp) (a b : Expr) (t : TE) : Prop :=
  ∀ (pins : List (Addr × Obj)) (s : Shared) (σ : St) (H : Hp) (Q : VK), Inv X pins σ H s → t σ H Q →
    wpAny (model X.prog X.w) X.A (eval a X.env) (fun v s₁ => wpAny (model X.prog X.w) X.A (eval b X.env) (fun u s₂ => wpAny (model X.prog X.w) X.A (compareOp op v u) (EP X pins σ Q) X.xe s₂) X.xe s₁) X.xe s
def tB (t : TE) : TT := fun σ H Q => t σ H fun x H1 => ∃ c, x = .bl c ∧ Q c H1
theorem pt_cmp {op : CmpOp} {t : TE} (h : PC X op a b t) (h1 : behindInMarks op b = false := by first | exact nobehind _ (by decide) (by decide) | rfl) : PT X (.Compare a [op] [b] pos) (tB t) := by
  intro pins s σ H Q I hw
  refine wpAny_isTrue_Compare1 (thn (h pins s σ H _ I hw) fun v s1 h1 => thn h1 fun u s2 h2 => thn h2 fun c s3 ⟨x, H1, I1, r1, q1⟩ => ?_) h1
  obtain ⟨d, rfl, q⟩ := q1
  cases r1
  exact wpAny_truthy_bool ⟨H1, I1, q⟩
theorem pt_val {e : Expr} {t : TE} (h : PE X e t) (he : ∀ whole, isTrue e X.env whole = (do let v ← whole; standAt e.pos; holding [v] (truthy v)) := by intro _; rfl) : PT X e (tB t) := by
  intro pins s σ H Q I hw
  refine isTrue_plain (thn (h pins s σ H _ I hw) fun v s1 ⟨x, H1, I1, r1, q1⟩ => ?_) (he _)
  obtain ⟨d, rfl, q⟩ := q1
  cases r1
  exact wpAny_truthy_bool ⟨H1, I1, q⟩
variable {tA tB' : TT} {rest : List Expr}
def tAnd (t u : TT) : TT := fun σ H Q => t σ H fun c H1 => if c = true then u σ H1 Q else Q false H1
def tOr (t u : TT) : TT := fun σ H Q => t σ H fun c H1 => if c = true then Q true H1 else u σ H1 Q
def tNot (t : TT) : TT := fun σ H Q => t σ H fun c H1 => Q (!c) H1
theorem pw_and1 (ha : PT X a tA) : PW X (.BoolOp .And [a] pos) tA := by
  intro wh pins s σ H Q I h
  refine isTrue_and (thn (ha pins s σ H Q I h) fun c s1 e => ?_)
  cases c with
  | true => exact isTrue_and_nil e
  | false => exact e
theorem pw_or1 (ha : PT X a tA) : PW X (.BoolOp .Or [a] pos) tA := by
  intro wh pins s σ H Q I h
  refine isTrue_or (thn (ha pins s σ H Q I h) fun c s1 e => ?_)
  cases c with
  | false => exact isTrue_or_nil e
  | true => exact e
theorem pw_and (ha : PT X a tA) (hb : PW X (.BoolOp .And (b :: rest) pos) tB') : PW X (.BoolOp .And (a :: b :: rest) pos) (tAnd tA tB') := by
  intro wh pins s σ H Q I h
  refine isTrue_and (thn (ha pins s σ H _ I h) fun c s1 ⟨H1, I1, q1⟩ => ?_)
  cases c with
  | true => exact hb wh pins s1 σ H1 Q I1 q1
  | false => exact ⟨H1, I1, q1⟩
theorem pw_or (ha : PT X a tA) (hb : PW X (.BoolOp .Or (b :: rest) pos) tB') : PW X (.BoolOp .Or (a :: b :: rest) pos) (tOr tA tB') := by
  intro wh pins s σ H Q I h
  refine isTrue_or (thn (ha pins s σ H _ I h) fun c s1 ⟨H1, I1, q1⟩ => ?_)
  cases c with
  | true => exact ⟨H1, I1, q1⟩
  | false => exact hb wh pins s1 σ H1 Q I1 q1
theorem pt_not (ha : PT X a tA) : PT X (.UnaryOp .Not a pos) (tNot tA) := by
  intro pins s σ H Q I h
  exact isTrue_not (ha pins s σ H (fun c H1 => Q (!c) H1) I h)
def tAndV (ta tb : TE) : TE := fun σ H Q => ta σ H fun x H1 => ∃ c, x = .bl c ∧ if c = true then tb σ H1 Q else Q (.bl false) H1
def tNotV (ta : TE) : TE := fun σ H Q => ta σ H fun x H1 => ∃ c, x = .bl c ∧ Q (.bl (!c)) H1
theorem pe_one {op} {t : TE} (h : PE X a t) : PE X (.BoolOp op [a] pos) t := fun pins s σ H Q I hw => BoolOp_one (h pins s σ H Q I hw)
theorem pe_and (ha : PE X a ta) (hb : PE X (.BoolOp .And (b :: rest) pos) tb) : PE X (.BoolOp .And (a :: b :: rest) pos) (tAndV ta tb) := by
  intro pins s σ H Q I h
  refine BoolOp_and (thn (ha pins s σ H _ I h) fun v s1 ⟨x, H1, I1, r1, q1⟩ => ?_)
  obtain ⟨c, rfl, q1⟩ := q1
  cases r1
  refine wpAny_truthy_bool ?_
  cases c with
  | true => exact hb pins s1 σ H1 Q I1 q1
  | false => exact ⟨.bl false, H1, I1, rfl, q1⟩
theorem pe_not (ha : PE X a ta) : PE X (.UnaryOp .Not a pos) (tNotV ta) := by
  intro pins s σ H Q I h
  refine UnaryOp_ (thn (ha pins s σ H _ I h) fun v s1 ⟨x, H1, I1, r1, q1⟩ => ?_)
  obtain ⟨c, rfl, q1⟩ := q1
  cases r1
  exact not_of (wpAny_truthy_bool ⟨.bl (!c), H1, I1, rfl, q1⟩)
def tIf (t : TT) (ta tb : TE) : TE := fun σ H Q => t σ H fun c H1 => if c = true then ta σ H1 Q else tb σ H1 Q
theorem pe_ifExp {c : Expr} (hc : PT X c tA) (ha : PE X a ta) (hb : PE X b tb) : PE X (.IfExp c a b pos) (tIf tA ta tb) := by
  intro pins s σ H Q I h
  refine wpAny_IfExp (thn (hc pins s σ H _ I h) fun d s1 ⟨H1, I1, q1⟩ => ?_)
  cases d with
  | true => exact ha pins s1 σ H1 Q I1 q1
  | false => exact hb pins s1 σ H1 Q I1 q1
end
end L2
namespace L2
open PySem PySem.Spec PyProof.Rows
def SqL (K : PySem.W.Frag) (H : Hp) (a : Addr) (xs : List V) : Prop :=
  Rd H a (.lst xs) ∨
    ∃ (o : Obj) (its : Array Value) (n : Nat), K.lookup a = some o ∧ o.cls = .type "list" ∧ o.dict = none ∧ o.data = .seq its n ∧ its.size ≤ sizeLine ∧ Vals xs its.toList
def SqT (K : PySem.W.Frag) (H : Hp) (a : Addr) (xs : List V) : Prop :=
  Rd H a (.tup xs) ∨
    ∃ (o : Obj) (its : Array Value) (n : Nat), K.lookup a = some o ∧ o.cls = .type "tuple" ∧ o.data = .seq its n ∧ its.size ≤ sizeLine ∧ Vals xs its.toList
def absV : Value → Option V
  | .none => some .non
  | .bool b => some (.bl b)
  | .int i _ => some (.int i)
  | .str x _ => some (.str x)
  | .bytes b _ => some (.byt b)
  | .float b _ => some (.flt b)
  | .ref a => some (.ref a)
  | .type n => some (.ty n)
  | _ => none
theorem RelV.abs {x : V} {u : Value} (r : RelV x u) : absV u = some x := by
  cases x with
  | non => cases r; rfl
  | bl _ => cases r; rfl
  | int _ => obtain ⟨t, rfl⟩ := r; rfl
  | str _ => obtain ⟨t, rfl⟩ := r; rfl
  | byt _ => obtain ⟨t, rfl⟩ := r; rfl
  | flt _ => obtain ⟨t, rfl⟩ := r; rfl
  | ref _ => cases r; rfl
  | ty _ => cases r; rfl
theorem RelV.inj {x y : V} {u : Value} (r : RelV x u) (q : RelV y u) : x = y := Option.some.inj (r.abs.symm.trans q.abs)
theorem Vals.inj : ∀ {xs ys : List V} {us : List Value}, Vals xs us → Vals ys us → xs = ys
  | _, _, _, .nil, .nil => rfl
  | _, _, _, .cons r t, .cons r' t' => by rw [r.inj r', Vals.inj t t']
section
variable {X : Cx} {pins : List (Addr × Obj)} {σ : St} {H : Hp} {s : Shared} {a : Addr} {xs ys : List V}
theorem Inv.list (I : Inv X pins σ H s) (h : SqL X.K H a xs) : ∃ its : List Value, Vals xs its ∧ PlainL s.heap a its.toArray ∧ xs.length ≤ sizeLine := by
  rcases h with h | ⟨o, its, n, hk, hc, hd, hs, hz, r⟩
  · obtain ⟨z, its, n, r, e⟩ := h.ok I.hok
    exact ⟨its, r, ⟨_, n, e, rfl, rfl, rfl⟩, z⟩
  · refine ⟨its.toList, r, ⟨o, n, I.kIn a o hk, hc, hd, by simpa using hs⟩, ?_⟩
    have e := r.length
    simp only [Array.length_toList] at e
    omega
theorem Inv.tuple (I : Inv X pins σ H s) (h : SqT X.K H a xs) : ∃ its : List Value, Vals xs its ∧ IsTup s.heap a its.toArray ∧ xs.length ≤ sizeLine := by
  rcases h with h | ⟨o, its, n, hk, hc, hs, hz, r⟩
  · obtain ⟨z, its, r, p⟩ := h.ok I.hok
    exact ⟨its, r, p, z⟩
  · refine ⟨its.toList, r, ⟨o, I.kIn a o hk, hc, n, by simpa using hs⟩, ?_⟩
    have e := r.length
    simp only [Array.length_toList] at e
    omega
theorem Inv.list_inj (I : Inv X pins σ H s) (h : SqL X.K H a xs) (h' : SqL X.K H a ys) : xs = ys := by
  obtain ⟨its, r, ⟨o, n, e, _, _, d⟩, _⟩ := I.list h
  obtain ⟨its', r', ⟨o', n', e', _, _, d'⟩, _⟩ := I.list h'
  rw [e] at e'; cases e'
  rw [d] at d'
  injection d' with d1 _
  have : its = its' := by simpa using congrArg Array.toList d1
  subst this
  exact r.inj r'
theorem Inv.tuple_inj (I : Inv X pins σ H s) (h : SqT X.K H a xs) (h' : SqT X.K H a ys) : xs = ys := by
  obtain ⟨its, r, ⟨o, e, _, n, d⟩, _⟩ := I.tuple h
  obtain ⟨its', r', ⟨o', e', _, n', d'⟩, _⟩ := I.tuple h'
  rw [e] at e'; cases e'
  rw [d] at d'
  injection d' with d1 _
  have : its = its' := by simpa using congrArg Array.toList d1
  subst this
  exact r.inj r'
end
abbrev Cx.wish (X : Cx) (E : Value → Shared → Prop) : Cx := { X with xe := E }
abbrev Cx.nox (X : Cx) : Cx := X.wish fun _ _ => False
theorem Cx.Ok.wish {X : Cx} (ok : X.Ok) (E : Value → Shared → Prop) : (X.wish E).Ok :=
  ⟨ok.mod, ok.kind, ok.glob, ok.blt, ok.above, ok.inj, ok.has, ok.cab, ok.hd, ok.frames, ok.stk, ok.exf, ok.bs, ok.bsz, ok.noex, ok.exfs, ok.funs, ok.frf⟩
theorem Cx.Ok.unwish {X : Cx} {E : Value → Shared → Prop} (ok : (X.wish E).Ok) : X.Ok :=
  ⟨ok.mod, ok.kind, ok.glob, ok.blt, ok.above, ok.inj, ok.has, ok.cab, ok.hd, ok.frames, ok.stk, ok.exf, ok.bs, ok.bsz, ok.noex, ok.exfs, ok.funs, ok.frf⟩
section
variable {X : Cx} {pins : List (Addr × Obj)} {σ : St} {H : Hp} {s : Shared} {E : Value → Shared → Prop}
theorem Inv.wish (I : Inv X pins σ H s) (E : Value → Shared → Prop) : Inv (X.wish E) pins σ H s := ⟨I.ok.wish E, I.os, I.bare, I.base, I.loc, I.cell, I.free, I.freeC, I.pin, I.hok, I.len⟩
theorem Inv.unwish (I : Inv (X.wish E) pins σ H s) : Inv X pins σ H s := ⟨I.ok.unwish, I.os, I.bare, I.base, I.loc, I.cell, I.free, I.freeC, I.pin, I.hok, I.len⟩
theorem SP.unwish {D : Ends} {f : Flow} {s' : Shared} (h : SP (X.wish E) pins D f s') : SP X pins D f s' := by
  cases f with
  | next => obtain ⟨σ', H', I, q⟩ := h; exact ⟨σ', H', I.unwish, q⟩
  | brk => obtain ⟨σ', H', I, q⟩ := h; exact ⟨σ', H', I.unwish, q⟩
  | cont => obtain ⟨σ', H', I, q⟩ := h; exact ⟨σ', H', I.unwish, q⟩
  | ret u => obtain ⟨v, σ', H', I, r, q⟩ := h; exact ⟨v, σ', H', I.unwish, r, q⟩
theorem PSs.nox {st : List Stmt} {t : TS} (h : PSs X.nox st t) : PSs X st t := fun pins s σ H D I hw =>
  wpAny_mono (h pins s σ H D (I.wish _) hw) (fun _ _ q => q.unwish) fun _ _ z => False.elim z
end
section
variable {X : Cx} {st : Stmt} {rest : List Stmt} {t u : TS} {e : Expr} {te : TE} {pos : Pos}
def tNext : TS := fun D σ H => D.nx σ H
def tSeq (t u : TS) : TS := fun D σ H => t { D with nx := u D } σ H
theorem pss_nil : PSs X [] tNext := fun _ _ σ H _ I h => wpAny_execs_nil ⟨σ, H, I, h⟩
theorem pss_cons (h1 : PS X st t) (h2 : PSs X rest u) : PSs X (st :: rest) (tSeq t u) := by
  intro pins s σ H D I h
  refine wpAny_execs_cons (thn (h1 pins s σ H { D with nx := u D } I h) fun f s1 q => ?_)
  cases f with
  | next =>
    obtain ⟨σ', H', I', q⟩ := q
    exact h2 pins s1 σ' H' D I' q
  | ret v => exact q
  | brk => exact q
  | cont => exact q
theorem pss_one (h1 : PS X st t) : PSs X [st] t := by
  intro pins s σ H D I h
  refine wpAny_execs_cons (thn (h1 pins s σ H D I h) fun f s1 q => ?_)
  cases f with
  | next => exact wpAny_execs_nil q
  | ret v => exact q
  | brk => exact q
  | cont => exact q
theorem Inv.quiet {pins : List (Addr × Obj)} {σ : St} {H : Hp} {s : Shared} (I : Inv X pins σ H s) : interactive X.env = false := by simp [interactive, I.ok.kind]
def tDrop (te : TE) : TS := fun D σ H => te σ H fun _ H1 => D.nx σ H1
theorem ps_expr (he : PE X e te) (hs : swapsWith e none pos.line X.env = pure false := by rfl) : PS X (.Expr e pos) (tDrop te) := by
  intro pins s σ H D I h
  exact wpAny_Expr_any (thn (he pins s σ H _ I h) fun v s1 ⟨x, H1, I1, r1, q1⟩ => ⟨σ, H1, I1, q1⟩) I.quiet hs
def tRet (te : TE) : TS := fun D σ H => te σ H D.rt
theorem ps_ret (he : PE X e te) : PS X (.Return (some e) pos) (tRet te) := by
  intro pins s σ H D I h
  exact wpAny_Return_some (thn (he pins s σ H _ I h) fun v s1 ⟨x, H1, I1, r1, q1⟩ => ⟨x, σ, H1, I1, r1, q1⟩)
def tIfS (c : TT) (t u : TS) : TS := fun D σ H => c σ H fun b H1 => if b = true then t D σ H1 else u D σ H1
theorem ps_if {c : Expr} {a b : List Stmt} {tc : TT} (hc : PT X c tc) (ha : PSs X a t) (hb : PSs X b u) : PS X (.If c a b pos) (tIfS tc t u) := by
  intro pins s σ H D I h
  refine wpAny_If (thn (hc pins s σ H _ I h) fun d s1 ⟨H1, I1, q1⟩ => ?_)
  cases d with
  | true => exact ha pins s1 σ H1 D I1 q1
  | false => exact hb pins s1 σ H1 D I1 q1
def tNever : TS := fun _ _ _ => False
theorem ps_never : PS X st tNever := fun _ _ _ _ _ _ h => h.elim
end
abbrev TG := V → St → Hp → (St → Hp → Prop) → Prop
abbrev TGs := List V → St → Hp → (St → Hp → Prop) → Prop
def PG (X : Cx) (target : Expr) (t : TG) : Prop :=
  ∀ (pins : List (Addr × Obj)) (s : Shared) (σ : St) (H : Hp) (v : V) (u : Value) (Q : St → Hp → Prop), Inv X pins σ H s → RelV v u → t v σ H Q →
    wpAny (model X.prog X.w) X.A (assign target X.env u) (fun _ s' => ∃ σ' H', Inv X pins σ' H' s' ∧ Q σ' H') X.xe s
def PGs (X : Cx) (ts : List Expr) (t : TGs) : Prop :=
  ∀ (pins : List (Addr × Obj)) (s : Shared) (σ : St) (H : Hp) (vs : List V) (us : List Value) (Q : St → Hp → Prop), Inv X pins σ H s → Vals vs us → t vs σ H Q →
    wpAny (model X.prog X.w) X.A (assignInOrder ((assignEach ts X.env).map (·.2)) us) (fun _ s' => ∃ σ' H', Inv X pins σ' H' s' ∧ Q σ' H') X.xe s
section
variable {X : Cx} {pos : Pos}
def gName (i : Nat) : TG := fun v σ H Q => Q (σ.set i (some v)) H
theorem pg_name {i : Nat} {x : Str} (hN : X.N.Nodup) (hi : X.N[i]? = some x) (hx : Loc X.env.scope x) (hf : X.fn x = true ∨ X.env.scope.names.lookup x = some .local := by first | exact .inl rfl | exact .inr rfl | assumption) : PG X (.Name x pos) (gName i) := by
  intro pins s σ H v u Q I r h
  exact wpAny_assign_Name (store_ok I hN hi hx r (fun s' I' => ⟨_, H, I', h⟩) hf)
def gNil : TGs := fun vs σ H Q => vs = [] ∧ Q σ H
def gCons (t : TG) (u : TGs) : TGs := fun vs σ H Q => ∃ v r, vs = v :: r ∧ t v σ H fun σ' H' => u r σ' H' Q
theorem pgs_nil : PGs X [] gNil := by
  intro pins s σ H vs us Q I r h
  obtain ⟨e, h⟩ := h
  subst e
  cases r
  exact assignInOrder_nil ⟨σ, H, I, h⟩
theorem pgs_cons {e : Expr} {es : List Expr} {t : TG} {u : TGs} (h1 : PG X e t) (h2 : PGs X es u)
    (hs : (assignEach (e :: es) X.env).map (·.2) = assign e X.env :: (assignEach es X.env).map (·.2) := by rfl) : PGs X (e :: es) (gCons t u) := by
  intro pins s σ H vs us Q I r h
  obtain ⟨v, vr, e1, h⟩ := h
  subst e1
  cases r with
  | cons r rr =>
    rw [hs]
    refine assignInOrder_cons (thn (h1 pins s σ H _ _ _ I r h) fun _ s1 ⟨σ1, H1, I1, q1⟩ => ?_)
    exact h2 pins s1 σ1 H1 _ _ Q I1 rr q1
def gTup (K : PySem.W.Frag) (n : Nat) (t : TGs) : TG := fun v σ H Q => ∃ a xs, v = .ref a ∧ SqT K H a xs ∧ xs.length = n ∧ t xs σ H Q
theorem pg_tup {es : List Expr} {k : Nat} {t : TGs} {n : Nat} (hc : X.calm = true) (h : PGs X es t)
    (hn : (assignEach es X.env).length = n := by rfl) (hst : (assignEach es X.env).findIdx? (·.1) = none := by rfl) : PG X (.Tuple es k pos) (gTup X.K n t) := by
  intro pins s σ H v u Q I r hw
  obtain ⟨a, xs, e1, hq, hl, hw⟩ := hw
  subst e1
  cases r
  obtain ⟨its, rv, ht, hz⟩ := I.tuple hq
  refine assign_Tuple_tuple (I.ok.hd hc) ht (by simp [hn, ← hl, rv.length]) hst fun h' hx => ?_
  have I1 : Inv X pins σ H { s with heap := h' } := I.kept (t' := s.toks) fun b o e => hx b o (Nat.ne_of_lt (Heap.lt_size e)) e
  exact h pins _ σ H xs _ Q I1 (by simpa using rv) hw
def tAsg (te : TE) (g : TG) : TS := fun D σ H => te σ H fun x H1 => g x σ H1 D.nx
theorem ps_set {i : Nat} {x : Str} {e : Expr} {te : TE} {pos' : Pos} (hN : X.N.Nodup) (hi : X.N[i]? = some x) (hx : Loc X.env.scope x) (he : PE X e te) (hs : swapsWith e (some (.Name x pos')) pos.line X.env = pure false := by rfl) (hf : X.fn x = true ∨ X.env.scope.names.lookup x = some .local := by first | exact .inl rfl | exact .inr rfl | assumption) :
    PS X (.Assign [.Name x pos'] e pos) (tAsg te (gName i)) := by
  intro pins s σ H D I h
  refine wpAny_Assign_Name (thn (he pins s σ H _ I h) fun v s1 ⟨y, H1, I1, r1, q1⟩ => ?_) hs
  exact store_ok I1 hN hi hx r1 (fun s2 I2 => ⟨_, H1, I2, q1⟩) hf
end
section
variable {X : Cx} {pos : Pos}
end
structure It where
  go : Nat → Hp → Prop
  yld : Nat → Hp → V → Hp → Prop
  stop : Nat → Hp → Prop
def FpOk (X : Cx) (pins : List (Addr × Obj)) (H : Hp) (b : Addr) : Prop :=
  H b = none ∧ b ≠ X.env.locals ∧ b ∉ X.fs ∧ (b ∈ X.ex ∨ X.s₀.heap.get? b = none) ∧ (∀ x c, X.env.cells.lookup x = some c → c ≠ b) ∧ ∀ p ∈ X.pn ++ pins, p.1 ≠ b
theorem Inv.fpOk {X : Cx} {pins : List (Addr × Obj)} {σ : St} {H H' : Hp} {s : Shared} {b : Addr} (I : Inv X pins σ H s) (hb : s.heap.objs.size ≤ b) (hn : H' b = none) : FpOk X pins H' b := by
  refine ⟨hn, Nat.ne_of_gt (Nat.lt_of_lt_of_le I.lt hb), I.nofs hb, .inr (Heap.get?_none_of_le (Nat.le_trans I.sz hb)), fun x c e z => ?_, fun p hp z => ?_⟩
  · obtain ⟨v, q⟩ := I.cell x c e
    exact absurd (Nat.lt_of_lt_of_le q.lt (by rw [z]; exact hb)) (Nat.lt_irrefl _)
  · exact absurd (Nat.lt_of_lt_of_le (Heap.lt_size (I.pin p hp).1) (by rw [z]; exact hb)) (Nat.lt_irrefl _)
structure Turn (P : Program) (w : World) (K : PySem.W.Frag) (tg : Expr) (J : It) (fp : List Addr) (it : Addr) (tn : Nat → Heap → Prop) : Prop where
  mem : it ∈ fp
  obj : ∀ i h, tn i h → ∀ b ∈ fp, ∃ o, h.get? b = some o ∧ ∀ v, o.data ≠ .cell v
  keep : ∀ i h h', tn i h → (∀ b ∈ fp, ∀ o, h.get? b = some o → h'.get? b = some o) → tn i h'
  item : ∀ (X : Cx), X.prog = P → X.w = w → X.K = K → X.calm = true → ∀ (i : Nat) (pins : List (Addr × Obj)) (s : Shared) (σ : St) (H : Hp) (E : Value → Shared → Prop), Inv X pins σ H s → (∀ b ∈ fp, FpOk X pins H b) → tn i s.heap → J.go i H →
    wpAny (model P w) X.A (pyNext (.ref it)) (fun r s1 => ∃ u, r = some u ∧
      wpAny (model P w) X.A (letOwnedTupleGo tg (.ref it) u) (fun _ s2 => ∃ x H', Inv X pins σ H' s2 ∧ RelV x u ∧ J.yld i H x H' ∧ tn (i + 1) s2.heap ∧ ∀ b ∈ fp, H' b = none) E s1) E s
  done : ∀ (X : Cx), X.prog = P → X.w = w → X.K = K → X.calm = true → ∀ (i : Nat) (pins : List (Addr × Obj)) (s : Shared) (σ : St) (H : Hp) (E : Value → Shared → Prop), Inv X pins σ H s → (∀ b ∈ fp, FpOk X pins H b) → tn i s.heap → J.stop i H →
    wpAny (model P w) X.A (pyNext (.ref it)) (fun r s1 => r = none ∧ Inv X pins σ H s1) E s
  self : ∀ (A : Around) (i : Nat) (s : Shared) (Q : Value → Shared → Prop) (E : Value → Shared → Prop), tn i s.heap → Q (.ref it) s → wpAny (model P w) A (pyIter (.ref it)) Q E s
abbrev TI := St → Hp → (It → Hp → Prop) → Prop
def PIE (X : Cx) (pins : List (Addr × Obj)) (σ : St) (tg : Expr) (R : It → Hp → Prop) (itv : Value) (s2 : Shared) : Prop :=
  ∃ (it : Addr) (fp : List Addr) (tn : Nat → Heap → Prop) (J : It) (H' : Hp), itv = .ref it ∧ Inv X pins σ H' s2 ∧ Turn X.prog X.w X.K tg J fp it tn ∧ tn 0 s2.heap ∧ (∀ b ∈ fp, FpOk X pins H' b) ∧ R J H'
def PI (X : Cx) (tg iter : Expr) (wi : TI) : Prop :=
  ∀ (pins : List (Addr × Obj)) (s : Shared) (σ : St) (H : Hp) (R : It → Hp → Prop), Inv X pins σ H s → wi σ H R →
    wpAny (model X.prog X.w) X.A (eval iter X.env) (fun v s1 => wpAny (model X.prog X.w) X.A (pyIter v) (PIE X pins σ tg R) X.xe s1) X.xe s
theorem go_of {M : Model} {A : Around} {E : Value → Shared → Prop} {s : Shared} {tg : Expr} {it : Addr} {u : Value} {o : Obj} {n : String} {vs : Array Value} {Q : Unit → Shared → Prop} (ho : s.heap.get? it = some o) (hc : o.cls = .type n) (hd : o.data = .fields vs)
    (hn : ["enumerate", "zip", "dict_itemiterator", "dict_reverseitemiterator", "odict_iterator", "itertools.zip_longest", "itertools.pairwise"].contains n = false) (hQ : Q () s) : wpAny M A (letOwnedTupleGo tg (.ref it) u) Q E s := by
  unfold letOwnedTupleGo
  cases tg <;> first
    | exact wpAny_pure hQ
    | (cases u <;> first
        | exact wpAny_pure hQ
        | (refine wpAny_bind (wpAny_load ho ?_)
           rw [hc, hd]
           show wpAny M A (if (["enumerate", "zip", "dict_itemiterator", "dict_reverseitemiterator", "odict_iterator", "itertools.zip_longest", "itertools.pairwise"].contains n && vs[0]? == some (rawInt _)) = true then _ else _) Q E s
           rw [if_neg (by intro h; rw [hn, Bool.false_and] at h; cases h)]
           exact wpAny_pure hQ))
def Itl (K : PySem.W.Frag) (a : Addr) : It :=
  ⟨fun i H => ∃ xs x, SqL K H a xs ∧ xs[i]? = some x, fun i H x H' => H' = H ∧ ∀ xs, SqL K H a xs → xs[i]? = some x, fun i H => ∃ xs, SqL K H a xs ∧ xs.length ≤ i⟩
def Itt (K : PySem.W.Frag) (a : Addr) : It :=
  ⟨fun i H => ∃ xs x, SqT K H a xs ∧ xs[i]? = some x, fun i H x H' => H' = H ∧ ∀ xs, SqT K H a xs → xs[i]? = some x, fun i H => ∃ xs, SqT K H a xs ∧ xs.length ≤ i⟩
def Itr (lo : Int) (n : Nat) : It := ⟨fun i _ => i < n, fun i H x H' => H' = H ∧ x = .int (lo + i), fun i _ => n ≤ i⟩
theorem turn_list {P : Program} {w : World} {K : PySem.W.Frag} {tg : Expr} (a it : Addr) : Turn P w K tg (Itl K a) [it] it (fun i h => h.IsListIter it a i) where
  mem := by simp
  obj := fun i h st b hb => by
    have e : b = it := by simpa using hb
    subst e
    obtain ⟨o, e, c, d⟩ := st
    exact ⟨o, e, fun v z => by rw [d] at z; cases z⟩
  keep := fun i h h' st k => st.at fun o e => k it (by simp) o e
  item := by
    intro X hP hw hK hc i pins s σ H E I hf st hg
    subst hP hw hK
    obtain ⟨xs, x, hq, hx⟩ := hg
    obtain ⟨its, rv, p, hz⟩ := I.list hq
    obtain ⟨u, hu, ru⟩ := rv.get hx
    obtain ⟨f0, f1, f2, f3, f4, f5⟩ := hf it (by simp)
    refine wpAny_pyNext_list_item st p.isList (x := u) (by simpa using hu) fun h' st' sb => ?_
    have I1 : Inv X pins σ H { s with heap := h' } := I.turned (t' := s.toks) (fun b o hb e => (sb.2 b hb).trans e) f0 f1 f3 f4 f5
    obtain ⟨o, e, c, d⟩ := id st'
    exact ⟨u, rfl, go_of (s := { s with heap := h' }) e c d (by decide) ⟨x, H, I1, ru, ⟨rfl, fun ys hy => by rw [I.list_inj hy hq]; exact hx⟩, st', fun b hb => (hf b hb).1⟩⟩
  done := by
    intro X hP hw hK hc i pins s σ H E I hf st hg
    subst hP hw hK
    obtain ⟨xs, hq, hx⟩ := hg
    obtain ⟨its, rv, p, hz⟩ := I.list hq
    obtain ⟨f0, f1, f2, f3, f4, f5⟩ := hf it (by simp)
    have hl := rv.length
    exact wpAny_pyNext_list_end (I.ok.hd hc) st p.isList (by simp; omega) fun h' eb => ⟨rfl, I.turned (t' := s.toks) (fun b o hb e => eb b o hb e) f0 f1 f3 f4 f5⟩
  self := fun _ _ _ _ _ st h => wpAny_pyIter_listiter st h
theorem turn_tuple {P : Program} {w : World} {K : PySem.W.Frag} {tg : Expr} (a it : Addr) : Turn P w K tg (Itt K a) [it] it (fun i h => h.IsTupleIter it a i) where
  mem := by simp
  obj := fun i h st b hb => by
    have e : b = it := by simpa using hb
    subst e
    obtain ⟨o, e, c, d⟩ := st
    exact ⟨o, e, fun v z => by rw [d] at z; cases z⟩
  keep := fun i h h' st k => st.at fun o e => k it (by simp) o e
  item := by
    intro X hP hw hK hc i pins s σ H E I hf st hg
    subst hP hw hK
    obtain ⟨xs, x, hq, hx⟩ := hg
    obtain ⟨its, rv, p, hz⟩ := I.tuple hq
    obtain ⟨u, hu, ru⟩ := rv.get hx
    obtain ⟨f0, f1, f2, f3, f4, f5⟩ := hf it (by simp)
    refine wpAny_pyNext_tuple_item st (show s.heap.IsTuple a its.toArray from p) (x := u) (by simpa using hu) fun h' st' sb => ?_
    have I1 : Inv X pins σ H { s with heap := h' } := I.turned (t' := s.toks) (fun b o hb e => (sb.2 b hb).trans e) f0 f1 f3 f4 f5
    obtain ⟨o, e, c, d⟩ := id st'
    exact ⟨u, rfl, go_of (s := { s with heap := h' }) e c d (by decide) ⟨x, H, I1, ru, ⟨rfl, fun ys hy => by rw [I.tuple_inj hy hq]; exact hx⟩, st', fun b hb => (hf b hb).1⟩⟩
  done := by
    intro X hP hw hK hc i pins s σ H E I hf st hg
    subst hP hw hK
    obtain ⟨xs, hq, hx⟩ := hg
    obtain ⟨its, rv, p, hz⟩ := I.tuple hq
    obtain ⟨f0, f1, f2, f3, f4, f5⟩ := hf it (by simp)
    have hl := rv.length
    exact wpAny_pyNext_tuple_end (I.ok.hd hc) st (show s.heap.IsTuple a its.toArray from p) (by simp; omega) fun h' eb => ⟨rfl, I.turned (t' := s.toks) (fun b o hb e => eb b o hb e) f0 f1 f3 f4 f5⟩
  self := fun _ _ _ _ _ st h => wpAny_pyIter_tupleiter st h
theorem turn_range {P : Program} {w : World} {K : PySem.W.Frag} {tg : Expr} (it : Addr) (lo : Int) (n : Nat) : Turn P w K tg (Itr lo n) [it] it (fun i h => IsRangeIter h it (lo + (i : Nat) * 1) ((n : Int) - (i : Nat)) 1) where
  mem := by simp
  obj := fun i h st b hb => by
    have e : b = it := by simpa using hb
    subst e
    exact ⟨_, st, fun v z => by
      have z' : Data.fields _ = Data.cell v := z
      cases z'⟩
  keep := fun i h h' st k => k it (by simp) _ st
  item := by
    intro X hP hw hK hc i pins s σ H E I hf st hg
    subst hP hw hK
    obtain ⟨f0, f1, f2, f3, f4, f5⟩ := hf it (by simp)
    have W := Walks.range (prog := X.prog) (w := X.w) (I.ok.hd hc) it lo 1 n
    refine W.item i s _ _ hg st fun v h' tk hv st' kk => ?_
    obtain ⟨t, rfl⟩ := hv
    have I1 : Inv X pins σ H { s with heap := h', toks := tk } := I.turned (fun b o hb e => kk b o (by simpa using hb) e) f0 f1 f3 f4 f5
    refine ⟨_, rfl, go_of (s := { s with heap := h', toks := tk }) (n := "range_iterator") st' rfl rfl (by decide) ⟨.int (lo + i), H, I1, ⟨t, ?_⟩, ⟨rfl, rfl⟩, st', fun b hb => (hf b hb).1⟩⟩
    rw [Int.mul_one]
  done := by
    intro X hP hw hK hc i pins s σ H E I hf st hg
    subst hP hw hK
    obtain ⟨f0, f1, f2, f3, f4, f5⟩ := hf it (by simp)
    exact wpAny_pyNext_range_end (I.ok.hd hc) st (by have : n ≤ i := hg; omega) fun h' eb => ⟨rfl, I.turned (t' := s.toks) (fun b o hb e => eb b o hb e) f0 f1 f3 f4 f5⟩
  self := fun _ _ _ _ _ st h => wpAny_pyIter_rangeiter st h
end L2
namespace L2
open PySem PySem.Spec PyProof.Rows
section
variable {X : Cx} {tg : Expr}
def iList (K : PySem.W.Frag) (tl : TE) : TI := fun σ H R => tl σ H fun x H1 => ∃ a, x = .ref a ∧ (∃ xs, SqL K H1 a xs) ∧ R (Itl K a) H1
def iTup (K : PySem.W.Frag) (tl : TE) : TI := fun σ H R => tl σ H fun x H1 => ∃ a, x = .ref a ∧ (∃ xs, SqT K H1 a xs) ∧ R (Itt K a) H1
theorem pi_list {l : Expr} {tl : TE} (hl : PE X l tl) : PI X tg l (iList X.K tl) := by
  intro pins s σ H R I h
  refine thn (hl pins s σ H _ I h) fun v s1 ⟨x, H1, I1, r1, q1⟩ => ?_
  obtain ⟨a, e, ⟨xs, hq⟩, q⟩ := q1
  subst e
  cases r1
  obtain ⟨its, rv, p, hz⟩ := I1.list hq
  refine wpAny_pyIter_list p.isList ?_
  refine ⟨s1.heap.objs.size, [s1.heap.objs.size], _, _, H1, rfl, I1.kept (t' := s1.toks) fun b o e => Heap.get?_push_of_some _ e, turn_list a _, ⟨_, Heap.get?_push_size _ rfl, rfl, rfl⟩, fun b hb => ?_, q⟩
  have e : b = s1.heap.objs.size := by simpa using hb
  subst e
  exact I1.fpOk (Nat.le_refl _) (I1.hok.fresh (Nat.le_refl _))
theorem pi_tup {l : Expr} {tl : TE} (hl : PE X l tl) : PI X tg l (iTup X.K tl) := by
  intro pins s σ H R I h
  refine thn (hl pins s σ H _ I h) fun v s1 ⟨x, H1, I1, r1, q1⟩ => ?_
  obtain ⟨a, e, ⟨xs, hq⟩, q⟩ := q1
  subst e
  cases r1
  obtain ⟨its, rv, p, hz⟩ := I1.tuple hq
  refine wpAny_pyIter_tuple (show s1.heap.IsTuple a its.toArray from p) ?_
  refine ⟨s1.heap.objs.size, [s1.heap.objs.size], _, _, H1, rfl, I1.kept (t' := s1.toks) fun b o e => Heap.get?_push_of_some _ e, turn_tuple a _, ⟨_, Heap.get?_push_size _ rfl, rfl, rfl⟩, fun b hb => ?_, q⟩
  have e : b = s1.heap.objs.size := by simpa using hb
  subst e
  exact I1.fpOk (Nat.le_refl _) (I1.hok.fresh (Nat.le_refl _))
theorem range_it {pins : List (Addr × Obj)} {σ : St} {H : Hp} {s : Shared} {R : It → Hp → Prop} {E : Value → Shared → Prop} {lo hi : Int} {t u v : Tok} {tk : Nat} (I : Inv X pins σ H s) (h1 : -(2 ^ 62) ≤ lo) (h2 : lo < 2 ^ 62) (h3 : -(2 ^ 62) ≤ hi) (h4 : hi < 2 ^ 62)
    (q : R (Itr lo (hi - lo).toNat) H) : wpAny (model X.prog X.w) X.A (pyIter (.ref s.heap.objs.size)) (PIE X pins σ tg R) E { s with heap := s.heap.push { cls := .type "range", data := .fields #[.int lo t, .int hi u, .int 1 v] }, toks := tk } := by
  refine wpAny_pyIter_range (IsRange.new ..) (small_one h1 h2 h3 h4) ?_
  have I1 : Inv X pins σ H { s with heap := s.heap.push { cls := .type "range", data := .fields #[.int lo t, .int hi u, .int 1 v] }, toks := tk } := I.kept fun b o e => Heap.get?_push_of_some _ e
  refine ⟨(s.heap.push { cls := .type "range", data := .fields #[.int lo t, .int hi u, .int 1 v] }).objs.size, [(s.heap.push { cls := .type "range", data := .fields #[.int lo t, .int hi u, .int 1 v] }).objs.size], _, _, H, rfl,
    I1.kept (t' := tk) fun b o e => Heap.get?_push_of_some _ e, turn_range _ lo (hi - lo).toNat, ?_, fun b hb => ?_, q⟩
  · have e1 : lo + ((0 : Nat) : Int) * 1 = lo := by simp
    have e2 : (((hi - lo).toNat : Nat) : Int) - ((0 : Nat) : Int) = Builtin.Range.rangeSize lo hi 1 := by rw [rangeSize_one]; split <;> omega
    show IsRangeIter _ _ (lo + ((0 : Nat) : Int) * 1) ((((hi - lo).toNat : Nat) : Int) - ((0 : Nat) : Int)) 1
    rw [e1, e2]
    exact Heap.get?_push_size _ rfl
  · have e : b = (s.heap.push { cls := .type "range", data := .fields #[.int lo t, .int hi u, .int 1 v] }).objs.size := by simpa using hb
    subst e
    exact I1.fpOk (Nat.le_refl _) (I1.hok.fresh (Nat.le_refl _))
def iRng1 (ta : TA) : TI := fun σ H R => ta σ H fun vs H1 => ∃ j : Int, vs = [.int j] ∧ -(2 ^ 62) ≤ j ∧ j < 2 ^ 62 ∧ R (Itr 0 j.toNat) H1
def iRng2 (ta : TA) : TI := fun σ H R => ta σ H fun vs H1 => ∃ i j : Int, vs = [.int i, .int j] ∧ (-(2 ^ 62) ≤ i ∧ i < 2 ^ 62 ∧ -(2 ^ 62) ≤ j ∧ j < 2 ^ 62) ∧ R (Itr i (j - i).toNat) H1
theorem pi_range1 {a : Expr} {ta : TA} {p pos : Pos} (hg : Gl X "range") (hm : X.mg "range" = none) (ha : PA X [a] ta) (hs : starEach [a] X.env = [(false, eval a X.env)] := by rfl) : PI X tg (.Call (.Name "range" p) [a] [] pos) (iRng1 ta) := by
  intro pins s σ H R I h
  refine Call_ (ld_blt I hg hm boot_range (PyProof.Rows.callWith_type1 (thn (ha pos pins s σ H _ I h) fun us s1 ⟨vs, H1, I1, r1, q1⟩ => ?_) hs rfl))
  obtain ⟨j, e, q1, q2, q⟩ := q1
  subst e
  cases r1 with
  | cons r rr =>
    cases rr
    obtain ⟨t, rfl⟩ := r
    exact call_range_1 (range_it I1 (by omega) (by omega) q1 q2 (by simpa using q))
theorem pi_range2 {a b : Expr} {ta : TA} {p pos : Pos} (hg : Gl X "range") (hm : X.mg "range" = none) (ha : PA X [a, b] ta) (hs : starEach [a, b] X.env = [(false, eval a X.env), (false, eval b X.env)] := by rfl) (hs2 : starEach [b] X.env = [(false, eval b X.env)] := by rfl) :
    PI X tg (.Call (.Name "range" p) [a, b] [] pos) (iRng2 ta) := by
  intro pins s σ H R I h
  refine Call_ (ld_blt I hg hm boot_range (PyProof.Rows.callWith_type1 (thn (ha pos pins s σ H _ I h) fun us s1 ⟨vs, H1, I1, r1, q1⟩ => ?_) (by rw [hs, hs2]) (by rw [hs2]; rfl)))
  obtain ⟨i, j, e, ⟨q1, q2, q3, q4⟩, q⟩ := q1
  subst e
  cases r1 with
  | cons r rr =>
    cases rr with
    | cons r' rr =>
      cases rr
      obtain ⟨t, rfl⟩ := r
      obtain ⟨t', rfl⟩ := r'
      exact call_range_2 (range_it I1 q1 q2 q3 q4 q)
def tFor (wi : TI) (g : TG) (tb : TS) : TS := fun D σ H => wi σ H fun J H1 => ∃ W : Nat → Nat → St → Hp → Prop, (∃ m, W 0 m σ H1) ∧ ∀ i m σ H, W i m σ H →
  (J.stop i H ∧ D.nx σ H) ∨ (J.go i H ∧ ∃ N : St → Hp → Prop, (∀ σ' H', N σ' H' → ∃ m', m' < m ∧ W (i + 1) m' σ' H') ∧ ∀ x H', J.yld i H x H' → g x σ H' fun σ2 H2 => tb { D with nx := N, ct := N, bk := D.nx } σ2 H2)
def pinsAt (fp : List Addr) (h : Heap) : List (Addr × Obj) := fp.filterMap fun b => (h.get? b).map fun o => (b, o)
theorem mem_pinsAt {fp : List Addr} {h : Heap} {b : Addr} {o : Obj} (hb : b ∈ fp) (e : h.get? b = some o) : (b, o) ∈ pinsAt fp h := List.mem_filterMap.mpr ⟨b, hb, by rw [e]; rfl⟩
theorem of_pinsAt {fp : List Addr} {h : Heap} {p : Addr × Obj} (hp : p ∈ pinsAt fp h) : p.1 ∈ fp ∧ h.get? p.1 = some p.2 := by
  obtain ⟨b, hb, e⟩ := List.mem_filterMap.mp hp
  cases q : h.get? b with
  | none => rw [q] at e; cases e
  | some o =>
    rw [q] at e
    have e' : (b, o) = p := Option.some.inj e
    subst e'
    exact ⟨hb, q⟩
theorem Inv.pinned {pins : List (Addr × Obj)} {σ : St} {H : Hp} {s : Shared} {fp : List Addr} (I : Inv X pins σ H s) (hf : ∀ b ∈ fp, FpOk X pins H b) (ho : ∀ b ∈ fp, ∃ o, s.heap.get? b = some o ∧ ∀ v, o.data ≠ .cell v) : Inv X (pins ++ pinsAt fp s.heap) σ H s :=
  I.pins_of fun p hp => (List.mem_append.mp hp).elim (fun z => I.pin p (List.mem_append_right _ z)) fun z => by
    obtain ⟨hb, e⟩ := of_pinsAt z
    obtain ⟨f0, f1, f2, _⟩ := hf p.1 hb
    obtain ⟨o, e', d⟩ := ho p.1 hb
    rw [e] at e'; cases e'
    exact ⟨e, f0, f1, f2, d⟩
theorem Inv.unpinned {pins pl : List (Addr × Obj)} {σ : St} {H : Hp} {s : Shared} (I : Inv X (pins ++ pl) σ H s) : Inv X pins σ H s := I.pins_of fun p hp => I.pin p (List.mem_append_right _ (List.mem_append_left _ hp))
theorem ps_for {iter : Expr} {body : List Stmt} {wi : TI} {g : TG} {tb : TS} {pos : Pos} (hp : PassesOwn (model X.prog X.w) X.A X.env X.xe) (hc : X.calm = true) (hi : PI X tg iter wi) (hg : PG X tg g) (hb : PSs X body tb)
    (hs : ∀ x, foldedSetIterable iter X.env x = pure x := by intro _; rfl) : PS X (.For tg iter body [] pos) (tFor wi g tb) := by
  intro pins s σ H D I h
  refine wpAny_For (thn (hi pins s σ H _ I h) fun v s1 h1 => thn h1 fun itv s2 h2 => ?_) hs
  obtain ⟨it, fp, tn, J, H2, e, I2, T, st2, f2, W, ⟨m0, w0⟩, turn⟩ := h2
  subst e
  -- what stays true of the iterator's objects through the loop
  have stat : ∀ {H' : Hp}, (∀ b ∈ fp, H' b = none) → ∀ b ∈ fp, FpOk X pins H' b := fun hn b hb => ⟨hn b hb, (f2 b hb).2⟩
  refine codeAny_forLoop_any (fun n s' => ∃ i σ' H', Inv X pins σ' H' s' ∧ tn i s'.heap ∧ (∀ b ∈ fp, H' b = none) ∧ W i n σ' H') ?_ m0 ⟨0, σ, H2, I2, st2, fun b hb => (f2 b hb).1, w0⟩
  rintro n s3 ⟨i, σ3, H3, I3, st3, fr3, w3⟩
  rcases turn i n σ3 H3 w3 with ⟨stop, qn⟩ | ⟨go, N, hN, step⟩
  · refine wpAny_passesOwn hp (thn (T.done X rfl rfl rfl hc i pins s3 σ3 H3 X.xe I3 (stat fr3) st3 stop) fun r s4 ⟨hr, I4⟩ => ?_)
    subst hr
    exact wpAny_execs_nil ⟨σ3, H3, I4, qn⟩
  · refine wpAny_passesOwn hp (thn (T.item X rfl rfl rfl hc i pins s3 σ3 H3 X.xe I3 (stat fr3) st3 go) fun r s4 ⟨u, hr, h4⟩ => ?_)
    subst hr
    refine wpAny_passesOwn hp (thn h4 fun _ s5 ⟨x, H5, I5, r5, y5, st5, fr5⟩ => ?_)
    have I5' := I5.pinned (stat fr5) (T.obj _ _ st5)
    refine wpAny_passesOwn hp (thn (hg _ s5 σ3 H5 x u _ I5' r5 (step x H5 y5)) fun _ s6 ⟨σ6, H6, I6, q6⟩ => ?_)
    refine wpAny_passesOwn hp (thn (hb _ s6 σ6 H6 _ I6 q6) fun f s7 q7 => ?_)
    have again : ∀ {σ7 : St} {H7 : Hp}, Inv X (pins ++ pinsAt fp s5.heap) σ7 H7 s7 → N σ7 H7 → ∃ m, m < n ∧ ∃ i σ' H', Inv X pins σ' H' s7 ∧ tn i s7.heap ∧ (∀ b ∈ fp, H' b = none) ∧ W i m σ' H' := fun {σ7 H7} I7 n7 => by
      obtain ⟨m', hm, w7⟩ := hN σ7 H7 n7
      refine ⟨m', hm, i + 1, σ7, H7, I7.unpinned, T.keep _ _ _ st5 fun b hb o e => (I7.pin (b, o) (List.mem_append_right _ (List.mem_append_right _ (mem_pinsAt hb e)))).1, fun b hb => ?_, w7⟩
      obtain ⟨o, e, d⟩ := T.obj _ _ st5 b hb
      exact (I7.pin (b, o) (List.mem_append_right _ (List.mem_append_right _ (mem_pinsAt hb e)))).2.1
    cases f with
    | next => obtain ⟨σ7, H7, I7, n7⟩ := q7; exact again I7 n7
    | cont => obtain ⟨σ7, H7, I7, n7⟩ := q7; exact again I7 n7
    | brk => obtain ⟨σ7, H7, I7, q7⟩ := q7; exact ⟨σ7, H7, I7.unpinned, q7⟩
    | ret v => obtain ⟨x7, σ7, H7, I7, r7, q7⟩ := q7; exact ⟨x7, σ7, H7, I7.unpinned, r7, q7⟩
end
theorem for_list {K : PySem.W.Frag} {a : Addr} {xs : List V} {g : TG} {tb : TS} {D : Ends} {σ : St} {H : Hp} (Pv : Nat → St → Hp → Prop) (h0 : Pv 0 σ H) (hl : ∀ i σ H, i ≤ xs.length → Pv i σ H → SqL K H a xs)
    (hs : ∀ i x σ H, xs[i]? = some x → Pv i σ H → g x σ H fun σ2 H2 => tb { D with nx := Pv (i + 1), ct := Pv (i + 1), bk := D.nx } σ2 H2) (hd : ∀ σ H, Pv xs.length σ H → D.nx σ H) :
    ∃ W : Nat → Nat → St → Hp → Prop, (∃ m, W 0 m σ H) ∧ ∀ i m σ H, W i m σ H →
      ((Itl K a).stop i H ∧ D.nx σ H) ∨ ((Itl K a).go i H ∧ ∃ N : St → Hp → Prop, (∀ σ' H', N σ' H' → ∃ m', m' < m ∧ W (i + 1) m' σ' H') ∧ ∀ x H', (Itl K a).yld i H x H' → g x σ H' fun σ2 H2 => tb { D with nx := N, ct := N, bk := D.nx } σ2 H2) := by
  refine ⟨fun i m σ H => m = xs.length - i ∧ i ≤ xs.length ∧ Pv i σ H, ⟨xs.length, by simp, Nat.zero_le _, h0⟩, ?_⟩
  rintro i m σ H ⟨rfl, hi, p⟩
  have q := hl i σ H hi p
  by_cases hlt : i < xs.length
  · refine .inr ⟨⟨xs, xs[i], q, by simp [hlt]⟩, Pv (i + 1), fun σ' H' p' => ⟨xs.length - (i + 1), by omega, rfl, hlt, p'⟩, fun x H' y => ?_⟩
    obtain ⟨e, y⟩ := y
    subst e
    exact hs i x σ _ (y xs q) p
  · have e : i = xs.length := by omega
    subst e
    exact .inl ⟨⟨xs, q, Nat.le_refl _⟩, hd σ H p⟩
theorem for_tup {K : PySem.W.Frag} {a : Addr} {xs : List V} {g : TG} {tb : TS} {D : Ends} {σ : St} {H : Hp} (Pv : Nat → St → Hp → Prop) (h0 : Pv 0 σ H) (hl : ∀ i σ H, i ≤ xs.length → Pv i σ H → SqT K H a xs)
    (hs : ∀ i x σ H, xs[i]? = some x → Pv i σ H → g x σ H fun σ2 H2 => tb { D with nx := Pv (i + 1), ct := Pv (i + 1), bk := D.nx } σ2 H2) (hd : ∀ σ H, Pv xs.length σ H → D.nx σ H) :
    ∃ W : Nat → Nat → St → Hp → Prop, (∃ m, W 0 m σ H) ∧ ∀ i m σ H, W i m σ H →
      ((Itt K a).stop i H ∧ D.nx σ H) ∨ ((Itt K a).go i H ∧ ∃ N : St → Hp → Prop, (∀ σ' H', N σ' H' → ∃ m', m' < m ∧ W (i + 1) m' σ' H') ∧ ∀ x H', (Itt K a).yld i H x H' → g x σ H' fun σ2 H2 => tb { D with nx := N, ct := N, bk := D.nx } σ2 H2) := by
  refine ⟨fun i m σ H => m = xs.length - i ∧ i ≤ xs.length ∧ Pv i σ H, ⟨xs.length, by simp, Nat.zero_le _, h0⟩, ?_⟩
  rintro i m σ H ⟨rfl, hi, p⟩
  have q := hl i σ H hi p
  by_cases hlt : i < xs.length
  · refine .inr ⟨⟨xs, xs[i], q, by simp [hlt]⟩, Pv (i + 1), fun σ' H' p' => ⟨xs.length - (i + 1), by omega, rfl, hlt, p'⟩, fun x H' y => ?_⟩
    obtain ⟨e, y⟩ := y
    subst e
    exact hs i x σ _ (y xs q) p
  · have e : i = xs.length := by omega
    subst e
    exact .inl ⟨⟨xs, q, Nat.le_refl _⟩, hd σ H p⟩
theorem for_range {lo : Int} {n : Nat} {g : TG} {tb : TS} {D : Ends} {σ : St} {H : Hp} (Pv : Nat → St → Hp → Prop) (h0 : Pv 0 σ H)
    (hs : ∀ i σ H, i < n → Pv i σ H → g (.int (lo + i)) σ H fun σ2 H2 => tb { D with nx := Pv (i + 1), ct := Pv (i + 1), bk := D.nx } σ2 H2) (hd : ∀ σ H, Pv n σ H → D.nx σ H) :
    ∃ W : Nat → Nat → St → Hp → Prop, (∃ m, W 0 m σ H) ∧ ∀ i m σ H, W i m σ H →
      ((Itr lo n).stop i H ∧ D.nx σ H) ∨ ((Itr lo n).go i H ∧ ∃ N : St → Hp → Prop, (∀ σ' H', N σ' H' → ∃ m', m' < m ∧ W (i + 1) m' σ' H') ∧ ∀ x H', (Itr lo n).yld i H x H' → g x σ H' fun σ2 H2 => tb { D with nx := N, ct := N, bk := D.nx } σ2 H2) := by
  refine ⟨fun i m σ H => m = n - i ∧ i ≤ n ∧ Pv i σ H, ⟨n, by simp, Nat.zero_le _, h0⟩, ?_⟩
  rintro i m σ H ⟨rfl, hi, p⟩
  by_cases hlt : i < n
  · refine .inr ⟨hlt, Pv (i + 1), fun σ' H' p' => ⟨n - (i + 1), by omega, rfl, hlt, p'⟩, fun x H' y => ?_⟩
    obtain ⟨e, y⟩ := y
    subst e y
    exact hs i σ _ hlt p
  · have e : i = n := by omega
    subst e
    exact .inl ⟨Nat.le_refl _, hd σ H p⟩
end L2
namespace L2
open PySem PySem.Spec PyProof.Rows
abbrev R2 := V → V → Hp → VK → Prop
def OpR (X : Cx) (f : Value → Value → Sem Value) (r : R2) : Prop :=
  ∀ (pins : List (Addr × Obj)) (s : Shared) (σ : St) (H : Hp) (x y : V) (v u : Value) (Q : VK), Inv X pins σ H s → RelV x v → RelV y u → r x y H Q →
    wpAny (model X.prog X.w) X.A (f v u) (EP X pins σ Q) X.xe s
def UnR (X : Cx) (f : Value → Sem Value) (r : V → Hp → VK → Prop) : Prop :=
  ∀ (pins : List (Addr × Obj)) (s : Shared) (σ : St) (H : Hp) (x : V) (v : Value) (Q : VK), Inv X pins σ H s → RelV x v → r x H Q →
    wpAny (model X.prog X.w) X.A (f v) (EP X pins σ Q) X.xe s
def CallR (X : Cx) (f : Value) (r : List V → Hp → VK → Prop) : Prop :=
  ∀ (pins : List (Addr × Obj)) (s : Shared) (σ : St) (H : Hp) (xs : List V) (us : List Value) (Q : VK), Inv X pins σ H s → Vals xs us → r xs H Q →
    wpAny (model X.prog X.w) X.A (call f us) (EP X pins σ Q) X.xe s
def tOp (r : R2) (ta tb : TE) : TE := fun σ H Q => ta σ H fun x H1 => tb σ H1 fun y H2 => r x y H2 Q
def tUn (r : V → Hp → VK → Prop) (ta : TE) : TE := fun σ H Q => ta σ H fun x H1 => r x H1 Q
def rI (C : Int → Int → Prop) (g : Int → Int → V) : R2 := fun x y H Q => ∃ i j, x = .int i ∧ y = .int j ∧ C i j ∧ Q (g i j) H
def rI0 (g : Int → Int → V) : R2 := fun x y H Q => ∃ i j, x = .int i ∧ y = .int j ∧ Q (g i j) H
def rU (g : Int → V) : V → Hp → VK → Prop := fun x H Q => ∃ i, x = .int i ∧ Q (g i) H
section
variable {X : Cx} {a b c : Expr} {ta tb tc : TE} {pos : Pos}
theorem binT (ha : PE X a ta) (hb : PE X b tb) {pins : List (Addr × Obj)} {s : Shared} {σ : St} {H : Hp} {R : V → V → Hp → Prop} (I : Inv X pins σ H s)
    (h : ta σ H fun x H1 => tb σ H1 fun y H2 => R x y H2) {Q : Value → Shared → Prop} {f : Value → Value → Sem Value}
    (hf : ∀ v u s2 x y H2, Inv X pins σ H2 s2 → RelV x v → RelV y u → R x y H2 → wpAny (model X.prog X.w) X.A (f v u) Q X.xe s2) :
    wpAny (model X.prog X.w) X.A (eval a X.env) (fun v s₁ => wpAny (model X.prog X.w) X.A (eval b X.env) (fun u s₂ => wpAny (model X.prog X.w) X.A (f v u) Q X.xe s₂) X.xe s₁) X.xe s := by
  refine thn (ha pins s σ H _ I h) fun v s1 ⟨x, H1, I1, r1, q1⟩ => ?_
  refine thn (hb pins s1 σ H1 _ I1 q1) fun u s2 ⟨y, H2, I2, r2, q2⟩ => ?_
  exact hf v u s2 x y H2 I2 r1 r2 q2
theorem pe_op {op : Operator} {r : R2} (ho : OpR X (binaryOp op) r) (ha : PE X a ta) (hb : PE X b tb) : PE X (.BinOp a op b pos) (tOp r ta tb) := by
  intro pins s σ H Q I h
  exact wpAny_BinOp (binT ha hb I h fun v u s2 x y H2 I2 rx ry q => ho pins s2 σ H2 x y v u Q I2 rx ry q)
theorem pe_un {op : UnaryOp} {r : V → Hp → VK → Prop} (ho : UnR X (unaryOp op) r) (ha : PE X a ta) : PE X (.UnaryOp op a pos) (tUn r ta) := by
  intro pins s σ H Q I h
  exact UnaryOp_ (thn (ha pins s σ H _ I h) fun v s1 ⟨x, H1, I1, r1, q1⟩ => ho pins s1 σ H1 x v Q I1 r1 q1)
theorem opI {f : Value → Value → Sem Value} {C : Int → Int → Prop} {g : Int → Int → Int}
    (rule : ∀ (i j : Int) (t u : Tok) (s : Shared) (Q : Value → Shared → Prop) (E : Value → Shared → Prop), C i j → Q (.int (g i j) s.toks) { s with toks := s.toks + 1 } → wpAny (model X.prog X.w) X.A (f (.int i t) (.int j u)) Q E s) :
    OpR X f (rI C fun i j => .int (g i j)) := by
  intro pins s σ H x y v u Q I rx ry h
  obtain ⟨i, j, rfl, rfl, hc, q⟩ := h
  obtain ⟨t, rfl⟩ := rx
  obtain ⟨t', rfl⟩ := ry
  exact rule i j t t' s _ _ hc ⟨.int (g i j), H, I.tok _, ⟨_, rfl⟩, q⟩
theorem opI0 {f : Value → Value → Sem Value} {g : Int → Int → Int}
    (rule : ∀ (i j : Int) (t u : Tok) (s : Shared) (Q : Value → Shared → Prop) (E : Value → Shared → Prop), Q (.int (g i j) s.toks) { s with toks := s.toks + 1 } → wpAny (model X.prog X.w) X.A (f (.int i t) (.int j u)) Q E s) :
    OpR X f (rI0 fun i j => .int (g i j)) := by
  intro pins s σ H x y v u Q I rx ry h
  obtain ⟨i, j, rfl, rfl, q⟩ := h
  obtain ⟨t, rfl⟩ := rx
  obtain ⟨t', rfl⟩ := ry
  exact rule i j t t' s _ _ ⟨.int (g i j), H, I.tok _, ⟨_, rfl⟩, q⟩
theorem opB0 {f : Value → Value → Sem Value} {g : Int → Int → Bool}
    (rule : ∀ (i j : Int) (t u : Tok) (s : Shared) (Q : Value → Shared → Prop) (E : Value → Shared → Prop), Q (.bool (g i j)) s → wpAny (model X.prog X.w) X.A (f (.int i t) (.int j u)) Q E s) :
    OpR X f (rI0 fun i j => .bl (g i j)) := by
  intro pins s σ H x y v u Q I rx ry h
  obtain ⟨i, j, rfl, rfl, q⟩ := h
  obtain ⟨t, rfl⟩ := rx
  obtain ⟨t', rfl⟩ := ry
  exact rule i j t t' s _ _ ⟨.bl (g i j), H, I, rfl, q⟩
def CDiv (i j : Int) : Prop := 0 < j ∧ j < 1073741824
def CPow (i j : Int) : Prop := 0 ≤ j ∧ j ≤ 1000000 ∧ i.natAbs < 2 ^ 64
theorem op_add : OpR X (binaryOp .Add) (rI0 fun i j => .int (i + j)) := opI0 fun _ _ _ _ _ _ _ q => add_int q
theorem op_sub : OpR X (binaryOp .Sub) (rI0 fun i j => .int (i - j)) := opI0 fun _ _ _ _ _ _ _ q => sub_int q
theorem op_fdiv : OpR X (binaryOp .FloorDiv) (rI CDiv fun i j => .int (i / j)) := opI fun i j _ _ _ _ _ hc q => by
  have h1 : (0 : Int) < j := hc.1
  have h2 : j < 1073741824 := hc.2
  exact floordiv_int (by omega) (by rw [Int.fdiv_eq_ediv_of_nonneg i (by omega)]; exact q) (.inl (PyProof.noPylong_small (by omega)))
theorem op_mod : OpR X (binaryOp .Mod) (rI (fun _ j => 0 < j) fun i j => .int (i % j)) := opI fun i j _ _ _ _ _ hc q => by
  have h1 : (0 : Int) < j := hc
  exact mod_int' (by omega) (by rw [Int.fmod_eq_emod_of_nonneg i (by omega)]; exact q)
theorem op_pow : OpR X (binaryOp .Pow) (rI CPow fun i j => .int (i ^ j.toNat)) := opI fun _ _ _ _ _ _ _ hc q => pow_int_small hc.1 hc.2.1 hc.2.2 q
theorem unI {f : Value → Sem Value} {g : Int → Int}
    (rule : ∀ (i : Int) (t : Tok) (s : Shared) (Q : Value → Shared → Prop) (E : Value → Shared → Prop), Q (.int (g i) s.toks) { s with toks := s.toks + 1 } → wpAny (model X.prog X.w) X.A (f (.int i t)) Q E s) :
    UnR X f (rU fun i => .int (g i)) := by
  intro pins s σ H x v Q I rx h
  obtain ⟨i, rfl, q⟩ := h
  obtain ⟨t, rfl⟩ := rx
  exact rule i t s _ _ ⟨.int (g i), H, I.tok _, ⟨_, rfl⟩, q⟩
theorem un_neg : UnR X (unaryOp .USub) (rU fun i => .int (-i)) := unI fun _ _ _ _ _ q => neg_int q
end
def scal : V → V → Bool
  | .non, .non => true | .non, .int _ => true | .int _, .non => true | .non, .bl _ => true | .bl _, .non => true | .non, .str _ => true | .str _, .non => true
  | .int _, .int _ => true | .bl _, .bl _ => true | .str _, .str _ => true | .byt _, .byt _ => true
  | .int _, .str _ => true | .str _, .int _ => true | .bl _, .str _ => true | .str _, .bl _ => true
  | _, _ => false
def rEq : R2 := fun x y H Q => scal x y = true ∧ Q (.bl (decide (x = y))) H
def rNe : R2 := fun x y H Q => scal x y = true ∧ Q (.bl (!decide (x = y))) H
theorem dec_int {i j : Int} : decide (V.int i = V.int j) = (i == j) := by
  rw [Bool.eq_iff_iff]
  simp
theorem dec_bl {i j : Bool} : decide (V.bl i = V.bl j) = (i == j) := by
  rw [Bool.eq_iff_iff]
  simp
theorem dec_str {i j : Str} : decide (V.str i = V.str j) = (i == j) := by
  rw [Bool.eq_iff_iff]
  simp
theorem dec_byt {i j : Array UInt8} : decide (V.byt i = V.byt j) = (i.toList == j.toList) := by
  rw [Bool.eq_iff_iff]
  cases i
  cases j
  simp
section
variable {X : Cx} {a b c : Expr} {ta tb tc : TE} {pos : Pos}
theorem fin_bl {pins : List (Addr × Obj)} {σ : St} {H : Hp} {s : Shared} {Q : VK} {k k' : Bool} (I : Inv X pins σ H s) (q : Q (.bl k) H) (e : k = k') : EP X pins σ Q (.bool k') s := by
  subst e
  exact ⟨.bl k, H, I, rfl, q⟩
theorem op_eq : OpR X (compareOp .Eq) rEq := by
  intro pins s σ H x y v u Q I rx ry h
  obtain ⟨hs, q⟩ := h
  cases x with
  | non =>
    cases rx
    cases y with
    | non => cases ry; exact PySem.EqNone.eq_none_none (fin_bl I q (by simp))
    | bl j => cases ry; exact PySem.EqNone.eq_none_bool (fin_bl I q (by simp))
    | int j => obtain ⟨t', rfl⟩ := ry; exact PySem.EqNone.eq_none_int (fin_bl I q (by simp))
    | str j => obtain ⟨t', rfl⟩ := ry; exact PySem.EqNone.eq_none_str (fin_bl I q (by simp))
    | _ => exact absurd (show false = true from hs) Bool.false_ne_true
  | bl i =>
    cases rx
    cases y with
    | non => cases ry; exact PySem.EqNone.eq_bool_none (fin_bl I q (by simp))
    | bl j => cases ry; exact eq_bool (fin_bl I q dec_bl)
    | str j => obtain ⟨t', rfl⟩ := ry; exact PySem.EqMixed.eq_bool_str (fin_bl I q (by simp))
    | _ => exact absurd (show false = true from hs) Bool.false_ne_true
  | int i =>
    obtain ⟨t, rfl⟩ := rx
    cases y with
    | non => cases ry; exact PySem.EqNone.eq_int_none (fin_bl I q (by simp))
    | int j => obtain ⟨t', rfl⟩ := ry; exact eq_int (fin_bl I q dec_int)
    | str j => obtain ⟨t', rfl⟩ := ry; exact PySem.EqMixed.eq_int_str (fin_bl I q (by simp))
    | _ => exact absurd (show false = true from hs) Bool.false_ne_true
  | str i =>
    obtain ⟨t, rfl⟩ := rx
    cases y with
    | non => cases ry; exact PySem.EqNone.eq_str_none (fin_bl I q (by simp))
    | bl j => cases ry; exact PySem.EqMixed.eq_str_bool (fin_bl I q (by simp))
    | int j => obtain ⟨t', rfl⟩ := ry; exact PySem.EqMixed.eq_str_int (fin_bl I q (by simp))
    | str j => obtain ⟨t', rfl⟩ := ry; exact eq_str (fin_bl I q dec_str)
    | _ => exact absurd (show false = true from hs) Bool.false_ne_true
  | byt i =>
    obtain ⟨t, rfl⟩ := rx
    cases y with
    | byt j => obtain ⟨t', rfl⟩ := ry; exact PySem.W.eq_bytes (fin_bl I q dec_byt)
    | _ => exact absurd (show false = true from hs) Bool.false_ne_true
  | _ => cases y <;> exact absurd (show false = true from hs) Bool.false_ne_true
theorem op_ne : OpR X (compareOp .NotEq) rNe := by
  intro pins s σ H x y v u Q I rx ry h
  obtain ⟨hs, q⟩ := h
  cases x with
  | non =>
    cases rx
    cases y with
    | non => cases ry; exact PySem.EqNone.ne_none_none (fin_bl I q (by simp))
    | bl j => cases ry; exact PySem.EqNone.ne_none_bool (fin_bl I q (by simp))
    | int j => obtain ⟨t', rfl⟩ := ry; exact PySem.EqNone.ne_none_int (fin_bl I q (by simp))
    | str j => obtain ⟨t', rfl⟩ := ry; exact PySem.EqNone.ne_none_str (fin_bl I q (by simp))
    | _ => exact absurd (show false = true from hs) Bool.false_ne_true
  | bl i =>
    cases rx
    cases y with
    | non => cases ry; exact PySem.EqNone.ne_bool_none (fin_bl I q (by simp))
    | bl j => cases ry; exact ne_bool (fin_bl I q (congrArg not dec_bl))
    | str j => obtain ⟨t', rfl⟩ := ry; exact PySem.EqMixed.ne_bool_str (fin_bl I q (by simp))
    | _ => exact absurd (show false = true from hs) Bool.false_ne_true
  | int i =>
    obtain ⟨t, rfl⟩ := rx
    cases y with
    | non => cases ry; exact PySem.EqNone.ne_int_none (fin_bl I q (by simp))
    | int j => obtain ⟨t', rfl⟩ := ry; exact ne_int (fin_bl I q (congrArg not dec_int))
    | str j => obtain ⟨t', rfl⟩ := ry; exact PySem.EqMixed.ne_int_str (fin_bl I q (by simp))
    | _ => exact absurd (show false = true from hs) Bool.false_ne_true
  | str i =>
    obtain ⟨t, rfl⟩ := rx
    cases y with
    | non => cases ry; exact PySem.EqNone.ne_str_none (fin_bl I q (by simp))
    | bl j => cases ry; exact PySem.EqMixed.ne_str_bool (fin_bl I q (by simp))
    | int j => obtain ⟨t', rfl⟩ := ry; exact PySem.EqMixed.ne_str_int (fin_bl I q (by simp))
    | str j => obtain ⟨t', rfl⟩ := ry; exact ne_str (fin_bl I q (congrArg not dec_str))
    | _ => exact absurd (show false = true from hs) Bool.false_ne_true
  | byt i =>
    obtain ⟨t, rfl⟩ := rx
    cases y with
    | byt j => obtain ⟨t', rfl⟩ := ry; exact PySem.W.ne_bytes (fin_bl I q (congrArg not dec_byt))
    | _ => exact absurd (show false = true from hs) Bool.false_ne_true
  | _ => cases y <;> exact absurd (show false = true from hs) Bool.false_ne_true
theorem op_lt : OpR X (compareOp .Lt) (rI0 fun i j => .bl (decide (i < j))) := opB0 fun _ _ _ _ _ _ _ q => lt_int q
theorem op_le : OpR X (compareOp .LtE) (rI0 fun i j => .bl (decide (i ≤ j))) := opB0 fun _ _ _ _ _ _ _ q => le_int q
theorem op_gt : OpR X (compareOp .Gt) (rI0 fun i j => .bl (decide (j < i))) := opB0 fun _ _ _ _ _ _ _ q => gt_int q
theorem op_ge : OpR X (compareOp .GtE) (rI0 fun i j => .bl (decide (j ≤ i))) := opB0 fun _ _ _ _ _ _ _ q => ge_int q
theorem op_in_str : OpR X (compareOp .In) (fun x y H Q => ∃ i j, x = .str i ∧ y = .str j ∧ Q (.bl (!(Builtin.Str.occurrences j i 0 j.length 1).isEmpty)) H) := by
  intro pins s σ H x y v u Q I rx ry h
  obtain ⟨i, j, rfl, rfl, q⟩ := h
  obtain ⟨t, rfl⟩ := rx
  obtain ⟨t', rfl⟩ := ry
  exact in_str (fin_bl I q rfl)
theorem nomark (b : Expr) {op : CmpOp} (h : op ≠ .In := by decide) (h2 : op ≠ .NotIn := by decide) : behindInMarks op b = false := by
  have e1 : (op == CmpOp.In) = false := by cases op <;> first | rfl | exact absurd rfl h
  have e2 : (op == CmpOp.NotIn) = false := by cases op <;> first | rfl | exact absurd rfl h2
  cases b <;> simp [behindInMarks, e1, e2]
theorem pe_cmpR {op : CmpOp} {r : R2} (ho : OpR X (compareOp op) r) (ha : PE X a ta) (hb : PE X b tb) (hm : behindInMarks op b = false) : PE X (.Compare a [op] [b] pos) (tOp r ta tb) := by
  intro pins s σ H Q I h
  exact wpAny_Compare1 (binT ha hb I h fun v u s2 x y H2 I2 rx ry q => ho pins s2 σ H2 x y v u Q I2 rx ry q) hm
def tTest (t : TE) : TT := fun σ H Q => t σ H fun x H' => ∃ k, x = .bl k ∧ Q k H'
theorem pt_cmpR {op : CmpOp} {r : R2} (ho : OpR X (compareOp op) r) (ha : PE X a ta) (hb : PE X b tb) (hm : behindInMarks op b = false) : PT X (.Compare a [op] [b] pos) (tTest (tOp r ta tb)) := by
  intro pins s σ H Q I h
  refine wpAny_isTrue_Compare1 (thn (ha pins s σ H _ I h) fun v s1 ⟨x, H1, I1, r1, q1⟩ => thn (hb pins s1 σ H1 _ I1 q1) fun u s2 ⟨y, H2, I2, r2, q2⟩ =>
    thn (ho pins s2 σ H2 x y v u _ I2 r1 r2 q2) fun c s3 ⟨z, H3, I3, r3, k, e, q3⟩ => ?_) hm
  subst e
  cases r3
  exact wpAny_truthy_bool ⟨H3, I3, q3⟩
def tChain (r r' : R2) (ta tb tc : TE) : TE := fun σ H Q => ta σ H fun x H1 => tb σ H1 fun y H2 => r x y H2 fun z H3 => ∃ k, z = .bl k ∧
  (if k = true then tc σ H3 fun w' H4 => r' y w' H4 Q else Q (.bl false) H3)
theorem pt_chain {op op' : CmpOp} {r r' : R2} (ho : OpR X (compareOp op) r) (ho' : OpR X (compareOp op') r') (ha : PE X a ta) (hb : PE X b tb) (hc : PE X c tc)
    (hm : lastMarks [op, op'] [b, c] = false := by with_unfolding_all rfl) : PT X (.Compare a [op, op'] [b, c] pos) (tTest (tChain r r' ta tb tc)) := by
  intro pins s σ H Q I h
  refine isTrue_chain (thn (ha pins s σ H _ I h) fun v s1 ⟨x, H1, I1, r1, q1⟩ => test_link (thn (hb pins s1 σ H1 _ I1 q1) fun u s2 ⟨y, H2, I2, r2, q2⟩ =>
    thn (ho pins s2 σ H2 x y v u _ I2 r1 r2 q2) fun d s3 ⟨z, H3, I3, r3, k, e, q3⟩ => ?_)) hm
  subst e
  cases r3
  refine wpAny_truthy_bool ?_
  cases k with
  | false =>
    obtain ⟨k', e', q'⟩ := q3
    cases e'
    exact ite_ff ⟨H3, I3, q'⟩
  | true =>
    refine ite_tt (test_last (thn (hc pins s3 σ H3 _ I3 q3) fun w' s4 ⟨z', H4, I4, r4, q4⟩ => thn (ho' pins s4 σ H4 y z' u w' _ I4 r2 r4 q4) fun d' s5 ⟨z2, H5, I5, r5, k2, e2, q5⟩ => ?_))
    subst e2
    cases r5
    exact wpAny_truthy_bool ⟨H5, I5, q5⟩
theorem line63 : (sizeLine : Nat) < 2 ^ 63 := by rw [sizeLine_eq]; decide
theorem op_add_str : OpR X (binaryOp .Add) (fun x y H Q => ∃ i j, x = .str i ∧ y = .str j ∧ i.length + j.length ≤ sizeLine ∧ Q (.str (i ++ j)) H) := by
  intro pins s σ H x y v u Q I rx ry h
  obtain ⟨i, j, rfl, rfl, hz, q⟩ := h
  obtain ⟨t, rfl⟩ := rx
  obtain ⟨t', rfl⟩ := ry
  exact add_str (fun t' tk => ⟨.str (i ++ j), H, I.tok _, ⟨_, rfl⟩, q⟩) hz
theorem vals1 {x : V} {us : List Value} (r : Vals [x] us) : ∃ u, us = [u] ∧ RelV x u := by
  cases r with
  | cons r1 r2 => cases r2; exact ⟨_, rfl, r1⟩
theorem vals2 {x y : V} {us : List Value} (r : Vals [x, y] us) : ∃ u w', us = [u, w'] ∧ RelV x u ∧ RelV y w' := by
  cases r with
  | cons r1 r2 =>
    cases r2 with
    | cons r3 r4 => cases r4; exact ⟨_, _, rfl, r1, r3⟩
theorem call_max2 (hc : X.calm = true) : CallR X (.builtin "max") (fun xs H Q => ∃ i j, xs = [.int i, .int j] ∧ Q (.int (if j > i then j else i)) H) := by
  intro pins s σ H xs us Q I r h
  obtain ⟨i, j, rfl, q⟩ := h
  obtain ⟨u, w', rfl, ⟨t, rfl⟩, ⟨t', rfl⟩⟩ := vals2 r
  refine max_two_ints (I.ok.hd hc) fun h' tk k => ⟨_, H, I.kept k, ?_, q⟩
  by_cases hj : j > i
  · rw [if_pos hj, if_pos hj]; exact ⟨_, rfl⟩
  · rw [if_neg hj, if_neg hj]; exact ⟨_, rfl⟩
theorem call_min2 (hc : X.calm = true) : CallR X (.builtin "min") (fun xs H Q => ∃ i j, xs = [.int i, .int j] ∧ Q (.int (if j < i then j else i)) H) := by
  intro pins s σ H xs us Q I r h
  obtain ⟨i, j, rfl, q⟩ := h
  obtain ⟨u, w', rfl, ⟨t, rfl⟩, ⟨t', rfl⟩⟩ := vals2 r
  refine min_two_ints (I.ok.hd hc) fun h' tk k => ⟨_, H, I.kept k, ?_, q⟩
  by_cases hj : j < i
  · rw [if_pos hj, if_pos hj]; exact ⟨_, rfl⟩
  · rw [if_neg hj, if_neg hj]; exact ⟨_, rfl⟩
theorem call_int1 : CallR X (.type "int") (fun xs H Q => (∃ i, xs = [.int i] ∧ Q (.int i) H) ∨ ∃ k, xs = [.bl k] ∧ Q (.int (if k then 1 else 0)) H) := by
  intro pins s σ H xs us Q I r h
  rcases h with ⟨i, rfl, q⟩ | ⟨k, rfl, q⟩
  · obtain ⟨u, rfl, t, rfl⟩ := vals1 r
    exact call_int_int ⟨.int i, H, I, ⟨_, rfl⟩, q⟩
  · obtain ⟨u, rfl, r1⟩ := vals1 r
    cases r1
    exact call_int_bool ⟨.int (if k then 1 else 0), H, I.tok _, ⟨_, rfl⟩, q⟩
end
end L2
namespace L2
open PySem PySem.Spec PyProof.Rows
structure ObjM (h : Heap) (x dx C : Addr) (mA : Str → Option Value) : Prop where
  obj : h.get? x = some (PySem.W.instObj C dx)
  ns : h.Ns1 dx mA
  ne : dx ≠ x
theorem lookIn_ns {h : Heap} {dx : Addr} {mA : Str → Option Value} (n : h.Ns1 dx mA) : ∃ od, h.get? dx = some od ∧ ∀ name, PySem.W.lookIn name od = some (mA name) := by
  obtain ⟨o, es, ep, ho, hd, hk, _, hm⟩ := n
  refine ⟨o, ho, fun name => ?_⟩
  have e := hm name
  unfold nsFind findBy at e
  rw [← Array.find?_toList] at e
  unfold PySem.W.lookIn
  rw [hd]
  dsimp only
  split
  · rename_i y q
    rw [q] at e
    exact congrArg some e
  · rename_i q
    rw [q] at e
    have a : es.toList.any (·.refKey) = false := by
      rw [List.any_eq_false]
      intro y hy
      obtain ⟨z, t, hkey⟩ := hk y (Array.mem_toList_iff.mp hy)
      simp [DictEntry.refKey, hkey]
    have a' : ¬ es.toList.any (·.refKey) = true := by rw [a]; exact Bool.false_ne_true
    rw [if_neg a']
    exact congrArg some e
theorem ObjM.look {h : Heap} {x dx C : Addr} {mA : Str → Option Value} (I : ObjM h x dx C mA) : ∃ od, PySem.W.InstAt h x (PySem.W.instObj C dx) C (some od) ∧ ∀ name, PySem.W.lookIn name od = some (mA name) :=
  let ⟨od, ho, hl⟩ := lookIn_ns I.ns
  ⟨od, ⟨I.obj, rfl, rfl, ho⟩, hl⟩
section
variable {prog : Program} {w : World} {A : Around} {E : Value → Shared → Prop} {s : Shared} {K : PySem.W.Frag} {x dx C f : Addr} {mA : Str → Option Value} {name : Str} {v : Value}
theorem get_map {expr : Bool} {Q : Value → Shared → Prop} (X : K.In s.heap) (I : ObjM s.heap x dx C mA) (hg : PySem.W.plainGet K C name = true) (hh : PySem.W.hasDictIn K C = true)
    (ha : PySem.W.findIn K (.ref C) name = some none) (hv : mA name = some v) (hv' : PySem.W.handedIn v = true) (h : Q v { s with toks := s.toks + 1 }) :
    wpAny (model prog w) A (getAttr (.ref x) name expr) Q E s := by
  obtain ⟨od, J, hl⟩ := I.look
  exact PySem.W.get_value X J (PySem.W.plainGet_of hg).1 (PySem.W.findObj_own hh ha rfl (by rw [hl, hv])) hv' h
theorem get_meth {pl : Sem Bool} {Q : Value × List Value → Shared → Prop} (X : K.In s.heap) (I : ObjM s.heap x dx C mA) (hg : PySem.W.plainGet K C name = true)
    (hf : PySem.W.findIn K (.ref C) name = some (some (.ref f))) (ht : PySem.W.isFn K (.ref f) = true) (hv : mA name = none) (h : Q (.ref f, [.ref x]) s) :
    wpAny (model prog w) A (getMethod (.ref x) name pl) Q E s := by
  obtain ⟨od, J, hl⟩ := I.look
  exact PySem.W.method_fn X J (PySem.W.plainGet_of hg).1 (PySem.W.plainGet_of hg).2 hf (beq_iff_eq.mp ht) (by show (PySem.W.lookIn name od).map (·.isSome) = some false; rw [hl, hv]; rfl) h
theorem set_map {ns : List Str} {Q : Unit → Shared → Prop} (X : K.In s.heap) (I : ObjM s.heap x dx C mA)
    (hs : PySem.W.findIn K (.ref C) "__setattr__" = some (some (.builtin "object.__setattr__"))) (hp : PySem.W.plainOver K C = true) (ht : PySem.W.takerIn K C name = some none) (hh : PySem.W.hasDictIn K C = true)
    (hw : PySem.Within mA ns) (hsz : ns.length ≤ sizeLine)
    (h : ∀ h', ObjM h' x dx C (fun y => if y = name then some v else mA y) → Heap.SameBut dx s.heap h' → Q () { s with heap := h', toks := s.toks + 2 }) :
    wpAny (model prog w) A (setAttr (.ref x) name v) Q E s := by
  obtain ⟨od, J, hl⟩ := I.look
  refine PySem.W.set_plain X J hs (PySem.W.osa_open (s := { s with toks := s.toks + 1 }) (r := none) X J hp ht fun b => ?_)
  obtain ⟨cd, hc, hd'⟩ := PySem.W.any_some hh
  have hx : s.heap.get? x = some ⟨.ref C, some dx, .plain, #[]⟩ := I.obj
  refine wpAny_bind (wpAny_pure (wpAny_bind (wpAny_bind (wpAny_loadPart hx (wpAny_bind (PySem.W.Looks.here (s := { s with toks := s.toks + 1 }) (PySem.W.looks_clsIn X hc) ?_))))))
  rw [hd']
  refine wpAny_pure (a := some dx) (wpAny_bind (wpAny_pure (wpAny_bind ?_)))
  refine wpAny_nsSet1 (s := { s with toks := s.toks + 1 }) I.ns fun h' hn2 hs2 => ?_
  obtain ⟨oD, esD, epD, hoD, hdD, hcD⟩ := hn2.count (PySem.Within.cons name v hw)
  refine wpAny_bind (wpAny_lookBehind hoD (by rw [hdD]; exact pastItsLine_dict (Nat.le_trans hcD (by rw [List.length_cons]; omega))) ?_)
  exact wpAny_pure (h _ ⟨(hs2.2 _ (Ne.symm I.ne)).trans I.obj, hn2, I.ne⟩ hs2)
theorem make_map {R : Result → Shared → Prop} {vs : List Value} {kw : List (Str × Value)} (X : K.In s.heap) (hm : PySem.W.makesIn K C = true)
    (hi : PySem.W.findIn K (.ref C) "__init__" = some (some (.ref f))) (hf : PySem.W.typeIn K (.ref f) = some (.type "function"))
    (h : codeAny (model prog w) (A.under (.builtin "type.__call__" ⟨.ref C :: vs, kw⟩)) (.call (.ref f) ⟨.ref (s.heap.objs.size + 1) :: vs, kw⟩) (PySem.W.InitBack (s.heap.objs.size + 1) R)
      { s with heap := (s.heap.push PySem.W.emptyDict).push (PySem.W.instObj C s.heap.objs.size) }) :
    codeAny (model prog w) A (.call (.ref C) ⟨vs, kw⟩) R s := by
  obtain ⟨hh, g, d, t, os⟩ := s
  exact PySem.W.make_core (PySem.W.makes_of X hm) (PySem.W.looks_findIn X hi) (fun self => PySem.W.bind_fn X self hf) (.inl rfl) h
end
def putF (f : Str) (v : V) : List (Str × V) → List (Str × V)
  | [] => [(f, v)]
  | (g, x) :: r => if g = f then (g, v) :: r else (g, x) :: putF f v r
theorem lookup_putF (f g : Str) (v : V) : ∀ fs : List (Str × V), (putF f v fs).lookup g = if g = f then some v else fs.lookup g
  | [] => by
    show List.lookup g [(f, v)] = _
    by_cases h : g = f
    · have hb : (g == f) = true := beq_iff_eq.mpr h
      simp only [List.lookup, hb, if_pos h]
    · have hb : (g == f) = false := beq_eq_false_iff_ne.mpr h
      simp only [List.lookup, hb, if_neg h]
  | (k, x) :: r => by
    have ih := lookup_putF f g v r
    rw [show putF f v ((k, x) :: r) = (if k = f then (k, v) :: r else (k, x) :: putF f v r) from rfl]
    by_cases hk : k = f
    · rw [if_pos hk]
      by_cases h : g = k
      · have hb : (g == k) = true := beq_iff_eq.mpr h
        simp only [List.lookup, hb, if_pos (h.trans hk)]
      · have hb : (g == k) = false := beq_eq_false_iff_ne.mpr h
        simp only [List.lookup, hb, if_neg (fun e : g = f => h (e.trans hk.symm))]
    · rw [if_neg hk]
      by_cases h : g = k
      · have hb : (g == k) = true := beq_iff_eq.mpr h
        simp only [List.lookup, hb, if_neg (fun e : g = f => hk (h.symm.trans e))]
      · have hb : (g == k) = false := beq_eq_false_iff_ne.mpr h
        simp only [List.lookup, hb]
        exact ih
theorem keys_putF (f : Str) (v : V) : ∀ fs : List (Str × V), f ∈ (putF f v fs).map (·.1) ∧ ∀ g, g ∈ fs.map (·.1) → g ∈ (putF f v fs).map (·.1)
  | [] => ⟨by simp [putF], fun g h => by simp at h⟩
  | (k, x) :: r => by
    obtain ⟨i1, i2⟩ := keys_putF f v r
    rw [show putF f v ((k, x) :: r) = (if k = f then (k, v) :: r else (k, x) :: putF f v r) from rfl]
    by_cases hk : k = f
    · rw [if_pos hk]
      subst hk
      exact ⟨by simp, fun g h => by simpa using h⟩
    · rw [if_neg hk]
      refine ⟨?_, fun g h => ?_⟩
      · rw [List.map_cons]
        exact List.mem_cons_of_mem _ i1
      · rw [List.map_cons] at h ⊢
        rcases List.mem_cons.mp h with e | e
        · exact List.mem_cons.mpr (.inl e)
        · exact List.mem_cons_of_mem _ (i2 g e)
theorem length_putF (f : Str) (v : V) : ∀ fs : List (Str × V), (putF f v fs).length ≤ fs.length + 1
  | [] => by simp [putF]
  | (k, x) :: r => by
    have ih := length_putF f v r
    rw [show putF f v ((k, x) :: r) = (if k = f then (k, v) :: r else (k, x) :: putF f v r) from rfl]
    by_cases hk : k = f
    · rw [if_pos hk, List.length_cons, List.length_cons]; omega
    · rw [if_neg hk, List.length_cons, List.length_cons]; omega
theorem RelO.some_of {v : V} {o : Option Value} (r : RelO (some v) o) : ∃ u, o = some u ∧ RelV v u := by
  cases o with
  | none => exact (show False from r).elim
  | some u => exact ⟨u, rfl, r⟩
theorem RelO.none_of {o : Option Value} (r : RelO none o) : o = none := by
  cases o with
  | none => rfl
  | some u => exact (show False from r).elim
theorem handed_of {v : V} {u : Value} (r : RelV v u) : PySem.W.handedIn u = true := by
  cases v with
  | non => cases (show u = Value.none from r); rfl
  | bl b => cases (show u = Value.bool b from r); rfl
  | int i => obtain ⟨t, e⟩ := (show ∃ t, u = Value.int i t from r); cases e; rfl
  | str x => obtain ⟨t, e⟩ := (show ∃ t, u = Value.str x t from r); cases e; rfl
  | byt b => obtain ⟨t, e⟩ := (show ∃ t, u = Value.bytes b t from r); cases e; rfl
  | flt b => obtain ⟨t, e⟩ := (show ∃ t, u = Value.float b t from r); cases e; rfl
  | ref a => cases (show u = Value.ref a from r); rfl
  | ty n => cases (show u = Value.type n from r); rfl
section
variable {P : Program} {w : World} {H H' : Hp} {h h' : Heap} {a C dx : Addr} {fs fs' : List (Str × V)}
theorem ins_get (hok : HOk P w H h) (e : H a = some (.ins C dx fs)) : ∃ mA, ObjM h a dx C mA ∧ (∀ f, RelO (fs.lookup f) (mA f)) ∧ PySem.Within mA (fs.map (·.1)) ∧ fs.length ≤ 1000 ∧ H dx = some (.own a) := by
  obtain ⟨d, z, ne, ob, mA, n, r, q⟩ := (show ObjOk P w H h a (.ins C dx fs) from hok a _ e)
  exact ⟨mA, ⟨ob, n, ne⟩, r, q, z, d⟩
end
structure Cls (K : PySem.W.Frag) (C : Addr) : Prop where
  pg : PySem.W.plainGet K C Str.empty = true
  hd : PySem.W.hasDictIn K C = true
  po : PySem.W.plainOver K C = true
  sa : PySem.W.findIn K (.ref C) "__setattr__" = some (some (.builtin "object.__setattr__"))
theorem Cls.get {K : PySem.W.Frag} {C : Addr} (c : Cls K C) (f : Str) : PySem.W.plainGet K C f = true := c.pg
def NoAttr (K : PySem.W.Frag) (C : Addr) (f : Str) : Prop := PySem.W.findIn K (.ref C) f = some none
theorem NoAttr.taker {K : PySem.W.Frag} {C : Addr} {f : Str} (n : NoAttr K C f) : PySem.W.takerIn K C f = some none := by
  unfold PySem.W.takerIn
  rw [show PySem.W.findIn K (.ref C) f = some none from n]
  rfl
structure Meth (K : PySem.W.Frag) (C : Addr) (m : Str) (f : Addr) : Prop where
  at_ : PySem.W.findIn K (.ref C) m = some (some (.ref f))
  fn : PySem.W.isFn K (.ref f) = true
  kp : PySem.W.keepIn K (.ref f) = true
section
variable {X : Cx} {pins : List (Addr × Obj)} {σ : St} {H : Hp} {s : Shared} {a C dx : Addr} {fs : List (Str × V)} {f : Str} {v : V} {A : Around} {E : Value → Shared → Prop}
theorem getattr_ok {b : Bool} {Q : Value → Shared → Prop} (I : Inv X pins σ H s) (e : H a = some (.ins C dx fs)) (c : Cls X.K C) (n : NoAttr X.K C f) (l : fs.lookup f = some v)
    (h : ∀ u s', Inv X pins σ H s' → RelV v u → Q u s') : wpAny (model X.prog X.w) A (getAttr (.ref a) f b) Q E s := by
  obtain ⟨mA, O, r, _, _, _⟩ := ins_get I.hok e
  obtain ⟨u, hu, ru⟩ := RelO.some_of (v := v) (o := mA f) (by rw [← l]; exact r f)
  exact get_map I.kIn O (c.get f) c.hd n hu (handed_of ru) (h u _ (I.tok _) ru)
theorem getmeth_ok {m : Str} {g : Addr} {pl : Sem Bool} {Q : Value × List Value → Shared → Prop} (I : Inv X pins σ H s) (e : H a = some (.ins C dx fs)) (c : Cls X.K C) (k : Meth X.K C m g) (l : fs.lookup m = none)
    (h : Q (.ref g, [.ref a]) s) : wpAny (model X.prog X.w) A (getMethod (.ref a) m pl) Q E s := by
  obtain ⟨mA, O, r, _, _, _⟩ := ins_get I.hok e
  have hn : mA m = none := RelO.none_of (by rw [← l]; exact r m)
  exact get_meth I.kIn O (c.get m) k.at_ k.fn hn h
theorem setattr_ok {y : V} {u : Value} {Q : Unit → Shared → Prop} (I : Inv X pins σ H s) (e : H a = some (.ins C dx fs)) (c : Cls X.K C) (n : NoAttr X.K C f) (hl : fs.length < 1000) (ry : RelV y u)
    (h : ∀ s', Inv X pins σ (upd H a (.ins C dx (putF f y fs))) s' → Q () s') : wpAny (model X.prog X.w) A (setAttr (.ref a) f u) Q E s := by
  obtain ⟨mA, O, r, wi, _, ho⟩ := ins_get I.hok e
  have hz : (fs.map (·.1)).length ≤ sizeLine := by rw [List.length_map, sizeLine_eq]; omega
  refine set_map I.kIn O c.sa c.po n.taker c.hd wi hz fun h' O' sb => h _ ?_
  have hd : ∃ o, h'.get? dx = some o := let ⟨o, _, _, e', _⟩ := O'.ns; ⟨o, e'⟩
  refine I.write (x := a) (e := dx) (by rw [e]; exact True.intro) (.inr ho) (fun b q hb z => (sb.2 b hb).trans z) hd ?_
  refine ⟨by rw [upd_ne O.ne]; exact ho, ?_, O.ne, O'.obj, _, O'.ns, fun g => ?_, fun g hg => ?_⟩
  · have := length_putF f y fs; omega
  · show RelO ((putF f y fs).lookup g) (if g = f then some u else mA g)
    rw [lookup_putF]
    by_cases q : g = f
    · rw [if_pos q, if_pos q]; exact ry
    · rw [if_neg q, if_neg q]; exact r g
  · by_cases q : g = f
    · rw [q]; exact (keys_putF f y fs).1
    · refine (keys_putF f y fs).2 g (wi g fun z => hg ?_)
      show (if g = f then some u else mA g) = none
      rw [if_neg q]; exact z
theorem Inv.made (I : Inv X pins σ H s) : Inv X pins σ (upd (upd H s.heap.objs.size (.own (s.heap.objs.size + 1))) (s.heap.objs.size + 1) (.ins C s.heap.objs.size []))
    { s with heap := (s.heap.push PySem.W.emptyDict).push (PySem.W.instObj C s.heap.objs.size) } := by
  have e1 : (s.heap.push PySem.W.emptyDict).get? s.heap.objs.size = some PySem.W.emptyDict := Heap.get?_push_size s.heap rfl
  have e2 : ((s.heap.push PySem.W.emptyDict).push (PySem.W.instObj C s.heap.objs.size)).get? (s.heap.objs.size + 1) = some (PySem.W.instObj C s.heap.objs.size) := by
    have := Heap.get?_push_size (s.heap.push PySem.W.emptyDict) (o := PySem.W.instObj C s.heap.objs.size) rfl
    rwa [Heap.size_push] at this
  have e3 : (s.heap.push PySem.W.emptyDict).Ns s.heap.objs.size (fun _ => none) := ⟨PySem.W.emptyDict, #[], _, e1, rfl, (fun e he => absurd he (by simp)), fun _ => rfl⟩
  have I1 := I.laid (a := s.heap.objs.size) (o := .own (s.heap.objs.size + 1)) (h' := s.heap.push PySem.W.emptyDict) (t' := s.toks) (fun b u q => Heap.get?_push_of_some _ q) (Nat.le_refl _) ⟨_, e1⟩
  refine I1.laid (a := s.heap.objs.size + 1) (o := .ins C s.heap.objs.size []) (t' := s.toks) (fun b u q => Heap.get?_push_of_some _ q) (Nat.le_of_eq (Heap.size_push _ _)) ?_
  have ne : s.heap.objs.size ≠ s.heap.objs.size + 1 := Nat.ne_of_lt (Nat.lt_succ_self _)
  refine ⟨by rw [upd_ne ne, upd_same], Nat.zero_le _, ne, e2, fun _ => none, (Heap.Ns1.of_empty e3).at fun o q => Heap.get?_push_of_some _ q, fun _ => True.intro, fun y hy => absurd rfl hy⟩
theorem attr_of {prog : Program} {w : World} {env : Env} {e : Expr} {f : Str} {pos : Pos} {s : Shared} {Q : Value → Shared → Prop} (hb : attributeBase e f env (eval e env) = eval e env)
    (h : wpAny (model prog w) A (eval e env) (fun o s₁ => wpAny (model prog w) A (getAttr o f true) Q E s₁) E s) : wpAny (model prog w) A (eval (.Attribute e f pos) env) Q E s :=
  Attribute_any_ h (by rw [arm_eval_Attribute, hb])
end
def tFld (K : PySem.W.Frag) (ta : TE) (f : Str) : TE := fun σ H Q => ta σ H fun x H1 => ∃ a C dx fs v, x = .ref a ∧ H1 a = some (.ins C dx fs) ∧ Cls K C ∧ NoAttr K C f ∧ fs.lookup f = some v ∧ Q v H1
def sFld (K : PySem.W.Frag) (ta tv : TE) (f : Str) : TS := fun D σ H => tv σ H fun y H1 => ta σ H1 fun x H2 => ∃ a C dx fs, x = .ref a ∧ H2 a = some (.ins C dx fs) ∧ Cls K C ∧ NoAttr K C f ∧ fs.length < 1000 ∧
  D.nx σ (upd H2 a (.ins C dx (putF f y fs)))
section
variable {X : Cx} {o e value : Expr} {f : Str} {pos pos' tpos : Pos} {ta tv : TE}
theorem pe_fld (he : PE X e ta) (hb : attributeBase e f X.env (eval e X.env) = eval e X.env) : PE X (.Attribute e f pos) (tFld X.K ta f) := by
  intro pins s σ H Q I h
  refine attr_of hb (thn (he pins s σ H _ I h) fun u s1 ⟨x, H1, I1, rx, a, C, dx, fs, v, ex, ea, c, n, l, q⟩ => ?_)
  subst ex
  obtain rfl : u = Value.ref a := rx
  exact getattr_ok I1 ea c n l fun u' s2 I2 ru => ⟨v, H1, I2, ru, q⟩
theorem ps_fld (ha : PE X o ta) (hv : PE X value tv) (hs : swapsWith value (some (.Attribute o f pos')) pos.line X.env = pure false) : PS X (.Assign [.Attribute o f pos'] value pos) (sFld X.K ta tv f) := by
  intro pins s σ H D I h
  refine plainObj_wpAny_Assign_Attribute (thn (hv pins s σ H _ I h) fun u s1 ⟨y, H1, I1, ry, q⟩ => thn (ha pins s1 σ H1 _ I1 q) fun ov s2 ⟨x, H2, I2, rx, a, C, dx, fs, ex, ea, c, n, l, q2⟩ => ?_) hs
  subst ex
  obtain rfl : ov = Value.ref a := rx
  exact setattr_ok I2 ea c n l ry fun s3 I3 => ⟨σ, _, I3, q2⟩
end
section
variable {X : Cx} {pins : List (Addr × Obj)} {σ : St} {H : Hp} {s : Shared} {A : Around} {E : Value → Shared → Prop} {Q : Value → Shared → Prop} {c : Value} {b : Bool}
inductive TyOf (K : PySem.W.Frag) (H : Hp) : V → Value → Prop where
  | non : TyOf K H .non (.type "NoneType")
  | bl (x : Bool) : TyOf K H (.bl x) (.type "bool")
  | int (i : Int) : TyOf K H (.int i) (.type "int")
  | str (x : Str) : TyOf K H (.str x) (.type "str")
  | flt (x : UInt64) : TyOf K H (.flt x) (.type "float")
  | lst {a : Addr} {xs : List V} (e : H a = some (.lst xs)) : TyOf K H (.ref a) (.type "list")
  | frz {a : Addr} {o : Obj} {xs : List V} (e : H a = some (.frz o (.lst xs))) : TyOf K H (.ref a) (.type "list")
  | tup {a : Addr} {xs : List V} (e : H a = some (.tup xs)) : TyOf K H (.ref a) (.type "tuple")
  | dK {a : Addr} {kvs : List (Key × V)} (e : H a = some (.dK kvs)) : TyOf K H (.ref a) (.type "dict")
  | dT {a : Addr} {kvs : List (List Key × V)} (e : H a = some (.dT kvs)) : TyOf K H (.ref a) (.type "dict")
  | ins {a C dx : Addr} {fs : List (Str × V)} (e : H a = some (.ins C dx fs)) (cl : Cls K C) (ha : PySem.W.findIn K (.ref C) "__class__" = some (some (.builtin "object.__class__")))
      (hn : PySem.W.specialIn K (.builtin "object.__class__") "__get__" = some (some (.builtin "getset_descriptor.__get__"))) (htk : PySem.W.takesIn K (.builtin "object.__class__") = some true)
      (hm : PySem.W.mroIn K C (.type "object") = some true) : TyOf K H (.ref a) (.ref C)
theorem isinst_ok {x : V} {u t : Value} (I : Inv X pins σ H s) (rx : RelV x u) (ty : TyOf X.K H x t) (e : PySem.W.kitOne X.K t c = some b) (h : ∀ tk, Q (.bool b) { s with toks := tk }) :
    wpAny (model X.prog X.w) A (call (.builtin "isinstance") [u, c]) Q E s := by
  cases ty with
  | non => cases (show u = Value.none from rx); exact PySem.W.kia_one PySem.W.kitx_none I.kIn True.intro e (fun z => nomatch z) h
  | bl y => cases (show u = Value.bool y from rx); exact PySem.W.kia_one PySem.W.kitx_bool I.kIn True.intro e (fun z => nomatch z) h
  | int i => obtain ⟨t, q⟩ := (show ∃ t, u = Value.int i t from rx); cases q; exact PySem.W.kia_one PySem.W.kitx_int I.kIn True.intro e (fun z => nomatch z) h
  | str y => obtain ⟨t, q⟩ := (show ∃ t, u = Value.str y t from rx); cases q; exact PySem.W.kia_one PySem.W.kitx_str I.kIn True.intro e (fun z => nomatch z) h
  | flt y => obtain ⟨t, q⟩ := (show ∃ t, u = Value.float y t from rx); cases q; exact PySem.W.kia_one PySem.W.kitx_float I.kIn True.intro e (fun z => nomatch z) h
  | @lst a xs ea =>
    cases (show u = Value.ref a from rx)
    obtain ⟨_, _, n, _, h1⟩ := (show ObjOk X.prog X.w H s.heap a (.lst xs) from I.hok a _ ea)
    exact PySem.W.kia_one PySem.W.kitx_list I.kIn ⟨_, h1, rfl⟩ e (fun z => nomatch z) h
  | @frz a ob xs ea =>
    cases (show u = Value.ref a from rx)
    obtain ⟨_, _, _, n, _, h1⟩ := (show ObjOk X.prog X.w H s.heap a (.frz ob (.lst xs)) from I.hok a _ ea)
    exact PySem.W.kia_one PySem.W.kitx_list I.kIn ⟨_, h1, rfl⟩ e (fun z => nomatch z) h
  | @tup a xs ea =>
    cases (show u = Value.ref a from rx)
    obtain ⟨_, _, _, p⟩ := (show ObjOk X.prog X.w H s.heap a (.tup xs) from I.hok a _ ea)
    obtain ⟨o, h1, h2, _⟩ := p
    exact PySem.W.kia_one PySem.W.kitx_tuple I.kIn ⟨o, h1, h2⟩ e (fun z => nomatch z) h
  | @dK a kvs ea =>
    cases (show u = Value.ref a from rx)
    obtain ⟨_, _, vs, _, p⟩ := (show ObjOk X.prog X.w H s.heap a (.dK kvs) from I.hok a _ ea)
    obtain ⟨o, es, ep, h1, h2, _⟩ := p
    exact PySem.W.kia_one PySem.W.kitx_dict I.kIn ⟨o, h1, h2.1⟩ e (fun z => nomatch z) h
  | @dT a kvs ea =>
    cases (show u = Value.ref a from rx)
    obtain ⟨_, _, xs, _, o, es, ep, h1, h2, _⟩ := (show ObjOk X.prog X.w H s.heap a (.dT kvs) from I.hok a _ ea)
    exact PySem.W.kia_one PySem.W.kitx_dict I.kIn ⟨o, h1, h2.1⟩ e (fun z => nomatch z) h
  | @ins a C dx fs ea cl ha hn htk hm =>
    cases (show u = Value.ref a from rx)
    obtain ⟨mA, O, _⟩ := ins_get I.hok ea
    obtain ⟨od, J, _⟩ := O.look
    exact PySem.W.kia_one (PySem.W.kitx_own (cl.get _) cl.hd ha hn htk hm) I.kIn J e (fun z => nomatch z) h
end
end L2
namespace L2
open PySem PySem.Spec PyProof.Rows
structure Room (k : Nat) (A : Around) : Prop where
  hd : A.handled = none
  dp : A.depth + 3 * k + 5 < recursionLimit
  un : A.units + 16 * k + 200 < cLine
theorem Room.mono {j k : Nat} {A : Around} (r : Room k A) (h : j ≤ k) : Room j A := ⟨r.hd, by have := r.dp; omega, by have := r.un; omega⟩
theorem Room.deeper {k : Nat} {A : Around} (r : Room (k + 1) A) (env : Env) : Room k (A.deeper env) :=
  ⟨r.hd, by have := r.dp; show A.depth + 1 + 3 * k + 5 < _; omega, by have := r.un; show A.units + 3 + 16 * k + 200 < _; omega⟩
theorem make_depth {A : Around} {C : Addr} {us : List Value} {kw : List (Str × Value)} : (A.under (.builtin "type.__call__" ⟨.ref C :: us, kw⟩)).depth = A.depth + 1 := by
  first | rfl | simp [Around.under, Code.weight, Code.isCreation, Code.isGuard, Code.isCaller, Code.frames, Code.isFrame, guardIds]
theorem make_units {A : Around} {C : Addr} {us : List Value} {kw : List (Str × Value)} : (A.under (.builtin "type.__call__" ⟨.ref C :: us, kw⟩)).units = A.units + 1 := by
  first | rfl | simp [Around.under, Code.cUnits, Code.frames, Code.isFrame]
theorem Room.make {k : Nat} {A : Around} (r : Room (k + 1) A) (C : Addr) (us : List Value) (kw : List (Str × Value)) : Room k (A.under (.builtin "type.__call__" ⟨.ref C :: us, kw⟩)) :=
  ⟨r.hd, by have := r.dp; rw [make_depth]; omega, by have := r.un; rw [make_units]; omega⟩
theorem Room.depth {k : Nat} {A : Around} (r : Room k A) : A.depth < recursionLimit := by have := r.dp; omega
theorem Room.units {k : Nat} {A : Around} (r : Room k A) : A.units + 64 < cLine := by have := r.un; omega
def tNil : TA := fun _ H Q => Q [] H
def tCons (ta : TE) (tr : TA) : TA := fun σ H Q => ta σ H fun x H1 => tr σ H1 fun xs H2 => Q (x :: xs) H2
section
variable {X : Cx} {e : Expr} {es : List Expr} {te : TE} {t : TA} {pos : Pos}
theorem pa_nil : PA X [] tNil := fun _ _ _ _ H Q I h => Calls.spliced_nil ⟨[], H, I, .nil, h⟩
theorem pa_cons (ha : PE X e te) (hr : PA X es t) (hs : starEach (e :: es) X.env = (false, eval e X.env) :: starEach es X.env := by rfl) : PA X (e :: es) (tCons te t) := by
  intro pos pins s σ H Q I h
  rw [hs]
  show wpAny _ _ (spliced ((false, eval e X.env) :: backTo pos (starEach es X.env))) _ _ s
  refine Calls.spliced_cons (thn (ha pins s σ H _ I h) fun u s1 ⟨x, H1, I1, r1, q1⟩ => ?_)
  exact thn (hr pos pins s1 σ H1 _ I1 q1) fun us s2 ⟨xs, H2, I2, r2, q2⟩ => ⟨x :: xs, H2, I2, .cons r1 r2, q2⟩
end
abbrev Sp := List V → Hp → VK → XK → Prop
abbrev CXT := List Env → Hp → Shared → XK → Value → Shared → Prop
structure Env0 (P : Program) (w : World) (K : PySem.W.Frag) (mg : Str → Option Value) (base : Heap) (A : Around) (outer : List Env) (s : Shared) (H : Hp) : Prop where
  frames : A.frames = some outer
  mod : Mod K mg base
  bs : ∀ b o, base.get? b = some o → s.heap.get? b = some o ∧ H b = none
  bsz : base.objs.size ≤ s.heap.objs.size
  funs : s.heap.FunFrames base outer
  frf : ∀ b ∈ frs outer, H b = none
  hok : HOk P w H s.heap
  bare : AllBare s.gens
def CE (outer : List Env) (P : Program) (w : World) (H : Hp) (s : Shared) (Q : VK) (u : Value) (s' : Shared) : Prop :=
  ∃ v H', s'.os = s.os ∧ AllBare s'.gens ∧ Un (frs outer) [] H H' s.heap s'.heap ∧ HOk P w H' s'.heap ∧ RelV v u ∧ Q v H'
def CR (CX : CXT) (outer : List Env) (P : Program) (w : World) (H : Hp) (s : Shared) (Q : VK) (E : XK) (r : Result) (s' : Shared) : Prop :=
  match r with
  | .ok (.ret u) => CE outer P w H s Q u s'
  | .ok _ => False
  | .error e => CX outer H s E e s'
structure FnOk (P : Program) (w : World) (K : PySem.W.Frag) (mg : Str → Option Value) (base : Heap) (CX : CXT) (k : Nat) (f : Addr) (fd : FuncData) (ps : List Str) (sp : Sp) : Prop where
  len : ∀ vs H Q E, sp vs H Q E → vs.length = ps.length
  run : ∀ (A : Around) (outer : List Env) (s : Shared) (H : Hp) (args : Args) (us : List Value) (vs : List V) (Q : VK) (E : XK), Room k A → Env0 P w K mg base A outer s H → BindsTo s fd args (ps.zip us) → Vals vs us → sp vs H Q E →
    codeAny (model P w) A (.call (.ref f) args) (CR CX outer P w H s Q E) s
theorem FnOk.mono {P : Program} {w : World} {K : PySem.W.Frag} {mg : Str → Option Value} {base : Heap} {CX : CXT} {j k : Nat} {f : Addr} {fd : FuncData} {ps : List Str} {sp : Sp} (F : FnOk P w K mg base CX j f fd ps sp) (h : j ≤ k) :
    FnOk P w K mg base CX k f fd ps sp := ⟨F.len, fun A outer s H args us vs Q E hr => F.run A outer s H args us vs Q E (hr.mono h)⟩
theorem Env0.make {P : Program} {w : World} {K : PySem.W.Frag} {mg : Str → Option Value} {base : Heap} {A : Around} {outer : List Env} {s : Shared} {H : Hp} (e : Env0 P w K mg base A outer s H) (C : Addr) (us : List Value) (kw : List (Str × Value)) :
    Env0 P w K mg base (A.under (.builtin "type.__call__" ⟨.ref C :: us, kw⟩)) outer s H := ⟨by first | exact e.frames | (simpa [Around.under, Code.envs, Code.isFrame, pushEnvs] using e.frames), e.mod, e.bs, e.bsz, e.funs, e.frf, e.hok, e.bare⟩
section
variable {X : Cx} {pins : List (Addr × Obj)} {σ : St} {H : Hp} {s s' : Shared}
theorem Inv.env0 (I : Inv X pins σ H s) : Env0 X.prog X.w X.K X.mg X.base X.A X.stack s H :=
  ⟨I.ok.frames, I.ok.mod, I.bs, Nat.le_trans I.ok.bsz I.sz, I.stack, I.stkFree, I.hok, I.bare⟩
theorem Inv.after {Q : VK} {u : Value} (I : Inv X pins σ H s) (h : CE X.stack X.prog X.w H s Q u s') : EP X pins σ Q u s' := by
  obtain ⟨v, H', os, bare, un, hok, r, q⟩ := h
  obtain ⟨hh, g, d, t, os'⟩ := s'
  obtain rfl : os' = s.os := os
  exact ⟨v, H', I.call (h' := hh) (g' := g) (d' := d) (t' := t) (ch := []) un hok bare (fun b z => absurd z (by simp)), r, q⟩
end
def tCall (sp : Sp) (dvs : List V) (E : XK) (t : TA) : TE := fun σ H Q => t σ H fun vs H1 => sp (vs ++ dvs) H1 Q E
def tMake (C : Addr) (sp : Sp) (dvs : List V) (E : XK) (t : TA) : TE := fun σ H Q => t σ H fun vs H1 => ∀ x dx, H1 x = none → H1 dx = none → dx ≠ x →
  sp (.ref x :: (vs ++ dvs)) (upd (upd H1 dx (.own x)) x (.ins C dx [])) (fun v H2 => v = .non ∧ Q (.ref x) H2) E
def Binds (K : PySem.W.Frag) (fd : FuncData) (ps : List Str) (ds : List Value) : Prop :=
  ∀ (s : Shared) (us : List Value), K.In s.heap → (us ++ ds).length = ps.length → BindsTo s fd ⟨us, []⟩ (ps.zip (us ++ ds))
theorem Binds.all {K : PySem.W.Frag} {fd : FuncData} {ps : List Str} (h : ∀ us : List Value, us.length = ps.length → bindArgs fd ⟨us, []⟩ = pure (ps.zip us)) : Binds K fd ps [] := fun s us _ hl => by
  rw [List.append_nil] at hl ⊢
  exact .of_eq (h us hl)
def Passes (CX : CXT) (X : Cx) (E : XK) : Prop := ∀ (pins : List (Addr × Obj)) (σ : St) (H : Hp) (s : Shared) (e : Value) (s' : Shared), Inv X pins σ H s → CX X.stack H s E e s' → X.xe e s'
section
variable {X : Cx} {CX : CXT} {k : Nat} {f C : Addr} {fd : FuncData} {ps : List Str} {sp : Sp} {dvs : List V} {ds : List Value} {E : XK} {x m : Str} {p pos apos : Pos} {e o : Expr} {es : List Expr} {ta : TE} {t : TA}
theorem run_fn {pins : List (Addr × Obj)} {σ : St} {H : Hp} {s : Shared} {Q : VK} {us : List Value} {vs : List V} (F : FnOk X.prog X.w X.K X.mg X.base CX k f fd ps sp) (hr : Room k X.A) (hb : Binds X.K fd ps ds) (hd : Vals dvs ds) (hx : Passes CX X E)
    (I : Inv X pins σ H s) (r : Vals vs us) (h : sp (vs ++ dvs) H Q E) : wpAny (model X.prog X.w) X.A (call (.ref f) us) (EP X pins σ Q) X.xe s := by
  have r2 : Vals (vs ++ dvs) (us ++ ds) := r.append hd
  have hl : (us ++ ds).length = ps.length := by rw [← r2.length]; exact F.len _ _ _ _ h
  refine wpAny_call (codeAny_mono (F.run X.A X.stack s H ⟨us, []⟩ (us ++ ds) (vs ++ dvs) Q E hr I.env0 (hb s us I.kIn hl) r2 h) fun r s' hq => ?_)
  cases r with
  | error e => exact hx pins σ H s e s' I hq
  | ok fl =>
    cases fl with
    | ret u => exact I.after hq
    | next => exact False.elim hq
    | brk => exact False.elim hq
    | cont => exact False.elim hq
theorem pe_call (F : FnOk X.prog X.w X.K X.mg X.base CX k f fd ps sp) (hr : Room k X.A) (hg : Gl X x) (hm : X.mg x = some (.ref f)) (hk : PySem.W.keepIn X.K (.ref f) = true) (hb : Binds X.K fd ps ds) (hd : Vals dvs ds) (hx : Passes CX X E)
    (ha : PA X (e :: es) t) (hdb : (x == ("__debug__" : Str)) = false := by decide) (he : starEach (e :: es) X.env = (false, eval e X.env) :: starEach es X.env := by rfl) (hpl : (backTo pos (starEach es X.env)).any (·.1) = false := by rfl) :
    PE X (.Call (.Name x p) (e :: es) [] pos) (tCall sp dvs E t) := by
  intro pins s σ H Q I h
  refine wpAny_Call_Name_kw (ld_glob I hg hm ?_ hdb)
  refine PySem.W.callWith_K (h₀ := X.base) I.ok.mod.kin hk (thn (ha pos pins s σ H _ I h) fun us s1 ⟨vs, H1, I1, r, q⟩ => ⟨I1.kIn, ?_⟩) he hpl
  exact run_fn F hr hb hd hx I1 r q
structure Mk (K : PySem.W.Frag) (C f : Addr) : Prop where
  makes : PySem.W.makesIn K C = true
  init : PySem.W.findIn K (.ref C) "__init__" = some (some (.ref f))
  fn : PySem.W.isFn K (.ref f) = true
  kp : PySem.W.keepIn K (.ref C) = true
theorem run_make {pins : List (Addr × Obj)} {σ : St} {H : Hp} {s : Shared} {Q : VK} {us : List Value} {vs : List V} (M : Mk X.K C f) (F : FnOk X.prog X.w X.K X.mg X.base CX k f fd ps sp) (hr : Room (k + 1) X.A) (hb : Binds X.K fd ps ds) (hd : Vals dvs ds)
    (hx : Passes CX X E) (I : Inv X pins σ H s) (r : Vals vs us)
    (h : ∀ x dx, H x = none → H dx = none → dx ≠ x → sp (.ref x :: (vs ++ dvs)) (upd (upd H dx (.own x)) x (.ins C dx [])) (fun v H2 => v = .non ∧ Q (.ref x) H2) E) :
    wpAny (model X.prog X.w) X.A (call (.ref C) us) (EP X pins σ Q) X.xe s := by
  have hq := h (s.heap.objs.size + 1) s.heap.objs.size (I.hok.fresh (Nat.le_succ _)) (I.hok.fresh (Nat.le_refl _)) (Nat.ne_of_lt (Nat.lt_succ_self _))
  have I2 := Inv.made (C := C) I
  have r2 : Vals (V.ref (s.heap.objs.size + 1) :: (vs ++ dvs)) (Value.ref (s.heap.objs.size + 1) :: (us ++ ds)) := .cons rfl (r.append hd)
  have hl : (Value.ref (s.heap.objs.size + 1) :: us ++ ds).length = ps.length := by
    have e := r2.length
    rw [F.len _ _ _ _ hq] at e
    exact e.symm
  refine wpAny_call (make_map (f := f) I.kIn M.makes M.init (beq_iff_eq.mp M.fn) (codeAny_mono (F.run _ X.stack _ _ ⟨Value.ref (s.heap.objs.size + 1) :: us, []⟩ (Value.ref (s.heap.objs.size + 1) :: (us ++ ds)) _ _ E (hr.make C us [])
    (I2.env0.make C us []) (hb _ (Value.ref (s.heap.objs.size + 1) :: us) I2.kIn hl) r2 hq) fun r s' hq' => ?_))
  cases r with
  | error e => exact hx pins σ _ _ e s' I2 hq'
  | ok fl =>
    cases fl with
    | ret u =>
      obtain ⟨v, H', I3, rv, ev, q3⟩ := I2.after hq'
      subst ev
      exact ⟨rv, ⟨V.ref (s.heap.objs.size + 1), H', I3, rfl, q3⟩⟩
    | next => exact False.elim hq'
    | brk => exact False.elim hq'
    | cont => exact False.elim hq'
theorem pe_make (M : Mk X.K C f) (F : FnOk X.prog X.w X.K X.mg X.base CX k f fd ps sp) (hr : Room (k + 1) X.A) (hg : Gl X x) (hm : X.mg x = some (.ref C)) (hb : Binds X.K fd ps ds) (hd : Vals dvs ds) (hx : Passes CX X E)
    (ha : PA X (e :: es) t) (hdb : (x == ("__debug__" : Str)) = false := by decide) (he : starEach (e :: es) X.env = (false, eval e X.env) :: starEach es X.env := by rfl) (hpl : (backTo pos (starEach es X.env)).any (·.1) = false := by rfl) :
    PE X (.Call (.Name x p) (e :: es) [] pos) (tMake C sp dvs E t) := by
  intro pins s σ H Q I h
  refine wpAny_Call_Name_kw (ld_glob I hg hm ?_ hdb)
  refine PySem.W.callWith_K (h₀ := X.base) I.ok.mod.kin M.kp (thn (ha pos pins s σ H _ I h) fun us s1 ⟨vs, H1, I1, r, q⟩ => ⟨I1.kIn, ?_⟩) he hpl
  exact run_make M F hr hb hd hx I1 r q
end
section
variable {X : Cx} {CX : CXT} {k : Nat} {f C : Addr} {fd : FuncData} {ps ks : List Str} {sp : Sp} {E : XK} {x m : Str} {p pos apos kpos : Pos} {e o : Expr} {es : List Expr} {kws : List Keyword} {te ta : TE} {t tk : TA} {nm : Option Str}
variable {g : List Value → List Value → List Value} {gV : List V → List V → List V}
end
structure FnScope (N P : List Str) (sc : Scope) : Prop where
  kind : sc.kind = .function
  co : sc.isCoroutine = false
  gen : sc.isGenerator = false
  nd : N.Nodup
  pre : N.take P.length = P
  par : ∀ x ∈ P, sc.names.lookup x = some .local ∨ sc.names.lookup x = some .cell
  nofree : ∀ y ∈ sc.names, y.2 ≠ .free
theorem bindL_out {kindOf : Str → Option NameKind} {x : Str} : ∀ {binds : List (Str × Value)} {m : Str → Option Value}, (∀ v, (x, v) ∉ binds) → bindL kindOf binds m x = m x
  | [], _, _ => rfl
  | (n, v) :: r, m, h => by
    unfold bindL
    rw [bindL_out fun w hw => h w (List.mem_cons_of_mem _ hw)]
    split
    · have : x ≠ n := by rintro rfl; exact h v List.mem_cons_self
      simp [this]
    · rfl
theorem bindC_out {kindOf : Str → Option NameKind} {x : Str} : ∀ {binds : List (Str × Value)} {m : Str → Option Value}, (∀ v, (x, v) ∉ binds) → bindC kindOf binds m x = m x
  | [], _, _ => rfl
  | (n, v) :: r, m, h => by
    unfold bindC
    rw [bindC_out fun w hw => h w (List.mem_cons_of_mem _ hw)]
    split
    · rfl
    · have : x ≠ n := by rintro rfl; exact h v List.mem_cons_self
      simp [this]
theorem bindL_get {kindOf : Str → Option NameKind} {x : Str} {v : Value} : ∀ {P : List Str} {vs : List Value} {i : Nat} {m : Str → Option Value}, P.Nodup → P[i]? = some x → vs[i]? = some v → kindOf x = some .local →
    bindL kindOf (P.zip vs) m x = some v
  | [], _, _, _, _, h, _, _ => by simp at h
  | _ :: _, [], _, _, _, _, h, _ => by simp at h
  | p :: P, w :: vs, 0, m, nd, h1, h2, hk => by
    simp at h1 h2; subst h1; subst h2
    show bindL kindOf ((p, w) :: P.zip vs) m p = _
    unfold bindL
    rw [bindL_out fun v hv => (List.nodup_cons.mp nd).1 (List.of_mem_zip hv).1, if_pos hk]
    simp
  | p :: P, w :: vs, i + 1, m, nd, h1, h2, hk => by
    show bindL kindOf ((p, w) :: P.zip vs) m x = _
    unfold bindL
    exact bindL_get (i := i) (List.nodup_cons.mp nd).2 (by simpa using h1) (by simpa using h2) hk
theorem bindC_get {kindOf : Str → Option NameKind} {x : Str} {v : Value} : ∀ {P : List Str} {vs : List Value} {i : Nat} {m : Str → Option Value}, P.Nodup → P[i]? = some x → vs[i]? = some v → kindOf x ≠ some .local →
    bindC kindOf (P.zip vs) m x = some v
  | [], _, _, _, _, h, _, _ => by simp at h
  | _ :: _, [], _, _, _, _, h, _ => by simp at h
  | p :: P, w :: vs, 0, m, nd, h1, h2, hk => by
    simp at h1 h2; subst h1; subst h2
    show bindC kindOf ((p, w) :: P.zip vs) m p = _
    unfold bindC
    rw [bindC_out fun v hv => (List.nodup_cons.mp nd).1 (List.of_mem_zip hv).1, if_neg hk]
    simp
  | p :: P, w :: vs, i + 1, m, nd, h1, h2, hk => by
    show bindC kindOf ((p, w) :: P.zip vs) m x = _
    unfold bindC
    exact bindC_get (i := i) (List.nodup_cons.mp nd).2 (by simpa using h1) (by simpa using h2) hk
def start (N : List Str) (vs : List V) : St := vs.map some ++ List.replicate (N.length - vs.length) none
def cxOf (CX : CXT) (P : Program) (w : World) (K : PySem.W.Frag) (mg : Str → Option Value) (base : Heap) (N : List Str) (qual : Str) (scope : Scope) (f : Addr) (cd : Value) (A : Around) (outer : List Env) (s : Shared) (H : Hp) (E : XK) : Cx where
  prog := P
  w := w
  K := K
  mg := mg
  base := base
  A := A.deeper (envOfC qual scope s.heap.objs.size f cd)
  N := N
  s₀ := s
  H₀ := H
  env := envOfC qual scope s.heap.objs.size f cd
  outer := outer
  stack := envOfC qual scope s.heap.objs.size f cd :: outer
  ex := []
  calm := true
  fn := fun _ => true
  pn := []
  xe := fun e s' => wpAny (model P w) (A.deeper (envOfC qual scope s.heap.objs.size f cd)) (leaving (envOfC qual scope s.heap.objs.size f cd) e) (fun _ s'' => CX outer H s E e s'') (fun e' s'' => CX outer H s E e' s'') s'
theorem cell_has {sc : Scope} {n : Nat} {x : Str} (h : sc.names.lookup x = some .cell) : ∃ c, (cellsFrom n sc.names []).lookup x = some c := by
  have q := PySem.W.cellsFrom_some sc.names n [] (.inl h)
  exact Option.isSome_iff_exists.mp q
theorem inv_start {CX : CXT} {P : Program} {w : World} {K : PySem.W.Frag} {mg : Str → Option Value} {base : Heap} {N ps : List Str} {qual : Str} {scope : Scope} {f : Addr} {cd : Value} {A : Around} {outer : List Env} {s s1 : Shared} {H : Hp} {E : XK} {us : List Value} {vs : List V}
    (S : FnScope N ps scope) (hd : A.handled = none) (e0 : Env0 P w K mg base A outer s H) (hl : vs.length = ps.length) (r : Vals vs us)
    (x : InCallC s s.heap.objs.size (bindL (envOfC qual scope s.heap.objs.size f cd).kindOf (ps.zip us) fun _ => none) (cellsFrom (s.heap.objs.size + 1) scope.names []) (bindC (envOfC qual scope s.heap.objs.size f cd).kindOf (ps.zip us) fun _ => none) s1) :
    Inv (cxOf CX P w K mg base N qual scope f cd A outer s H E) [] (start N vs) H s1 := by
  have hpl : ps.length ≤ N.length := by have := congrArg List.length S.pre; rw [List.length_take] at this; omega
  obtain ⟨h1, tk, rfl, hk⟩ := x.done
  have noA : ∀ b : Addr, b ∉ (cxOf CX P w K mg base N qual scope f cd A outer s H E).ex := fun b z => absurd (show b ∈ ([] : List Addr) from z) (by simp)
  refine ⟨⟨e0.mod, S.kind, rfl, rfl, Nat.le_refl _, fun y z c h1 h2 => ?_, fun y hy => ?_, fun y c _ h => ?_, fun _ => hd, Around.frames_deeper e0.frames, .inr ⟨rfl, rfl⟩, fun b z => absurd z (noA b), e0.bs, e0.bsz, fun b _ _ => noA b, fun b z => absurd z (noA b), e0.funs, e0.frf⟩,
    rfl, e0.bare, Un.kept hk, ⟨_, x.toInCall.ns, fun i y v h1 h2 h3 => ?_⟩, fun y c h => ⟨_, x.cell y c h⟩, e0.hok.fresh (Nat.le_refl _), fun y c h => ?_, fun p hp => absurd (show p ∈ ([] : List (Addr × Obj)) from hp) (by simp), e0.hok.kept hk, ?_⟩
  · exact name_of_addr x.apart (PySem.mem_of_lookup h1) (PySem.mem_of_lookup h2)
  · have hy : scope.names.lookup y = some .cell ∨ scope.names.lookup y = some .free := hy
    rcases hy with hy | hy
    · exact cell_has hy
    · exact absurd rfl (S.nofree _ (PySem.mem_of_lookup hy))
  · exact Nat.le_of_lt (x.above y c (PySem.mem_of_lookup h))
  · have hi : i < vs.length := by
      unfold start at h2
      by_cases hi : i < vs.length
      · exact hi
      · rw [List.getElem?_append_right (by simpa using hi)] at h2
        rw [List.getElem?_replicate] at h2
        split at h2 <;> cases h2
    have ha : vs[i]? = some v := by
      unfold start at h2
      rw [List.getElem?_append_left (by simpa using hi), List.getElem?_map] at h2
      cases e : vs[i]? with
      | none => rw [e] at h2; cases h2
      | some a => rw [e] at h2; cases h2; rfl
    obtain ⟨u, hu, rv⟩ := r.get ha
    have hp : ps[i]? = some y := by
      rw [← S.pre, List.getElem?_take_of_lt (by omega)]; exact h1
    have ndP : ps.Nodup := by rw [← S.pre]; exact S.nd.sublist (List.take_sublist _ _)
    refine ⟨u, rv, ?_⟩
    rcases S.par y (List.mem_of_getElem? hp) with k | k
    · exact .inl ⟨k, bindL_get ndP hp hu k⟩
    · obtain ⟨c, e⟩ := cell_has (n := s.heap.objs.size + 1) k
      refine .inr ⟨.inl k, c, e, ?_⟩
      have q := x.cell y c e
      rw [bindC_get ndP hp hu (by show scope.names.lookup y ≠ _; rw [k]; decide)] at q
      exact q
  · exact e0.hok.fresh (Nat.le_of_lt (x.above y c (PySem.mem_of_lookup h)))
  · unfold start
    show _ = N.length
    rw [List.length_append, List.length_map, List.length_replicate]
    omega
theorem fn_of {CX : CXT} {P : Program} {w : World} {K : PySem.W.Frag} {mg : Str → Option Value} {base : Heap} {k : Nat} {f : Addr} {name qual : Str} {params : Arguments} {body : List Stmt} {scope : Scope} {dV kV doc pm cdv ct oc : Value} {an od : Option Addr}
    {osl : Array (Option Value)} {N ps : List Str} {sp : Sp} (lk : K.lookup f = some ⟨oc, od, .func (PySem.W.fnOf name qual params body scope dV kV doc pm an cdv ct), osl⟩) (hcd : PySem.W.codeIn K cdv qual = true) (S : FnScope N ps scope)
    (len : ∀ vs H Q E, sp vs H Q E → vs.length = ps.length)
    (hbody : ∀ (A : Around) (outer : List Env) (s : Shared) (H : Hp) (vs : List V) (Q : VK) (E : XK), Room k (A.deeper (envOfC qual scope s.heap.objs.size f cdv)) → sp vs H Q E →
      ∃ t, PSs (cxOf CX P w K mg base N qual scope f cdv A outer s H E) body t ∧ t { nx := fun _ H' => Q .non H', rt := Q } (start N vs) H) :
    FnOk P w K mg base CX (k + 1) f (PySem.W.fnOf name qual params body scope dV kV doc pm an cdv ct) ps sp := by
  refine ⟨len, fun A outer s H args us vs Q E hr e0 hb r hsp => ?_⟩
  have hl := len _ _ _ _ hsp
  have KX : K.In s.heap := e0.mod.kin.keeps fun b o e => (e0.bs b o e).1
  have lim : s.heap.NoLimit := e0.mod.nolimit.keeps fun b o e => (e0.bs b o e).1
  have hkind : ∀ y ∈ ps.zip us, scope.names.lookup y.1 = some .local ∨ (scope.names.lookup y.1 = some .cell ∧ ((cellsFrom (s.heap.objs.size + 1) scope.names []).lookup y.1).isSome = true) := fun ⟨n, v⟩ hy => by
    rcases S.par n (List.of_mem_zip hy).1 with q | q
    · exact .inl q
    · exact .inr ⟨q, PySem.W.cellsFrom_some _ _ _ (.inl q)⟩
  refine codeAny_call_function hr.depth (KX _ _ lk) rfl S.co S.gen rfl (PySem.W.codeRec_of KX hcd) (hb _ _ _ _ ?_)
  refine wpAny_newFunctionEnv_cells S.kind hkind fun env he s1 x => ?_
  subst he
  refine ⟨lim.keeps x.toInCall.keep, codeAny_func ?_⟩
  obtain ⟨t, ht, hq⟩ := hbody A outer s H vs Q E (hr.deeper _) hsp
  have I : Inv (cxOf CX P w K mg base N qual scope f cdv A outer s H E) [] (start N vs) H s1 := inv_start S hr.hd e0 hl r x
  refine wpAny_mono (ht [] s1 (start N vs) H _ I hq) (fun fl s' hs => ?_) fun e s' hs => hs
  have fin : ∀ {σ' : St} {H' : Hp} {v : V} {u : Value}, Inv (cxOf CX P w K mg base N qual scope f cdv A outer s H E) [] σ' H' s' → RelV v u → Q v H' → CE outer P w H s Q u s' :=
    fun {σ' H' v u} J rv q => ⟨v, H', J.os, J.bare, J.base, J.hok, rv, q⟩
  cases fl with
  | ret u =>
    obtain ⟨v, σ', H', J, rv, q⟩ := hs
    exact fin J rv q
  | next =>
    obtain ⟨σ', H', J, q⟩ := hs
    exact fin (v := V.non) (u := Value.none) J rfl q
  | brk =>
    obtain ⟨_, _, _, q⟩ := hs
    exact False.elim q
  | cont =>
    obtain ⟨_, _, _, q⟩ := hs
    exact False.elim q
end L2
namespace L2
open PySem PySem.Spec PyProof.Rows
section
variable {X : Cx} {x : Str} {p pos : Pos} {e : Expr} {es : List Expr} {t : TA} {id T : String} {r : List V → Hp → VK → Prop}
def tCB (r : List V → Hp → VK → Prop) (t : TA) : TE := fun σ H Q => t σ H fun vs H1 => r vs H1 Q
theorem pe_callB (hc : CallR X (.builtin id) r) (hg : Gl X x) (hm : X.mg x = none) (hv : bootBuiltins x = some (.builtin id)) (ha : PA X (e :: es) t) (hn : x ≠ "__name__" := by decide) (hdb : (x == ("__debug__" : Str)) = false := by decide)
    (he : starEach (e :: es) X.env = (false, eval e X.env) :: starEach es X.env := by rfl) (hpl : (backTo pos (starEach es X.env)).any (·.1) = false := by rfl) : PE X (.Call (.Name x p) (e :: es) [] pos) (tCB r t) := by
  intro pins s σ H Q I h
  refine wpAny_Call_Name_kw (ld_blt I hg hm hv ?_ hn hdb)
  exact PyProof.Rows.callWith_builtin1 (thn (ha pos pins s σ H _ I h) fun us s1 ⟨vs, H1, I1, r1, q1⟩ => hc pins s1 σ H1 vs us Q I1 r1 q1) he hpl
theorem pe_callTy (hc : CallR X (.type T) r) (hg : Gl X x) (hm : X.mg x = none) (hv : bootBuiltins x = some (.type T)) (ha : PA X (e :: es) t) (hn : x ≠ "__name__" := by decide) (hdb : (x == ("__debug__" : Str)) = false := by decide)
    (he : starEach (e :: es) X.env = (false, eval e X.env) :: starEach es X.env := by rfl) (hpl : (backTo pos (starEach es X.env)).any (·.1) = false := by rfl) : PE X (.Call (.Name x p) (e :: es) [] pos) (tCB r t) := by
  intro pins s σ H Q I h
  refine wpAny_Call_Name_kw (ld_blt I hg hm hv ?_ hn hdb)
  exact PyProof.Rows.callWith_type1 (thn (ha pos pins s σ H _ I h) fun us s1 ⟨vs, H1, I1, r1, q1⟩ => hc pins s1 σ H1 vs us Q I1 r1 q1) he hpl
end
end L2
namespace HT
open PySem PyProof.Rows
section
open PySem.SeqAt
open PySem.AutoSeq1 (wpAny_loadPart')
open PySem.MeetsSeq PySem.MeetsSeq2 PySem.MeetsSeq3
end
section
variable {prog : Program} {w : World} {A : Around} {E : Value → Shared → Prop} {s : Shared}
def sIx (n d : Nat) : Option Int → Nat
  | none => d
  | some v => if v < 0 then (v + (n : Int)).toNat else min v.toNat n
theorem sIx_le (n d : Nat) (hd : d ≤ n) (o : Option Int) : sIx n d o ≤ n := by
  cases o with
  | none => exact hd
  | some v =>
    show (if v < 0 then (v + (n : Int)).toNat else min v.toNat n) ≤ n
    by_cases hv : v < 0
    · rw [if_pos hv]; omega
    · rw [if_neg hv]; exact Nat.min_le_right _ _
end
end HT
namespace L2
open PySem PySem.Spec PyProof.Rows
abbrev TO := St → Hp → (Option Int → Hp → Prop) → Prop
def PO (X : Cx) (e : Option Expr) (t : TO) : Prop :=
  ∀ (pins : List (Addr × Obj)) (s : Shared) (σ : St) (H : Hp) (Q : Option Int → Hp → Prop), Inv X pins σ H s → t σ H Q →
    wpAny (model X.prog X.w) X.A (evalPart e X.env) (fun u s' => ∃ o H', Inv X pins σ H' s' ∧ IsPart u o ∧ Q o H') X.xe s
def tNoPart : TO := fun _ H Q => Q none H
def tPart (t : TE) : TO := fun σ H Q => t σ H fun x H1 => ∃ i, x = .int i ∧ Q (some i) H1
section
variable {X : Cx} {e : Expr} {te : TE} {lo hi : Option Expr} {tl th : TO} {pos p2 : Pos}
theorem po_none : PO X none tNoPart := by
  intro pins s σ H Q I h
  rw [evalPart_none]
  exact wpAny_pure ⟨none, H, I, .none, h⟩
theorem po_some (h : PE X e te) : PO X (some e) (tPart te) := by
  intro pins s σ H Q I hw
  rw [evalPart_some]
  refine thn (h pins s σ H _ I hw) fun u s1 ⟨x, H1, I1, r1, q1⟩ => ?_
  obtain ⟨i, rfl, q⟩ := q1
  obtain ⟨t, rfl⟩ := r1
  exact ⟨some i, H1, I1, .int i t, q⟩
def SlR (X : Cx) (r : V → Option Int → Option Int → Hp → VK → Prop) : Prop :=
  ∀ (pins : List (Addr × Obj)) (s : Shared) (σ : St) (H : Hp) (x : V) (v vl vu : Value) (lo hi : Option Int) (sl : Addr) (Q : VK), Inv X pins σ H s → RelV x v → s.heap.IsSliceOf sl vl vu .none → IsPart vl lo → IsPart vu hi → r x lo hi H Q →
    ∃ T id, typeLookup (.type T) "__getitem__" = pure (some (.builtin id)) ∧ s.TypeIs v T ∧ wpAny (model X.prog X.w) X.A (getItem v (.ref sl)) (EP X pins σ Q) X.xe s
def tSl (r : V → Option Int → Option Int → Hp → VK → Prop) (te : TE) (tl th : TO) : TE := fun σ H Q => te σ H fun x H1 => tl σ H1 fun l H2 => th σ H2 fun u H3 => r x l u H3 Q
theorem pe_slice {r : V → Option Int → Option Int → Hp → VK → Prop} (hr : SlR X r) (he : PE X e te) (hl : PO X lo tl) (hu : PO X hi th) : PE X (.Subscript e (.Slice lo hi none p2) pos) (tSl r te tl th) := by
  intro pins s σ H Q I h
  refine Subscript_ (thn (he pins s σ H _ I h) fun v s1 ⟨x, H1, I1, r1, q1⟩ => ?_)
  refine wpAny_Slice (thn (hl pins s1 σ H1 _ I1 q1) fun vl s2 ⟨l, H2, I2, pl, q2⟩ => thn (hu pins s2 σ H2 _ I2 q2) fun vu s3 ⟨u, H3, I3, pu, q3⟩ => ?_)
  rw [evalPart_none]
  refine wpAny_pure ?_
  have I4 : Inv X pins σ H3 { s3 with heap := s3.heap.push { cls := .type "slice", data := .fields #[vl, vu, .none] } } := I3.kept (t' := s3.toks) fun b ob q => Heap.get?_push_of_some _ q
  obtain ⟨T, id, hT, ht, hg⟩ := hr pins { s3 with heap := s3.heap.push { cls := .type "slice", data := .fields #[vl, vu, .none] } } σ H3 x v vl vu l u s3.heap.objs.size Q I4 r1 (Heap.IsSliceOf.new ..) pl pu q3
  show wpAny (model X.prog X.w) X.A (subscriptTail e (.Slice lo hi none p2) v (.ref s3.heap.objs.size)) (EP X pins σ Q) X.xe { s3 with heap := s3.heap.push { cls := .type "slice", data := .fields #[vl, vu, .none] } }
  exact tail_any (ops := [.ref s3.heap.objs.size, v]) ht hT hg (by with_unfolding_all rfl)
def cutV (xs : List V) (lo hi : Option Int) : List V := (xs.drop (HT.sIx xs.length 0 lo)).take (HT.sIx xs.length xs.length hi - HT.sIx xs.length 0 lo)
theorem cutV_length (xs : List V) (lo hi : Option Int) : (cutV xs lo hi).length ≤ xs.length := by
  unfold cutV
  rw [List.length_take, List.length_drop]
  omega
end
end L2
namespace L2
open PySem PySem.Spec PyProof.Rows
def ixN (n : Nat) (i : Int) : Option Nat := if 0 ≤ i then (if i < n then some i.toNat else none) else if -(n : Int) ≤ i then some (i + n).toNat else none
def atI {α : Type} (xs : List α) (i : Int) : Option α := (ixN xs.length i).bind fun j => xs[j]?
theorem ixN_seq {n : Nat} {i : Int} {j : Nat} (h : ixN n i = some j) : seqIndex? i n = some j ∧ j < n ∧ -(n : Int) ≤ i ∧ i < n := by
  unfold ixN at h
  by_cases h0 : 0 ≤ i
  · rw [if_pos h0] at h
    by_cases h1 : i < n
    · rw [if_pos h1] at h
      have e : i.toNat = j := Option.some.inj h
      exact ⟨by rw [seqIndex_of h0 h1, e], by omega, by omega, h1⟩
    · rw [if_neg h1] at h; cases h
  · rw [if_neg h0] at h
    by_cases h1 : -(n : Int) ≤ i
    · rw [if_pos h1] at h
      have e : (i + n).toNat = j := Option.some.inj h
      exact ⟨by rw [seqIndex_neg (by omega) h1, e], by omega, h1, by omega⟩
    · rw [if_neg h1] at h; cases h
theorem atI_get {α : Type} {xs : List α} {i : Int} {v : α} (h : atI xs i = some v) : ∃ j, seqIndex? i xs.length = some j ∧ xs[j]? = some v ∧ j < xs.length ∧ -(xs.length : Int) ≤ i ∧ i < xs.length := by
  unfold atI at h
  cases e : ixN xs.length i with
  | none => rw [e] at h; cases h
  | some j =>
    rw [e] at h
    obtain ⟨h1, h2, h3, h4⟩ := ixN_seq e
    exact ⟨j, h1, h, h2, h3, h4⟩
theorem atI_nat {α : Type} {xs : List α} {j : Nat} {v : α} (h : xs[j]? = some v) : atI xs (j : Int) = some v := by
  have hj : j < xs.length := (List.getElem?_eq_some_iff.mp h).1
  have e : ixN xs.length (j : Int) = some j := by
    unfold ixN
    rw [if_pos (by omega), if_pos (by omega)]; simp
  unfold atI; rw [e]; exact h
def PlainIx (b : Expr) : Prop := ∀ o i, subscripted b false o i = operate [o, i] (getItem o i)
def IxR (X : Cx) (r : R2) : Prop :=
  ∀ (value slice : Expr) (pins : List (Addr × Obj)) (s : Shared) (σ : St) (H : Hp) (x y : V) (v u : Value) (Q : VK), Inv X pins σ H s → RelV x v → RelV y u → r x y H Q →
    subscripted slice false v u = operate [v, u] (getItem v u) → wpAny (model X.prog X.w) X.A (subscriptTail value slice v u) (EP X pins σ Q) X.xe s
def MtR (X : Cx) (id : String) (r : V → List V → Hp → VK → Prop) : Prop :=
  ∀ (pins : List (Addr × Obj)) (s : Shared) (σ : St) (H : Hp) (x : V) (xs : List V) (v : Value) (us : List Value) (Q : VK), Inv X pins σ H s → RelV x v → Vals xs us → r x xs H Q →
    wpAny (model X.prog X.w) X.A (call (.builtin id) (v :: us)) (EP X pins σ Q) X.xe s
section
variable {X : Cx} {a b : Expr} {ta tb : TE} {pos : Pos}
theorem IxR.or {r r' : R2} (h : IxR X r) (h' : IxR X r') : IxR X (fun x y H Q => r x y H Q ∨ r' x y H Q) := by
  intro value slice pins s σ H x y v u Q I rx ry q hs
  rcases q with q | q
  · exact h value slice pins s σ H x y v u Q I rx ry q hs
  · exact h' value slice pins s σ H x y v u Q I rx ry q hs
theorem pe_ix {r : R2} (hr : IxR X r) (ha : PE X a ta) (hb : PE X b tb) (hs : PlainIx b) : PE X (.Subscript a b pos) (tOp r ta tb) := by
  intro pins s σ H Q I h
  exact Subscript_ (binT ha hb I h fun v u s2 x y H2 I2 rx ry q => hr a b pins s2 σ H2 x y v u Q I2 rx ry q (hs _ _))
def rIxL (K : PySem.W.Frag) : R2 := fun x y H Q => ∃ p xs i v, x = .ref p ∧ y = .int i ∧ SqL K H p xs ∧ atI xs i = some v ∧ Q v H
def rIxT (K : PySem.W.Frag) : R2 := fun x y H Q => ∃ p xs i v, x = .ref p ∧ y = .int i ∧ SqT K H p xs ∧ atI xs i = some v ∧ Q v H
def rIxS : R2 := fun x y H Q => ∃ z i c, x = .str z ∧ y = .int i ∧ z.length ≤ sizeLine ∧ atI z.cps.toList i = some c ∧ Q (.str ⟨#[c]⟩) H
theorem ix_list : IxR X (rIxL X.K) := by
  intro value slice pins s σ H x y v u Q I rx ry h hs
  obtain ⟨p, xs, i, z, rfl, rfl, hq, he, q⟩ := h
  cases rx
  obtain ⟨t, rfl⟩ := ry
  obtain ⟨its, r, pl, hz⟩ := I.list hq
  obtain ⟨j, h1, h2, h3, h4, h5⟩ := atI_get he
  obtain ⟨w, ew, rw'⟩ := r.get h2
  have hl := r.length
  have hn := line63
  have fin : EP X pins σ Q w s := ⟨z, H, I, rw', q⟩
  by_cases h0 : 0 ≤ i
  · have hj : i.toNat = j := by
      rw [seqIndex_of h0 h5] at h1
      exact Option.some.inj h1
    exact item_listR pl.isList h0 (by omega) (by rw [hj]; simpa using ew) fin hs
  · have hj : (i + (its.toArray.size : Int)).toNat = j := by
      rw [seqIndex_neg (by omega) h4] at h1
      rw [List.size_toArray, ← hl]
      exact Option.some.inj h1
    exact subscriptTail_builtinR (x := w) pl.isList.typeIs slot_list_getitem.lookup
      (wpAny_getItem_list_neg (Q := fun r s' => r = w ∧ EP X pins σ Q r s') pl.isList (by omega) (by rw [List.size_toArray] <;> omega) (by omega) (by rw [hj]; simpa using ew) ⟨rfl, fin⟩) hs
theorem ix_tup : IxR X (rIxT X.K) := by
  intro value slice pins s σ H x y v u Q I rx ry h hs
  obtain ⟨p, xs, i, z, rfl, rfl, hq, he, q⟩ := h
  cases rx
  obtain ⟨t, rfl⟩ := ry
  obtain ⟨its, r, pl, hz⟩ := I.tuple hq
  obtain ⟨j, h1, h2, h3, h4, h5⟩ := atI_get he
  obtain ⟨w, ew, rw'⟩ := r.get h2
  have hl := r.length
  have hn := line63
  have fin : EP X pins σ Q w s := ⟨z, H, I, rw', q⟩
  exact subscriptTail_builtinR (x := w) pl.typeIs slot_tuple_getitem.lookup
    (getItem_tuple (j := j) (Q := fun r s' => r = w ∧ EP X pins σ Q r s') pl (by omega) (by omega) (by rw [List.size_toArray, ← hl]; exact h1) (by simpa using ew) ⟨rfl, fin⟩) hs
theorem ix_str : IxR X rIxS := by
  intro value slice pins s σ H x y v u Q I rx ry h hs
  obtain ⟨z, i, c, rfl, rfl, hz, he, q⟩ := h
  obtain ⟨t, rfl⟩ := rx
  obtain ⟨t', rfl⟩ := ry
  obtain ⟨j, h1, h2, h3, h4, h5⟩ := atI_get he
  have hl : z.cps.toList.length = z.length := by simp [Str.length]
  rw [hl] at h1 h4 h5
  have hn := line63
  exact tail_any (typeIs_str s z t) slot_str_getitem.lookup (getItem_str (c := c) (by
    have e1 : decide (i < -(2 ^ 63 : Int)) = false := decide_eq_false (by omega)
    have e2 : decide (i ≥ 2 ^ 63) = false := decide_eq_false (by omega)
    rw [e1, e2, Bool.or_false]) (by rw [h1]; simpa using h2) ⟨.str ⟨#[c]⟩, H, I.tok _, ⟨_, rfl⟩, q⟩) hs
def rIx (K : PySem.W.Frag) : R2 := fun x y H Q => rIxL K x y H Q ∨ rIxT K x y H Q ∨ rIxS x y H Q
theorem ix_seq : IxR X (rIx X.K) := ix_list.or (ix_tup.or ix_str)
theorem Inv.lst {pins : List (Addr × Obj)} {σ : St} {H : Hp} {s : Shared} {p : Addr} {xs : List V} (I : Inv X pins σ H s) (h : H p = some (.lst xs)) :
    ∃ (its : List Value) (n : Nat), Vals xs its ∧ s.heap.get? p = some { cls := .type "list", data := .seq its.toArray n } ∧ xs.length ≤ sizeLine := by
  obtain ⟨z, its, n, r, e⟩ := I.hok p _ h
  exact ⟨its, n, r, e, z⟩
theorem slice_bounds (lo hi : Option Int) (n : Nat) : (sliceBounds lo hi none n).1 = ((HT.sIx n 0 lo : Nat) : Int) ∧ (sliceBounds lo hi none n).2.1 = ((HT.sIx n n hi : Nat) : Int) ∧ (sliceBounds lo hi none n).2.2 = 1 := by
  refine ⟨?_, ?_, rfl⟩
  · cases lo with
    | none => simp [sliceBounds, HT.sIx]
    | some i =>
      simp only [sliceBounds, HT.sIx, Option.getD_none, show (1 : Int) > 0 by decide, if_true]
      by_cases h : i < 0
      · simp only [h, if_true] <;> omega
      · simp only [h, if_false] <;> omega
  · cases hi with
    | none => simp [sliceBounds, HT.sIx]
    | some i =>
      simp only [sliceBounds, HT.sIx, Option.getD_none, show (1 : Int) > 0 by decide, if_true]
      by_cases h : i < 0
      · simp only [h, if_true] <;> omega
      · simp only [h, if_false] <;> omega
theorem slicePick_cut (its : List Value) (lo hi : Option Int) : slicePick its.toArray lo hi none = ((its.drop (HT.sIx its.length 0 lo)).take (HT.sIx its.length its.length hi - HT.sIx its.length 0 lo)).toArray := by
  obtain ⟨h1, h2, h3⟩ := slice_bounds lo hi its.toArray.size
  unfold slicePick
  rw [h1, h2, h3]
  simp only [sliceRange_one, pick_run, List.size_toArray] <;> rfl
def rSlL (K : PySem.W.Frag) : V → Option Int → Option Int → Hp → VK → Prop := fun x lo hi H Q => ∃ a xs, x = .ref a ∧ SqL K H a xs ∧ ∀ p, H p = none → Q (.ref p) (upd H p (.lst (cutV xs lo hi)))
theorem sl_list : SlR X (rSlL X.K) := by
  intro pins s σ H x v vl vu lo hi sl Q I rx hs pl pu h
  obtain ⟨a, xs, rfl, hx, q⟩ := h
  cases rx
  obtain ⟨its, r, ht, hz⟩ := I.list hx
  have hlen := r.length
  refine ⟨"list", _, slot_list_getitem.lookup, ht.isList.typeIs, ?_⟩
  refine wpAny_getItem_list_slice ht.isList hs pl pu .none (by simp) ?_ (by rw [List.size_toArray] <;> omega)
  rw [slicePick_cut, ← hlen]
  refine ⟨.ref s.heap.objs.size, _, I.laid (t' := s.toks) (o := .lst (cutV xs lo hi)) (fun b ob q => Heap.get?_push_of_some _ q) (Nat.le_refl _) ?_, rfl, q _ (I.hok.fresh (Nat.le_refl _))⟩
  exact ⟨Nat.le_trans (cutV_length xs lo hi) hz, _, 0, (r.drop (HT.sIx xs.length 0 lo)).take (HT.sIx xs.length xs.length hi - HT.sIx xs.length 0 lo), Heap.get?_push_size _ rfl⟩
def flatV : V → Bool
  | .non => true
  | .bl _ => true
  | .int _ => true
  | .str _ => true
  | _ => false
def eqV : V → V → Bool
  | .non, .non => true
  | .bl a, .bl b => a == b
  | .bl a, .int b => (if a then 1 else 0) == b
  | .int a, .bl b => a == (if b then 1 else 0)
  | .int a, .int b => a == b
  | .str a, .str b => a == b
  | _, _ => false
theorem eqAt_V {A : Around} {s : Shared} {y x : V} {u v : Value} (ry : RelV y u) (rx : RelV x v) (fy : flatV y = true) (fx : flatV x = true) : SeqAt.EqAt A s u v (eqV y x) := by
  cases y with
  | non =>
    cases ry
    cases x with
    | non => cases rx; exact SeqAt.EqAt.same _
    | bl b => cases rx; exact SeqAt.EqAt.none_bool b
    | int b => obtain ⟨t, rfl⟩ := rx; exact SeqAt.EqAt.none_int b t
    | str b => obtain ⟨t, rfl⟩ := rx; exact SeqAt.EqAt.none_str b t
    | _ => exact absurd (show false = true from fx) Bool.false_ne_true
  | bl a =>
    cases ry
    cases x with
    | non => cases rx; exact SeqAt.EqAt.bool_none a
    | bl b => cases rx; exact SeqAt.EqAt.bool_bool a b
    | int b => obtain ⟨t, rfl⟩ := rx; exact SeqAt.EqAt.bool_int a b t
    | str b => obtain ⟨t, rfl⟩ := rx; exact SeqAt.EqAt.bool_str a b t
    | _ => exact absurd (show false = true from fx) Bool.false_ne_true
  | int a =>
    obtain ⟨t', rfl⟩ := ry
    cases x with
    | non => cases rx; exact SeqAt.EqAt.int_none a t'
    | bl b => cases rx; exact SeqAt.EqAt.int_bool a t' b
    | int b => obtain ⟨t, rfl⟩ := rx; exact SeqAt.EqAt.int_int a t' b t
    | str b => obtain ⟨t, rfl⟩ := rx; exact SeqAt.EqAt.int_str a t' b t
    | _ => exact absurd (show false = true from fx) Bool.false_ne_true
  | str a =>
    obtain ⟨t', rfl⟩ := ry
    cases x with
    | non => cases rx; exact SeqAt.EqAt.str_none a t'
    | bl b => cases rx; exact SeqAt.EqAt.str_bool a t' b
    | int b => obtain ⟨t, rfl⟩ := rx; exact SeqAt.EqAt.str_int a t' b t
    | str b => obtain ⟨t, rfl⟩ := rx; exact SeqAt.EqAt.str_str a t' b t
    | _ => exact absurd (show false = true from fx) Bool.false_ne_true
  | _ => exact absurd (show false = true from fy) Bool.false_ne_true
def eqU (x : V) (u : Value) : Bool := match u with
  | .none => eqV .non x
  | .bool b => eqV (.bl b) x
  | .int i _ => eqV (.int i) x
  | .str z _ => eqV (.str z) x
  | _ => false
theorem eqU_of {x y : V} {u : Value} (r : RelV y u) (f : flatV y = true) : eqU x u = eqV y x := by
  cases y with
  | non => cases r; rfl
  | bl b => cases r; rfl
  | int i => obtain ⟨t, rfl⟩ := r; rfl
  | str z => obtain ⟨t, rfl⟩ := r; rfl
  | _ => exact absurd (show false = true from f) Bool.false_ne_true
theorem any_eqU {x : V} : ∀ {xs : List V} {us : List Value}, Vals xs us → xs.all flatV = true → us.any (eqU x) = xs.any fun y => eqV y x
  | _, _, .nil, _ => rfl
  | y :: xs, u :: us, .cons r t, f => by
    rw [List.all_cons, Bool.and_eq_true] at f
    rw [List.any_cons, List.any_cons, eqU_of r f.1, any_eqU t f.2]
theorem mem_eqAt {A : Around} {s : Shared} {x : V} {v : Value} (rx : RelV x v) (fx : flatV x = true) : ∀ {xs : List V} {us : List Value}, Vals xs us → xs.all flatV = true → ∀ u ∈ us, SeqAt.EqAt A s u v (eqU x u)
  | _, _, .nil, _ => fun u hu => by cases hu
  | y :: xs, u :: us, .cons r t, f => fun u' hu => by
    rw [List.all_cons, Bool.and_eq_true] at f
    rcases List.mem_cons.mp hu with rfl | hu
    · rw [eqU_of r f.1]; exact eqAt_V r rx f.1 fx
    · exact mem_eqAt rx fx t f.2 u' hu
def inV (x : V) (xs : List V) : Bool := xs.any fun y => eqV y x
def rIn (K : PySem.W.Frag) (neg : Bool) : R2 := fun x y H Q => ∃ p xs, y = .ref p ∧ (SqL K H p xs ∨ SqT K H p xs) ∧ flatV x = true ∧ xs.all flatV = true ∧ Q (.bl (if neg then !inV x xs else inV x xs)) H
theorem op_in_seq : OpR X (compareOp .In) (rIn X.K false) := by
  intro pins s σ H x y v u Q I rx ry h
  obtain ⟨p, xs, rfl, hq, fx, fs, q⟩ := h
  cases ry
  rcases hq with hq | hq
  · obtain ⟨its, r, pl, hz⟩ := I.list hq
    refine SeqAt.in_listAt (eqU x) pl.isList (fun w hw => mem_eqAt rx fx r fs w (by simpa using hw)) ⟨.bl _, H, I, rfl, ?_⟩
    rw [show its.toArray.any (eqU x) = its.any (eqU x) by simp, any_eqU r fs]
    exact q
  · obtain ⟨its, r, pl, hz⟩ := I.tuple hq
    refine SeqAt.in_tupleAt (eqU x) pl (fun w hw => mem_eqAt rx fx r fs w (by simpa using hw)) ⟨.bl _, H, I, rfl, ?_⟩
    rw [show its.toArray.any (eqU x) = its.any (eqU x) by simp, any_eqU r fs]
    exact q
theorem op_notIn_seq : OpR X (compareOp .NotIn) (rIn X.K true) := by
  intro pins s σ H x y v u Q I rx ry h
  obtain ⟨p, xs, rfl, hq, fx, fs, q⟩ := h
  cases ry
  rcases hq with hq | hq
  · obtain ⟨its, r, pl, hz⟩ := I.list hq
    refine SeqAt.notIn_listAt (eqU x) pl.isList (fun w hw => mem_eqAt rx fx r fs w (by simpa using hw)) ⟨.bl _, H, I, rfl, ?_⟩
    rw [show its.toArray.any (eqU x) = its.any (eqU x) by simp, any_eqU r fs]
    exact q
  · obtain ⟨its, r, pl, hz⟩ := I.tuple hq
    refine SeqAt.notIn_tupleAt (eqU x) pl (fun w hw => mem_eqAt rx fx r fs w (by simpa using hw)) ⟨.bl _, H, I, rfl, ?_⟩
    rw [show its.toArray.any (eqU x) = its.any (eqU x) by simp, any_eqU r fs]
    exact q
theorem call_len_seq : CallR X (.builtin "len") (fun xs H Q => ∃ p ys, xs = [.ref p] ∧ (SqL X.K H p ys ∨ SqT X.K H p ys) ∧ Q (.int ys.length) H) := by
  intro pins s σ H xs us Q I r h
  obtain ⟨p, ys, rfl, hq, q⟩ := h
  obtain ⟨u, rfl, rx⟩ := vals1 r
  cases rx
  have hn := line63
  rcases hq with hq | hq
  · obtain ⟨its, r', pl, hz⟩ := I.list hq
    have hlen := r'.length
    exact Calls.call_len_list pl.isList (by simp only [List.size_toArray] <;> omega) ⟨.int ys.length, H, I.tok _, ⟨s.toks + 1, by rw [List.size_toArray, hlen]⟩, q⟩
  · obtain ⟨its, r', pl, hz⟩ := I.tuple hq
    have hlen := r'.length
    exact len_tuple pl (by simp only [List.size_toArray] <;> omega) ⟨.int ys.length, H, I.tok _, ⟨s.toks + 1, by rw [List.size_toArray, hlen]⟩, q⟩
theorem call_len_str : CallR X (.builtin "len") (fun xs H Q => ∃ z, xs = [.str z] ∧ z.length ≤ sizeLine ∧ Q (.int z.length) H) := by
  intro pins s σ H xs us Q I r h
  obtain ⟨z, rfl, hz, q⟩ := h
  obtain ⟨u, rfl, t, rfl⟩ := vals1 r
  have hn := line63
  exact len_str (by omega) ⟨.int z.length, H, I.tok _, ⟨_, rfl⟩, q⟩
theorem call_list_of : CallR X (.type "list") (fun xs H Q => ∃ p ys, xs = [.ref p] ∧ (SqL X.K H p ys ∨ SqT X.K H p ys) ∧ ∀ l, H l = none → Q (.ref l) (upd H l (.lst ys))) := by
  intro pins s σ H xs us Q I r h
  obtain ⟨p, ys, rfl, hq, q⟩ := h
  obtain ⟨u, rfl, rx⟩ := vals1 r
  cases rx
  have fin : ∀ (its : List Value), Vals ys its → ys.length ≤ sizeLine → ∀ (h' : Heap) (c' : Nat), (∀ b o', s.heap.get? b = some o' → h'.get? b = some o') →
      h'.get? s.heap.objs.size = some { cls := .type "list", dict := none, data := .seq its.toArray c', slots := #[] } → EP X pins σ Q (.ref s.heap.objs.size) { s with heap := h' } := fun its r' hz h' c' kp e =>
    ⟨.ref s.heap.objs.size, _, I.laid (t' := s.toks) kp (Nat.le_refl _) (show ObjOk X.prog X.w _ h' _ (.lst ys) from ⟨hz, its, c', r', e⟩), rfl, q _ (I.hok.fresh (Nat.le_refl _))⟩
  rcases hq with hq | hq
  · obtain ⟨its, r', pl, hz⟩ := I.list hq
    have hlen := r'.length
    obtain ⟨o, ho, hc, n, hd⟩ := pl.isList
    exact call_list_seq p (.inl rfl) ho hc hd (fun h' c' kp e => fin its r' hz h' c' kp e) (by simp only [List.size_toArray] <;> omega)
  · obtain ⟨its, r', pl, hz⟩ := I.tuple hq
    have hlen := r'.length
    obtain ⟨o, ho, hc, n, hd⟩ := pl
    exact call_list_seq p (.inr rfl) ho hc hd (fun h' c' kp e => fin its r' hz h' c' kp e) (by simp only [List.size_toArray] <;> omega)
theorem call_tuple_of : CallR X (.type "tuple") (fun xs H Q => ∃ p ys, xs = [.ref p] ∧ ((SqL X.K H p ys ∧ ∀ l, H l = none → Q (.ref l) (upd H l (.tup ys))) ∨ (SqT X.K H p ys ∧ Q (.ref p) H))) := by
  intro pins s σ H xs us Q I r h
  obtain ⟨p, ys, rfl, h⟩ := h
  obtain ⟨u, rfl, rx⟩ := vals1 r
  cases rx
  rcases h with ⟨hq, q⟩ | ⟨hq, q⟩
  · obtain ⟨its, r', pl, hz⟩ := I.list hq
    have hlen := r'.length
    refine call_tuple_list pl.isList (fun h' kp => ?_) (by simp only [List.size_toArray] <;> omega)
    have I1 : Inv X pins σ H { s with heap := h' } := I.kept (t' := s.toks) kp
    have I2 : Inv X pins σ (upd H h'.objs.size (.tup ys)) { s with heap := h'.push { cls := .type "tuple", data := .seq its.toArray } } :=
      I1.laid (t' := s.toks) (fun b o e => Heap.get?_push_of_some _ e) (Nat.le_refl _) (show ObjOk X.prog X.w _ _ _ (.tup ys) from ⟨hz, its, r', IsTup.new _ _⟩)
    exact ⟨.ref h'.objs.size, _, I2, rfl, q _ (I1.hok.fresh (Nat.le_refl _))⟩
  · obtain ⟨its, r', pl, hz⟩ := I.tuple hq
    exact call_tuple_same pl ⟨.ref p, H, I, rfl, q⟩
def tyV (K : PySem.W.Frag) (T : String) (x : V) (H : Hp) : Prop := match x with
  | .str _ => T = "str"
  | .int _ => T = "int"
  | .ref p => (T = "list" ∧ ∃ xs, SqL K H p xs) ∨ (T = "tuple" ∧ ∃ o, K.lookup p = some o ∧ o.cls = .type "tuple" ∧ o.dict = none) ∨
      (T = "dict" ∧ ((∃ kvs, H p = some (.dK kvs)) ∨ ∃ kvs, H p = some (.dT kvs))) ∨ (T = "set" ∧ ∃ S n, H p = some (.set S n))
  | _ => False
theorem tyV_is {pins : List (Addr × Obj)} {σ : St} {H : Hp} {s : Shared} {T : String} {x : V} {v : Value} (I : Inv X pins σ H s) (r : RelV x v) (ty : tyV X.K T x H) :
    s.TypeIs v T ∧ ∀ a, v = .ref a → ∃ ob, s.heap.get? a = some ob ∧ ob.dict = none := by
  cases x with
  | str z =>
    obtain ⟨t, rfl⟩ := r
    cases (show T = "str" from ty)
    exact ⟨typeIs_str s z t, fun _ e => nomatch e⟩
  | int i =>
    obtain ⟨t, rfl⟩ := r
    cases (show T = "int" from ty)
    exact ⟨typeIs_int s i t, fun _ e => nomatch e⟩
  | ref p =>
    cases r
    rcases ty with ⟨rfl, xs, hq⟩ | ⟨rfl, o, hk, hc, hd⟩ | ⟨rfl, hk⟩ | ⟨rfl, S, n, hk⟩
    · obtain ⟨its, _, pl, _⟩ := I.list hq
      refine ⟨pl.isList.typeIs, fun a e => ?_⟩
      cases e
      obtain ⟨o, n, e, c, hd, _⟩ := pl
      exact ⟨o, e, hd⟩
    · refine ⟨⟨o, I.kIn p o hk, hc⟩, fun a e => ?_⟩
      cases e
      exact ⟨o, I.kIn _ o hk, hd⟩
    · have z : ∃ o, s.heap.get? p = some o ∧ o.ExactDict := by
        rcases hk with ⟨kvs, hk⟩ | ⟨kvs, hk⟩
        · obtain ⟨_, _, _, _, o, _, _, e, ex, _⟩ := I.hok p _ hk
          exact ⟨o, e, ex⟩
        · obtain ⟨_, _, _, _, o, _, _, e, ex, _⟩ := I.hok p _ hk
          exact ⟨o, e, ex⟩
      obtain ⟨o, e, ex⟩ := z
      refine ⟨⟨o, e, ex.1⟩, fun a e2 => ?_⟩
      cases e2
      exact ⟨o, e, ex.2.1⟩
    · obtain ⟨o, _, _, _, e, ex, _⟩ := I.hok p _ hk
      refine ⟨⟨o, e, ex.1⟩, fun a e2 => ?_⟩
      cases e2
      exact ⟨o, e, ex.2.1⟩
  | _ => exact False.elim ty
def tBM (K : PySem.W.Frag) (T : String) (r : V → List V → Hp → VK → Prop) (to : TE) (t : TA) : TE := fun σ H Q => to σ H fun x H1 => tyV K T x H1 ∧ t σ H1 fun xs H2 => r x xs H2 Q
variable {o e : Expr} {es : List Expr} {to : TE} {t : TA} {name : Str} {apos cpos : Pos} {T id : String} {r : V → List V → Hp → VK → Prop}
theorem pe_bm (pa : PlainAttrs T) (slot : Slot T name id) (hty : typeOf (.builtin id) = pure (.type "method_descriptor")) (hm : MtR X id r) (ho : PE X o to) (ha : PA X (e :: es) t)
    (hbase : attributeBase o name X.env (eval o X.env) = eval o X.env := by rfl)
    (hfew : ((backTo cpos (starEach (e :: es) X.env)).all (fun x => !x.1) && (backToKw cpos (keywordEach [] X.env)).all (fun x => x.1.isSome)
      && decide ((e :: es).length + ([] : List Keyword).length + (if ([] : List Keyword).isEmpty then 0 else 1) < 30)) = true := by rfl)
    (hline : (apos.endLine == cpos.line) = true := by rfl) (hs : starEach (e :: es) X.env = (false, eval e X.env) :: starEach es X.env := by rfl) (hplain : (backTo cpos (starEach es X.env)).any (·.1) = false := by rfl) :
    PE X (.Call (.Attribute o name apos) (e :: es) [] cpos) (tBM X.K T r to t) := by
  intro pins s σ H Q I h
  refine wpAny_Call_method_late hbase hfew hline rfl (thn (ho pins s σ H _ I h) fun v s1 ⟨x, H1, I1, r1, ty, q1⟩ => ?_)
  obtain ⟨h1, h2⟩ := tyV_is I1 r1 ty
  refine ⟨T, id, pa, slot, hty, h1, h2, ?_⟩
  have hA := ha cpos pins s1 σ H1 _ I1 q1
  rw [hs] at hA ⊢
  refine Calls.callWith_builtin (by show (false || (backTo cpos (starEach es X.env)).any (·.1)) = false; rw [hplain] <;> rfl) (Calls.evalArgs_plain ?_)
  exact thn hA fun us s2 ⟨vs, H2, I2, r2, q2⟩ => hm pins s2 σ H2 x vs v us Q I2 r1 r2 q2
end
end L2
namespace L2
open PySem PySem.Spec PyProof.Rows
def MtM (X : Cx) (id : String) (r : V → List V → Hp → VK → Prop) : Prop :=
  ∀ (pins : List (Addr × Obj)) (s : Shared) (σ : St) (H : Hp) (x : V) (xs : List V) (v : Value) (us : List Value) (Q : VK), Inv X pins σ H s → RelV x v → Vals xs us → r x xs H Q →
    wpAny (model X.prog X.w) X.A (call (.builtin id) (v :: us)) (EP X pins σ Q) X.xe s
theorem Vals.one : ∀ {x : V} {us : List Value}, Vals [x] us → ∃ u, us = [u] ∧ RelV x u
  | _, _, .cons r .nil => ⟨_, rfl, r⟩
section
variable {X : Cx} {pins : List (Addr × Obj)} {σ : St} {H : Hp} {s : Shared} {l b : Addr} {xs ys zs : List V}
theorem Inv.lset {its its' : List Value} {n : Nat} {f : Array Value → Array Value} {t' : Nat} (I : Inv X pins σ H s) (hH : H l = some (.lst xs))
    (e : s.heap.get? l = some { cls := .type "list", data := .seq its.toArray n }) (hf : f its.toArray = its'.toArray) (hv : Vals ys its') (hz : ys.length ≤ sizeLine) :
    Inv X pins σ (upd H l (.lst ys)) { s with heap := s.heap.update l (Obj.mapSeq f), toks := t' } := by
  have q := PySem.IsL.update e f
  rw [hf] at q
  refine I.write (x := l) (e := l) (by rw [hH]; exact trivial) (.inl rfl) (fun b' u hb hu => (Heap.get?_update_other s.heap (Obj.mapSeq f) (Ne.symm hb)).trans hu) ⟨_, q⟩ ?_
  exact ⟨hz, its', _, hv, q⟩
theorem Inv.lnew {its : List Value} {t' : Nat} (I : Inv X pins σ H s) (hv : Vals ys its) (hz : ys.length ≤ sizeLine) :
    Inv X pins σ (upd H s.heap.objs.size (.lst ys)) { s with heap := s.heap.push { cls := .type "list", data := .seq its.toArray }, toks := t' } :=
  I.laid (fun _ _ q => Heap.get?_push_of_some _ q) (Nat.le_refl _) ⟨hz, its, 0, hv, Heap.get?_push_size _ rfl⟩
theorem Inv.fresh (I : Inv X pins σ H s) : H s.heap.objs.size = none := I.hok.fresh (Nat.le_refl _)
theorem Inv.lstM (I : Inv X pins σ H s) (hH : H l = some (.lst xs)) : xs.length ≤ sizeLine ∧ ∃ (its : List Value) (n : Nat), Vals xs its ∧ xs.length = its.length ∧ s.heap.get? l = some { cls := .type "list", data := .seq its.toArray n } := by
  obtain ⟨z, its, n, r, e⟩ := I.hok l _ hH
  exact ⟨z, its, n, r, r.length, e⟩
theorem notLongL {n : Nat} (h : n ≤ sizeLine) : Builtin.List.listTooLong n = false := by
  unfold Builtin.List.listTooLong
  exact decide_eq_false (by omega)
end
section
variable {X : Cx}
def rAppend : V → List V → Hp → VK → Prop := fun x vs H Q => ∃ l xs y, x = .ref l ∧ vs = [y] ∧ H l = some (.lst xs) ∧ xs.length < sizeLine ∧ Q .non (upd H l (.lst (xs ++ [y])))
theorem mt_append : MtM X "list.append" rAppend := by
  intro pins s σ H x vs v us Q I rx rv h
  obtain ⟨l, xs, y, rfl, rfl, hH, hz, q⟩ := h
  cases rx
  obtain ⟨u, rfl, ru⟩ := rv.one
  obtain ⟨z, its, n, r, hl, e⟩ := I.lstM hH
  refine call_meets F.slot_list_append ⟨_, e, rfl⟩ F.entry_list_append (F.args_list_append_2 _ _) (PySem.list_append l its.toArray n u (by rw [List.size_toArray]; omega)) ⟨e, ?_⟩
  refine ⟨.non, _, I.lset (its' := its ++ [u]) hH e (by simp) (r.append (.cons ru .nil)) ?_, rfl, q⟩
  rw [List.length_append, List.length_singleton]
  omega
def rExtend : V → List V → Hp → VK → Prop := fun x vs H Q => ∃ l b xs zs, x = .ref l ∧ vs = [.ref b] ∧ H l = some (.lst xs) ∧ H b = some (.lst zs) ∧ xs.length + zs.length ≤ sizeLine ∧ Q .non (upd H l (.lst (xs ++ zs)))
theorem mt_extend : MtM X "list.extend" rExtend := by
  intro pins s σ H x vs v us Q I rx rv h
  obtain ⟨l, b, xs, zs, rfl, rfl, hH, hB, hz, q⟩ := h
  cases rx
  obtain ⟨u, rfl, ru⟩ := rv.one
  cases ru
  obtain ⟨z, its, n, r, hl, e⟩ := I.lstM hH
  obtain ⟨z2, its2, n2, r2, hl2, e2⟩ := I.lstM hB
  have hsz : its.toArray.size + its2.toArray.size ≤ sizeLine := by rw [List.size_toArray, List.size_toArray]; omega
  have hlong : ¬ (!its.toArray.isEmpty && Builtin.List.listTooLong (its.toArray.size + its2.toArray.size)) = true := by
    rw [notLongL hsz, Bool.and_false]
    exact Bool.false_ne_true
  refine call_meets F.slot_list_extend ⟨_, e, rfl⟩ F.entry_list_extend (F.args_list_extend_2 _ _)
    (AutoSeq1.list_extend_list_list_0 l its.toArray n b its2.toArray n2 hlong (by rw [List.size_toArray]; omega) (by omega)) ⟨e, e2, ?_⟩
  refine ⟨.non, _, I.lset (its' := its ++ its2) hH e (by simp) (r.append r2) ?_, rfl, q⟩
  rw [List.length_append]
  omega
def rCat : R2 := fun x y H Q => ∃ l b xs zs, x = .ref l ∧ y = .ref b ∧ H l = some (.lst xs) ∧ H b = some (.lst zs) ∧ xs.length + zs.length ≤ sizeLine ∧ ∀ p, H p = none → Q (.ref p) (upd H p (.lst (xs ++ zs)))
theorem op_cat : OpR X (binaryOp .Add) rCat := by
  intro pins s σ H x y v u Q I rx ry h
  obtain ⟨l, b, xs, zs, rfl, rfl, hH, hB, hz, q⟩ := h
  cases rx
  cases ry
  obtain ⟨z, its, n, r, hl, e⟩ := I.lstM hH
  obtain ⟨z2, its2, n2, r2, hl2, e2⟩ := I.lstM hB
  refine PySem.P.add_list e e2 ?_ (by rw [List.size_toArray, List.size_toArray]; omega)
  have ea : its.toArray ++ its2.toArray = (its ++ its2).toArray := by simp
  rw [ea]
  exact ⟨.ref _, _, I.lnew (t' := s.toks) (r.append r2) (by rw [List.length_append]; omega), rfl, q _ I.fresh⟩
end
section
variable {prog : Program} {w : World} {A : Around} {E : Value → Shared → Prop} {s : Shared}
set_option maxRecDepth 100000 in
end
section
variable {X : Cx}
end
end L2
namespace Att
open PySem PySem.W PySem.Calls PyProof.Rows
theorem ints_of_wellAll {P : Params} {h : Heap} : ∀ (ns : List Int) (vs : List Value), WellAll P h vs (ns.map WData.int) → IntsAre vs ns := by
  intro ns
  induction ns with
  | nil =>
    intro vs w
    rw [List.map_nil] at w
    cases w
    exact .nil
  | cons n ns ih =>
    intro vs w
    rw [List.map_cons] at w
    cases w with
    | cons a b =>
      cases a
      exact .cons _ _ (ih _ b)
theorem script_of {l : OpenLaw} {n : Nat} (hn : l.most = some n) {P : Params} {h : Heap} {args : List WData} {vals : List Value}
    (hpre : l.row.toRowW.claim.pre args = true) (hwl : WellAll P h vals args) :
    ∃ a vs ns, vals = [Value.ref a] ∧ args = [WData.list (ns.map WData.int)] ∧ h.get? a = some { cls := .type "list", data := .seq vs.toArray } ∧ IntsAre vs ns ∧ ns.length ≤ n := by
  have hsh : WShape.hasAll [] args [.list .int] = true := (pre_splitW hpre).1
  have hc : l.pre.holds [] { args := args } = true := (pre_splitW hpre).2
  obtain ⟨d, r, rfl, h1, h2⟩ := hasAllW_cons hsh
  obtain rfl := hasAllW_nil h2
  obtain ⟨xs, rfl, h3⟩ := hasW_list h1
  obtain ⟨ns, rfl⟩ := items_int h3
  have hlen : ns.length ≤ n := by
    unfold OpenLaw.pre at hc
    have h4 : (WTm.not (.lt (.lit (.int (n : Int))) (.len (.arg 0)))).holds [] { args := [.list (ns.map .int)] } = true := by
      have h4 := (holds_andW hc).1
      rw [hn] at h4
      exact h4
    have h5 := condW_of h4 (w_not (w_lt w_lit (w_len_list (w_arg rfl))))
    rw [List.length_map] at h5
    refine Nat.le_of_not_lt fun q => ?_
    have q' : (n : Int) < ((ns.length : Nat) : Int) := by omega
    first
      | (rw [decide_eq_true q'] at h5; exact absurd h5 (by decide))
      | (simp at h5; omega)
  cases hwl with
  | cons w1 w2 =>
    cases w2
    cases w1 with
    | list ho hall => exact ⟨_, _, ns, rfl, rfl, ho, ints_of_wellAll ns _ hall, hlen⟩
theorem post_true (l : OpenLaw) (args : List WData) : l.row.toRowW.claim.post args (.bool true) args = true :=
  postW_of (r := l.row.toRowW) (X := (true == true))
    (show WShape.has [] (.bool true) .bool = true by first | rfl | decide | simp [WShape.has, WShape.arms, WShape.armsAll])
    (show (WTm.eq .res (.lit (.bool true))).value [] { args := args, res := some (.bool true), after := args } = some (.bool (true == true)) from w_eq_bool (w_res rfl) w_lit) rfl
section
variable {prog : Program} {w : World} {A : Around} {E : Value → Shared → Prop} {s : Shared} {K : Frag}
end
end Att
namespace L2
open PySem PySem.Spec PyProof.Rows
theorem vals_ints : ∀ {vs : List Value} {ns : List Int}, IntsAre vs ns → Vals (ns.map V.int) vs
  | _, _, .nil => .nil
  | _, _, .cons n t h => .cons ⟨t, rfl⟩ (vals_ints h)
def Only (H : Hp) : Prop := ∀ b, H b = none ∨ ∃ o xs, H b = some (.frz o (.lst xs))
theorem law_call {P : Program} {w : World} {K : PySem.W.Frag} {mg mb : Str → Option Value} {CX : CXT} {k : Nat} {fa a : Addr} {fd : FuncData} {x : Str} {sp : Sp} {s₁ : Shared} {vs : List Value} {ns : List Int}
    (KX : K.In s₁.heap) (hns : s₁.heap.Ns mainGlobals mg) (hb : s₁.heap.Ns builtinsNs mb) (hbb : ∀ x : Str, x ≠ "__name__" → mb x = bootBuiltins x) (hlim : s₁.heap.NoLimit) (hg : s₁.gens = #[])
    (ha : s₁.heap.get? a = some { cls := .type "list", data := .seq vs.toArray }) (hi : IntsAre vs ns) (hl : ns.length ≤ sizeLine) (hr : Room k callerA)
    (F : ∀ base : Heap, K.In base → base.Ns mainGlobals mg → FnOk P w K mg base CX k fa fd [x] sp) (hbind : ∀ (s : Shared) (u : Value), BindsTo s fd ⟨[u], []⟩ [(x, u)])
    (hsp : ∀ H : Hp, Only H → SqL K H a (ns.map V.int) → sp [.ref a] H (fun v _ => v = .bl true) fun _ _ _ => False)
    (hCX : ∀ H e s', CX [] H s₁ (fun _ _ _ => False) e s' → False) :
    codeAny (model P w) callerA (.call (.ref fa) ⟨[.ref a], []⟩) (fun r s' => r = .ok (.ret (.bool true)) ∧ OldK s₁.heap s'.heap ∧ s'.os = s₁.os ∧ AllBare s'.gens) s₁ := by
  have rv := vals_ints hi
  have lenV := hi.length
  -- from an abstract heap in which nothing but the script may be tracked
  have core : ∀ H : Hp, Only H → SqL K H a (ns.map V.int) → HOk P w H s₁.heap → (∀ b, H b ≠ none → b = a) → (H a ≠ none → K.lookup a = none) →
      codeAny (model P w) callerA (.call (.ref fa) ⟨[.ref a], []⟩) (fun r s' => r = .ok (.ret (.bool true)) ∧ OldK s₁.heap s'.heap ∧ s'.os = s₁.os ∧ AllBare s'.gens) s₁ := by
    intro H hO hS hok hA hK
    have base_of : ∀ {b : Addr} {o : Obj}, s₁.heap.get? b = some o → H b = none → (hidT s₁.heap H).get? b = some o := fun e n => hidT_get e n
    have noA : ∀ {b : Addr} {o : Obj} {es : Array DictEntry} {ep : Nat}, s₁.heap.get? b = some o → o.data = .dict es ep → H b = none := fun {b o es ep} e d => by
      cases q : H b with
      | none => rfl
      | some u =>
        have e' : b = a := hA b (by rw [q]; simp)
        subst e'
        rw [ha] at e; cases e
        have d' : Data.seq vs.toArray _ = Data.dict es ep := d
        cases d'
    have nsK : ∀ {b : Addr} {m : Str → Option Value}, s₁.heap.Ns b m → (hidT s₁.heap H).Ns b m := fun {b m} ⟨o, es, ep, e, d, r⟩ => ⟨o, es, ep, base_of e (noA e d), d, r⟩
    have hKb : K.In (hidT s₁.heap H) := fun b o e => base_of (KX b o e) (by
      cases q : H b with
      | none => rfl
      | some u =>
        have e' : b = a := hA b (by rw [q]; simp)
        subst e'
        rw [hK (by rw [q]; simp)] at e; cases e)
    have hM : Mod K mg (hidT s₁.heap H) := ⟨hKb, nsK hns, ⟨mb, nsK hb, hbb⟩, let ⟨mc, h1, h2⟩ := hlim; ⟨mc, nsK h1, h2⟩⟩
    have e0 : Env0 P w K mg (hidT s₁.heap H) callerA [] s₁ H := ⟨rfl, hM, fun b o e => of_hidT e, Nat.le_of_eq (hidT_size _ _), trivial, fun b hb => absurd (show b ∈ ([] : List Addr) from hb) (by simp), hok, .of_eq hg⟩
    refine codeAny_mono ((F _ hKb (nsK hns)).run callerA [] s₁ H ⟨[.ref a], []⟩ [.ref a] [.ref a] _ _ hr e0 (hbind s₁ (.ref a)) (.cons rfl .nil) (hsp H hO hS)) fun r s' h => ?_
    cases r with
    | error e => exact (hCX H e s' h).elim
    | ok fl =>
      cases fl with
      | next => exact False.elim h
      | brk => exact False.elim h
      | cont => exact False.elim h
      | ret u =>
        obtain ⟨v, H', os, bare, un, hok', r', q⟩ := h
        have q' : v = .bl true := q
        subst q'
        obtain rfl : u = Value.bool true := r'
        refine ⟨rfl, OldK.of_keep fun b o e => ?_, os, bare⟩
        cases q : H b with
        | none => exact un.keep b o e q (by intro z; exact absurd (show b ∈ ([] : List Addr) from z) (by simp)) (by simp)
        | some u =>
          rcases hO b with z | ⟨ob, xs, z⟩
          · rw [q] at z; cases z
          · have z2 := un.frzs b ob _ z
            obtain ⟨e1, _⟩ := hok b _ z
            obtain ⟨e2, _⟩ := hok' b _ z2
            rw [e] at e1; cases e1
            exact e2
  cases hk : K.lookup a with
  | some o =>
    -- the script is one of the module's own objects
    have e := KX a o hk
    rw [ha] at e
    cases e
    refine core (fun _ => none) (fun _ => .inl rfl) (.inr ⟨_, vs.toArray, _, hk, rfl, rfl, rfl, by rw [List.size_toArray, lenV]; exact hl, by simpa using rv⟩) (fun b u z => by have z' : (none : Option HO) = some u := z; cases z') (fun b z => absurd rfl z) fun z => absurd rfl z
  | none =>
    refine core (fun b => if b = a then some (.frz { cls := .type "list", data := .seq vs.toArray } (.lst (ns.map V.int))) else none) (fun b => ?_) (.inl (.inr ⟨{ cls := .type "list", data := .seq vs.toArray }, if_pos rfl⟩)) (fun b u z => ?_) (fun b z => ?_) fun _ => hk
    · by_cases hb : b = a
      · exact .inr ⟨_, _, if_pos hb⟩
      · exact .inl (if_neg hb)
    · by_cases hb : b = a
      · have z' := (if_pos hb).symm.trans z
        cases z'
        subst hb
        exact ⟨ha, by rw [List.length_map]; exact hl, vs, _, rv, ha⟩
      · have z' := (if_neg hb).symm.trans z
        cases z'
    · by_cases hb : b = a
      · exact hb
      · exact absurd (if_neg hb) z
end L2
namespace L2
open PySem PySem.Spec PyProof.Rows
end L2
namespace L2
open PySem PySem.Spec PyProof.Rows
def inClass (s : Stmt) (j : Nat) : Stmt := match s with
  | .ClassDef _ _ _ body _ _ _ _ _ _ _ => body.getD j (.Pass ⟨0, 0, 0, 0⟩)
  | _ => .Pass ⟨0, 0, 0, 0⟩
def defArgs (s : Stmt) : Arguments := match s with
  | .FunctionDef _ a _ _ _ _ _ _ _ _ => a
  | _ => { posonlyargs := [], args := [], vararg := none, kwonlyargs := [], kw_defaults := [], kwarg := none, defaults := [] }
def defBody (s : Stmt) : List Stmt := match s with
  | .FunctionDef _ _ b _ _ _ _ _ _ _ => b
  | _ => []
def defScope (s : Stmt) : Scope := match s with
  | .FunctionDef _ _ _ _ _ _ sc _ _ _ => sc
  | _ => { kind := .function, names := [], isGenerator := false, isCoroutine := false }
abbrev CX0 : CXT := fun _ _ _ _ _ _ => False
abbrev E0 : XK := fun _ _ _ => False
theorem pass0 {X : Cx} : Passes CX0 X E0 := fun _ _ _ _ _ _ _ h => h.elim
structure Fun (K : PySem.W.Frag) (x qual : Str) (st : Stmt) (f : Addr) (fd : FuncData) : Prop where
  ex : ∃ (oc : Value) (od : Option Addr) (kV doc pm : Value) (an : Option Addr) (cdv ct : Value) (osl : Array (Option Value)),
    fd = PySem.W.fnOf x qual (defArgs st) (defBody st) (defScope st) .none kV doc pm an cdv ct ∧ K.lookup f = some ⟨oc, od, .func fd, osl⟩ ∧ PySem.W.codeIn K cdv qual = true
  kp : PySem.W.keepIn K (.ref f) = true
section
variable {P : Program} {w : World} {K : PySem.W.Frag} {mg : Str → Option Value} {base : Heap}
theorem Fun.ok {x qual : Str} {st : Stmt} {f : Addr} {fd : FuncData} {N ps : List Str} {k : Nat} {sp : Sp} (F : Fun K x qual st f fd) (S : FnScope N ps (defScope st)) (len : ∀ vs H Q E, sp vs H Q E → vs.length = ps.length)
    (hbody : ∀ (cdv : Value) (A : Around) (outer : List Env) (s : Shared) (H : Hp) (vs : List V) (Q : VK) (E : XK), Room k (A.deeper (envOfC qual (defScope st) s.heap.objs.size f cdv)) → sp vs H Q E →
      ∃ t, PSs (cxOf CX0 P w K mg base N qual (defScope st) f cdv A outer s H E).nox (defBody st) t ∧ t { nx := fun _ H' => Q .non H', rt := Q } (start N vs) H) : FnOk P w K mg base CX0 (k + 1) f fd ps sp := by
  obtain ⟨oc, od, kV, doc, pm, an, cdv, ct, osl, rfl, lk, hcd⟩ := F.ex
  refine fn_of lk hcd S len fun A outer s H vs Q E hr hsp => ?_
  obtain ⟨t, h, q⟩ := hbody cdv A outer s H vs Q E hr hsp
  exact ⟨t, h.nox, q⟩
theorem Fun.binds {x qual : Str} {st : Stmt} {f : Addr} {fd : FuncData} {ps : List Str} (F : Fun K x qual st f fd)
    (h : ∀ (kV doc pm : Value) (an : Option Addr) (cdv ct : Value) (us : List Value), us.length = ps.length → bindArgs (PySem.W.fnOf x qual (defArgs st) (defBody st) (defScope st) .none kV doc pm an cdv ct) ⟨us, []⟩ = pure (ps.zip us)) : Binds K fd ps [] := by
  obtain ⟨oc, od, kV, doc, pm, an, cdv, ct, osl, rfl, lk, hcd⟩ := F.ex
  exact .all (h kV doc pm an cdv ct)
theorem fun_mk {x qual : Str} {st : Stmt} {f : Addr} {oc : Value} {od an : Option Addr} {osl : Array (Option Value)} {kV doc pm cdv ct : Value} (l : K.lookup f = some ⟨oc, od, .func (PySem.W.fnOf x qual (defArgs st) (defBody st) (defScope st) .none kV doc pm an cdv ct), osl⟩)
    (c : PySem.W.codeIn K cdv qual = true) (k : PySem.W.keepIn K (.ref f) = true) : Fun K x qual st f (PySem.W.fnOf x qual (defArgs st) (defBody st) (defScope st) .none kV doc pm an cdv ct) := ⟨⟨oc, od, kV, doc, pm, an, cdv, ct, osl, rfl, l, c⟩, k⟩
end
theorem hu_of {A : Around} {k : Nat} (hr : Room k A) : A.units + 1 < cLine := Nat.lt_of_le_of_lt (Nat.add_le_add_left (by decide : 1 ≤ 64) _) hr.units
section
variable {X : Cx}
theorem pv (i : Nat) {x : Str} {pos : Pos} (hN : X.N[i]? = some x := by rfl) (hv : Vis X.env.scope x := by first | exact Or.inl rfl | exact Or.inr (Or.inl rfl) | exact Or.inr (Or.inr rfl)) (hd : (x == ("__debug__" : Str)) = false := by decide)
    (hcd : (x == ("__classdict__" : Str)) = false := by decide) : PE X (.Name x pos) (tVar i) := pe_var hN hv hd hcd
end
theorem iteF {A B : Prop} (h : B) : if false = true then A else B := by
  rw [if_neg Bool.false_ne_true]
  exact h
theorem iteT {A B : Prop} (h : A) : if true = true then A else B := by
  rw [if_pos rfl]
  exact h
theorem ite2 {c A B : Prop} [Decidable c] (h1 : c → A) (h2 : ¬ c → B) : if c then A else B := by
  by_cases h : c
  · rw [if_pos h]
    exact h1 h
  · rw [if_neg h]
    exact h2 h
def Same (H H' : Hp) : Prop := ∀ b o, H b = some o → H' b = some o
theorem Same.refl (H : Hp) : Same H H := fun _ _ h => h
theorem Same.trans {H H1 H2 : Hp} (a : Same H H1) (b : Same H1 H2) : Same H H2 := fun c o h => b c o (a c o h)
theorem Same.free {H H' : Hp} (e : Same H H') {l : Addr} (h : H' l = Option.none) : H l = Option.none := by
  cases q : H l with
  | none => rfl
  | some o =>
    rw [e l o q] at h
    cases h
theorem Same.seq {K : PySem.W.Frag} {H H' : Hp} {a : Addr} {xs : List V} (e : Same H H') (h : SqL K H a xs) : SqL K H' a xs := by
  rcases h with (h | ⟨o, h⟩) | h
  · exact .inl (.inl (e _ _ h))
  · exact .inl (.inr ⟨o, e _ _ h⟩)
  · exact .inr h
end L2
set_option Elab.async false
set_option linter.all false
set_option maxRecDepth 100000
namespace L2
open PySem PySem.Spec PyProof.Rows
section
variable {X : Cx}
theorem op_mulO : OpR X (binaryOp .Mult) (rI IntMulOk fun i j => .int (i * j)) := opI fun _ _ _ _ _ _ _ hc q => mul_int q hc
theorem mulOk_abs {i j : Int} (m n : Nat) (hi : i.natAbs < 2 ^ m) (hj : j.natAbs < 2 ^ n) (h : m + n ≤ 134217728) : IntMulOk i j :=
  IntMulOk.of_le (intBits_le_iff.mpr hi) (intBits_le_iff.mpr hj) h
def clsV : V → Value
  | .ty n => .type n
  | .ref a => .ref a
  | _ => .none
def isC : V → Bool
  | .ty _ => true
  | .ref _ => true
  | _ => false
theorem clsV_of {c : V} {u : Value} (h : isC c = true) (r : RelV c u) : u = clsV c := by
  cases c with
  | ty n => exact r
  | ref a => exact r
  | _ => cases h
def rIsi (K : PySem.W.Frag) : List V → Hp → VK → Prop := fun xs H Q => ∃ x c t b, xs = [x, c] ∧ isC c = true ∧ TyOf K H x t ∧ PySem.W.kitOne K t (clsV c) = some b ∧ Q (.bl b) H
theorem call_isi : CallR X (.builtin "isinstance") (rIsi X.K) := by
  intro pins s σ H xs us Q I r h
  obtain ⟨x, c, t, b, rfl, hc, ty, e, q⟩ := h
  obtain ⟨v, u, rfl, r1, r2⟩ := vals2 r
  rw [clsV_of hc r2]
  exact isinst_ok I r1 ty e fun tk => ⟨.bl b, H, I.tok _, rfl, q⟩
def eqVs : List V → List V → Bool
  | [], [] => true
  | x :: xs, y :: ys => eqV x y && eqVs xs ys
  | _, _ => false
theorem eqV_self : ∀ {x : V}, flatV x = true → eqV x x = true := by
  intro x h
  cases x <;> first | rfl | (simp [eqV]; done) | (cases h)
structure MkN (K : PySem.W.Frag) (C : Addr) : Prop where
  makes : PySem.W.makesIn K C = true
  init : PySem.W.findIn K (.ref C) "__init__" = some (some (.builtin "object.__init__"))
  kp : PySem.W.keepIn K (.ref C) = true
theorem make_n {prog : Program} {w : World} {A : Around} {s : Shared} {K : PySem.W.Frag} {C : Addr} {R : Result → Shared → Prop} (X : K.In s.heap) (hm : PySem.W.makesIn K C = true)
    (hi : PySem.W.findIn K (.ref C) "__init__" = some (some (.builtin "object.__init__")))
    (h : R (.ok (.ret (.ref (s.heap.objs.size + 1)))) { s with heap := (s.heap.push PySem.W.emptyDict).push (PySem.W.instObj C s.heap.objs.size) }) :
    codeAny (model prog w) A (.call (.ref C) ⟨[], []⟩) R s := by
  obtain ⟨hh, g, d, t, os⟩ := s
  have Y := PySem.W.makes_of (M := model prog w) X hm
  refine PySem.W.make_core Y (PySem.W.looks_findIn X hi) (fun self => PySem.W.Looks.of_pure (PySem.W.oi_bind self)) (.inr ⟨rfl, rfl⟩) ?_
  have e2 : ((hh.push PySem.W.emptyDict).push (PySem.W.instObj C hh.objs.size)).get? (hh.objs.size + 1) = some (PySem.W.instObj C hh.objs.size) := by
    have := Heap.get?_push_size (hh.push PySem.W.emptyDict) (o := PySem.W.instObj C hh.objs.size) rfl
    rwa [Heap.size_push] at this
  have t1 : PySem.W.Looks (model prog w) ((hh.push PySem.W.emptyDict).push (PySem.W.instObj C hh.objs.size)) (typeOf (.ref (hh.objs.size + 1))) (.ref C) := (PySem.W.Looks.ld e2).andThen .now
  have t2 : PySem.W.Looks (model prog w) ((hh.push PySem.W.emptyDict).push (PySem.W.instObj C hh.objs.size)) (isInstance (.ref (hh.objs.size + 1)) (.type "object")) true := t1.andThen (Y.top.keeps fun b o e => Heap.get?_push_of_some _ (Heap.get?_push_of_some _ e))
  refine codeAny_call_builtin PySem.W.oi_plain PySem.W.entry_oi (@PySem.W.check_slot (model prog w) _ _ _ "object.__init__" "object" "__init__" (.ref (hh.objs.size + 1)) [] [] _ PySem.W.oi_kind PySem.W.oi_split t2 (PySem.W.oi_args (.ref (hh.objs.size + 1))) ?_)
  rw [PySem.W.oi_run]
  exact wpAny_pure (And.intro rfl h)
def tMakeN (C : Addr) : TE := fun _ H Q => ∀ x dx, H x = none → H dx = none → dx ≠ x → Q (.ref x) (upd (upd H dx (.own x)) x (.ins C dx []))
theorem pe_makeN {C : Addr} {x : Str} {p pos : Pos} (M : MkN X.K C) (hg : Gl X x) (hm : X.mg x = some (.ref C)) (hdb : (x == ("__debug__" : Str)) = false := by decide) : PE X (.Call (.Name x p) [] [] pos) (tMakeN C) := by
  intro pins s σ H Q I h
  refine wpAny_Call_Name_kw (ld_glob I hg hm ?_ hdb)
  refine PySem.W.callWith_K0 I.kIn M.kp (wpAny_call (make_n I.kIn M.makes M.init ?_))
  exact ⟨.ref (s.heap.objs.size + 1), _, Inv.made (C := C) I, rfl, h _ _ (I.hok.fresh (Nat.le_succ _)) (I.hok.fresh (Nat.le_refl _)) (Nat.ne_of_lt (Nat.lt_succ_self _))⟩
structure MethI {ι : Type} (P : Program) (w : World) (K : PySem.W.Frag) (mg : Str → Option Value) (base : Heap) (k : Nat) (m : Str) (ps : List Str) (C : ι → Addr) (sp : ι → Sp) : Prop where
  ex : ∀ i, Cls K (C i) ∧ ∃ f fd, Meth K (C i) m f ∧ FnOk P w K mg base CX0 k f fd ps (sp i) ∧ Binds K fd ps []
def tMethI {ι : Type} (m : Str) (C : ι → Addr) (sp : ι → Sp) (ta : TE) (t : TA) : TE := fun σ H Q => ta σ H fun x H1 => ∃ i a dx fs, x = .ref a ∧ H1 a = some (.ins (C i) dx fs) ∧ fs.lookup m = none ∧
  t σ H1 fun vs H2 => sp i (x :: (vs ++ [])) H2 Q E0
theorem pe_methI {ι : Type} {C : ι → Addr} {sp : ι → Sp} {k : Nat} {m : Str} {ps : List Str} {o e : Expr} {es : List Expr} {ta : TE} {t : TA} {apos pos : Pos} {pl : Sem Bool} (M : MethI X.prog X.w X.K X.mg X.base k m ps C sp) (he : PE X o ta) (hr : Room k X.A) (ha : PA X (e :: es) t)
    (hst : starEach (e :: es) X.env = (false, eval e X.env) :: starEach es X.env := by rfl) (hpl : (backTo pos (starEach es X.env)).any (·.1) = false := by rfl)
    (ht : eval (.Call (.Attribute o m apos) (e :: es) [] pos) X.env = (do
      let ov ← eval o X.env
      standAt apos.atName
      let (f, first) ← holding [ov] (getMethod ov m pl)
      callWith pos f first (backTo pos (starEach (e :: es) X.env)) (backToKw pos (keywordEach [] X.env))) := by rfl) :
    PE X (.Call (.Attribute o m apos) (e :: es) [] pos) (tMethI m C sp ta t) := by
  intro pins s σ H Q I h
  refine PySem.W.methodCall_KW (pl := pl) (thn (he pins s σ H _ I h) fun u s1 ⟨x, H1, I1, rx, i, a, dx, fs, ex, ea, l, q⟩ => ?_) ht
  subst ex
  obtain rfl : u = Value.ref a := rx
  obtain ⟨c, f, fd, hm, F, hb⟩ := M.ex i
  refine getmeth_ok I1 ea c hm l ?_
  refine PySem.W.callWith_K (first := [.ref a]) (h₀ := X.base) I.ok.mod.kin hm.kp (thn (ha pos pins s1 σ H1 _ I1 q) fun us s2 ⟨vs, H2, I2, r, q2⟩ => ⟨I2.kIn, ?_⟩) hst hpl
  exact run_fn (us := .ref a :: us) (vs := .ref a :: vs) F hr hb .nil pass0 I2 (.cons rfl r) q2
theorem pe_methI0 {ι : Type} {C : ι → Addr} {sp : ι → Sp} {k : Nat} {m : Str} {ps : List Str} {o : Expr} {ta : TE} {apos pos : Pos} {pl : Sem Bool} (M : MethI X.prog X.w X.K X.mg X.base k m ps C sp) (he : PE X o ta) (hr : Room k X.A)
    (ht : eval (.Call (.Attribute o m apos) [] [] pos) X.env = (do
      let ov ← eval o X.env
      standAt apos.atName
      let (f, first) ← holding [ov] (getMethod ov m pl)
      callWith pos f first (backTo pos (starEach [] X.env)) (backToKw pos (keywordEach [] X.env))) := by rfl) :
    PE X (.Call (.Attribute o m apos) [] [] pos) (tMethI m C sp ta tNil) := by
  intro pins s σ H Q I h
  refine PySem.W.methodCall_KW (pl := pl) (thn (he pins s σ H _ I h) fun u s1 ⟨x, H1, I1, rx, i, a, dx, fs, ex, ea, l, q⟩ => ?_) ht
  subst ex
  obtain rfl : u = Value.ref a := rx
  obtain ⟨c, f, fd, hm, F, hb⟩ := M.ex i
  refine getmeth_ok I1 ea c hm l ?_
  exact PySem.W.callWith_K0 (first := [.ref a]) I1.kIn hm.kp (run_fn (us := [.ref a]) (vs := [.ref a]) F hr hb .nil pass0 I1 (.cons rfl .nil) q)
structure Df (P : Program) (w : World) (K : PySem.W.Frag) (mg : Str → Option Value) (base : Heap) (k : Nat) (x : Str) (ps : List Str) (sp : Sp) : Prop where
  ex : ∃ f fd, mg x = some (.ref f) ∧ PySem.W.keepIn K (.ref f) = true ∧ Binds K fd ps [] ∧ FnOk P w K mg base CX0 k f fd ps sp
theorem pe_callD {k : Nat} {x : Str} {ps : List Str} {sp : Sp} {e : Expr} {es : List Expr} {t : TA} {p pos : Pos} (D : Df X.prog X.w X.K X.mg X.base k x ps sp) (hr : Room k X.A) (hg : Gl X x) (ha : PA X (e :: es) t)
    (hdb : (x == ("__debug__" : Str)) = false := by decide) (he : starEach (e :: es) X.env = (false, eval e X.env) :: starEach es X.env := by rfl) (hpl : (backTo pos (starEach es X.env)).any (·.1) = false := by rfl) :
    PE X (.Call (.Name x p) (e :: es) [] pos) (tCall sp [] E0 t) := by
  obtain ⟨f, fd, hm, hk, hb, F⟩ := D.ex
  exact pe_call F hr hg hm hk hb .nil pass0 ha hdb he hpl
end
structure HasF (K : PySem.W.Frag) (x : Str) (st : Stmt) : Prop where
  ex : ∃ (f : Addr) (fd : FuncData), PySem.W.nsIn K mainGlobals x = some (some (.ref f)) ∧ Fun K x x st f fd
theorem hasF_mk {K : PySem.W.Frag} {x : Str} {st : Stmt} {f : Addr} {oc : Value} {od an : Option Addr} {osl : Array (Option Value)} {kV doc pm cdv ct : Value} (a : PySem.W.nsIn K mainGlobals x = some (some (.ref f)))
    (l : K.lookup f = some ⟨oc, od, .func (PySem.W.fnOf x x (defArgs st) (defBody st) (defScope st) .none kV doc pm an cdv ct), osl⟩)
    (c : PySem.W.codeIn K cdv x = true) (k : PySem.W.keepIn K (.ref f) = true) : HasF K x st := ⟨f, _, a, fun_mk l c k⟩
structure HasC (K : PySem.W.Frag) (x : Str) (C : Addr) : Prop where
  ns : PySem.W.nsIn K mainGlobals x = some (some (.ref C))
  cl : Cls K C
  mkn : MkN K C
theorem hasC_mk {K : PySem.W.Frag} {x : Str} {C : Addr} (a : PySem.W.nsIn K mainGlobals x = some (some (.ref C))) (pg : PySem.W.plainGet K C Str.empty = true) (hd : PySem.W.hasDictIn K C = true) (po : PySem.W.plainOver K C = true)
    (sa : PySem.W.findIn K (.ref C) "__setattr__" = some (some (.builtin "object.__setattr__"))) (mk : PySem.W.makesIn K C = true) (i : PySem.W.findIn K (.ref C) "__init__" = some (some (.builtin "object.__init__"))) (kc : PySem.W.keepIn K (.ref C) = true) : HasC K x C :=
  ⟨a, ⟨pg, hd, po, sa⟩, ⟨mk, i, kc⟩⟩
structure HasM (K : PySem.W.Frag) (C : Addr) (m qual : Str) (st : Stmt) : Prop where
  ex : ∃ (f : Addr) (fd : FuncData), Meth K C m f ∧ Fun K m qual st f fd
theorem hasM_mk {K : PySem.W.Frag} {C : Addr} {m qual : Str} {st : Stmt} {f : Addr} {oc : Value} {od an : Option Addr} {osl : Array (Option Value)} {kV doc pm cdv ct : Value} (a : PySem.W.findIn K (.ref C) m = some (some (.ref f))) (i : PySem.W.isFn K (.ref f) = true)
    (l : K.lookup f = some ⟨oc, od, .func (PySem.W.fnOf m qual (defArgs st) (defBody st) (defScope st) .none kV doc pm an cdv ct), osl⟩)
    (c : PySem.W.codeIn K cdv qual = true) (k : PySem.W.keepIn K (.ref f) = true) : HasM K C m qual st := ⟨f, _, ⟨a, i, k⟩, fun_mk l c k⟩
theorem HasF.df {P : Program} {w : World} {K : PySem.W.Frag} {mg : Str → Option Value} {base : Heap} {k : Nat} {x : Str} {st : Stmt} {N ps : List Str} {sp : Sp} (F : HasF K x st) (Kb : K.In base) (G : base.Ns mainGlobals mg) (S : FnScope N ps (defScope st))
    (hbi : ∀ (kV doc pm : Value) (an : Option Addr) (cdv ct : Value) (us : List Value), us.length = ps.length → bindArgs (PySem.W.fnOf x x (defArgs st) (defBody st) (defScope st) .none kV doc pm an cdv ct) ⟨us, []⟩ = pure (ps.zip us))
    (len : ∀ vs H Q E, sp vs H Q E → vs.length = ps.length)
    (hbody : ∀ (f : Addr) (cdv : Value) (A : Around) (outer : List Env) (s : Shared) (H : Hp) (vs : List V) (Q : VK) (E : XK), Room k (A.deeper (envOfC x (defScope st) s.heap.objs.size f cdv)) → sp vs H Q E →
      ∃ t, PSs (cxOf CX0 P w K mg base N x (defScope st) f cdv A outer s H E).nox (defBody st) t ∧ t { nx := fun _ H' => Q .non H', rt := Q } (start N vs) H) : Df P w K mg base (k + 1) x ps sp := by
  obtain ⟨f, fd, a, F⟩ := F.ex
  exact ⟨f, fd, PySem.W.mg_of Kb G a, F.kp, F.binds hbi, F.ok S len (hbody f)⟩
theorem HasM.fn {P : Program} {w : World} {K : PySem.W.Frag} {mg : Str → Option Value} {base : Heap} {k : Nat} {C : Addr} {m qual : Str} {st : Stmt} {N ps : List Str} {sp : Sp} (F : HasM K C m qual st) (S : FnScope N ps (defScope st))
    (hbi : ∀ (kV doc pm : Value) (an : Option Addr) (cdv ct : Value) (us : List Value), us.length = ps.length → bindArgs (PySem.W.fnOf m qual (defArgs st) (defBody st) (defScope st) .none kV doc pm an cdv ct) ⟨us, []⟩ = pure (ps.zip us))
    (len : ∀ vs H Q E, sp vs H Q E → vs.length = ps.length)
    (hbody : ∀ (f : Addr) (cdv : Value) (A : Around) (outer : List Env) (s : Shared) (H : Hp) (vs : List V) (Q : VK) (E : XK), Room k (A.deeper (envOfC qual (defScope st) s.heap.objs.size f cdv)) → sp vs H Q E →
      ∃ t, PSs (cxOf CX0 P w K mg base N qual (defScope st) f cdv A outer s H E).nox (defBody st) t ∧ t { nx := fun _ H' => Q .non H', rt := Q } (start N vs) H) :
    ∃ f fd, Meth K C m f ∧ FnOk P w K mg base CX0 (k + 1) f fd ps sp ∧ Binds K fd ps [] := by
  obtain ⟨f, fd, a, F⟩ := F.ex
  exact ⟨f, fd, a, F.ok S len (hbody f), F.binds hbi⟩
theorem walk_bits {l : PySem.W.OpenLaw} {n k : Nat} {q : Program} {loose : List Str} {XP : (Str → Option Value) → Heap → Prop} {YP : World → Heap → Prop} {d : DefRec} {K : Params → PySem.W.Frag} {CX : World → CXT} {sp : World → List Int → Sp} {x : Str}
    (hn : l.most = some n) (hn2 : n ≤ sizeLine) (hdf : d.params.defaults = []) (hr : Room k callerA)
    (hY : ∀ (w : World) (h : Heap), YP w h → (K w.params).In h)
    (F : ∀ (w : World) (mg : Str → Option Value) (fa : Addr) (h : Heap), (K w.params).In h → h.Ns mainGlobals mg → mg d.name = some (.ref fa) →
      ∃ fd : FuncData, (∀ (s : Shared) (u : Value), BindsTo s fd ⟨[u], []⟩ [(x, u)]) ∧
        ∀ (base : Heap) (ns : List Int), (K w.params).In base → base.Ns mainGlobals mg → ns.length ≤ n → (∀ i ∈ ns, Builtin.Int.intBits i ≤ 1048576) → FnOk l.prog w (K w.params) mg base (CX w) k fa fd [x] (sp w ns))
    (hsp : ∀ (w : World) (H : Hp) (a : Addr) (ns : List Int), ns.length ≤ n → (∀ i ∈ ns, Builtin.Int.intBits i ≤ 1048576) → Only H → SqL (K w.params) H a (ns.map V.int) → sp w ns [.ref a] H (fun v _ => v = .bl true) fun _ _ _ => False)
    (hCX : ∀ (w : World) (H : Hp) (s : Shared) (e : Value) (s' : Shared), CX w [] H s (fun _ _ _ => False) e s' → False) :
    PySem.W.WalkO q loose XP YP l.row.toRowW d [] (fun f vs => PySem.call f vs) := by
  intro w s₀ s₁ mg mb G Y fa o pm cd doc dV kV ho hd hcd hD hmg hg args vals as hpre hlay hrd hwl hlo
  obtain rfl : dV = .none := PySem.W.Dflts.none hD hdf
  obtain rfl : kV = .none := PySem.W.Dflts.noKw hD
  obtain ⟨a, vs, ns, rfl, rfl, hobj, hints, hlen⟩ := Att.script_of hn hpre hwl
  have hbits : ∀ i ∈ ns, Builtin.Int.intBits i ≤ 1048576 := fun i hi => by
    have h1 := PySem.W.layableW_arg hlay _ (List.mem_singleton.mpr rfl)
    have h2 := PySem.W.layableW_item h1 (.int i) (List.mem_map.mpr ⟨i, hi, rfl⟩)
    have h3 : PyData.layableAll0 [.int i] = true := PySem.W.lay0_int h2
    have h4 : PyData.layable0 (.int i) = true := PySem.W.layable0_of_all h3
    exact intBits_le_of_layable h4
  have KX := hY w _ Y
  obtain ⟨fd, hb, hF⟩ := F w mg fa _ KX G.T.g hmg
  refine PySem.W.enter_call (codeAny_mono (law_call KX G.T.g G.T.b G.T.builtins G.T.nolimit hg hobj hints (Nat.le_trans hlen hn2) hr (fun base kb nb => hF base ns kb nb hlen hbits) hb (fun H hO hS => hsp w H a ns hlen hbits hO hS) fun H e s' => hCX w H s₁ e s') fun r s' hq => ?_)
  obtain ⟨rfl, h2, h3, h4⟩ := hq
  exact ⟨.inl ⟨.bool true, .bool true, [], rfl, fun _ => rfl, .bool true, Att.post_true l _, fun _ => ⟨List.Pairwise.nil, fun _ hm => (nomatch hm)⟩⟩, h2, h3, h4⟩
end L2
namespace L2
open PySem PySem.Spec PyProof.Rows
section
variable {σ : St} {H : Hp} {Q : VK} {D : Ends} {ta tb : TE} {v : V} {i j : Int}
theorem i_C (q : Q v H) : tC v σ H Q := q
theorem i_op {r : R2} (q : ta σ H fun x H1 => tb σ H1 fun y H2 => r x y H2 Q) : tOp r ta tb σ H Q := q
theorem i_un {r : V → Hp → VK → Prop} (q : ta σ H fun x H1 => r x H1 Q) : tUn r ta σ H Q := q
theorem i_I0 {g : Int → Int → V} (q : Q (g i j) H) : rI0 g (.int i) (.int j) H Q := ⟨i, j, rfl, rfl, q⟩
theorem i_mod {g : Int → Int → V} (c : 0 < j) (q : Q (g i j) H) : rI (fun _ j => 0 < j) g (.int i) (.int j) H Q := ⟨i, j, rfl, rfl, c, q⟩
theorem i_div {g : Int → Int → V} (c : 0 < j ∧ j < 1073741824) (q : Q (g i j) H) : rI CDiv g (.int i) (.int j) H Q := ⟨i, j, rfl, rfl, c, q⟩
theorem i_pow {g : Int → Int → V} (c : 0 ≤ j ∧ j ≤ 1000000 ∧ i.natAbs < 2 ^ 64) (q : Q (g i j) H) : rI CPow g (.int i) (.int j) H Q := ⟨i, j, rfl, rfl, c, q⟩
theorem i_mul {g : Int → Int → V} (c : IntMulOk i j) (q : Q (g i j) H) : rI IntMulOk g (.int i) (.int j) H Q := ⟨i, j, rfl, rfl, c, q⟩
theorem i_U {g : Int → V} (q : Q (g i) H) : rU g (.int i) H Q := ⟨i, rfl, q⟩
theorem i_test {t : TE} {Q : Bool → Hp → Prop} (q : t σ H fun x H' => ∃ k, x = .bl k ∧ Q k H') : tTest t σ H Q := q
theorem i_B {t : TE} {Q : Bool → Hp → Prop} (q : t σ H fun x H' => ∃ k, x = .bl k ∧ Q k H') : tB t σ H Q := q
theorem i_bl {b : Bool} {P : Bool → Prop} (q : P b) : ∃ k, V.bl b = V.bl k ∧ P k := ⟨b, rfl, q⟩
theorem i_and {t u : TT} {Q : Bool → Hp → Prop} (q : t σ H fun c H1 => if c = true then u σ H1 Q else Q false H1) : tAnd t u σ H Q := q
theorem i_or {t u : TT} {Q : Bool → Hp → Prop} (q : t σ H fun c H1 => if c = true then Q true H1 else u σ H1 Q) : tOr t u σ H Q := q
theorem i_not {t : TT} {Q : Bool → Hp → Prop} (q : t σ H fun c H1 => Q (!c) H1) : tNot t σ H Q := q
theorem i_andV (q : ta σ H fun x H1 => ∃ c, x = .bl c ∧ if c = true then tb σ H1 Q else Q (.bl false) H1) : tAndV ta tb σ H Q := q
theorem i_notV (q : ta σ H fun x H1 => ∃ c, x = .bl c ∧ Q (.bl (!c)) H1) : tNotV ta σ H Q := q
theorem i_ifS {c : TT} {t u : TS} (q : c σ H fun b H1 => if b = true then t D σ H1 else u D σ H1) : tIfS c t u D σ H := q
theorem i_if {c : TT} (q : c σ H fun b H1 => if b = true then ta σ H1 Q else tb σ H1 Q) : tIf c ta tb σ H Q := q
theorem i_seq {t u : TS} (q : t { D with nx := u D } σ H) : tSeq t u D σ H := q
theorem i_ret (q : ta σ H D.rt) : tRet ta D σ H := q
theorem i_next (q : D.nx σ H) : tNext D σ H := q
theorem i_asg {g : TG} (q : ta σ H fun x H1 => g x σ H1 D.nx) : tAsg ta g D σ H := q
theorem i_name {n : Nat} {Q : St → Hp → Prop} (q : Q (σ.set n (some v)) H) : gName n v σ H Q := q
theorem i_drop (q : ta σ H fun _ H1 => D.nx σ H1) : tDrop ta D σ H := q
theorem i_call {sp : Sp} {dvs : List V} {E : XK} {t : TA} (q : t σ H fun vs H1 => sp (vs ++ dvs) H1 Q E) : tCall sp dvs E t σ H Q := q
theorem i_CB {r : List V → Hp → VK → Prop} {t : TA} (q : t σ H fun vs H1 => r vs H1 Q) : tCB r t σ H Q := q
theorem i_nil {Q : List V → Hp → Prop} (q : Q [] H) : tNil σ H Q := q
theorem i_cons {t : TA} {Q : List V → Hp → Prop} (q : ta σ H fun x H1 => t σ H1 fun xs H2 => Q (x :: xs) H2) : tCons ta t σ H Q := q
theorem i_ixL {K : PySem.W.Frag} {p : Addr} {xs : List V} (h : SqL K H p xs) (a : atI xs i = some v) (q : Q v H) : rIx K (.ref p) (.int i) H Q := .inl ⟨p, xs, i, v, rfl, rfl, h, a, q⟩
theorem i_ixT {K : PySem.W.Frag} {p : Addr} {xs : List V} (h : SqT K H p xs) (a : atI xs i = some v) (q : Q v H) : rIx K (.ref p) (.int i) H Q := .inr (.inl ⟨p, xs, i, v, rfl, rfl, h, a, q⟩)
theorem i_iteI {A B : Prop} (h1 : i = j → A) (h2 : ¬ i = j → B) : if decide (V.int i = V.int j) = true then A else B :=
  ite2 (fun h => h1 (V.int.inj (of_decide_eq_true h))) fun h => h2 fun e => h (decide_eq_true (congrArg V.int e))
theorem i_iteD {c A B : Prop} [Decidable c] (h1 : c → A) (h2 : ¬ c → B) : if decide c = true then A else B :=
  ite2 (fun h => h1 (of_decide_eq_true h)) fun h => h2 fun e => h (decide_eq_true e)
theorem i_iteSf {x y : Str} {A B : Prop} (n : ¬ x = y) (q : B) : if decide (V.str x = V.str y) = true then A else B := by
  rw [decide_eq_false fun e => n (V.str.inj e)]; exact iteF q
theorem Same.upd {H' : Hp} {p : Addr} {o : HO} (s : Same H H') (n : H' p = none) : Same H (L2.upd H' p o) := fun b u e => by
  rw [upd_ne (ne_of_none (s b u e) n)]; exact s b u e
theorem Same.new (n : H p = none) : Same H (L2.upd H p o) := Same.upd (Same.refl H) n
end
end L2
namespace L2
open PySem PySem.Spec PyProof.Rows
section
variable {H : Hp} {Q : VK} {i j : Int} {x y : Str}
theorem i_eqI (q : Q (.bl (decide (V.int i = V.int j))) H) : rEq (.int i) (.int j) H Q := ⟨rfl, q⟩
theorem i_eqS (q : Q (.bl (decide (V.str x = V.str y))) H) : rEq (.str x) (.str y) H Q := ⟨rfl, q⟩
theorem i_neI (q : Q (.bl (!decide (V.int i = V.int j))) H) : rNe (.int i) (.int j) H Q := ⟨rfl, q⟩
theorem i_neS (q : Q (.bl (!decide (V.str x = V.str y))) H) : rNe (.str x) (.str y) H Q := ⟨rfl, q⟩
theorem at_ints {ns : List Int} (k : Nat) (h : k < ns.length) : atI (ns.map V.int) (k : Int) = some (.int (ns.getD k 0)) := by
  refine atI_nat ?_
  rw [List.getElem?_map, List.getElem?_eq_getElem h]
  simp [List.getD, h]
end
end L2
namespace Lap
open PySem L2
inductive Dk where
  | sum | less | times | least | most | pick | same | tell | take
  deriving DecidableEq
def Dk.word : Dk → Str
  | .sum => "sum" | .less => "less" | .times => "times" | .least => "least" | .most => "most" | .pick => "pick" | .same => "same" | .tell => "tell" | .take => "take"
def Dk.need : Dk → Nat
  | .pick => 3 | .same => 1 | .tell => 1 | .take => 1 | _ => 2
def Dk.of : Dk → List Int → Int → Int
  | .sum, ns, m => (ns.getD 0 0 + ns.getD 1 0) % m
  | .less, ns, m => (ns.getD 0 0 - ns.getD 1 0) % m
  | .times, ns, m => ns.getD 0 0 * ns.getD 1 0 % m
  | .least, ns, m => if ns.getD 1 0 % m < ns.getD 0 0 % m then ns.getD 1 0 % m else ns.getD 0 0 % m
  | .most, ns, m => if ns.getD 1 0 % m > ns.getD 0 0 % m then ns.getD 1 0 % m else ns.getD 0 0 % m
  | .pick, ns, m => if ns.getD 0 0 % m = 0 then ns.getD 2 0 % m else ns.getD 1 0 % m
  | _, ns, m => ns.getD 0 0 % m
def spOf (K : PySem.W.Frag) (d : Dk) : Sp := fun vs H Q _ => ∃ (a p : Addr) (ns : List Int) (m : Int), vs = [.ref a, .ref p, .int m] ∧ SqL K H p (ns.map V.int) ∧ d.need ≤ ns.length ∧ 0 < m ∧
  (d = .times → IntMulOk (ns.getD 0 0) (ns.getD 1 0)) ∧ Q (.int (d.of ns m)) H
end Lap
namespace L2
open PySem PySem.Spec PyProof.Rows
section
variable {σ : St} {H : Hp} {Q : VK} {D : Ends}
theorem i_methI {ι : Type} {m : Str} {C : ι → Addr} {sp : ι → Sp} {ta : TE} {t : TA} (q : ta σ H fun x H1 => ∃ i a dx fs, x = .ref a ∧ H1 a = some (.ins (C i) dx fs) ∧ fs.lookup m = none ∧ t σ H1 fun vs H2 => sp i (x :: (vs ++ [])) H2 Q E0) : tMethI m C sp ta t σ H Q := q
theorem i_for {wi : TI} {g : TG} {tb : TS} (q : wi σ H fun J H1 => ∃ W : Nat → Nat → St → Hp → Prop, (∃ m, W 0 m σ H1) ∧ ∀ i m σ H, W i m σ H →
  (J.stop i H ∧ D.nx σ H) ∨ (J.go i H ∧ ∃ N : St → Hp → Prop, (∀ σ' H', N σ' H' → ∃ m', m' < m ∧ W (i + 1) m' σ' H') ∧ ∀ x H', J.yld i H x H' → g x σ H' fun σ2 H2 => tb { D with nx := N, ct := N, bk := D.nx } σ2 H2)) : tFor wi g tb D σ H := q
theorem i_rng1 {ta : TA} {R : It → Hp → Prop} (q : ta σ H fun vs H1 => ∃ j : Int, vs = [.int j] ∧ -(2 ^ 62) ≤ j ∧ j < 2 ^ 62 ∧ R (Itr 0 j.toNat) H1) : iRng1 ta σ H R := q
theorem i_list {K : PySem.W.Frag} {tl : TE} {R : It → Hp → Prop} (q : tl σ H fun x H1 => ∃ a, x = .ref a ∧ (∃ xs, SqL K H1 a xs) ∧ R (Itl K a) H1) : iList K tl σ H R := q
end
end L2
namespace L2
theorem iteNT {A B : Prop} (h : B) : if (!true) = true then A else B := iteF h
theorem iteNF {A B : Prop} (h : A) : if (!false) = true then A else B := iteT h
end L2
namespace L2
open PySem PySem.Spec PyProof.Rows
def noStar : Expr → Bool
  | .Starred _ _ => false
  | _ => true
theorem se {e : Expr} {es : List Expr} {env : Env} (h : noStar e = true) : starEach (e :: es) env = (false, eval e env) :: starEach es env := by
  cases e <;> first | rfl | cases h
theorem nst {es : List Expr} {env : Env} {pos : Pos} (h : es.all noStar = true) : (backTo pos (starEach es env)).any (·.1) = false := by
  induction es with
  | nil => rfl
  | cons e es ih =>
    rw [List.all_cons, Bool.and_eq_true] at h
    rw [se h.1]
    show (false || (backTo pos (starEach es env)).any (·.1)) = false
    rw [ih h.2]
    rfl
end L2
set_option Elab.async false
set_option linter.all false
set_option maxRecDepth 100000
namespace L2
open PySem PySem.Spec PyProof.Rows
def capL (env : Env) : List (Str × NameKind) → List (Str × Addr) → List (Str × Addr)
  | [], cs => cs
  | (n, k) :: r, cs => if k == .free then capL env r ((n, (env.cells.lookup n).getD 0) :: cs) else capL env r cs
theorem closure_run {env : Env} : ∀ (names : List (Str × NameKind)) (cs : List (Str × Addr)), (∀ y ∈ names, y.2 = .free → ∃ c, env.cells.lookup y.1 = some c) →
    (forIn names cs fun (x : Str × NameKind) (r : List (Str × Addr)) => (do
      if x.2 == .free then
        let a ← cellOf env x.1
        pure (ForInStep.yield ((x.1, a) :: r))
      else pure (ForInStep.yield r) : Sem (ForInStep (List (Str × Addr))))) = pure (capL env names cs)
  | [], cs, _ => rfl
  | (n, k) :: r, cs, h => by
    have ih := fun cs => closure_run (env := env) r cs fun y hy => h y (List.mem_cons_of_mem _ hy)
    rw [List.forIn_cons]
    by_cases hk : (k == NameKind.free) = true
    · have hk' : k = .free := by simpa using hk
      obtain ⟨c, hc⟩ := h (n, k) List.mem_cons_self hk'
      have hc' : env.cells.lookup n = some c := hc
      simp only [capL, hk, if_true, cellOf, hc', Option.getD_some, pure_bind]
      exact ih _
    · simp only [capL, hk, if_false, pure_bind, Bool.false_eq_true]
      exact ih _
theorem closure_eq {scope : Scope} {env : Env} (h : ∀ y ∈ scope.names, y.2 = .free → ∃ c, env.cells.lookup y.1 = some c) : closureFor scope env = pure (capL env scope.names []) := by
  have e := closure_run scope.names [] h
  unfold closureFor
  simp only [← e, bind_pure]
theorem capL_sub {env : Env} {y : Str} {c : Addr} : ∀ (names : List (Str × NameKind)) (cs : List (Str × Addr)), (∀ y ∈ names, y.2 = .free → ∃ c, env.cells.lookup y.1 = some c) →
    (∀ y c, cs.lookup y = some c → env.cells.lookup y = some c) → (capL env names cs).lookup y = some c → env.cells.lookup y = some c
  | [], cs, _, hs, e => hs y c e
  | (n, k) :: r, cs, h, hs, e => by
    have h' : ∀ y ∈ r, y.2 = .free → ∃ c, env.cells.lookup y.1 = some c := fun y hy => h y (List.mem_cons_of_mem _ hy)
    by_cases hk : (k == NameKind.free) = true
    · have hk' : k = .free := by simpa using hk
      obtain ⟨d, hd⟩ := h (n, k) List.mem_cons_self hk'
      simp only [capL, hk, if_true] at e
      refine capL_sub r _ h' (fun z c' q => ?_) e
      rw [List.lookup_cons] at q
      cases hz : z == n with
      | true =>
        rw [hz] at q
        have hz' : z = n := by simpa using hz
        subst hz'
        have hd' : env.cells.lookup z = some d := hd
        rw [hd', Option.getD_some] at q
        rw [hd']; exact q
      | false => rw [hz] at q; exact hs z c' q
    · simp only [capL, hk, if_false, Bool.false_eq_true] at e
      exact capL_sub r cs h' hs e
theorem capL_keep {env : Env} {y : Str} : ∀ (names : List (Str × NameKind)) (cs : List (Str × Addr)), (∃ c, cs.lookup y = some c) → ∃ c, (capL env names cs).lookup y = some c
  | [], cs, h => h
  | (n, k) :: r, cs, h => by
    by_cases hk : (k == NameKind.free) = true
    · simp only [capL, hk, if_true]
      refine capL_keep r _ ?_
      rw [List.lookup_cons]
      cases y == n with
      | true => exact ⟨_, rfl⟩
      | false => exact h
    · simp only [capL, hk, if_false, Bool.false_eq_true]
      exact capL_keep r cs h
theorem capL_has {env : Env} {y : Str} : ∀ (names : List (Str × NameKind)) (cs : List (Str × Addr)), (y, NameKind.free) ∈ names → ∃ c, (capL env names cs).lookup y = some c
  | (n, k) :: r, cs, h => by
    rcases List.mem_cons.mp h with e | h
    · cases e
      exact capL_keep r _ ⟨(env.cells.lookup y).getD 0, by rw [List.lookup_cons, beq_self_eq_true]⟩
    · by_cases hk : (k == NameKind.free) = true
      · simp only [capL, hk, if_true]; exact capL_has r _ h
      · simp only [capL, hk, if_false, Bool.false_eq_true]; exact capL_has r cs h
theorem lookup_mem {α : Type} {x : Str} {k : α} : ∀ {l : List (Str × α)}, l.lookup x = some k → (x, k) ∈ l
  | [], h => by simp at h
  | (n, k') :: r, h => by
    rw [List.lookup_cons] at h
    cases hx : x == n with
    | true =>
      rw [hx] at h
      have : x = n := by simpa using hx
      subst this; cases h; exact List.mem_cons_self
    | false => rw [hx] at h; exact List.mem_cons_of_mem _ (lookup_mem h)
theorem relabel_look {env : Env} {y : Str} {k : NameKind} : ∀ {names : List (Str × NameKind)}, (∀ z ∈ names, z.2 ≠ .cell) →
    (names.map fun (n, k) => if (k == NameKind.free && env.scope.kind == .function && env.kindOf n == some .cell) then (n, NameKind.cell) else (n, k)).lookup y = some k →
    names.lookup y = some k ∨ (k = .cell ∧ names.lookup y = some .free)
  | [], _, h => by simp at h
  | (n, k') :: r, hc, h => by
    have ih := @relabel_look env y k r fun z hz => hc z (List.mem_cons_of_mem _ hz)
    rw [List.map_cons, List.lookup_cons] at h
    rw [List.lookup_cons]
    by_cases hk : (k' == NameKind.free && env.scope.kind == .function && env.kindOf n == some .cell) = true
    · have h' := h
      rw [if_pos hk] at h'
      dsimp only at h'
      cases hy : y == n with
      | true =>
        rw [hy] at h'
        have e1 : NameKind.cell = k := Option.some.inj h'
        have e2 : k' = .free := by
          rw [Bool.and_eq_true, Bool.and_eq_true] at hk
          simpa using hk.1.1
        exact .inr ⟨e1.symm, by rw [e2]⟩
      | false => rw [hy] at h'; exact ih h'
    · have h' := h
      rw [if_neg hk] at h'
      dsimp only at h'
      cases hy : y == n with
      | true => rw [hy] at h'; exact .inl h'
      | false => rw [hy] at h'; exact ih h'
def blk (X : Cx) (scope : Scope) (x : Str) (caps : List Str) (C : Addr) (s₀ : Shared) (H₀ : Hp) (ex : List Addr) : Cx :=
  { X with N := x :: caps, env := compEnvC scope (capL X.env scope.names []) C X.env, s₀ := s₀, H₀ := H₀, outer := X.stack, stack := X.stack, ex := ex, fn := fun _ => false, xe := fun _ _ => False }
structure Blk (X : Cx) (scope : Scope) (x : Str) (caps : List Str) (ix : List Nat) : Prop where
  kind : scope.kind = .function
  cell : ∀ y ∈ scope.names, y.2 ≠ .cell
  loc : scope.names.lookup x = some .local
  names : ∀ y ∈ scope.names, y.2 = .local → scope.names.lookup y.1 = some .local
  free : ∀ y ∈ scope.names, y.2 = .free → X.env.kindOf y.1 = some .cell ∨ X.env.kindOf y.1 = some .free
  len : caps.length = ix.length
  nd : (x :: caps).Nodup
  ix : ∀ (j : Nat) (y : Str) (i : Nat), caps[j]? = some y → ix[j]? = some i → X.N[i]? = some y ∧ scope.names.lookup y = some .free
def capV (ix : List Nat) (σ : St) : St := ix.map fun i => (σ[i]?).join
theorem Blk.cells {X : Cx} {scope : Scope} {x : Str} {caps : List Str} {ix : List Nat} (B : Blk X scope x caps ix) (ok : X.Ok) : ∀ y ∈ scope.names, y.2 = .free → ∃ c, X.env.cells.lookup y.1 = some c :=
  fun y hy e => ok.has y.1 (B.free y hy e)
theorem Blk.sub {X : Cx} {scope : Scope} {x : Str} {caps : List Str} {ix : List Nat} (B : Blk X scope x caps ix) (ok : X.Ok) {y : Str} {c : Addr} (e : (capL X.env scope.names []).lookup y = some c) : X.env.cells.lookup y = some c :=
  capL_sub _ _ (B.cells ok) (fun _ _ q => by simp at q) e
theorem Blk.freeOf {X : Cx} {scope : Scope} {x : Str} {caps : List Str} {ix : List Nat} {C : Addr} (B : Blk X scope x caps ix) {y : Str} {k : NameKind} (e : (compEnvC scope (capL X.env scope.names []) C X.env).kindOf y = some k) (hk : k = .cell ∨ k = .free) : scope.names.lookup y = some .free := by
  rcases relabel_look (env := X.env) B.cell (show (scope.names.map _).lookup y = some k from e) with q | ⟨_, q⟩
  · rcases hk with rfl | rfl
    · exact absurd rfl (B.cell _ (lookup_mem q))
    · exact q
  · exact q
def blkOk (sc scope : Scope) (N : List Str) (x : Str) (caps : List Str) (ix : List Nat) : Bool :=
  scope.kind == .function && scope.names.all (fun y => y.2 != .cell) && scope.names.lookup x == some .local && scope.names.all (fun y => y.2 != .local || scope.names.lookup y.1 == some .local) &&
  scope.names.all (fun y => y.2 != .free || (sc.names.lookup y.1 == some .cell || sc.names.lookup y.1 == some .free)) && caps.length == ix.length && decide (x :: caps).Nodup &&
  (caps.zip ix).all (fun p => N[p.2]? == some p.1 && scope.names.lookup p.1 == some .free)
theorem Blk.of {X : Cx} {scope : Scope} {x : Str} {caps : List Str} {ix : List Nat} (h : blkOk X.env.scope scope X.N x caps ix = true) : Blk X scope x caps ix := by
  unfold blkOk at h
  simp only [Bool.and_eq_true] at h
  obtain ⟨⟨⟨⟨⟨⟨⟨h1, h2⟩, h3⟩, h4⟩, h5⟩, h6⟩, h7⟩, h8⟩ := h
  refine ⟨by simpa using h1, fun y hy => by simpa using List.all_eq_true.mp h2 y hy, by simpa using h3, fun y hy e => ?_, fun y hy e => ?_, by simpa using h6, of_decide_eq_true h7, fun j y i e1 e2 => ?_⟩
  · have := List.all_eq_true.mp h4 y hy
    rw [e] at this
    simpa using this
  · have := List.all_eq_true.mp h5 y hy
    rw [e] at this
    have this : (X.env.scope.names.lookup y.1 == some NameKind.cell || X.env.scope.names.lookup y.1 == some NameKind.free) = true := by simpa using this
    rw [Bool.or_eq_true] at this
    rcases this with z | z
    · exact .inl (show X.env.scope.names.lookup y.1 = _ by simpa using z)
    · exact .inr (show X.env.scope.names.lookup y.1 = _ by simpa using z)
  · have hm : (y, i) ∈ caps.zip ix := by
      refine List.mem_iff_getElem?.mpr ⟨j, ?_⟩
      rw [List.getElem?_zip_eq_some]
      exact ⟨e1, e2⟩
    have := List.all_eq_true.mp h8 _ hm
    rw [Bool.and_eq_true] at this
    exact ⟨by simpa using this.1, by simpa using this.2⟩
def PF (X : Cx) (ifs : List Expr) (t : TT) : Prop :=
  ∀ (pins : List (Addr × Obj)) (s : Shared) (σ : St) (H : Hp) (Q : Bool → Hp → Prop), Inv X pins σ H s → t σ H Q →
    wpAny (model X.prog X.w) X.A (forIn ifs true fun c r => if r = true then do let ok ← isTrue c X.env (eval c X.env); pure (ForInStep.yield ok) else pure (ForInStep.yield r)) (TP X pins σ Q) X.xe s
def tYes : TT := fun _ H Q => Q true H
theorem pf_nil {X : Cx} : PF X [] tYes := fun _ _ _ H _ I h => wpAny_tests_nil ⟨H, I, h⟩
theorem pf_one {X : Cx} {c : Expr} {t : TT} (h : PT X c t) : PF X [c] t := fun pins s σ H Q I q => wpAny_tests_one (h pins s σ H Q I q)
def tLc (wi : TI) (tf : TT) (te : TE) (ix : List Nat) : TE := fun σ H Q => wi σ H fun J H1 => ∀ D, H1 D = none → ∃ W : Nat → Nat → List V → Hp → Prop, (∃ m, W 0 m [] (upd H1 D (.lst []))) ∧ ∀ i m ys H, W i m ys H →
  H D = some (.lst ys) ∧ ((J.stop i H ∧ Q (.ref D) H) ∨ (J.go i H ∧ ys.length < sizeLine ∧ ∀ x H', J.yld i H x H' → tf (some x :: capV ix σ) H' fun b H2 =>
    if b = true then te (some x :: capV ix σ) H2 fun y H3 => H3 D = some (.lst ys) ∧ ∃ m', m' < m ∧ W (i + 1) m' (ys ++ [y]) (upd H3 D (.lst (ys ++ [y]))) else ∃ m', m' < m ∧ W (i + 1) m' ys H2))
section
variable {X : Cx} {scope : Scope} {x : Str} {caps : List Str} {ix : List Nat} {pins : List (Addr × Obj)} {σ : St} {H : Hp} {s : Shared}
theorem blk_ok (B : Blk X scope x caps ix) (I : Inv X pins σ H s) {fp : List Addr} (f : ∀ b ∈ fp, FpOk X pins H b) (fo : ∀ b ∈ fp, b < s.heap.objs.size) : (blk X scope x caps s.heap.objs.size s H fp).Ok where
  mod := I.ok.mod
  kind := B.kind
  glob := I.ok.glob
  blt := I.ok.blt
  above := Nat.le_refl _
  inj := fun y z c e1 e2 => I.ok.inj y z c (B.sub I.ok e1) (B.sub I.ok e2)
  has := fun y h => by
    have q : scope.names.lookup y = some .free := by
      rcases h with h | h
      · exact B.freeOf h (.inl rfl)
      · exact B.freeOf h (.inr rfl)
    exact capL_has _ _ (lookup_mem q)
  cab := fun _ _ h => nomatch h
  hd := I.ok.hd
  frames := I.ok.frames
  stk := .inl rfl
  exf := fun b hb => ⟨Nat.ne_of_lt (fo b hb), fun y c e => (f b hb).2.2.2.2.1 y c (B.sub I.ok e)⟩
  bs := I.bs
  bsz := Nat.le_trans I.ok.bsz I.sz
  noex := fun b o e hb => by
    rcases (f b hb).2.2.2.1 with z | z
    · exact I.ok.noex b o e z
    · have := (I.ok.bs b o e).1; rw [z] at this; cases this
  exfs := fun b hb z => by
    rcases List.mem_cons.mp (I.stkSub b z) with q | q
    · exact (f b hb).2.1 q
    · exact (f b hb).2.2.1 q
  funs := I.stack
  frf := I.stkFree
theorem capV_get {j : Nat} {v : V} (h : (capV ix σ)[j]? = some (some v)) : ∃ i, ix[j]? = some i ∧ σ[i]? = some (some v) := by
  unfold capV at h
  rw [List.getElem?_map] at h
  cases e : ix[j]? with
  | none => rw [e] at h; cases h
  | some i =>
    rw [e] at h
    have h' : (σ[i]?).join = some v := Option.some.inj h
    refine ⟨i, rfl, ?_⟩
    cases q : σ[i]? with
    | none => rw [q] at h'; cases h'
    | some o => rw [q] at h'; exact congrArg some h'
theorem blk_inv (B : Blk X scope x caps ix) (I : Inv X pins σ H s) {fp : List Addr} (f : ∀ b ∈ fp, FpOk X pins H b) (fo : ∀ b ∈ fp, b < s.heap.objs.size) {h' : Heap} {t' : Nat} (hn : h'.Ns s.heap.objs.size (fun _ => none)) (k : ∀ b o, s.heap.get? b = some o → h'.get? b = some o) :
    Inv (blk X scope x caps s.heap.objs.size s H fp) pins (none :: capV ix σ) H { s with heap := h', toks := t' } where
  ok := blk_ok B I f fo
  os := rfl
  bare := I.bare
  base := Un.kept k
  loc := by
    refine ⟨_, hn, fun i y v e1 e2 e3 => ?_⟩
    cases i with
    | zero => cases e2
    | succ j =>
      have e1' : caps[j]? = some y := e1
      have e2' : (capV ix σ)[j]? = some (some v) := e2
      obtain ⟨i, hi, hv⟩ := capV_get e2'
      obtain ⟨hN, hf⟩ := B.ix j y i e1' hi
      obtain ⟨m, hm, hl⟩ := I.loc
      have hk := B.free _ (lookup_mem hf) rfl
      have hvis : Vis X.env.scope y := by
        rcases hk with q | q
        · exact .inr (.inl q)
        · exact .inr (.inr q)
      obtain ⟨u, ru, lk⟩ := hl i y v hN hv hvis
      refine ⟨u, ru, .inr ?_⟩
      obtain ⟨c', hc'⟩ := capL_has (env := X.env) scope.names [] (lookup_mem hf)
      have hc := B.sub I.ok hc'
      refine ⟨?_, c', hc', ?_⟩
      · have hvv : (compEnvC scope (capL X.env scope.names []) s.heap.objs.size X.env).kindOf y = some .local ∨ _ := e3
        rcases hvv with q | q
        · rcases relabel_look (env := X.env) B.cell (show (scope.names.map _).lookup y = some NameKind.local from q) with z | ⟨z, _⟩
          · rw [hf] at z; cases z
          · cases z
        · exact q
      · rcases lk with ⟨l, _⟩ | ⟨_, c, ec, z⟩
        · rcases hk with q | q <;> (rw [q] at l; cases l)
        · have ecc : c = c' := Option.some.inj (ec.symm.trans hc)
          rw [← ecc]
          obtain ⟨o, ho, hd⟩ := z
          exact ⟨o, k _ _ ho, hd⟩
  cell := fun y c e => by
    obtain ⟨v, o, ho, hd⟩ := I.cell y c (B.sub I.ok e)
    exact ⟨v, o, k _ _ ho, hd⟩
  free := I.hok.fresh (Nat.le_refl _)
  freeC := fun y c e => I.freeC y c (B.sub I.ok e)
  pin := fun p hp => by
    obtain ⟨e, n, ne, nf, d⟩ := I.pin p hp
    refine ⟨k _ _ e, n, Nat.ne_of_lt (Heap.lt_size e), fun z => ?_, d⟩
    rcases List.mem_cons.mp (I.stkSub _ z) with q | q
    · exact ne q
    · exact nf q
  hok := I.hok.kept k
  len := by
    show (none :: capV ix σ).length = (x :: caps).length
    rw [List.length_cons, List.length_cons, capV, List.length_map, B.len]
theorem blk_out (I : Inv X pins σ H s) {fp : List Addr} (f : ∀ b ∈ fp, FpOk X pins H b) {σ' : St} {H' : Hp} {s' : Shared} (I' : Inv (blk X scope x caps s.heap.objs.size s H fp) pins σ' H' s') : Inv X pins σ H' s' ∧ FpOk X pins H' s.heap.objs.size := by
  have fC : FpOk X pins H' s.heap.objs.size := I.fpOk (Nat.le_refl _) I'.free
  refine ⟨I.call' (ch := fp) I'.os I'.base I'.hok I'.bare fun b hb => ?_, fC⟩
  obtain ⟨f0, f1, f2, f3, f4, f5⟩ := f b hb
  exact ⟨f3, f1, f4, f5⟩
theorem lc_core {elt iter : Expr} {ifs : List Expr} {px pos pos' : Pos} {wi : TI} {tf : TT} {te : TE} {use : Option (Value → Sem Unit)} {R : VK} {QQ : Value → Shared → Prop}
    (B : Blk X scope x caps ix) (hc : X.calm = true) (hi : PI X (.Name x px) iter wi) (hf : ∀ C s₀ H₀ ex, PF (blk X scope x caps C s₀ H₀ ex) ifs tf) (he : ∀ C s₀ H₀ ex, PE (blk X scope x caps C s₀ H₀ ex) elt te)
    (I : Inv X pins σ H s) (h : tLc wi tf te ix σ H R)
    (hQ : ∀ (v : V) (u : Value) (H' : Hp) (C : Addr) (m : Str → Option Value) (s' : Shared), Inv X pins σ H' s' → RelV v u → R v H' → FpOk X pins H' C → s'.heap.Ns C m → compPost (model X.prog X.w) X.A X.xe use QQ u C (.ok .next) s')
    (hs : ∀ x, foldedSetIterable iter X.env x = pure x) :
    wpAny (model X.prog X.w) X.A (comprehension (.ListComp elt [⟨.Name x px, iter, ifs, 0⟩] scope pos) scope X.env pos' (newList []) false (eval iter X.env) use) QQ X.xe s := by
  refine wpAny_comprehension_free rfl hs (closure_eq (B.cells I.ok)) B.kind B.names (thn (hi pins s σ H _ I h) fun xv s1 h1 => thn h1 fun itv s2 h2 => ?_)
  obtain ⟨it, fp, tn, J, H2, e, I2, T, st2, f2, rest⟩ := h2
  subst e
  refine wpAny_newObj_type (wpAny_newFunctionEnv B.cell (by intro y hy; simp at hy) (fun h₁ hns₁ hsb₁ => ?_) B.kind)
  have hD : H2 s2.heap.objs.size = none := I2.fresh
  obtain ⟨W, ⟨m0, w0⟩, turn⟩ := rest s2.heap.objs.size hD
  generalize hDn : s2.heap.objs.size = D at *
  have I3 : Inv X pins σ (upd H2 D (.lst [])) { s2 with heap := s2.heap.push { cls := .type "list", data := .seq ([] : List Value).toArray } } := by
    have := I2.lnew (ys := []) (its := []) (t' := s2.toks) .nil (Nat.zero_le _)
    rw [hDn] at this
    exact this
  generalize hs3 : ({ s2 with heap := s2.heap.push { cls := .type "list", data := .seq ([] : List Value).toArray } } : Shared) = s3 at *
  have fpD : ∀ b ∈ fp, b ≠ D := fun b hb => by
    obtain ⟨o, e, _⟩ := T.obj _ _ st2 b hb
    rw [← hDn]; exact Nat.ne_of_lt (Heap.lt_size e)
  have up3 : ∀ b o, s2.heap.get? b = some o → s3.heap.get? b = some o := fun b o e => by rw [← hs3]; exact Heap.get?_push_of_some _ e
  have f3 : ∀ b ∈ fp, FpOk X pins (upd H2 D (.lst [])) b := fun b hb => by
    obtain ⟨f0, fr⟩ := f2 b hb
    exact ⟨by rw [upd_ne (fpD b hb)]; exact f0, fr⟩
  have st3 : tn 0 s3.heap := T.keep _ _ _ st2 fun b _ o e => up3 b o e
  have fo : ∀ b ∈ fp, b < s3.heap.objs.size := fun b hb => by
    obtain ⟨o, e, _⟩ := T.obj _ _ st3 b hb
    exact Heap.lt_size e
  have eh : s2.heap.push { cls := .type "list", data := .seq ([] : List Value).toArray } = s3.heap := by rw [← hs3]
  have es : ∀ (g : Heap) (t : Nat), ({ s2 with heap := g, toks := t } : Shared) = { s3 with heap := g, toks := t } := fun g t => by rw [← hs3]
  have hn1 : h₁.Ns s3.heap.objs.size (fun _ => none) := hns₁
  have k1 : ∀ b o, s3.heap.get? b = some o → h₁.get? b = some o := fun b o e => by
    exact hsb₁.extBut b o (Nat.ne_of_lt (Heap.lt_size e)) (Heap.get?_push_of_some _ e)
  have I4 := blk_inv B I3 f3 fo (t' := s3.toks + ([] : List (Str × Value)).length) hn1 k1
  have st4 : tn 0 h₁ := T.keep _ _ _ st3 fun b _ o e => k1 b o e
  have post : ∀ σ' H' s', Inv (blk X scope x caps s3.heap.objs.size s3 (upd H2 D (.lst [])) fp) pins σ' H' s' → R (.ref D) H' → compPost (model X.prog X.w) X.A X.xe use QQ (.ref D) s3.heap.objs.size (.ok .next) s' := fun σ' H' s' I' r => by
    obtain ⟨I5, fC⟩ := blk_out I3 f3 I'
    obtain ⟨m, hm, _⟩ := I'.loc
    exact hQ (.ref D) _ H' _ m s' I5 rfl r fC hm
  have loop : codeAny (model X.prog X.w) X.A (.compLoop (.ListComp elt [⟨.Name x px, iter, ifs, 0⟩] scope pos) 0 (.ref it) (.ref D) (blk X scope x caps s3.heap.objs.size s3 (upd H2 D (.lst [])) fp).env)
      (compPost (model X.prog X.w) X.A X.xe use QQ (.ref D) s3.heap.objs.size) { s3 with heap := h₁, toks := s3.toks + ([] : List (Str × Value)).length } := by
    have fpc : ∀ {H' : Hp}, (∀ b ∈ fp, H' b = none) → ∀ b ∈ fp, FpOk (blk X scope x caps s3.heap.objs.size s3 (upd H2 D (.lst [])) fp) pins H' b := fun hn b hb => by
      obtain ⟨f0, f1, f2, f3, f4, f5⟩ := f3 b hb
      refine ⟨hn b hb, Nat.ne_of_lt (fo b hb), fun z => ?_, .inl hb, fun y c e => f4 y c (B.sub I3.ok e), f5⟩
      rcases List.mem_cons.mp (I3.stkSub b z) with q | q
      · exact f1 q
      · exact f2 q
    have hfx := hf s3.heap.objs.size s3 (upd H2 D (.lst [])) fp
    have hex := he s3.heap.objs.size s3 (upd H2 D (.lst [])) fp
    have hgx : PG (blk X scope x caps s3.heap.objs.size s3 (upd H2 D (.lst [])) fp) (.Name x px) (gName 0) := pg_name B.nd rfl (.inl (lookup_relabel_local B.loc)) (.inr (lookup_relabel_local B.loc))
    have hcx : (blk X scope x caps s3.heap.objs.size s3 (upd H2 D (.lst [])) fp).calm = true := hc
    refine codeAny_compLoop_tests (fun n s' => ∃ i ys H' o, Inv (blk X scope x caps s3.heap.objs.size s3 (upd H2 D (.lst [])) fp) pins (o :: capV ix σ) H' s' ∧ tn i s'.heap ∧ (∀ b ∈ fp, H' b = none) ∧ W i n ys H') ?_ m0
      ⟨0, [], _, none, I4, st4, fun b hb => (f3 b hb).1, w0⟩
    rintro n s5 ⟨i, ys, H5, o5, I5, st5, fr5, w5⟩
    obtain ⟨hD5, hstep⟩ := turn i n ys H5 w5
    rcases hstep with ⟨stop, r⟩ | ⟨go, hz, step⟩
    · refine thn (T.done (blk X scope x caps s3.heap.objs.size s3 (upd H2 D (.lst [])) fp) rfl rfl rfl hcx i pins s5 _ H5 _ I5 (fpc fr5) st5 stop) fun r' s6 ⟨hr, I6⟩ => ?_
      subst hr
      exact post _ _ _ I6 r
    · refine thn (T.item (blk X scope x caps s3.heap.objs.size s3 (upd H2 D (.lst [])) fp) rfl rfl rfl hcx i pins s5 _ H5 _ I5 (fpc fr5) st5 go) fun r' s6 ⟨u, hr, h6⟩ => ?_
      subst hr
      show wpAny _ _ (letOwnedTupleGo (.Name x px) (.ref it) u >>= fun _ => assign (.Name x px) (blk X scope x caps s3.heap.objs.size s3 (upd H2 D (.lst [])) fp).env u) _ _ _
      refine wpAny_bind (thn h6 fun _ s7 ⟨v, H7, I7, rv, y7, st7, fr7⟩ => ?_)
      have I7' := I7.pinned (fpc fr7) (T.obj _ _ st7)
      refine wpAny_mono (hgx _ s7 _ H7 v u _ I7' rv (show gName 0 v _ H7 (fun σ' H' => σ' = some v :: capV ix σ ∧ H' = H7) from ⟨rfl, rfl⟩)) (fun _ s8 ⟨σ8, H8, I8, e8, eH8⟩ => ?_) fun _ _ f => f.elim
      subst e8 eH8
      refine wpAny_mono (hfx _ s8 _ _ _ I8 (step v _ y7)) (fun ok s9 ⟨H9, I9, q9⟩ => ?_) fun _ _ f => f.elim
      have again : ∀ {n' : Nat} {ys' : List V} {HA : Hp} {sA : Shared}, n' < n → Inv (blk X scope x caps s3.heap.objs.size s3 (upd H2 D (.lst [])) fp) (pins ++ pinsAt fp s7.heap) (some v :: capV ix σ) HA sA → W (i + 1) n' ys' HA →
          ∃ m, m < n ∧ ∃ i ys H' o, Inv (blk X scope x caps s3.heap.objs.size s3 (upd H2 D (.lst [])) fp) pins (o :: capV ix σ) H' sA ∧ tn i sA.heap ∧ (∀ b ∈ fp, H' b = none) ∧ W i m ys H' := fun {n' ys' HA sA} hn IA wA => by
        refine ⟨n', hn, i + 1, ys', HA, _, IA.unpinned, T.keep _ _ _ st7 fun b hb o e => (IA.pin (b, o) (List.mem_append_right _ (List.mem_append_right _ (mem_pinsAt hb e)))).1, fun b hb => ?_, wA⟩
        obtain ⟨o, e, d⟩ := T.obj _ _ st7 b hb
        exact (IA.pin (b, o) (List.mem_append_right _ (List.mem_append_right _ (mem_pinsAt hb e)))).2.1
      cases ok with
      | false =>
        obtain ⟨n', hn, wA⟩ := q9
        exact again hn I9 wA
      | true =>
        refine wpAny_mono (hex _ s9 _ _ _ I9 q9) (fun u9 sA ⟨vA, HA, IA, rA, hDA, n', hn, wA⟩ => ?_) fun _ _ f => f.elim
        refine wpAny_mono (mt_append (X := blk X scope x caps s3.heap.objs.size s3 (upd H2 D (.lst [])) fp) _ sA _ HA (.ref D) [vA] (.ref D) [u9] (fun _ HB => W (i + 1) n' (ys ++ [vA]) HB) IA rfl (.cons rA .nil) ⟨D, ys, vA, rfl, rfl, hDA, hz, wA⟩) (fun _ sB ⟨_, HB, IB, _, wB⟩ => ?_) fun _ _ f => f.elim
        exact again hn IB wB
  exact codeAny_compStart_list loop (T.self _ 0 _ _ _ st4 loop)
theorem pe_lc {elt iter : Expr} {ifs : List Expr} {px pos : Pos} {wi : TI} {tf : TT} {te : TE} (B : Blk X scope x caps ix) (hc : X.calm = true) (hi : PI X (.Name x px) iter wi)
    (hf : ∀ C s₀ H₀ ex, PF (blk X scope x caps C s₀ H₀ ex) ifs tf) (he : ∀ C s₀ H₀ ex, PE (blk X scope x caps C s₀ H₀ ex) elt te) (hs : ∀ x, foldedSetIterable iter X.env x = pure x := by intro _; rfl) :
    PE X (.ListComp elt [⟨.Name x px, iter, ifs, 0⟩] scope pos) (tLc wi tf te ix) := by
  intro pins s σ H Q I h
  rw [eval_ListComp]
  refine lc_core (use := none) B hc hi hf he I h (fun v u H' C m s' I' r q fC hn => ⟨m, hn, fun h' sb => ⟨v, H', ?_, r, q⟩⟩) hs
  obtain ⟨f0, f1, f2, f3, f4, f5⟩ := fC
  exact I'.turned (t' := s'.toks) (fun b o hb e => (sb.2 b hb).trans e) f0 f1 f3 f4 f5
def tSetLc (i : Nat) (t : TE) : TS := fun D σ H => t σ H fun v H' => D.nx (σ.set i (some v)) H'
theorem ps_lc {i : Nat} {y : Str} {elt iter : Expr} {ifs : List Expr} {px py pos spos : Pos} {wi : TI} {tf : TT} {te : TE} (hN : X.N.Nodup) (hy : X.N[i]? = some y) (hl : X.env.kindOf y = some .local)
    (hsw : swapsWith (.ListComp elt [⟨.Name x px, iter, ifs, 0⟩] scope pos) (some (.Name y py)) spos.line X.env = pure true) (B : Blk X scope x caps ix) (hc : X.calm = true) (hi : PI X (.Name x px) iter wi)
    (hf : ∀ C s₀ H₀ ex, PF (blk X scope x caps C s₀ H₀ ex) ifs tf) (he : ∀ C s₀ H₀ ex, PE (blk X scope x caps C s₀ H₀ ex) elt te) (hs : ∀ x, foldedSetIterable iter X.env x = pure x := by intro _; rfl) :
    PS X (.Assign [.Name y py] (.ListComp elt [⟨.Name x px, iter, ifs, 0⟩] scope pos) spos) (tSetLc i (tLc wi tf te ix)) := by
  intro pins s σ H D I h
  rw [exec_Assign_Name_used _ _ _ _ hsw]
  refine wpAny_bind (wpAny_standAt (wpAny_bind ?_))
  show wpAny _ X.A (do let _ ← comprehension (.ListComp elt [⟨.Name x px, iter, ifs, 0⟩] scope pos) scope X.env _ (newList []) false (eval iter X.env) (some (assign (.Name y py) X.env))) _ _ s
  refine wpAny_bind (wpAny_mono (lc_core (use := some (assign (.Name y py) X.env)) (QQ := fun _ s' => SP X pins D .next s') B hc hi hf he I h (fun v u H' C m s' I' r q fC hn => ?_) hs) (fun _ s' hq => wpAny_pure (wpAny_pure hq)) fun _ _ e => e)
  obtain ⟨oC, esC, epC, hoC, hdC, rC⟩ := id hn
  have I1 : Inv X (pins ++ pinsAt [C] s'.heap) σ H' s' := I'.pinned (fun b hb => by rw [List.mem_singleton.mp hb]; exact fC) (fun b hb => ⟨oC, by rw [List.mem_singleton.mp hb]; exact hoC, fun v z => by rw [hdC] at z; cases z⟩)
  show wpAny _ X.A (assign (.Name y py) X.env u) _ _ s'
  refine wpAny_assign_Name (store_ok I1 hN hy (.inl hl) r (fun s'' I2 => ?_) (.inr hl))
  have hC2 := I2.pin (C, oC) (List.mem_append_right _ (List.mem_append_right _ (mem_pinsAt (List.mem_singleton.mpr rfl) hoC)))
  refine ⟨m, ⟨oC, esC, epC, hC2.1, hdC, rC⟩, fun h' sb => ⟨σ.set i (some v), H', ?_, q⟩⟩
  obtain ⟨f0, f1, f2, f3, f4, f5⟩ := fC
  exact I2.unpinned.turned (t' := s''.toks) (fun b o hb e => (sb.2 b hb).trans e) f0 f1 f3 f4 f5
end
theorem i_lc {wi : TI} {tf : TT} {te : TE} {ix : List Nat} {σ : St} {H : Hp} {Q : VK} (q : wi σ H fun J H1 => ∀ D, H1 D = none → ∃ W : Nat → Nat → List V → Hp → Prop, (∃ m, W 0 m [] (upd H1 D (.lst []))) ∧ ∀ i m ys H, W i m ys H →
  H D = some (.lst ys) ∧ ((J.stop i H ∧ Q (.ref D) H) ∨ (J.go i H ∧ ys.length < sizeLine ∧ ∀ x H', J.yld i H x H' → tf (some x :: capV ix σ) H' fun b H2 =>
    if b = true then te (some x :: capV ix σ) H2 fun y H3 => H3 D = some (.lst ys) ∧ ∃ m', m' < m ∧ W (i + 1) m' (ys ++ [y]) (upd H3 D (.lst (ys ++ [y]))) else ∃ m', m' < m ∧ W (i + 1) m' ys H2))) : tLc wi tf te ix σ H Q := q
theorem i_setLc {i : Nat} {t : TE} {D : Ends} {σ : St} {H : Hp} (q : t σ H fun v H' => D.nx (σ.set i (some v)) H') : tSetLc i t D σ H := q
def tJoin (t : TS) : TS := fun D σ H => ∃ J : St → Hp → Prop, t { D with nx := J } σ H ∧ ∀ σ' H', J σ' H' → D.nx σ' H'
theorem ps_join {X : Cx} {st : Stmt} {t : TS} (h : PS X st t) : PS X st (tJoin t) := by
  intro pins s σ H D I q
  obtain ⟨J, q, hJ⟩ := q
  refine thn (h pins s σ H _ I q) fun f s' z => ?_
  cases f with
  | next => obtain ⟨σ', H', I', z⟩ := z; exact ⟨σ', H', I', hJ _ _ z⟩
  | brk => exact z
  | cont => exact z
  | ret v => exact z
theorem i_join {t : TS} {D : Ends} {σ : St} {H : Hp} (J : St → Hp → Prop) (h1 : t { D with nx := J } σ H) (h2 : ∀ σ' H', J σ' H' → D.nx σ' H') : tJoin t D σ H := ⟨J, h1, h2⟩
theorem i_sl {r : V → Option Int → Option Int → Hp → VK → Prop} {te : TE} {tl th : TO} {σ : St} {H : Hp} {Q : VK} (q : te σ H fun x H1 => tl σ H1 fun l H2 => th σ H2 fun u H3 => r x l u H3 Q) : tSl r te tl th σ H Q := q
theorem i_noPart {σ : St} {H : Hp} {Q : Option Int → Hp → Prop} (q : Q none H) : tNoPart σ H Q := q
theorem i_part {t : TE} {σ : St} {H : Hp} {Q : Option Int → Hp → Prop} (q : t σ H fun x H1 => ∃ i, x = .int i ∧ Q (some i) H1) : tPart t σ H Q := q
theorem i_partI {i : Int} {P : Int → Prop} (q : P i) : ∃ j, V.int i = .int j ∧ P j := ⟨i, rfl, q⟩
structure New (H : Hp) (p : Addr) (o : HO) (H2 : Hp) : Prop where
  free : H p = none
  eq : H2 = upd H p o
theorem New.at {H H2 : Hp} {p : Addr} {o : HO} (n : New H p o H2) : H2 p = some o := by rw [n.eq]; exact upd_same
theorem New.same {H H2 : Hp} {p : Addr} {o : HO} (n : New H p o H2) : Same H H2 := by rw [n.eq]; exact Same.new n.free
theorem New.lst {K : PySem.W.Frag} {H H2 : Hp} {p : Addr} {xs : List V} (n : New H p (.lst xs) H2) : SqL K H2 p xs := .inl (.inl n.at)
theorem New.tup {K : PySem.W.Frag} {H H2 : Hp} {p : Addr} {xs : List V} (n : New H p (.tup xs) H2) : SqT K H2 p xs := .inl (.inl n.at)
theorem Same.tup {K : PySem.W.Frag} {H H' : Hp} {a : Addr} {xs : List V} (e : Same H H') (h : SqT K H a xs) : SqT K H' a xs := by
  rcases h with (h | ⟨o, h⟩) | h
  · exact .inl (.inl (e _ _ h))
  · exact .inl (.inr ⟨o, e _ _ h⟩)
  · exact .inr h
section
variable {X : Cx} {es : List Expr} {t : TA} {pos : Pos}
def tTupA (t : TA) : TE := fun σ H Q => t σ H fun xs H1 => xs.length ≤ sizeLine ∧ ∀ p H2, New H1 p (.tup xs) H2 → Q (.ref p) H2
def tLstA (t : TA) : TE := fun σ H Q => t σ H fun xs H1 => xs.length ≤ sizeLine ∧ ∀ p H2, New H1 p (.lst xs) H2 → Q (.ref p) H2
theorem pe_tupA {x1} (h : PA X es t) : PE X (.Tuple es x1 pos) (tTupA t) := by
  intro pins s σ H Q I hq
  refine wpAny_Tuple_spliced (thn (h pos pins s σ H _ I hq) fun us s1 ⟨xs, H1, I1, r, z, q⟩ => ⟨by rw [← r.length]; exact z, ?_⟩)
  have hf : H1 s1.heap.objs.size = none := I1.hok.fresh (Nat.le_refl _)
  refine ⟨.ref s1.heap.objs.size, upd H1 s1.heap.objs.size (.tup xs), I1.laid (t' := s1.toks) (fun b u e => Heap.get?_push_of_some _ e) (Nat.le_refl _) ?_, rfl, q _ _ ⟨hf, rfl⟩⟩
  exact ⟨z, us, r, ⟨_, Heap.get?_push_size _ rfl, rfl, _, rfl⟩⟩
theorem pe_lstA (h : PA X es t) : PE X (.List es pos) (tLstA t) := by
  intro pins s σ H Q I hq
  refine wpAny_List_spliced (thn (h pos pins s σ H _ I hq) fun us s1 ⟨xs, H1, I1, r, z, q⟩ => ⟨by rw [← r.length]; exact z, ?_⟩)
  have hf : H1 s1.heap.objs.size = none := I1.hok.fresh (Nat.le_refl _)
  refine ⟨.ref s1.heap.objs.size, upd H1 s1.heap.objs.size (.lst xs), I1.laid (t' := s1.toks) (fun b u e => Heap.get?_push_of_some _ e) (Nat.le_refl _) ?_, rfl, q _ _ ⟨hf, rfl⟩⟩
  exact ⟨z, us, 0, r, Heap.get?_push_size _ rfl⟩
theorem CallR.imp {f : Value} {r r' : List V → Hp → VK → Prop} (h : CallR X f r) (i : ∀ xs H Q, r' xs H Q → r xs H Q) : CallR X f r' := fun pins s σ H xs us Q I rv q => h pins s σ H xs us Q I rv (i _ _ _ q)
def rListA (K : PySem.W.Frag) : List V → Hp → VK → Prop := fun xs H Q => ∃ p ys, xs = [.ref p] ∧ (SqL K H p ys ∨ SqT K H p ys) ∧ ∀ l H2, New H l (.lst ys) H2 → Q (.ref l) H2
theorem call_listA : CallR X (.type "list") (rListA X.K) := call_list_of.imp fun xs H Q ⟨p, ys, e, h, q⟩ => ⟨p, ys, e, h, fun l hl => q l _ ⟨hl, rfl⟩⟩
def rTupleA (K : PySem.W.Frag) : List V → Hp → VK → Prop := fun xs H Q => ∃ p ys, xs = [.ref p] ∧ ((SqL K H p ys ∧ ∀ l H2, New H l (.tup ys) H2 → Q (.ref l) H2) ∨ (SqT K H p ys ∧ Q (.ref p) H))
theorem call_tupleA : CallR X (.type "tuple") (rTupleA X.K) := call_tuple_of.imp fun xs H Q ⟨p, ys, e, h⟩ => ⟨p, ys, e, h.imp (fun ⟨a, q⟩ => ⟨a, fun l hl => q l _ ⟨hl, rfl⟩⟩) id⟩
def rSlLA (K : PySem.W.Frag) : V → Option Int → Option Int → Hp → VK → Prop := fun x lo hi H Q => ∃ a xs, x = .ref a ∧ SqL K H a xs ∧ ∀ p H2, New H p (.lst (cutV xs lo hi)) H2 → Q (.ref p) H2
theorem sl_listA : SlR X (rSlLA X.K) := fun pins s σ H x v vl vu lo hi sl Q I rx hs pl pu ⟨a, xs, e, h, q⟩ => sl_list pins s σ H x v vl vu lo hi sl Q I rx hs pl pu ⟨a, xs, e, h, fun p hp => q p _ ⟨hp, rfl⟩⟩
end
section
variable {K : PySem.W.Frag} {σ : St} {H : Hp} {Q : VK} {p : Addr} {xs : List V}
theorem i_lstA {t : TA} (q : t σ H fun xs H1 => xs.length ≤ sizeLine ∧ ∀ p H2, New H1 p (.lst xs) H2 → Q (.ref p) H2) : tLstA t σ H Q := q
theorem i_tupA {t : TA} (q : t σ H fun xs H1 => xs.length ≤ sizeLine ∧ ∀ p H2, New H1 p (.tup xs) H2 → Q (.ref p) H2) : tTupA t σ H Q := q
theorem i_listAL (h : SqL K H p xs) (q : ∀ l H2, New H l (.lst xs) H2 → Q (.ref l) H2) : rListA K [.ref p] H Q := ⟨p, xs, rfl, .inl h, q⟩
theorem i_tupleAL (h : SqL K H p xs) (q : ∀ l H2, New H l (.tup xs) H2 → Q (.ref l) H2) : rTupleA K [.ref p] H Q := ⟨p, xs, rfl, .inl ⟨h, q⟩⟩
theorem i_tupleAT (h : SqT K H p xs) (q : Q (.ref p) H) : rTupleA K [.ref p] H Q := ⟨p, xs, rfl, .inr ⟨h, q⟩⟩
theorem i_slLA {lo hi : Option Int} (h : SqL K H p xs) (q : ∀ l H2, New H l (.lst (cutV xs lo hi)) H2 → Q (.ref l) H2) : rSlLA K (.ref p) lo hi H Q := ⟨p, xs, rfl, h, q⟩
end
structure NewI (H : Hp) (x dx C : Addr) (fs : List (Str × V)) (H2 : Hp) : Prop where
  fx : H x = none
  fd : H dx = none
  ne : dx ≠ x
  eq : H2 = upd (upd H dx (.own x)) x (.ins C dx fs)
theorem NewI.at {H H2 : Hp} {x dx C : Addr} {fs : List (Str × V)} (n : NewI H x dx C fs H2) : H2 x = some (.ins C dx fs) := by rw [n.eq]; exact upd_same
theorem NewI.same {H H2 : Hp} {x dx C : Addr} {fs : List (Str × V)} (n : NewI H x dx C fs H2) : Same H H2 := by
  rw [n.eq]; exact Same.upd (Same.new n.fd) (by rw [upd_ne n.ne.symm]; exact n.fx)
theorem i_iteSe {x y : Str} {A B : Prop} (n : x = y) (q : A) : if decide (V.str x = V.str y) = true then A else B := by
  rw [decide_eq_true (congrArg V.str n)]; exact iteT q
theorem sqL_inj_of {K : PySem.W.Frag} {a : Addr} {xs : List V} {H : Hp} (h : H a = some (.lst xs)) : SqL K H a xs := .inl (.inl h)
end L2
namespace Lap
open PySem L2
def spDeedA (C : Dk → Addr) : Sp := fun vs H Q _ => ∃ d : Dk, vs = [.str d.word] ∧ ∀ x dx H2, NewI H x dx (C d) [] H2 → Q (.ref x) H2
end Lap
set_option Elab.async false
set_option linter.all false
set_option maxRecDepth 100000
namespace L2
open PySem PySem.Spec PyProof.Rows
section
variable {X : Cx} {pins : List (Addr × Obj)} {σ : St} {H : Hp} {s : Shared}
end
section
variable {X : Cx} {pins : List (Addr × Obj)} {σ : St} {H : Hp} {s : Shared} {e : Addr} {c : Value} {d : Option Addr} {M : Model} {E : Value → Shared → Prop} {Q : Unit → Shared → Prop}
end
section
variable {X : Cx} {pins : List (Addr × Obj)} {σ : St} {H H' : Hp} {s : Shared} {b : Addr}
end
section
variable {X : Cx} {CX : CXT} {k : Nat} {f C : Addr} {fd : FuncData} {ps : List Str} {sp : Sp} {ES : XS} {x m : Str} {p pos apos : Pos} {e o : Expr} {es : List Expr} {ta : TE} {t : TA}
end
section
variable {P : Program} {w : World} {K : PySem.W.Frag} {mg : Str → Option Value} {base : Heap}
end
end L2
set_option Elab.async false
set_option linter.all false
set_option maxRecDepth 100000
namespace L2
open PySem PySem.Spec PySem.W PyProof.Rows
section
variable {prog : Program} {w : World} {A : Around} {E : Value → Shared → Prop} {K : PySem.W.Frag} {h : Heap} {g : Array GenState} {d : Drawn} {t : Nat} {os : OsState} {e C : Addr} {oe : Obj} {od : Option Obj} {name : Str}
end
section
variable {X : Cx} {ES : XS} {x : Str} {C : Addr} {np cpos pos : Pos} {a : Expr} {rest : List Expr} {t : TA}
end
end L2
set_option Elab.async false
set_option linter.all false
set_option maxRecDepth 100000
namespace L2
open PySem PySem.Spec PySem.W PyProof.Rows
section
variable {X : Cx} {A : Around} {calm : Bool} {pn pins pins' : List (Addr × Obj)} {xe : Value → Shared → Prop} {σ σ' : St} {H : Hp} {s : Shared} {e : Addr} {o : HO}
theorem Inv.track (I : Inv X pins σ H s) (f : FpOk X pins H e) (new : ObjOk X.prog X.w (upd H e o) s.heap e o) : Inv X pins σ (upd H e o) s := by
  obtain ⟨f0, f1, f2, f3, f4, f5⟩ := f
  have hne : ∀ b u, H b = some u → b ≠ e := fun b u q => ne_of_none q f0
  refine ⟨I.ok, I.os, I.bare, ⟨I.base.keep, I.base.slot, fun b ob q n hx => ?_, I.base.there, fun b xs q => ?_, fun b ob u q => ?_, fun b ps q => ?_⟩, I.loc, I.cell, ?_, fun x c q => ?_, fun p hp => ?_, fun b u q => ?_, I.len⟩
  · have hb : b ≠ e := fun z => by
      subst z
      rcases f3 with w | w
      · exact hx w
      · rw [w] at q; cases q
    rw [upd_ne hb]; exact I.base.free b ob q n hx
  · have := I.base.tups b xs q; rw [upd_ne (hne _ _ this)]; exact this
  · have := I.base.frzs b ob u q; rw [upd_ne (hne _ _ this)]; exact this
  · obtain ⟨more, this⟩ := I.base.tbls b ps q; exact ⟨more, by rw [upd_ne (hne _ _ this)]; exact this⟩
  · rw [upd_ne (Ne.symm f1)]; exact I.free
  · rw [upd_ne (f4 x c q)]; exact I.freeC x c q
  · obtain ⟨a, b, c, d⟩ := I.pin p hp
    exact ⟨a, by rw [upd_ne (f5 p hp)]; exact b, c, d⟩
  · by_cases z : b = e
    · subst z
      rw [upd_same] at q; cases q; exact new
    · rw [upd_ne z] at q
      refine (I.hok b u q).stay (fun _ _ _ q => q) (fun c q => ?_) fun c xs q => ?_
      · rw [upd_ne (hne _ _ q)]; exact q
      · rw [upd_ne (hne _ _ q)]; exact q
end
section
variable {X : Cx} {pins : List (Addr × Obj)} {σ : St} {H : Hp} {s : Shared} {e C Cy : Addr}
end
section
variable {X : Cx} {es : List Expr} {t : TJ} {te : TE} {e : Expr} {pos : Pos} {z : Str} {k : Option Nat}
end
end L2
set_option Elab.async false
set_option linter.all false
set_option maxRecDepth 100000
namespace L2
open PySem PySem.Spec PyProof.Rows
section
variable {κ : Type} [DecidableEq κ]
def valV (kvs : List (κ × V)) (k : κ) : Option V := (kvs.find? fun kv => decide (kv.1 = k)).map (·.2)
def putK (kvs : List (κ × V)) (k : κ) (v : V) : List (κ × V) :=
  if (kvs.any fun kv => decide (kv.1 = k)) = true then kvs.map (fun kv => if kv.1 = k then (kv.1, v) else kv) else kvs ++ [(k, v)]
theorem valV_nil {k : κ} : valV ([] : List (κ × V)) k = none := rfl
theorem valV_pos {p : κ × V} {r : List (κ × V)} {k : κ} (e : p.1 = k) : valV (p :: r) k = some p.2 := by simp [valV, List.find?_cons, e]
theorem valV_neg {p : κ × V} {r : List (κ × V)} {k : κ} (e : ¬ p.1 = k) : valV (p :: r) k = valV r k := by simp [valV, List.find?_cons, e]
theorem valV_any (k : κ) : ∀ kvs : List (κ × V), (kvs.any fun kv => decide (kv.1 = k)) = (valV kvs k).isSome
  | [] => rfl
  | p :: r => by
    rw [List.any_cons]
    by_cases e : p.1 = k
    · simp only [valV_pos e, decide_eq_true e, Bool.true_or, Option.isSome_some]
    · rw [valV_neg e, decide_eq_false e, Bool.false_or]; exact valV_any k r
theorem valV_map (k j : κ) (y : V) : ∀ kvs : List (κ × V), valV (kvs.map fun kv => if kv.1 = k then (kv.1, y) else kv) j = (valV kvs j).map fun x => if j = k then y else x
  | [] => rfl
  | p :: r => by
    have ih := valV_map k j y r
    rw [List.map_cons]
    by_cases h : p.1 = k
    · rw [if_pos h]
      by_cases e : p.1 = j
      · rw [valV_pos (p := (p.1, y)) e, valV_pos e, Option.map_some, if_pos (e.symm.trans h)]
      · rw [valV_neg (p := (p.1, y)) e, valV_neg e, ih]
    · rw [if_neg h]
      by_cases e : p.1 = j
      · rw [valV_pos (p := p) e, valV_pos e, Option.map_some, if_neg (fun z => h (e.trans z))]
      · rw [valV_neg (p := p) e, valV_neg e, ih]
theorem valV_snoc (k j : κ) (y : V) : ∀ kvs : List (κ × V), valV kvs k = none → valV (kvs ++ [(k, y)]) j = if j = k then some y else valV kvs j
  | [], _ => by
    by_cases e : k = j
    · rw [if_pos e.symm]; exact valV_pos (p := (k, y)) e
    · rw [if_neg (fun z => e z.symm)]; exact valV_neg (p := (k, y)) e
  | p :: r, hn => by
    rw [List.cons_append]
    have hk : ¬ p.1 = k := fun z => by rw [valV_pos z] at hn; cases hn
    rw [valV_neg hk] at hn
    have ih := valV_snoc k j y r hn
    by_cases e : p.1 = j
    · rw [valV_pos e, valV_pos e, if_neg (fun z => hk (e.trans z))]
    · rw [valV_neg e, valV_neg e, ih]
theorem valV_put (kvs : List (κ × V)) (k j : κ) (y : V) : valV (putK kvs k y) j = if j = k then some y else valV kvs j := by
  unfold putK
  by_cases a : (kvs.any fun kv => decide (kv.1 = k)) = true
  · rw [if_pos a, valV_map]
    rw [valV_any] at a
    by_cases e : j = k
    · obtain ⟨x, hx⟩ := Option.isSome_iff_exists.mp a
      rw [if_pos e, e, hx, Option.map_some, if_pos rfl]
    · rw [if_neg e]
      cases valV kvs j with
      | none => rfl
      | some x => rw [Option.map_some, if_neg e]
  · rw [if_neg a]
    refine valV_snoc k j y kvs ?_
    rw [valV_any] at a
    cases q : valV kvs k with
    | none => rfl
    | some x => rw [q] at a; exact (a rfl).elim
theorem length_putK (kvs : List (κ × V)) (k : κ) (v : V) : (putK kvs k v).length ≤ kvs.length + 1 := by
  unfold putK
  split
  · rw [List.length_map]; omega
  · rw [List.length_append, List.length_cons, List.length_nil]; omega
theorem putK_new {kvs : List (κ × V)} {k : κ} (v : V) (h : valV kvs k = none) : putK kvs k v = kvs ++ [(k, v)] := by
  unfold putK
  rw [valV_any, h]
  exact if_neg (by decide)
theorem RelO.isSome_eq {o : Option V} {u : Option Value} (r : RelO o u) : o.isSome = u.isSome := by
  cases o with
  | none => cases u with
    | none => rfl
    | some _ => exact (show False from r).elim
  | some _ => cases u with
    | none => exact (show False from r).elim
    | some _ => rfl
theorem RelO.getD {o : Option V} {u : Option Value} {d : V} {d' : Value} (r : RelO o u) (rd : RelV d d') : RelV (o.getD d) (u.getD d') := by
  cases o with
  | none => cases u with
    | none => exact rd
    | some _ => exact (show False from r).elim
  | some _ => cases u with
    | none => exact (show False from r).elim
    | some _ => exact r
theorem KV.val {kvs : List (κ × V)} {vs : List (κ × Value)} (r : KV kvs vs) (k : κ) : RelO (valV kvs k) (valueAt vs k) := by
  unfold KV at r
  induction r with
  | nil => exact True.intro
  | @cons p q ps qs h t ih =>
    obtain ⟨h1, h2⟩ := h
    by_cases e : p.1 = k
    · have e' : q.1 = k := h1.symm.trans e
      have b : valueAt (q :: qs) k = some q.2 := by simp [valueAt, List.find?_cons, e']
      rw [valV_pos e, b]; exact h2
    · have e' : ¬ q.1 = k := fun z => e (h1.trans z)
      have b : valueAt (q :: qs) k = valueAt qs k := by simp [valueAt, List.find?_cons, e']
      rw [valV_neg e, b]; exact ih
theorem KV.any {kvs : List (κ × V)} {vs : List (κ × Value)} (r : KV kvs vs) (k : κ) : (kvs.any fun kv => decide (kv.1 = k)) = vs.any fun kv => decide (kv.1 = k) := by
  unfold KV at r
  induction r with
  | nil => rfl
  | cons h t ih => rw [List.any_cons, List.any_cons, ih, h.1]
theorem KV.repl {kvs : List (κ × V)} {vs : List (κ × Value)} (r : KV kvs vs) (k : κ) {y : V} {u : Value} (ry : RelV y u) :
    KV (kvs.map fun kv => if kv.1 = k then (kv.1, y) else kv) (vs.map fun kv => if kv.1 = k then (kv.1, u) else kv) := by
  unfold KV at r ⊢
  induction r with
  | nil => exact .nil
  | @cons p q ps qs h t ih =>
    rw [List.map_cons, List.map_cons]
    refine .cons ?_ ih
    obtain ⟨h1, h2⟩ := h
    by_cases e : p.1 = k
    · rw [if_pos e, if_pos (h1.symm.trans e)]; exact ⟨h1, ry⟩
    · rw [if_neg e, if_neg (fun z => e (h1.trans z))]; exact ⟨h1, h2⟩
theorem KV.put {kvs : List (κ × V)} {vs : List (κ × Value)} (r : KV kvs vs) (k : κ) {y : V} {u : Value} (ry : RelV y u) : KV (putK kvs k y) (stored vs k u) := by
  unfold putK stored
  rw [r.any k]
  by_cases e : (vs.any fun kv => decide (kv.1 = k)) = true
  · rw [if_pos e, if_pos e]; exact r.repl k ry
  · rw [if_neg e, if_neg e]; exact Paired.snoc r ⟨rfl, ry⟩
theorem KV.length {kvs : List (κ × V)} {vs : List (κ × Value)} (r : KV kvs vs) : kvs.length = vs.length := Paired.length r
end
theorem kV_is {P : Program} {w : World} {k : Key} {u : Value} (r : RelV (kV k) u) : (mixKind P w).is k u = true := by
  cases k with
  | inl i => obtain ⟨t, e⟩ := (show ∃ t, u = Value.int i t from r); subst e; exact mixKind_int P w i t
  | inr x => obtain ⟨t, e⟩ := (show ∃ t, u = Value.str x t from r); subst e; exact mixKind_str P w x t
theorem items_are {P : Program} {w : World} : ∀ {ks : List Key} {us : List Value}, Vals (ks.map kV) us → ItemsAre (mixKind P w) ks us
  | [], _, r => by rw [List.map_nil] at r; cases r; exact .nil
  | k :: ks, _, r => by
    rw [List.map_cons] at r
    cases r with
    | cons h t => exact .cons (kV_is h) (items_are t)
abbrev KT (H : Hp) : List (List Key × V) → List (List Key × Addr × Value) → Prop := Paired fun p q => p.1 = q.1 ∧ H q.2.1 = some (.tup (p.1.map kV)) ∧ RelV p.2 q.2.2
theorem KT.val {H : Hp} {kvs : List (List Key × V)} {xs : List (List Key × Addr × Value)} (r : KT H kvs xs) (k : List Key) : RelO (valV kvs k) ((atKey xs k).map (·.2)) := by
  induction r with
  | nil => exact True.intro
  | @cons p q ps qs h t ih =>
    obtain ⟨h1, _, h2⟩ := h
    by_cases e : p.1 = k
    · have e' : q.1 = k := h1.symm.trans e
      have b : atKey (q :: qs) k = some q.2 := by simp [atKey, List.find?_cons, e']
      rw [valV_pos e, b]; exact h2
    · have e' : ¬ q.1 = k := fun z => e (h1.trans z)
      have b : atKey (q :: qs) k = atKey qs k := by simp [atKey, List.find?_cons, e']
      rw [valV_neg e, b]; exact ih
theorem KT.repl {H : Hp} {kvs : List (List Key × V)} {xs : List (List Key × Addr × Value)} (r : KT H kvs xs) (k : List Key) {y : V} {u : Value} (ry : RelV y u) :
    KT H (kvs.map fun kv => if kv.1 = k then (kv.1, y) else kv) (xs.map (putAt k u)) := by
  induction r with
  | nil => exact .nil
  | @cons p q ps qs h t ih =>
    rw [List.map_cons, List.map_cons]
    refine .cons ?_ ih
    obtain ⟨h1, h2, h3⟩ := h
    unfold putAt
    by_cases e : p.1 = k
    · rw [if_pos e, if_pos (h1.symm.trans e)]; exact ⟨h1, h2, ry⟩
    · rw [if_neg e, if_neg (fun z => e (h1.trans z))]; exact ⟨h1, h2, h3⟩
theorem KT.put {H : Hp} {kvs : List (List Key × V)} {xs : List (List Key × Addr × Value)} (r : KT H kvs xs) (k : List Key) {b : Addr} {y : V} {u : Value} (hb : H b = some (.tup (k.map kV))) (ry : RelV y u) :
    KT H (putK kvs k y) (storedH xs k b u) := by
  have e : (kvs.any fun kv => decide (kv.1 = k)) = (atKey xs k).isSome := by
    rw [valV_any, (r.val k).isSome_eq, Option.isSome_map]
  unfold putK storedH
  rw [e]
  by_cases q : (atKey xs k).isSome = true
  · rw [if_pos q, if_pos q]; exact r.repl k ry
  · rw [if_neg q, if_neg q]; exact Paired.snoc r ⟨rfl, hb, ry⟩
theorem KT.keeps {H H' : Hp} {kvs : List (List Key × V)} {xs : List (List Key × Addr × Value)} (r : KT H kvs xs) (ht : ∀ b ys, H b = some (.tup ys) → H' b = some (.tup ys)) : KT H' kvs xs :=
  Paired.mapP r fun _ _ z => ⟨z.1, ht _ _ z.2.1, z.2.2⟩
section
variable {P : Program} {w : World} {H : Hp} {h : Heap} {a : Addr}
theorem rd_of {u : HO} (ok : HOk P w H h) (e : Rd H a u) : ObjOk P w H h a u := e.ok ok
theorem dk_rd {kvs : List (Key × V)} (ok : HOk P w H h) (e : Rd H a (.dK kvs)) : kvs.length ≤ sizeLine ∧ (a == sysModules) = false ∧ ∃ vs, KV kvs vs ∧ h.DictOf (mixKind P w) a vs :=
  show ObjOk P w H h a (.dK kvs) from rd_of ok e
theorem dk_of {kvs : List (Key × V)} (ok : HOk P w H h) (e : H a = some (.dK kvs)) : kvs.length ≤ sizeLine ∧ (a == sysModules) = false ∧ ∃ vs, KV kvs vs ∧ h.DictOf (mixKind P w) a vs := dk_rd ok (.inl e)
theorem key_of {ks : List Key} (ok : HOk P w H h) (e : H a = some (.tup (ks.map kV))) : (tupleKind (mixKind P w)).is h ks a := by
  obtain ⟨_, its, r, o, h1, h2, n, h3⟩ := (show ObjOk P w H h a (.tup (ks.map kV)) from ok a _ e)
  exact ⟨o, its.toArray, n, h1, h2, h3, by simpa using items_are r⟩
theorem dt_rd {kvs : List (List Key × V)} (ok : HOk P w H h) (e : Rd H a (.dT kvs)) : kvs.length ≤ sizeLine ∧ (a == sysModules) = false ∧
    ∃ xs, KT H kvs xs ∧ h.DictOfH (tupleKind (mixKind P w)) a xs := by
  obtain ⟨z, y, xs, r, o, es, ep, h1, h2, h3, h4, h5⟩ := (show ObjOk P w H h a (.dT kvs) from rd_of ok e)
  refine ⟨z, y, xs, r, o, es, ep, h1, h2, h3, h4, fun x hx => ?_, h5⟩
  have all : ∀ {l : List (List Key × V)} {m : List (List Key × Addr × Value)}, KT H l m → ∀ x ∈ m, (tupleKind (mixKind P w)).is h x.1 x.2.1 := by
    intro l m q
    induction q with
    | nil => intro x hx; exact nomatch hx
    | @cons p q ps qs hq t ih =>
      intro x hx
      rcases List.mem_cons.mp hx with e | hx
      · subst e
        exact key_of ok (by rw [← hq.1]; exact hq.2.1)
      · exact ih x hx
  exact all r x hx
theorem dt_of {kvs : List (List Key × V)} (ok : HOk P w H h) (e : H a = some (.dT kvs)) : kvs.length ≤ sizeLine ∧ (a == sysModules) = false ∧
    ∃ xs, KT H kvs xs ∧ h.DictOfH (tupleKind (mixKind P w)) a xs := dt_rd ok (.inl e)
end
def DGet (H : Hp) (a : Addr) (y : V) (r : Option V) : Prop :=
  (∃ kvs k, Rd H a (.dK kvs) ∧ y = kV k ∧ r = valV kvs k) ∨ ∃ kvs k b, Rd H a (.dT kvs) ∧ y = .ref b ∧ H b = some (.tup (k.map kV)) ∧ r = valV kvs k
def DPut (H : Hp) (a : Addr) (y v : V) (H' : Hp) : Prop :=
  (∃ kvs k, H a = some (.dK kvs) ∧ y = kV k ∧ kvs.length < sizeLine ∧ H' = upd H a (.dK (putK kvs k v))) ∨
  ∃ kvs k b, H a = some (.dT kvs) ∧ y = .ref b ∧ H b = some (.tup (k.map kV)) ∧ kvs.length < sizeLine ∧ H' = upd H a (.dT (putK kvs k v))
theorem DGet.k {H : Hp} {a : Addr} {kvs : List (Key × V)} {k : Key} (e : H a = some (.dK kvs)) : DGet H a (kV k) (valV kvs k) := .inl ⟨kvs, k, .inl e, rfl, rfl⟩
theorem DPut.k {H : Hp} {a : Addr} {kvs : List (Key × V)} {k : Key} {v : V} (e : H a = some (.dK kvs)) (hl : kvs.length < sizeLine) : DPut H a (kV k) v (upd H a (.dK (putK kvs k v))) := .inl ⟨kvs, k, e, rfl, hl, rfl⟩
section
variable {X : Cx} {pins : List (Addr × Obj)} {σ : St} {H : Hp} {s : Shared} {a : Addr} {y v : V} {u r : Value} {o : Option V} {A : Around} {E : Value → Shared → Prop}
theorem Inv.big (I : Inv X pins σ H s) : sysModules < s.heap.objs.size := by
  have h : mainGlobals < s.heap.objs.size := (I.mod.glob.keeps I.bk).lt
  exact Nat.lt_trans (by decide) h
theorem d_getItem {Q : Value → Shared → Prop} (hu : A.units + 1 < cLine) (I : Inv X pins σ H s) (g : DGet H a y (some v)) (ry : RelV y u) (h : ∀ w' s', Inv X pins σ H s' → RelV v w' → Q w' s') :
    wpAny (model X.prog X.w) A (getItem (.ref a) u) Q E s := by
  rcases g with ⟨kvs, k, e, ey, l⟩ | ⟨kvs, k, b, e, ey, eb, l⟩
  · subst ey
    obtain ⟨z, hd, vs, rel, dd⟩ := dk_rd I.hok e
    obtain ⟨w', hw, rw'⟩ := RelO.some_of (v := v) (o := valueAt vs k) (by rw [l]; exact rel.val k)
    exact wpAny_getItem_of (kV_is ry) dd.mapOf hw (h w' _ (I.tok _) rw')
  · subst ey
    cases (show u = Value.ref b from ry)
    obtain ⟨z, hd, xs, rel, dd⟩ := dt_rd I.hok e
    obtain ⟨w', hw, rw'⟩ := RelO.some_of (v := v) (o := (atKey xs k).map (·.2)) (by rw [l]; exact rel.val k)
    obtain ⟨p, hp, hp2⟩ := Option.map_eq_some_iff.mp hw
    refine wpAny_getItem_heap (tupleKind_room_in1 hu) (key_of I.hok eb) dd hp ?_
    rw [hp2]
    exact h w' _ (I.tok _) rw'
theorem d_write {h' : Heap} {t' : Nat} {ob : HO} (I : Inv X pins σ H s) (mu : Mut (H a)) (hs : Heap.SameBut a s.heap h') (he : ∃ q, h'.get? a = some q) (new : ObjOk X.prog X.w (upd H a ob) h' a ob) :
    Inv X pins σ (upd H a ob) { s with heap := h', toks := t' } :=
  I.write (x := a) (e := a) mu (.inl rfl) (fun b q hb z => (hs.2 b hb).trans z) he new
theorem dk_new {P : Program} {w : World} {H' : Hp} {h' : Heap} {kvs : List (Key × V)} {vs : List (Key × Value)} (z : kvs.length ≤ sizeLine) (hd : (a == sysModules) = false) (rel : KV kvs vs) (dd : h'.DictOf (mixKind P w) a vs) :
    ObjOk P w H' h' a (.dK kvs) := ⟨z, hd, vs, rel, dd⟩
theorem d_setItem {H' : Hp} {Q : Unit → Shared → Prop} (hu : A.units + 1 < cLine) (I : Inv X pins σ H s) (g : DPut H a y v H') (ry : RelV y u) (rv : RelV v r) (h : ∀ s', Inv X pins σ H' s' → Q () s') :
    wpAny (model X.prog X.w) A (setItem (.ref a) u r) Q E s := by
  rcases g with ⟨kvs, k, e, ey, l, eH⟩ | ⟨kvs, k, b, e, ey, eb, l, eH⟩
  · subst ey eH
    obtain ⟨z, hd, vs, rel, dd⟩ := dk_of I.hok e
    have hz : vs.length ≤ sizeLine := by rw [← rel.length]; exact z
    have hl : (putK kvs k v).length ≤ sizeLine := by have := length_putK kvs k v; omega
    refine wpAny_setItem_pairs (hsz := hz) (kV_is ry) dd fun h' dd' hs => h _ ?_
    have he : ∃ q, h'.get? a = some q := let ⟨q, _, _, hq, _⟩ := dd'; ⟨q, hq⟩
    exact d_write I (by rw [e]; exact True.intro) hs he (dk_new hl hd (rel.put k rv) dd')
  · subst ey eH
    cases (show u = Value.ref b from ry)
    obtain ⟨z, hd, xs, rel, dd⟩ := dt_of I.hok e
    have hz : xs.length ≤ sizeLine := by rw [← Paired.length rel]; exact z
    have hl : (putK kvs k v).length ≤ sizeLine := by have := length_putK kvs k v; omega
    refine wpAny_setItem_heap (hsz := hz) (tupleKind_room_in1 hu) (key_of I.hok eb) dd fun h' dd' hs => h _ ?_
    obtain ⟨q, es, ep, hq, h2, h3, h4, _, h5⟩ := dd'
    refine d_write I (by rw [e]; exact True.intro) hs ⟨q, hq⟩ ⟨hl, hd, _, (rel.put k eb rv).keeps fun c ys ec => ?_, q, es, ep, hq, h2, h3, h4, h5⟩
    rw [upd_ne (ne_of ec e (fun z => nomatch z))]
    exact ec
end
section
variable {X : Cx} {pins : List (Addr × Obj)} {σ : St} {H : Hp} {s : Shared} {a : Addr} {kvs : List (Key × V)} {k : Key} {u : Value} {A : Around} {E : Value → Shared → Prop}
end
def NoSl (i : Expr) : Prop := ∀ ov iv, subscripted i false ov iv = operate [ov, iv] (getItem ov iv)
theorem subD_of {prog : Program} {w : World} {A : Around} {E : Value → Shared → Prop} {s : Shared} {env : Env} {value slice : Expr} {pos : Pos} {T id : String} {Q : Value → Shared → Prop}
    (hl : typeLookup (.type T) "__getitem__" = pure (some (.builtin id))) (hs : NoSl slice)
    (h : wpAny (model prog w) A (eval value env) (fun o s₁ => wpAny (model prog w) A (eval slice env) (fun i s₂ => s₂.TypeIs o T ∧ wpAny (model prog w) A (getItem o i) Q E s₂) E s₁) E s) :
    wpAny (model prog w) A (eval (.Subscript value slice pos) env) Q E s := by
  refine Subscript_ (wpAny_mono h (fun o s₁ h₁ => wpAny_mono h₁ (fun i s₂ h₂ => ?_) fun _ _ x => x) fun _ _ x => x)
  obtain ⟨hT, h₂⟩ := h₂
  unfold subscriptTail
  refine wpAny_bind ?_
  rw [getitemInPython_of_ne hT.not_modules]
  refine wpAny_bind (wpAny_specialOf hT hl ?_)
  have fin : wpAny (model prog w) A (subscripted slice false o i) (fun r s₃ => wpAny (model prog w) A (letTemporaryGo value o r >>= fun _ => pure r) Q E s₃) E s₂ := by
    rw [hs o i]
    exact wpAny_operating (wpAny_mono h₂ (fun r s₃ h₃ => wpAny_bind (wpAny_letTemporaryGo (wpAny_pure h₃))) fun _ _ x => x)
  first
    | exact wpAny_pure (wpAny_bind fin)
    | exact wpAny_bind (wpAny_pure (wpAny_bind fin))
    | exact wpAny_bind fin
theorem dict_typeIs {X : Cx} {pins : List (Addr × Obj)} {σ : St} {H : Hp} {s : Shared} {a : Addr} {y : V} {o : Option V} (I : Inv X pins σ H s) (g : DGet H a y o) : s.TypeIs (.ref a) "dict" := by
  rcases g with ⟨kvs, k, e, _, _⟩ | ⟨kvs, k, b, e, _, _, _⟩
  · obtain ⟨_, _, vs, _, dd⟩ := dk_rd I.hok e
    exact dd.typeIs
  · obtain ⟨_, _, xs, _, dd⟩ := dt_rd I.hok e
    exact dd.typeIs
def tDGet (td ty : TE) : TE := fun σ H Q => td σ H fun x H1 => ty σ H1 fun y H2 => ∃ a v, x = .ref a ∧ DGet H2 a y (some v) ∧ Q v H2
def sDPut (td ty tv : TE) : TS := fun D σ H => tv σ H fun v H1 => td σ H1 fun x H2 => ty σ H2 fun y H3 => ∃ a H4, x = .ref a ∧ DPut H3 a y v H4 ∧ D.nx σ H4
section
variable {X : Cx} {o i e value : Expr} {pos pos' tpos : Pos} {td ty tv : TE}
theorem pe_dget (hu : X.A.units + 1 < cLine) (ho : PE X o td) (hi : PE X i ty) (hs : NoSl i) : PE X (.Subscript o i pos) (tDGet td ty) := by
  intro pins s σ H Q I h
  refine subD_of PySem.F.slot_dict_getitem.lookup hs (thn (ho pins s σ H _ I h) fun u s1 ⟨x, H1, I1, rx, q1⟩ => thn (hi pins s1 σ H1 _ I1 q1) fun iv s2 ⟨y, H2, I2, ry, a, v, ex, g, q2⟩ => ?_)
  subst ex
  obtain rfl : u = Value.ref a := rx
  exact ⟨dict_typeIs I2 g, d_getItem hu I2 g ry fun w' s3 I3 rw' => ⟨v, H2, I3, rw', q2⟩⟩
theorem ps_dput (hu : X.A.units + 1 < cLine) (ho : PE X o td) (hi : PE X i ty) (hv : PE X value tv) (hs : swapsWith value (some (.Subscript o i pos')) pos.line X.env = pure false) :
    PS X (.Assign [.Subscript o i pos'] value pos) (sDPut td ty tv) := by
  intro pins s σ H D I h
  refine wpAny_Assign_Subscript (thn (hv pins s σ H _ I h) fun r s1 ⟨v, H1, I1, rv, q1⟩ => thn (ho pins s1 σ H1 _ I1 q1) fun u s2 ⟨x, H2, I2, rx, q2⟩ => thn (hi pins s2 σ H2 _ I2 q2) fun iv s3 ⟨y, H3, I3, ry, a, H4, ex, g, q3⟩ => ?_) hs
  subst ex
  obtain rfl : u = Value.ref a := rx
  exact d_setItem hu I3 g ry rv fun s4 I4 => ⟨σ, H4, I4, q3⟩
end
theorem dk_empty {P : Program} {w : World} {H : Hp} (h : Heap) (hb : sysModules < h.objs.size) : ObjOk P w H (h.push { cls := .type "dict", data := .dict #[] }) h.objs.size (.dK []) :=
  ⟨Nat.zero_le _, beq_eq_false_iff_ne.mpr (Ne.symm (Nat.ne_of_lt hb)), [], .nil, Heap.DictOf.new h⟩
def tDNewK : TE := fun _ H Q => ∀ p, H p = none → Q (.ref p) (upd H p (.dK []))
section
variable {X : Cx} {pos : Pos}
theorem pe_dnewK : PE X (.Dict [] [] pos) tDNewK := fun pins s σ H Q I h =>
  wpAny_Dict_empty ⟨.ref s.heap.objs.size, _, I.laid (a := s.heap.objs.size) (o := .dK []) (t' := s.toks) (fun _ _ q => Heap.get?_push_of_some _ q) (Nat.le_refl _) (dk_empty s.heap I.big), rfl, h _ (I.hok.fresh (Nat.le_refl _))⟩
end
def mergeK (kvs more : List (Key × V)) : List (Key × V) := more.foldl (fun acc kv => putK acc kv.1 kv.2) kvs
theorem KV.merge : ∀ {more : List (Key × V)} {rs : List (Key × Value)} {kvs : List (Key × V)} {vs : List (Key × Value)}, KV more rs → KV kvs vs → KV (mergeK kvs more) (merged vs rs) := by
  intro more rs kvs vs r
  unfold KV at r
  induction r generalizing kvs vs with
  | nil => intro q; exact q
  | @cons p q ps qs h t ih =>
    intro r0
    have e : KV (putK kvs p.1 p.2) (stored vs q.1 q.2) := by
      have := r0.put p.1 h.2
      rw [← h.1]; exact this
    exact ih e
theorem length_mergeK : ∀ (more kvs : List (Key × V)), (mergeK kvs more).length ≤ kvs.length + more.length
  | [], kvs => by show kvs.length ≤ kvs.length + 0; omega
  | p :: r, kvs => by
    have h1 := length_mergeK r (putK kvs p.1 p.2)
    have h2 := length_putK kvs p.1 p.2
    show (mergeK (putK kvs p.1 p.2) r).length ≤ _
    rw [List.length_cons]; omega
structure M2 (X : Cx) (o : Expr) (m : Str) (apos : Pos) (e f : Expr) (cpos : Pos) : Prop where
  base : attributeBase o m X.env (eval o X.env) = eval o X.env
  few : ((backTo cpos (starEach [e, f] X.env)).all (fun x => !x.1) && (backToKw cpos (keywordEach [] X.env)).all (fun x => x.1.isSome)
    && decide (([e, f] : List Expr).length + ([] : List Keyword).length + (if ([] : List Keyword).isEmpty then 0 else 1) < 30)) = true
  line : (apos.endLine == cpos.line) = true
  trees : backTo cpos (starEach [e, f] X.env) = [(false, eval e X.env), (false, eval f X.env)]
def IsD (H : Hp) (a : Addr) : Prop := (∃ kvs, Rd H a (.dK kvs)) ∨ ∃ kvs, Rd H a (.dT kvs)
theorem isD_at {X : Cx} {pins : List (Addr × Obj)} {σ : St} {H : Hp} {s : Shared} {a : Addr} (I : Inv X pins σ H s) (d : IsD H a) :
    s.TypeIs (.ref a) "dict" ∧ (∀ b, Value.ref a = .ref b → ∃ ob, s.heap.get? b = some ob ∧ ob.dict = none) ∧ (a == sysModules) = false := by
  rcases d with ⟨kvs, e⟩ | ⟨kvs, e⟩
  · obtain ⟨_, hd, vs, _, dd⟩ := dk_rd I.hok e
    refine ⟨dd.typeIs, fun b q => ?_, hd⟩
    cases q
    obtain ⟨ob, _, _, h1, h2, _⟩ := dd
    exact ⟨ob, h1, h2.2.1⟩
  · obtain ⟨_, hd, xs, _, dd⟩ := dt_rd I.hok e
    refine ⟨dd.typeIs, fun b q => ?_, hd⟩
    cases q
    obtain ⟨ob, _, _, h1, h2, _⟩ := dd
    exact ⟨ob, h1, h2.2.1⟩
section
variable {X : Cx} {pins : List (Addr × Obj)} {σ : St} {H : Hp} {s : Shared} {a : Addr} {y d : V} {u r : Value} {o : Option V} {A : Around} {E : Value → Shared → Prop}
theorem d_get2 {Q : Value → Shared → Prop} (hu : A.units + 1 < cLine) (I : Inv X pins σ H s) (g : DGet H a y o) (ry : RelV y u) (rd : RelV d r) (h : ∀ w' s', Inv X pins σ H s' → RelV (o.getD d) w' → Q w' s') :
    wpAny (model X.prog X.w) A (call (.builtin "dict.get") [.ref a, u, r]) Q E s := by
  rcases g with ⟨kvs, k, e, ey, l⟩ | ⟨kvs, k, b, e, ey, eb, l⟩
  · subst ey
    obtain ⟨z, hd, vs, rel, dd⟩ := dk_rd I.hok e
    refine call_meetsIn PySem.F.slot_dict_get dd.typeIs PySem.F.entry_dict_get (PySem.F.args_dict_get_3 _ _ _) (meets_dict_get_default (mixKind X.prog X.w) a (kV_is ry) hd r) ⟨_, dd.mapOf, h _ _ (I.tok _) ?_⟩
    rw [l]
    exact (rel.val k).getD rd
  · subst ey
    cases (show u = Value.ref b from ry)
    obtain ⟨z, hd, xs, rel, dd⟩ := dt_rd I.hok e
    refine call_meetsIn PySem.F.slot_dict_get dd.typeIs PySem.F.entry_dict_get (PySem.F.args_dict_get_3 _ _ _) (meetsH_dict_get_default (tupleKind (mixKind X.prog X.w)) a b hd r) ⟨tupleKind_room_in1 hu, k, xs, key_of I.hok eb, dd, h _ _ (I.tok _) ?_⟩
    rw [l]
    exact (rel.val k).getD rd
end
def tDGet2 (td ty tx : TE) : TE := fun σ H Q => td σ H fun x H1 => ∃ a, x = .ref a ∧ IsD H1 a ∧ ty σ H1 fun y H2 => tx σ H2 fun z H3 => ∃ o, DGet H3 a y o ∧ Q (o.getD z) H3
section
variable {X : Cx} {o e f : Expr} {apos cpos : Pos} {td ty tx : TE}
theorem pe_dget2 (hu : X.A.units + 1 < cLine) (ho : PE X o td) (he : PE X e ty) (hf : PE X f tx) (m : M2 X o "get" apos e f cpos) : PE X (.Call (.Attribute o "get" apos) [e, f] [] cpos) (tDGet2 td ty tx) := by
  intro pins s σ H Q I h
  refine wpAny_Call_method m.base m.few m.line PySem.F.plainAttrs_dict PySem.F.slot_dict_get PySem.F.type_dict_get (thn (ho pins s σ H _ I h) fun u s1 ⟨x, H1, I1, rx, a, ex, d, q1⟩ => ?_)
  subst ex
  obtain rfl : u = Value.ref a := rx
  obtain ⟨t1, t2, _⟩ := isD_at I1 d
  refine ⟨t1, t2, ?_⟩
  rw [m.trees]
  refine Calls.callWith_builtin rfl (Calls.evalArgs_plain (Calls.spliced_cons (thn (he pins s1 σ H1 _ I1 q1) fun iv s2 ⟨y, H2, I2, ry, q2⟩ =>
    Calls.spliced_cons (thn (hf pins s2 σ H2 _ I2 q2) fun fv s3 ⟨z, H3, I3, rz, ov, g, q3⟩ => Calls.spliced_nil ?_))))
  exact d_get2 hu I3 g ry rz fun w' s4 I4 rw' => ⟨_, H3, I4, rw', q3⟩
end
section
variable {X : Cx} {pins : List (Addr × Obj)} {σ : St} {H : Hp} {s : Shared} {a : Addr} {kvs : List (Key × V)} {A : Around} {E : Value → Shared → Prop}
end
section
variable {X : Cx} {pins : List (Addr × Obj)} {σ : St} {H : Hp} {s : Shared} {a : Addr} {y : V} {u : Value} {A : Around} {E : Value → Shared → Prop}
end
end L2
namespace L2
open PySem PySem.Spec PyProof.Rows
section
variable {X : Cx}
end
section
variable {κ : Type} [DecidableEq κ]
theorem valV_in {kvs : List (κ × V)} {k : κ} {v : V} (h : valV kvs k = some v) : k ∈ kvs.map (·.1) := by
  have q : (kvs.any fun kv => decide (kv.1 = k)) = true := by
    rw [valV_any, h]
    all_goals rfl
  obtain ⟨p, hp, e⟩ := List.any_eq_true.mp q
  exact List.mem_map.mpr ⟨p, hp, of_decide_eq_true e⟩
theorem nd_snoc : ∀ {l : List κ} {k : κ}, l.Nodup → ¬ k ∈ l → (l ++ [k]).Nodup
  | [], k, _, _ => by simp
  | a :: r, k, h, hk => by
    obtain ⟨h1, h2⟩ := List.nodup_cons.mp h
    show (a :: (r ++ [k])).Nodup
    refine List.nodup_cons.mpr ⟨fun m => ?_, nd_snoc h2 fun m => hk (List.mem_cons.mpr (Or.inr m))⟩
    rcases List.mem_append.mp m with q | q
    · exact h1 q
    · exact hk (List.mem_cons.mpr (Or.inl (List.mem_singleton.mp q).symm))
end
end L2
set_option maxRecDepth 100000
set_option Elab.async false
set_option linter.all false
namespace L2
open PySem PySem.Spec PySem.W PyProof.Rows
inductive DV where
  | f (v : V) | t (ds : List DV) | l (ds : List DV)
mutual
def deq : DV → DV → Bool
  | .f a, .f b => eqV a b
  | .t as, .t bs => deqs as bs
  | .l as, .l bs => deqs as bs
  | _, _ => false
def deqs : List DV → List DV → Bool
  | [], [] => true
  | a :: as, b :: bs => deq a b && deqs as bs
  | _, _ => false
end
mutual
def dep : DV → Nat
  | .f _ => 0
  | .t as => deps as + 1
  | .l as => deps as + 1
def deps : List DV → Nat
  | [] => 0
  | a :: as => max (dep a) (deps as)
end
mutual
def DRel (K : Frag) (H : Hp) : DV → V → Prop
  | .f v, x => x = v ∧ flatV v = true
  | .t ds, x => ∃ a xs, x = .ref a ∧ SqT K H a xs ∧ DRels K H ds xs
  | .l ds, x => ∃ a xs, x = .ref a ∧ SqL K H a xs ∧ DRels K H ds xs
def DRels (K : Frag) (H : Hp) : List DV → List V → Prop
  | [], [] => True
  | d :: ds, x :: xs => DRel K H d x ∧ DRels K H ds xs
  | _, _ => False
end
mutual
theorem deq_self : ∀ (d : DV) (K : Frag) (H : Hp) (x : V), DRel K H d x → deq d d = true
  | .f v, K, H, x, h => by
    simp only [DRel] at h
    simp only [deq]; exact eqV_self h.2
  | .t ds, K, H, x, h => by
    simp only [DRel] at h
    obtain ⟨a, xs, _, _, h⟩ := h
    simp only [deq]; exact deqs_self ds K H xs h
  | .l ds, K, H, x, h => by
    simp only [DRel] at h
    obtain ⟨a, xs, _, _, h⟩ := h
    simp only [deq]; exact deqs_self ds K H xs h
theorem deqs_self : ∀ (ds : List DV) (K : Frag) (H : Hp) (xs : List V), DRels K H ds xs → deqs ds ds = true
  | [], K, H, xs, h => by simp only [deqs]
  | d :: ds, K, H, [], h => by simp only [DRels] at h
  | d :: ds, K, H, x :: xs, h => by
    simp only [DRels] at h
    simp only [deqs, Bool.and_eq_true]
    exact ⟨deq_self d K H x h.1, deqs_self ds K H xs h.2⟩
end
def eqD (as bs : List DV) (j : Nat) : Bool := match as[j]?, bs[j]? with
  | some a, some b => deq a b
  | _, _ => true
theorem deqs_all : ∀ (as bs : List DV), as.length = bs.length → (List.range as.length).all (eqD as bs) = deqs as bs
  | [], [], _ => by simp [deqs]
  | a :: as, b :: bs, h => by
    have ih := deqs_all as bs (by simpa using h)
    rw [List.length_cons, List.range_succ_eq_map, List.all_cons, List.all_map]
    have e0 : eqD (a :: as) (b :: bs) 0 = deq a b := by simp [eqD]
    have e1 : (eqD (a :: as) (b :: bs) ∘ Nat.succ) = eqD as bs := by funext j; simp [eqD, Function.comp]
    rw [e0, e1, ih]
    simp only [deqs]
  | [], _ :: _, h => by simp at h
  | _ :: _, [], h => by simp at h
theorem deqs_len : ∀ (as bs : List DV), as.length ≠ bs.length → deqs as bs = false
  | [], [], h => absurd rfl h
  | a :: as, b :: bs, h => by
    have ih := deqs_len as bs (by simpa using h)
    simp only [deqs, ih, Bool.and_false]
  | [], _ :: _, _ => by simp only [deqs]
  | _ :: _, [], _ => by simp only [deqs]
theorem DRels.len {K : Frag} {H : Hp} : ∀ {ds : List DV} {xs : List V}, DRels K H ds xs → ds.length = xs.length
  | [], [], _ => rfl
  | d :: ds, x :: xs, h => by
    simp only [DRels] at h
    rw [List.length_cons, List.length_cons, DRels.len h.2]
  | [], _ :: _, h => by simp only [DRels] at h
  | _ :: _, [], h => by simp only [DRels] at h
section
variable {X : Cx} {pins : List (Addr × Obj)} {σ : St} {H : Hp} {s : Shared}
theorem not_both {a : Addr} {xs ys : List V} (I : Inv X pins σ H s) (h1 : SqT X.K H a xs) (h2 : SqL X.K H a ys) : False := by
  obtain ⟨_, _, ⟨o, e, c, _⟩, _⟩ := I.tuple h1
  obtain ⟨_, _, p, _⟩ := I.list h2
  obtain ⟨o', e', c', _⟩ := p.isList
  rw [e] at e'; cases e'
  rw [c] at c'
  injection c' with c'
  exact absurd c' (by decide)
mutual
theorem deq_same (I : Inv X pins σ H s) : ∀ (d1 d2 : DV) (x : V), DRel X.K H d1 x → DRel X.K H d2 x → deq d1 d2 = true
  | .f v, .f w, x, h1, h2 => by
    simp only [DRel] at h1 h2
    rw [← h1.1, ← h2.1] at *
    simp only [deq]; exact eqV_self h1.2
  | .t as, .t bs, x, h1, h2 => by
    simp only [DRel] at h1 h2
    obtain ⟨a, xs, rfl, q1, r1⟩ := h1
    obtain ⟨b, ys, e, q2, r2⟩ := h2
    cases e
    cases I.tuple_inj q1 q2
    simp only [deq]; exact deqs_same I as bs xs r1 r2
  | .l as, .l bs, x, h1, h2 => by
    simp only [DRel] at h1 h2
    obtain ⟨a, xs, rfl, q1, r1⟩ := h1
    obtain ⟨b, ys, e, q2, r2⟩ := h2
    cases e
    cases I.list_inj q1 q2
    simp only [deq]; exact deqs_same I as bs xs r1 r2
  | .f v, .t bs, x, h1, h2 => by
    simp only [DRel] at h1 h2
    obtain ⟨b, ys, e, _⟩ := h2
    have := h1.2; rw [← h1.1, e] at this; cases this
  | .f v, .l bs, x, h1, h2 => by
    simp only [DRel] at h1 h2
    obtain ⟨b, ys, e, _⟩ := h2
    have := h1.2; rw [← h1.1, e] at this; cases this
  | .t bs, .f v, x, h1, h2 => by
    simp only [DRel] at h1 h2
    obtain ⟨b, ys, e, _⟩ := h1
    have := h2.2; rw [← h2.1, e] at this; cases this
  | .l bs, .f v, x, h1, h2 => by
    simp only [DRel] at h1 h2
    obtain ⟨b, ys, e, _⟩ := h1
    have := h2.2; rw [← h2.1, e] at this; cases this
  | .t as, .l bs, x, h1, h2 => by
    simp only [DRel] at h1 h2
    obtain ⟨a, xs, rfl, q1, r1⟩ := h1
    obtain ⟨b, ys, e, q2, r2⟩ := h2
    cases e
    exact (not_both I q1 q2).elim
  | .l as, .t bs, x, h1, h2 => by
    simp only [DRel] at h1 h2
    obtain ⟨a, xs, rfl, q1, r1⟩ := h1
    obtain ⟨b, ys, e, q2, r2⟩ := h2
    cases e
    exact (not_both I q2 q1).elim
theorem deqs_same (I : Inv X pins σ H s) : ∀ (as bs : List DV) (xs : List V), DRels X.K H as xs → DRels X.K H bs xs → deqs as bs = true
  | [], [], _, _, _ => by simp only [deqs]
  | a :: as, b :: bs, x :: xs, h1, h2 => by
    simp only [DRels] at h1 h2
    simp only [deqs, Bool.and_eq_true]
    exact ⟨deq_same I a b x h1.1 h2.1, deqs_same I as bs xs h1.2 h2.2⟩
  | [], _ :: _, [], h1, h2 => by simp only [DRels] at h2
  | [], _ :: _, _ :: _, h1, h2 => by simp only [DRels] at h1
  | _ :: _, [], [], h1, h2 => by simp only [DRels] at h1
  | _ :: _, [], _ :: _, h1, h2 => by simp only [DRels] at h2
  | _ :: _, _ :: _, [], h1, h2 => by simp only [DRels] at h1
end
theorem flat_tup {A : Around} {y : V} {u : Value} {a : Addr} {items : Array Value} (fy : flatV y = true) (ry : RelV y u) (h : s.heap.IsTuple a items) (hu : A.units < cLine) : SeqAt.EqAt A s u (.ref a) false := by
  cases y with
  | non => cases ry; exact .none_tuple h hu
  | bl b => cases ry; exact .bool_tuple b h hu
  | int b => obtain ⟨t, rfl⟩ := ry; exact .int_tuple b t h hu
  | str b => obtain ⟨t, rfl⟩ := ry; exact .str_tuple b t h hu
  | _ => cases fy
theorem flat_lst {A : Around} {y : V} {u : Value} {a : Addr} {items : Array Value} (fy : flatV y = true) (ry : RelV y u) (h : s.heap.IsList a items) (hu : A.units < cLine) : SeqAt.EqAt A s u (.ref a) false := by
  cases y with
  | non => cases ry; exact .none_list h hu
  | bl b => cases ry; exact .bool_list b h hu
  | int b => obtain ⟨t, rfl⟩ := ry; exact .int_list b t h hu
  | str b => obtain ⟨t, rfl⟩ := ry; exact .str_list b t h hu
  | _ => cases fy
theorem tup_flat {A : Around} {y : V} {u : Value} {a : Addr} {items : Array Value} (fy : flatV y = true) (ry : RelV y u) (h : s.heap.IsTuple a items) (hu : A.units < cLine) : SeqAt.EqAt A s (.ref a) u false := by
  cases y with
  | non => cases ry; exact .tuple_none h hu
  | bl b => cases ry; exact .tuple_bool b h hu
  | int b => obtain ⟨t, rfl⟩ := ry; exact .tuple_int b t h hu
  | str b => obtain ⟨t, rfl⟩ := ry; exact .tuple_str b t h hu
  | _ => cases fy
theorem lst_flat {A : Around} {y : V} {u : Value} {a : Addr} {items : Array Value} (fy : flatV y = true) (ry : RelV y u) (h : s.heap.IsList a items) (hu : A.units < cLine) : SeqAt.EqAt A s (.ref a) u false := by
  cases y with
  | non => cases ry; exact .list_none h hu
  | bl b => cases ry; exact .list_bool b h hu
  | int b => obtain ⟨t, rfl⟩ := ry; exact .list_int b t h hu
  | str b => obtain ⟨t, rfl⟩ := ry; exact .list_str b t h hu
  | _ => cases fy
theorem items_eq {A : Around} {as bs : List DV} {xs ys : List V} {us vs : List Value} (h1 : DRels X.K H as xs) (h2 : DRels X.K H bs ys) (r1 : Vals xs us) (r2 : Vals ys vs)
    (ih : ∀ (j : Nat) (a b : DV) (u v : Value), as[j]? = some a → bs[j]? = some b → us[j]? = some u → vs[j]? = some v → SeqAt.EqAt A s u v (deq a b)) :
    ∀ j (g1 : j < us.toArray.size) (g2 : j < vs.toArray.size), SeqAt.EqAt A s us.toArray[j] vs.toArray[j] (eqD as bs j) := by
  intro j g1 g2
  have l1 := h1.len
  have l2 := h2.len
  have m1 := r1.length
  have m2 := r2.length
  have g1' : j < us.length := by simpa using g1
  have g2' : j < vs.length := by simpa using g2
  have e : eqD as bs j = deq as[j] bs[j] := by simp [eqD, show j < as.length by omega, show j < bs.length by omega]
  rw [e]
  exact ih j _ _ _ _ (List.getElem?_eq_getElem (by omega)) (List.getElem?_eq_getElem (by omega)) (by simp [g1']) (by simp [g2'])
mutual
theorem eqAt_D (I : Inv X pins σ H s) : ∀ (d1 d2 : DV) (x y : V) (u v : Value) (A : Around), DRel X.K H d1 x → DRel X.K H d2 y → RelV x u → RelV y v → A.units + dep d1 < cLine → SeqAt.EqAt A s u v (deq d1 d2)
  | .f a, .f b, x, y, u, v, A, h1, h2, r1, r2, hu => by
    simp only [DRel] at h1 h2
    simp only [deq]
    rw [h1.1] at r1; rw [h2.1] at r2
    exact eqAt_V r1 r2 h1.2 h2.2
  | .f a, .t bs, x, y, u, v, A, h1, h2, r1, r2, hu => by
    simp only [DRel] at h1 h2
    obtain ⟨b, ys, rfl, q2, _⟩ := h2
    obtain ⟨vs, _, p2, _⟩ := I.tuple q2
    simp only [deq]
    rw [h1.1] at r1; cases r2
    exact flat_tup h1.2 r1 p2 (by omega)
  | .f a, .l bs, x, y, u, v, A, h1, h2, r1, r2, hu => by
    simp only [DRel] at h1 h2
    obtain ⟨b, ys, rfl, q2, _⟩ := h2
    obtain ⟨vs, _, p2, _⟩ := I.list q2
    simp only [deq]
    rw [h1.1] at r1; cases r2
    exact flat_lst h1.2 r1 p2.isList (by omega)
  | .t as, .f b, x, y, u, v, A, h1, h2, r1, r2, hu => by
    simp only [DRel] at h1 h2
    obtain ⟨a, xs, rfl, q1, _⟩ := h1
    obtain ⟨us, _, p1, _⟩ := I.tuple q1
    simp only [deq]
    rw [h2.1] at r2; cases r1
    exact tup_flat h2.2 r2 p1 (by omega)
  | .l as, .f b, x, y, u, v, A, h1, h2, r1, r2, hu => by
    simp only [DRel] at h1 h2
    obtain ⟨a, xs, rfl, q1, _⟩ := h1
    obtain ⟨us, _, p1, _⟩ := I.list q1
    simp only [deq]
    rw [h2.1] at r2; cases r1
    exact lst_flat h2.2 r2 p1.isList (by omega)
  | .t as, .l bs, x, y, u, v, A, h1, h2, r1, r2, hu => by
    simp only [DRel] at h1 h2
    obtain ⟨a, xs, rfl, q1, _⟩ := h1
    obtain ⟨b, ys, rfl, q2, _⟩ := h2
    obtain ⟨us, _, p1, _⟩ := I.tuple q1
    obtain ⟨vs, _, p2, _⟩ := I.list q2
    simp only [deq]
    cases r1; cases r2
    exact .tuple_list p1 p2.isList (by omega)
  | .l as, .t bs, x, y, u, v, A, h1, h2, r1, r2, hu => by
    simp only [DRel] at h1 h2
    obtain ⟨a, xs, rfl, q1, _⟩ := h1
    obtain ⟨b, ys, rfl, q2, _⟩ := h2
    obtain ⟨us, _, p1, _⟩ := I.list q1
    obtain ⟨vs, _, p2, _⟩ := I.tuple q2
    simp only [deq]
    cases r1; cases r2
    exact .list_tuple p1.isList p2 (by omega)
  | .t as, .t bs, x, y, u, v, A, h1, h2, r1, r2, hu => by
    by_cases hxy : x = y
    · subst hxy
      rw [deq_same I _ _ x h1 h2]
      simp only [DRel] at h1
      obtain ⟨a, xs, rfl, _⟩ := h1
      cases r1; cases r2
      exact .same _
    simp only [DRel] at h1 h2
    obtain ⟨a, xs, rfl, q1, d1⟩ := h1
    obtain ⟨b, ys, rfl, q2, d2⟩ := h2
    obtain ⟨us, m1, p1, _⟩ := I.tuple q1
    obtain ⟨vs, m2, p2, _⟩ := I.tuple q2
    cases r1; cases r2
    simp only [dep] at hu
    have he := items_eq (A := A.in1) d1 d2 m1 m2 (eqAt_Ds I as bs xs ys us vs A.in1 d1 d2 m1 m2 (by show A.units + 1 + _ < _; omega))
    have hr := SeqAt.RcAt.tuples (A := A) p1 p2 (by omega) he
    have hq : ((List.range (min us.toArray.size vs.toArray.size)).all (eqD as bs) && us.toArray.size == vs.toArray.size) = deqs as bs := by
      have l1 := d1.len; have l2 := d2.len; have l3 := m1.length; have l4 := m2.length
      have e1 : us.toArray.size = as.length := by simp; omega
      have e2 : vs.toArray.size = bs.length := by simp; omega
      rw [e1, e2]
      by_cases hl : as.length = bs.length
      · rw [← hl, Nat.min_self, deqs_all as bs hl]; simp
      · rw [deqs_len as bs hl]; simp [hl]
    rw [hq] at hr
    simp only [deq]
    exact .of_refs (fun z => hxy (by rw [z])) hr
  | .l as, .l bs, x, y, u, v, A, h1, h2, r1, r2, hu => by
    by_cases hxy : x = y
    · subst hxy
      rw [deq_same I _ _ x h1 h2]
      simp only [DRel] at h1
      obtain ⟨a, xs, rfl, _⟩ := h1
      cases r1; cases r2
      exact .same _
    simp only [DRel] at h1 h2
    obtain ⟨a, xs, rfl, q1, d1⟩ := h1
    obtain ⟨b, ys, rfl, q2, d2⟩ := h2
    obtain ⟨us, m1, p1, _⟩ := I.list q1
    obtain ⟨vs, m2, p2, _⟩ := I.list q2
    cases r1; cases r2
    simp only [dep] at hu
    have l1 := d1.len; have l2 := d2.len; have l3 := m1.length; have l4 := m2.length
    have e1 : us.toArray.size = as.length := by simp; omega
    have e2 : vs.toArray.size = bs.length := by simp; omega
    simp only [deq]
    by_cases hl : as.length = bs.length
    · have he := items_eq (A := A.in1) d1 d2 m1 m2 (eqAt_Ds I as bs xs ys us vs A.in1 d1 d2 m1 m2 (by show A.units + 1 + _ < _; omega))
      have hr := SeqAt.RcAt.lists (A := A) p1.isList p2.isList (by omega) (by omega) he
      rw [e1, deqs_all as bs hl] at hr
      exact .of_refs (fun z => hxy (by rw [z])) hr
    · rw [deqs_len as bs hl]
      exact .of_refs (fun z => hxy (by rw [z])) (SeqAt.RcAt.lists_lengths p1.isList p2.isList (by simp; omega) (by omega))
theorem eqAt_Ds (I : Inv X pins σ H s) : ∀ (as bs : List DV) (xs ys : List V) (us vs : List Value) (A : Around), DRels X.K H as xs → DRels X.K H bs ys → Vals xs us → Vals ys vs → A.units + deps as < cLine →
    ∀ (j : Nat) (a b : DV) (u v : Value), as[j]? = some a → bs[j]? = some b → us[j]? = some u → vs[j]? = some v → SeqAt.EqAt A s u v (deq a b)
  | [], _, _, _, _, _, _, _, _, _, _, _, j, a, b, u, v, e1, _, _, _ => by simp at e1
  | _ :: _, [], _, _, _, _, _, _, _, _, _, _, j, a, b, u, v, _, e2, _, _ => by simp at e2
  | d :: as, d' :: bs, [], _, _, _, _, h1, _, _, _, _, j, a, b, u, v, _, _, _, _ => by simp only [DRels] at h1
  | d :: as, d' :: bs, _ :: _, [], _, _, _, _, h2, _, _, _, j, a, b, u, v, _, _, _, _ => by simp only [DRels] at h2
  | d :: as, d' :: bs, x :: xs, y :: ys, _, _, A, h1, h2, .cons r1 m1, .cons r2 m2, hu, 0, a, b, u, v, e1, e2, e3, e4 => by
    simp only [DRels] at h1 h2
    simp only [deps] at hu
    cases e1; cases e2; cases e3; cases e4
    exact eqAt_D I d d' x y _ _ A h1.1 h2.1 r1 r2 (by omega)
  | d :: as, d' :: bs, x :: xs, y :: ys, _, _, A, h1, h2, .cons r1 m1, .cons r2 m2, hu, j + 1, a, b, u, v, e1, e2, e3, e4 => by
    simp only [DRels] at h1 h2
    simp only [deps] at hu
    exact eqAt_Ds I as bs xs ys _ _ A h1.2 h2.2 m1 m2 (by omega) j a b u v e1 e2 e3 e4
end
end
section
variable {X : Cx} {pins : List (Addr × Obj)} {σ : St} {H : Hp} {s : Shared}
theorem rc_D (I : Inv X pins σ H s) : ∀ (d1 d2 : DV) (x y : V) (u v : Value) (A : Around), DRel X.K H d1 x → DRel X.K H d2 y → RelV x u → RelV y v → A.units + dep d1 < cLine → 0 < dep d1 → 0 < dep d2 → SeqAt.RcAt A s u v (deq d1 d2) ∧ SeqAt.RcNeAt A s u v (!deq d1 d2)
  | .f _, _, _, _, _, _, _, _, _, _, _, _, z, _ => by simp only [dep] at z; omega
  | .t _, .f _, _, _, _, _, _, _, _, _, _, _, _, z => by simp only [dep] at z; omega
  | .l _, .f _, _, _, _, _, _, _, _, _, _, _, _, z => by simp only [dep] at z; omega
  | .t as, .l bs, x, y, u, v, A, h1, h2, r1, r2, hu, _, _ => by
    simp only [DRel] at h1 h2
    obtain ⟨a, xs, rfl, q1, _⟩ := h1
    obtain ⟨b, ys, rfl, q2, _⟩ := h2
    obtain ⟨us, _, p1, _⟩ := I.tuple q1
    obtain ⟨vs, _, p2, _⟩ := I.list q2
    simp only [deq]
    cases r1; cases r2
    exact ⟨.tuple_list p1 p2.isList (by omega), .tuple_list p1 p2.isList (by omega)⟩
  | .l as, .t bs, x, y, u, v, A, h1, h2, r1, r2, hu, _, _ => by
    simp only [DRel] at h1 h2
    obtain ⟨a, xs, rfl, q1, _⟩ := h1
    obtain ⟨b, ys, rfl, q2, _⟩ := h2
    obtain ⟨us, _, p1, _⟩ := I.list q1
    obtain ⟨vs, _, p2, _⟩ := I.tuple q2
    simp only [deq]
    cases r1; cases r2
    exact ⟨.list_tuple p1.isList p2 (by omega), .list_tuple p1.isList p2 (by omega)⟩
  | .t as, .t bs, x, y, u, v, A, h1, h2, r1, r2, hu, _, _ => by
    simp only [DRel] at h1 h2
    obtain ⟨a, xs, rfl, q1, d1⟩ := h1
    obtain ⟨b, ys, rfl, q2, d2⟩ := h2
    obtain ⟨us, m1, p1, _⟩ := I.tuple q1
    obtain ⟨vs, m2, p2, _⟩ := I.tuple q2
    cases r1; cases r2
    simp only [dep] at hu
    have he := items_eq (A := A.in1) d1 d2 m1 m2 (eqAt_Ds I as bs xs ys us vs A.in1 d1 d2 m1 m2 (by show A.units + 1 + _ < _; omega))
    have hr := SeqAt.RcAt.tuples (A := A) p1 p2 (by omega) he
    have hn := SeqAt.RcNeAt.tuples (A := A) p1 p2 (by omega) he
    have hq : ((List.range (min us.toArray.size vs.toArray.size)).all (eqD as bs) && us.toArray.size == vs.toArray.size) = deqs as bs := by
      have l1 := d1.len; have l2 := d2.len; have l3 := m1.length; have l4 := m2.length
      have e1 : us.toArray.size = as.length := by simp; omega
      have e2 : vs.toArray.size = bs.length := by simp; omega
      rw [e1, e2]
      by_cases hl : as.length = bs.length
      · rw [← hl, Nat.min_self, deqs_all as bs hl]; simp
      · rw [deqs_len as bs hl]; simp [hl]
    rw [hq] at hr hn
    simp only [deq]
    exact ⟨hr, hn⟩
  | .l as, .l bs, x, y, u, v, A, h1, h2, r1, r2, hu, _, _ => by
    simp only [DRel] at h1 h2
    obtain ⟨a, xs, rfl, q1, d1⟩ := h1
    obtain ⟨b, ys, rfl, q2, d2⟩ := h2
    obtain ⟨us, m1, p1, _⟩ := I.list q1
    obtain ⟨vs, m2, p2, _⟩ := I.list q2
    cases r1; cases r2
    simp only [dep] at hu
    have l1 := d1.len; have l2 := d2.len; have l3 := m1.length; have l4 := m2.length
    have e1 : us.toArray.size = as.length := by simp; omega
    have e2 : vs.toArray.size = bs.length := by simp; omega
    simp only [deq]
    by_cases hl : as.length = bs.length
    · have he := items_eq (A := A.in1) d1 d2 m1 m2 (eqAt_Ds I as bs xs ys us vs A.in1 d1 d2 m1 m2 (by show A.units + 1 + _ < _; omega))
      have hr := SeqAt.RcAt.lists (A := A) p1.isList p2.isList (by omega) (by omega) he
      have hn := SeqAt.RcNeAt.lists (A := A) p1.isList p2.isList (by omega) (by omega) he
      rw [e1, deqs_all as bs hl] at hr hn
      exact ⟨hr, hn⟩
    · rw [deqs_len as bs hl]
      exact ⟨SeqAt.RcAt.lists_lengths p1.isList p2.isList (by simp; omega) (by omega), SeqAt.RcNeAt.lists_lengths p1.isList p2.isList (by simp; omega) (by omega)⟩
end
section
variable {X : Cx}
def rEqD (K : Frag) (neg : Bool) : R2 := fun x y H Q => ∃ d1 d2, DRel K H d1 x ∧ DRel K H d2 y ∧ dep d1 ≤ 20 ∧ 0 < dep d1 ∧ 0 < dep d2 ∧ Q (.bl (if neg then !deq d1 d2 else deq d1 d2)) H
theorem op_eqD (hu : X.A.units + 64 < cLine) : OpR X (compareOp .Eq) (rEqD X.K false) := by
  intro pins s σ H x y v u Q I rx ry h
  obtain ⟨d1, d2, h1, h2, z, z1, z2, q⟩ := h
  exact (rc_D I d1 d2 x y v u X.A h1 h2 rx ry (by omega) z1 z2).1 _ _ _ _ ⟨.bl (deq d1 d2), H, I, rfl, q⟩
def flats (xs : List V) : List DV := xs.map .f
theorem flats_rel {K : Frag} {H : Hp} : ∀ {xs : List V}, xs.all flatV = true → DRels K H (flats xs) xs
  | [], _ => by simp only [flats, List.map_nil, DRels]
  | x :: xs, h => by
    rw [List.all_cons, Bool.and_eq_true] at h
    show DRels K H (.f x :: flats xs) (x :: xs)
    simp only [DRels, DRel]
    exact ⟨⟨trivial, h.1⟩, flats_rel h.2⟩
theorem flats_dep : ∀ (xs : List V), deps (flats xs) = 0
  | [] => by simp only [flats, List.map_nil, deps]
  | x :: xs => by
    show deps (.f x :: flats xs) = 0
    simp only [deps, dep, flats_dep xs]; rfl
theorem flats_eq : ∀ (xs ys : List V), deqs (flats xs) (flats ys) = eqVs xs ys
  | [], [] => by simp only [flats, List.map_nil, deqs, eqVs]
  | x :: xs, y :: ys => by
    show deqs (.f x :: flats xs) (.f y :: flats ys) = _
    simp only [deqs, deq, eqVs, flats_eq xs ys]
  | [], y :: ys => by
    show deqs [] (.f y :: flats ys) = _
    simp only [deqs, eqVs]
  | x :: xs, [] => by
    show deqs (.f x :: flats xs) [] = _
    simp only [deqs, eqVs]
theorem i_cmpFL {K : Frag} {neg : Bool} {H : Hp} {Q : VK} {p q : Addr} {xs ys : List V} (h1 : SqL K H p xs) (h2 : SqL K H q ys) (f1 : xs.all flatV = true) (f2 : ys.all flatV = true) (k : Q (.bl (if neg then !eqVs xs ys else eqVs xs ys)) H) : rEqD K neg (.ref p) (.ref q) H Q := by
  refine ⟨.l (flats xs), .l (flats ys), ?_, ?_, ?_, ?_, ?_, ?_⟩
  · simp only [DRel]; exact ⟨p, xs, rfl, h1, flats_rel f1⟩
  · simp only [DRel]; exact ⟨q, ys, rfl, h2, flats_rel f2⟩
  · simp only [dep, flats_dep]; omega
  · simp only [dep]; omega
  · simp only [dep]; omega
  · simp only [deq, flats_eq]; exact k
theorem i_eqFL {K : Frag} {H : Hp} {Q : VK} {p q : Addr} {xs ys : List V} (h1 : SqL K H p xs) (h2 : SqL K H q ys) (f1 : xs.all flatV = true) (f2 : ys.all flatV = true) (k : Q (.bl (eqVs xs ys)) H) : rEqD K false (.ref p) (.ref q) H Q := i_cmpFL h1 h2 f1 f2 k
def cutS (z : Str) (lo hi : Option Int) : Str := ⟨((z.cps.toList.drop (HT.sIx z.length 0 lo)).take (HT.sIx z.length z.length hi - HT.sIx z.length 0 lo)).toArray⟩
theorem slice_ix (lo hi : Option Int) (n : Nat) : Builtin.Str.strSliceIndices lo hi 1 n = (List.range (HT.sIx n n hi - HT.sIx n 0 lo)).map fun m => HT.sIx n 0 lo + m := by
  have clip : ∀ (o : Option Int) (d : Nat), (match o with | none => ((d : Nat) : Int) | some i => max 0 (min (if i < 0 then i + (n : Int) else i) (n : Int))) = ((HT.sIx n d o : Nat) : Int) := by
    intro o d
    cases o with
    | none => rfl
    | some v =>
      show max 0 (min (if v < 0 then v + (n : Int) else v) (n : Int)) = (((if v < 0 then (v + (n : Int)).toNat else min v.toNat n) : Nat) : Int)
      by_cases hv : v < 0
      · rw [if_pos hv, if_pos hv]; omega
      · rw [if_neg hv, if_neg hv]; omega
  have key : ∀ a b : Nat, sliceRange (a : Int) (b : Int) 1 = (List.range (b - a)).map fun m => a + m := by
    intro a b
    unfold sliceRange
    simp only [show (1 : Int) > 0 by decide, if_true, Int.ediv_one]
    have hc : (if (a : Int) < (b : Int) then ((b : Int) - (a : Int) + 1 - 1) else 0).toNat = b - a := by split <;> omega
    rw [hc]
    refine List.map_congr_left fun m _ => ?_
    omega
  unfold Builtin.Str.strSliceIndices
  simp only [show (1 : Int) > 0 by decide, if_true]
  exact (congr (congrArg (fun p q => sliceRange p q 1) (clip lo 0)) (clip hi n)).trans (key _ _)
theorem pick_at (l : List Nat) (a : Nat) : ∀ k : Nat, ((List.range k).map fun m => a + m).filterMap (fun j => l[j]?) = (l.drop a).take k
  | 0 => by simp
  | k + 1 => by
    rw [List.range_succ, List.map_append, List.filterMap_append, pick_at l a k, List.take_add_one]
    congr 1
    simp only [List.map_cons, List.map_nil, List.filterMap_cons, List.filterMap_nil, List.getElem?_drop]
    cases l[a + k]? <;> rfl
theorem cut_made (z : Str) (t : Tok) (l u : Option (Int × Tok)) : ∃ b : Bool, PySem.sliceMade z t l u none = if b then .val (.str (cutS z (l.map (·.1)) (u.map (·.1))) t) else .str (cutS z (l.map (·.1)) (u.map (·.1))) := by
  have hp : ((PySem.slicePicked z l u none).filterMap (z.cps[·]?)).toArray = (cutS z (l.map (·.1)) (u.map (·.1))).cps := by
    unfold PySem.slicePicked cutS
    rw [show ((none : Option (Int × Tok)).map (·.1)).getD 1 = (1 : Int) from rfl, slice_ix]
    have e : (fun (j : Nat) => z.cps[j]?) = fun (j : Nat) => z.cps.toList[j]? := by funext j; simp
    rw [e, pick_at]
  unfold PySem.sliceMade
  by_cases hw : (((none : Option (Int × Tok)).map (·.1)).getD 1 == 1 && (PySem.slicePicked z l u none).length == z.length) = true
  · refine ⟨true, ?_⟩
    rw [if_pos hw, if_pos rfl]
    have hl : (PySem.slicePicked z l u none).length = z.length := by
      rw [Bool.and_eq_true] at hw; simpa using hw.2
    have hz : cutS z (l.map (·.1)) (u.map (·.1)) = z := by
      unfold PySem.slicePicked at hl
      rw [show ((none : Option (Int × Tok)).map (·.1)).getD 1 = (1 : Int) from rfl, slice_ix, List.length_map, List.length_range] at hl
      have h1 := HT.sIx_le z.length 0 (Nat.zero_le _) (l.map (·.1))
      have h2 := HT.sIx_le z.length z.length (Nat.le_refl _) (u.map (·.1))
      by_cases h0 : z.length = 0
      · have e1 : z.cps.toList = [] := List.eq_nil_of_length_eq_zero (by rw [Array.length_toList]; exact h0)
        cases z with
        | mk cps =>
          unfold cutS
          have e1 : cps.toList = [] := e1
          simp only [e1, List.drop_nil, List.take_nil]
          congr 1
          exact Array.toList_inj.mp (by rw [e1])
      · have ha : HT.sIx z.length 0 (l.map (·.1)) = 0 := by omega
        have hb : HT.sIx z.length z.length (u.map (·.1)) = z.length := by omega
        cases z with
        | mk cps =>
          unfold cutS
          rw [ha, hb, List.drop_zero, Nat.sub_zero]
          congr 1
          have : cps.toList.take (Str.length ⟨cps⟩) = cps.toList := List.take_of_length_le (by rw [Array.length_toList]; exact Nat.le_refl _)
          rw [this]
    rw [hz]
  · refine ⟨false, ?_⟩
    rw [if_neg hw, hp]
    rfl
def rSlS : V → Option Int → Option Int → Hp → VK → Prop := fun x lo hi H Q => ∃ z, x = .str z ∧ z.length ≤ sizeLine ∧ Q (.str (cutS z lo hi)) H
theorem cutS_len (z : Str) (lo hi : Option Int) : (cutS z lo hi).length ≤ z.length := by
  show ((z.cps.toList.drop _).take _).toArray.size ≤ z.cps.size
  rw [List.size_toArray, List.length_take, List.length_drop, Array.length_toList]
  omega
theorem sl_str : SlR X rSlS := by
  intro pins s σ H x v vl vu lo hi sl Q I rx hs pl pu h
  obtain ⟨z, rfl, hz, q⟩ := h
  obtain ⟨t, rfl⟩ := rx
  refine ⟨"str", _, F.slot_str_getitem.lookup, typeIs_str _ _ _, ?_⟩
  have fin : ∀ (l u : Option (Int × Tok)), l.map (·.1) = lo → u.map (·.1) = hi → s.heap.IsSlice sl l u none → wpAny (model X.prog X.w) X.A (getItem (.str z t) (.ref sl)) (EP X pins σ Q) X.xe s := by
    intro l u el eu hsl
    refine wpAny_getItem_str_slice hsl rfl ?_
    obtain ⟨b, e⟩ := cut_made z t l u
    rw [e, el, eu]
    cases b with
    | true => exact ⟨.str (cutS z lo hi), H, I, ⟨t, rfl⟩, q⟩
    | false => exact ⟨Nat.le_trans (cutS_len z lo hi) hz, .str (cutS z lo hi), H, I.tok _, ⟨_, rfl⟩, q⟩
  cases pl with
  | none =>
    cases pu with
    | none => exact fin none none rfl rfl hs
    | int j tj => exact fin none (some (j, tj)) rfl rfl hs
  | int i ti =>
    cases pu with
    | none => exact fin (some (i, ti)) none rfl rfl hs
    | int j tj => exact fin (some (i, ti)) (some (j, tj)) rfl rfl hs
end
theorem lcR {te : TE} {cs : St} {H1 : Hp} {Q : Addr → Hp → Prop} {lo : Int} {n : Nat} (f : Nat → V) (hz : n ≤ sizeLine)
    (hx : ∀ (i : Nat) (H' : Hp) (R : VK), i < n → Same H1 H' → R (f i) H' → te (some (.int (lo + i)) :: cs) H' R) (q : ∀ D H2, New H1 D (.lst ((List.range n).map f)) H2 → Q D H2) :
    ∀ D, H1 D = none → ∃ W : Nat → Nat → List V → Hp → Prop, (∃ m, W 0 m [] (upd H1 D (.lst []))) ∧ ∀ i m ys H, W i m ys H →
      H D = some (.lst ys) ∧ (((Itr lo n).stop i H ∧ Q D H) ∨ ((Itr lo n).go i H ∧ ys.length < sizeLine ∧ ∀ x H', (Itr lo n).yld i H x H' → tYes (some x :: cs) H' fun b H2 =>
        if b = true then te (some x :: cs) H2 fun y H3 => H3 D = some (.lst ys) ∧ ∃ m', m' < m ∧ W (i + 1) m' (ys ++ [y]) (upd H3 D (.lst (ys ++ [y]))) else ∃ m', m' < m ∧ W (i + 1) m' ys H2)) := by
  intro D hD
  refine ⟨fun i m ys H => m = n - i ∧ i ≤ n ∧ ys = (List.range i).map f ∧ H = upd H1 D (.lst ys), ⟨n, by simp, Nat.zero_le _, by simp, rfl⟩, ?_⟩
  rintro i m ys H ⟨rfl, hi, hys, rfl⟩
  have s1 : Same H1 (upd H1 D (.lst ys)) := Same.upd (Same.refl H1) hD
  refine ⟨upd_same, ?_⟩
  by_cases hlt : i < n
  · have hyl : ys.length = i := by rw [hys, List.length_map, List.length_range]
    refine .inr ⟨hlt, by omega, fun x H' y => ?_⟩
    obtain ⟨e, y⟩ := y
    subst e y
    unfold tYes
    dsimp only
    rw [if_pos rfl]
    refine hx i _ _ hlt s1 ⟨upd_same, n - (i + 1), by omega, rfl, hlt, ?_, by rw [upd_upd]⟩
    rw [List.range_succ, List.map_append, ← hys]; rfl
  · have e : i = n := by omega
    subst e
    refine .inl ⟨Nat.le_refl _, ?_⟩
    rw [hys]
    exact q D _ ⟨hD, rfl⟩
def rLenS : List V → Hp → VK → Prop := fun xs H Q => ∃ z, xs = [.str z] ∧ z.length ≤ sizeLine ∧ Q (.int z.length) H
theorem call_lenS {X : Cx} : CallR X (.builtin "len") rLenS := call_len_str
def rAddS : R2 := fun x y H Q => ∃ i j, x = .str i ∧ y = .str j ∧ i.length + j.length ≤ sizeLine ∧ Q (.str (i ++ j)) H
theorem op_addS {X : Cx} : OpR X (binaryOp .Add) rAddS := op_add_str
section
variable {σ : St} {H : Hp} {Q : VK} {D : Ends}
theorem i_addS {x y : Str} (h : x.length + y.length ≤ sizeLine) (q : Q (.str (x ++ y)) H) : rAddS (.str x) (.str y) H Q := ⟨x, y, rfl, rfl, h, q⟩
theorem i_slS {z : Str} {lo hi : Option Int} (h : z.length ≤ sizeLine) (q : Q (.str (cutS z lo hi)) H) : rSlS (.str z) lo hi H Q := ⟨z, rfl, h, q⟩
theorem i_ixS {K : Frag} {z : Str} {i : Int} {c : Nat} (h : z.length ≤ sizeLine) (a : atI z.cps.toList i = some c) (q : Q (.str ⟨#[c]⟩) H) : rIx K (.str z) (.int i) H Q := .inr (.inr ⟨z, i, c, rfl, rfl, h, a, q⟩)
theorem i_bm {K : Frag} {T : String} {r : V → List V → Hp → VK → Prop} {to : TE} {t : TA} (q : to σ H fun x H1 => tyV K T x H1 ∧ t σ H1 fun xs H2 => r x xs H2 Q) : tBM K T r to t σ H Q := q
def rCatA (K : Frag) : R2 := fun x y H Q => ∃ l b xs zs, x = .ref l ∧ y = .ref b ∧ H l = some (.lst xs) ∧ H b = some (.lst zs) ∧ xs.length + zs.length ≤ sizeLine ∧ ∀ p H2, New H p (.lst (xs ++ zs)) H2 → Q (.ref p) H2
theorem op_catA {X : Cx} : OpR X (binaryOp .Add) (rCatA X.K) := fun pins s σ H x y v u Q I rx ry ⟨l, b, xs, zs, e1, e2, h1, h2, z, q⟩ => op_cat pins s σ H x y v u Q I rx ry ⟨l, b, xs, zs, e1, e2, h1, h2, z, fun p hp => q p _ ⟨hp, rfl⟩⟩
theorem i_catA {K : Frag} {l b : Addr} {xs zs : List V} (h1 : H l = some (.lst xs)) (h2 : H b = some (.lst zs)) (z : xs.length + zs.length ≤ sizeLine) (q : ∀ p H2, New H p (.lst (xs ++ zs)) H2 → Q (.ref p) H2) : rCatA K (.ref l) (.ref b) H Q := ⟨l, b, xs, zs, rfl, rfl, h1, h2, z, q⟩
end
theorem PE.imp {X : Cx} {e : Expr} {t t' : TE} (h : PE X e t) (i : ∀ σ H Q, t' σ H Q → t σ H Q) : PE X e t' := fun pins s σ H Q I q => h pins s σ H Q I (i _ _ _ q)
def tMakeA (C : Addr) : TE := fun _ H Q => ∀ x dx H2, NewI H x dx C [] H2 → Q (.ref x) H2
theorem pe_makeA {X : Cx} {C : Addr} {x : Str} {p pos : Pos} (M : MkN X.K C) (hg : Gl X x) (hm : X.mg x = some (.ref C)) (hdb : (x == ("__debug__" : Str)) = false := by decide) : PE X (.Call (.Name x p) [] [] pos) (tMakeA C) :=
  (pe_makeN M hg hm hdb).imp fun _ _ _ q x dx hx hd ne => q x dx _ ⟨hx, hd, ne, rfl⟩
theorem i_iteDt {c A B : Prop} [Decidable c] (h : c) (q : A) : if decide c = true then A else B := by rw [decide_eq_true h]; exact iteT q
theorem i_iteDf {c A B : Prop} [Decidable c] (h : ¬ c) (q : B) : if decide c = true then A else B := by rw [decide_eq_false h]; exact iteF q
theorem i_lenS {z : Str} {H : Hp} {Q : VK} (h : z.length ≤ sizeLine) (q : Q (.int z.length) H) : rLenS [.str z] H Q := ⟨z, rfl, h, q⟩
theorem i_inL {K : Frag} {x : V} {p : Addr} {xs : List V} {H : Hp} {Q : VK} (h : SqL K H p xs) (fx : flatV x = true) (f : xs.all flatV = true) (q : Q (.bl (inV x xs)) H) : rIn K false x (.ref p) H Q := ⟨p, xs, rfl, .inl h, fx, f, q⟩
theorem i_ninL {K : Frag} {x : V} {p : Addr} {xs : List V} {H : Hp} {Q : VK} (h : SqL K H p xs) (fx : flatV x = true) (f : xs.all flatV = true) (q : Q (.bl (!inV x xs)) H) : rIn K true x (.ref p) H Q := ⟨p, xs, rfl, .inl h, fx, f, q⟩
end L2
set_option maxRecDepth 100000
set_option Elab.async false
set_option linter.all false
namespace L2
open PySem PySem.Spec PySem.W PyProof.Rows
theorem Inv.turnedL {X : Cx} {pins : List (Addr × Obj)} {σ : St} {H : Hp} {s : Shared} {h' : Heap} {t' : Nat} {fp : List Addr} (I : Inv X pins σ H s) (f : ∀ b ∈ fp, FpOk X pins H b) (k : ∀ b o, b ∉ fp → s.heap.get? b = some o → h'.get? b = some o) :
    Inv X pins σ H { s with heap := h', toks := t' } := by
  have nit : ∀ b u, H b = some u → b ∉ fp := fun b u e z => by rw [(f b z).1] at e; cases e
  refine I.step (g' := s.gens) (d' := s.drawn) (ch := fp) (fun b hb => ?_) (fun b o _ _ hc e _ => k b o hc e) (fun b o _ _ hc e _ => ⟨o.slots, k b o hc e⟩) (fun _ _ _ _ n => n)
    (fun b o hc e => ⟨o, k b o hc e⟩) (fun _ _ e => e) (fun _ _ _ e => e) (fun b ps e => ⟨#[], by rw [e]; simp⟩) (fun m hm => ?_) (fun b u e => ?_) I.bare
  · obtain ⟨f0, f1, f2, f3, f4, f5⟩ := f b hb
    exact ⟨f3, f1, f4, f5⟩
  · obtain ⟨o, es, ep, ho, r⟩ := hm
    exact ⟨o, es, ep, k _ o (fun z => (f _ z).2.1 rfl) ho, r⟩
  · refine (I.hok b u e).stay (fun c v hc q => k c v ?_ q) (fun _ q => q) fun _ _ q => q
    rcases hc with z | z
    · rw [z]; exact nit b u e
    · exact nit c _ z
def Its (z : Str) : It := ⟨fun i _ => i < z.cps.size, fun i H x H' => H' = H ∧ ∃ c, z.cps.toList[i]? = some c ∧ x = .str ⟨#[c]⟩, fun i _ => i = z.cps.size⟩
theorem turn_str {P : Program} {w : World} {K : Frag} {tg : Expr} (it : Addr) (z : Str) (t : Tok) (ty : String) (hty : ty = "str_ascii_iterator" ∨ ty = "str_iterator") : Turn P w K tg (Its z) [it] it (fun i h => h.IsStrIter it ty z t i) where
  mem := by simp
  obj := fun i h st b hb => by
    have e : b = it := by simpa using hb
    subst e
    obtain ⟨o, ho, _, hd⟩ := st
    exact ⟨o, ho, fun v q => by rw [hd] at q; cases q⟩
  keep := fun i h h' st k => let ⟨o, ho, r⟩ := st; ⟨o, k it (by simp) o ho, r⟩
  item := by
    intro X hP hw hK hc i pins s σ H E I hf st hg
    subst hP hw hK
    have W : Walks X.prog X.w X.A it [it] [it] z.cps.size (SignAt z) (fun i h => h.IsStrIter it ty z t i) := by
      rcases hty with rfl | rfl
      · exact Walks.strAscii (I.ok.hd hc) it z t
      · exact Walks.strWide (I.ok.hd hc) it z t
    refine W.item i s _ _ hg st fun v h' tk hv st' kk => ?_
    obtain ⟨c, u, hc1, rfl⟩ := hv
    have I1 : Inv X pins σ H { s with heap := h', toks := tk } := I.turnedL hf fun b o hb e => kk b o hb e
    obtain ⟨o, ho, hcl, hd⟩ := id st'
    refine ⟨_, rfl, go_of (s := { s with heap := h', toks := tk }) (n := ty) ho hcl hd (by rcases hty with rfl | rfl <;> decide) ⟨.str ⟨#[c]⟩, H, I1, ⟨u, rfl⟩, ⟨rfl, c, by simpa using hc1, rfl⟩, st', fun b hb => (hf b hb).1⟩⟩
  done := by
    intro X hP hw hK hc i pins s σ H E I hf st hg
    subst hP hw hK
    have W : Walks X.prog X.w X.A it [it] [it] z.cps.size (SignAt z) (fun i h => h.IsStrIter it ty z t i) := by
      rcases hty with rfl | rfl
      · exact Walks.strAscii (I.ok.hd hc) it z t
      · exact Walks.strWide (I.ok.hd hc) it z t
    have e : i = z.cps.size := hg
    subst e
    exact W.done s _ _ st fun h' tk kk => ⟨rfl, I.turnedL hf fun b o hb e => kk b o hb e⟩
  self := fun _ _ _ _ _ st h => by
    rcases hty with rfl | rfl
    · exact wpAny_pyIter_striter_ascii st h
    · exact wpAny_pyIter_striter_wide st h
def iStr (tl : TE) : TI := fun σ H R => tl σ H fun x H1 => ∃ z, x = .str z ∧ R (Its z) H1
theorem pi_str {X : Cx} {tg l : Expr} {tl : TE} (hl : PE X l tl) : PI X tg l (iStr tl) := by
  intro pins s σ H R I h
  refine thn (hl pins s σ H _ I h) fun v s1 ⟨x, H1, I1, r1, q1⟩ => ?_
  obtain ⟨z, e, q⟩ := q1
  subst e
  obtain ⟨t, rfl⟩ := r1
  have fin : ∀ ty : String, (ty = "str_ascii_iterator" ∨ ty = "str_iterator") → PIE X pins σ tg R (.ref s1.heap.objs.size) { s1 with heap := s1.heap.push { cls := .type ty, data := .fields #[.str z t, .int 0 0] } } := fun ty hty => by
    refine ⟨s1.heap.objs.size, [s1.heap.objs.size], _, _, H1, rfl, I1.kept (t' := s1.toks) fun b o e => Heap.get?_push_of_some _ e, turn_str _ z t ty hty, ⟨_, Heap.get?_push_size _ rfl, rfl, rfl⟩, fun b hb => ?_, q⟩
    have e : b = s1.heap.objs.size := by simpa using hb
    subst e
    exact I1.fpOk (Nat.le_refl _) (I1.hok.fresh (Nat.le_refl _))
  cases ha : z.cps.all (· < 128)
  · exact wpAny_pyIter_wide ha (fin _ (.inr rfl))
  · exact wpAny_pyIter_ascii ha (fin _ (.inl rfl))
def Ite (K : Frag) (l : Addr) : It :=
  ⟨fun i H => ∃ xs x, SqL K H l xs ∧ xs[i]? = some x, fun i H v H' => ∃ T x, v = .ref T ∧ New H T (.tup [.int (i : Int), x]) H' ∧ ∀ xs, SqL K H l xs → xs[i]? = some x, fun i H => ∃ xs, SqL K H l xs ∧ xs.length ≤ i⟩
theorem turn_enum {P : Program} {w : World} {K : Frag} {es : List Expr} {k : Nat} {tp : Pos} (e it l : Addr) (hei : e ≠ it) : Turn P w K (.Tuple es k tp) (Ite K l) [e, it] e (fun i h => (∃ old, IsEnum h e it (i : Nat) old) ∧ h.IsListIter it l i) where
  mem := by simp
  obj := fun i h st b hb => by
    obtain ⟨⟨old, he⟩, o, ho, hc, hd⟩ := st
    rcases List.mem_cons.mp hb with rfl | hb
    · exact ⟨_, he, fun v z => by cases z⟩
    · have e2 : b = it := by simpa using hb
      subst e2
      exact ⟨o, ho, fun v z => by rw [hd] at z; cases z⟩
  keep := fun i h h' st kk => by
    obtain ⟨⟨old, he⟩, o, ho, r⟩ := st
    exact ⟨⟨old, kk e (by simp) _ he⟩, o, kk it (by simp) _ ho, r⟩
  item := by
    intro X hP hw hK hc i pins s σ H E I hf st hg
    subst hP hw hK
    obtain ⟨⟨old, he⟩, hit⟩ := st
    obtain ⟨xs, x, hS, hx⟩ := hg
    obtain ⟨its, rv, p, hz⟩ := I.list hS
    obtain ⟨u, hu, ru⟩ := rv.get hx
    refine wpAny_pyNext_enum_item he hit p.isList (show its.toArray[i]? = some u by simpa using hu) hei fun h' ho hit' hT hsz hk => ⟨_, rfl, ?_⟩
    have I1 : Inv X pins σ H { s with heap := h', toks := s.toks + 1 } := I.turnedL hf fun b o hb q => hk b o (fun z => hb (by simp [z])) (fun z => hb (by simp [z])) q
    have helt : e < s.heap.objs.size := Heap.lt_size he
    have hilt : it < s.heap.objs.size := by obtain ⟨_, x, _⟩ := hit; exact Heap.lt_size x
    refine wpAny_letOwnedTupleGo_enum ho fun h2 he2 hs2 => ?_
    have I2 : Inv X pins σ H { s with heap := h2, toks := s.toks + 1 } := I1.turnedL hf fun b o hb q => (hs2.2 b (fun z => hb (by simp [z]))).trans q
    have hTn : H s.heap.objs.size = none := I.hok.fresh (Nat.le_refl _)
    have hTe : s.heap.objs.size ≠ e := Nat.ne_of_gt helt
    have hT2 : h2.get? s.heap.objs.size = some { cls := .type "tuple", data := .seq #[.int i s.toks, u] } := (hs2.2 _ hTe).trans hT
    have I3 : Inv X pins σ (upd H s.heap.objs.size (.tup [.int (i : Int), x])) { s with heap := h2, toks := s.toks + 1 } := by
      refine I2.track (I.fpOk (Nat.le_refl _) hTn) ⟨by show 2 ≤ sizeLine; decide, [.int i s.toks, u], .cons ⟨_, rfl⟩ (.cons ru .nil), ⟨_, hT2, rfl, _, rfl⟩⟩
    refine ⟨.ref s.heap.objs.size, _, I3, rfl, ⟨_, x, rfl, ⟨hTn, rfl⟩, fun ys hy => ?_⟩, ⟨⟨u, by simpa using he2⟩, ?_⟩, fun b hb => ?_⟩
    · cases I.list_inj hS hy; exact hx
    · exact hit'.at fun o q => (hs2.2 it hei.symm).trans q
    · have hne : b ≠ s.heap.objs.size := by
        rcases List.mem_cons.mp hb with z | z
        · rw [z]; exact Nat.ne_of_lt helt
        · rw [show b = it by simpa using z]; exact Nat.ne_of_lt hilt
      rw [upd_ne hne]; exact (hf b hb).1
  done := by
    intro X hP hw hK hc i pins s σ H E I hf st hg
    subst hP hw hK
    obtain ⟨⟨old, he⟩, hit⟩ := st
    obtain ⟨xs, hS, hl⟩ := hg
    obtain ⟨its, rv, p, hz⟩ := I.list hS
    have hlen := rv.length
    refine wpAny_pyNext_enum_end (I.ok.hd hc) he hit p.isList (by simp; omega) fun h' hx => ⟨rfl, ?_⟩
    exact I.turnedL (t' := s.toks) hf fun b o hb q => hx b o (fun z => hb (by simp [z])) q
  self := fun _ _ _ _ _ ⟨⟨_, he⟩, _⟩ h => wpAny_pyIter_enum he h
def iEnum (K : Frag) (ta : TA) : TI := fun σ H R => ta σ H fun vs H1 => ∃ l, vs = [.ref l] ∧ (∃ xs, SqL K H1 l xs) ∧ R (Ite K l) H1
theorem pi_enum {X : Cx} {es : List Expr} {k : Nat} {tp : Pos} {a : Expr} {ta : TA} {p pos : Pos} (hg : Gl X "enumerate") (hm : X.mg "enumerate" = none) (ha : PA X [a] ta) (hs : starEach [a] X.env = [(false, eval a X.env)] := by rfl) : PI X (.Tuple es k tp) (.Call (.Name "enumerate" p) [a] [] pos) (iEnum X.K ta) := by
  intro pins s σ H R I h
  refine Call_ (ld_blt I hg hm PyProof.Rows.boot_enumerate (PyProof.Rows.callWith_type1 (thn (ha pos pins s σ H _ I h) fun us s1 ⟨vs, H1, I1, r1, q1⟩ => ?_) hs rfl))
  obtain ⟨l, e, ⟨xs, hS⟩, q⟩ := q1
  subst e
  cases r1 with
  | cons r rr =>
    cases rr
    cases r
    obtain ⟨its, rv, pl, hz⟩ := I1.list hS
    refine call_enumerate_list pl.isList fun h' he hit hsz hk => ?_
    have hne : s1.heap.objs.size + 1 ≠ s1.heap.objs.size := Nat.succ_ne_self _
    have I2 : Inv X pins σ H1 { s1 with heap := h' } := I1.kept (t' := s1.toks) fun b o e => hk b o e
    refine wpAny_pyIter_enum he ⟨s1.heap.objs.size + 1, [s1.heap.objs.size + 1, s1.heap.objs.size], _, _, H1, rfl, I2, turn_enum _ _ l hne, ⟨⟨_, he⟩, hit⟩, fun b hb => ?_, q⟩
    have hb' : s1.heap.objs.size ≤ b := by
      rcases List.mem_cons.mp hb with z | z
      · rw [z]; exact Nat.le_succ _
      · rw [show b = s1.heap.objs.size by simpa using z]; exact Nat.le_refl _
    exact I1.fpOk hb' (I1.hok.fresh hb')
theorem for_enum {K : Frag} {l : Addr} {xs : List V} {g : TG} {tb : TS} {D : Ends} {σ : St} {H : Hp} (Pv : Nat → St → Hp → Prop) (h0 : Pv 0 σ H) (hl : ∀ i σ H, i ≤ xs.length → Pv i σ H → SqL K H l xs)
    (hs : ∀ i x T σ H H', xs[i]? = some x → Pv i σ H → New H T (.tup [.int (i : Int), x]) H' → g (.ref T) σ H' fun σ2 H2 => tb { D with nx := Pv (i + 1), ct := Pv (i + 1), bk := D.nx } σ2 H2) (hd : ∀ σ H, Pv xs.length σ H → D.nx σ H) :
    ∃ W : Nat → Nat → St → Hp → Prop, (∃ m, W 0 m σ H) ∧ ∀ i m σ H, W i m σ H →
      ((Ite K l).stop i H ∧ D.nx σ H) ∨ ((Ite K l).go i H ∧ ∃ N : St → Hp → Prop, (∀ σ' H', N σ' H' → ∃ m', m' < m ∧ W (i + 1) m' σ' H') ∧ ∀ x H', (Ite K l).yld i H x H' → g x σ H' fun σ2 H2 => tb { D with nx := N, ct := N, bk := D.nx } σ2 H2) := by
  refine ⟨fun i m σ H => m = xs.length - i ∧ i ≤ xs.length ∧ Pv i σ H, ⟨xs.length, by simp, Nat.zero_le _, h0⟩, ?_⟩
  rintro i m σ H ⟨rfl, hi, p⟩
  have q := hl i σ H hi p
  by_cases hlt : i < xs.length
  · refine .inr ⟨⟨xs, xs[i], q, by simp [hlt]⟩, Pv (i + 1), fun σ' H' p' => ⟨xs.length - (i + 1), by omega, rfl, hlt, p'⟩, fun v H' y => ?_⟩
    obtain ⟨T, x, rfl, hN, y⟩ := y
    exact hs i x T σ H H' (y xs q) p hN
  · have e : i = xs.length := by omega
    subst e
    exact .inl ⟨⟨xs, q, Nat.le_refl _⟩, hd σ H p⟩
def rAll (K : Frag) : List V → Hp → VK → Prop := fun xs H Q => ∃ p bs, xs = [.ref p] ∧ SqL K H p (List.map V.bl bs) ∧ Q (.bl (bs.all id)) H
theorem call_all {X : Cx} (hc : X.calm = true) : CallR X (.builtin "all") (rAll X.K) := by
  intro pins s σ H xs us Q I r h
  obtain ⟨p, bs, rfl, hS, q⟩ := h
  obtain ⟨u, rfl, ru⟩ := r.one
  cases ru
  obtain ⟨its, rv, pl, hz⟩ := I.list hS
  have hl := pl.isList
  have hlt : p < s.heap.objs.size := by obtain ⟨_, e, _⟩ := hl; exact Heap.lt_size e
  have hlen : bs.length = its.length := by have := rv.length; simpa using this
  refine call_all_walk (wpAny_pyIter_list hl ?_)
  refine ⟨s.heap.objs.size, [s.heap.objs.size, p], [s.heap.objs.size], its.toArray.size, _, _, fun i => (bs[i]?).getD true, rfl, Walks.list (A := X.A.in1) (I.ok.hd hc) _ p (Nat.ne_of_lt hlt) its.toArray,
    ⟨⟨_, Heap.get?_push_size _ rfl, rfl, rfl⟩, hl.push _⟩, fun i v s' Q' E' hP hQ => ?_, fun h' tk hk => ?_⟩
  · have hP' : its[i]? = some v := by simpa using hP
    have hi : i < bs.length := by rw [hlen]; exact (List.getElem?_eq_some_iff.mp hP').1
    obtain ⟨u, hu, ru⟩ := rv.get (i := i) (x := .bl bs[i]) (by rw [List.getElem?_map, List.getElem?_eq_getElem hi]; rfl)
    rw [hP'] at hu; cases hu
    cases ru
    simp only [List.getElem?_eq_getElem hi, Option.getD_some] at hQ
    exact wpAny_truthy_bool hQ
  · have e : ((List.range its.toArray.size).all fun i => (bs[i]?).getD true) = bs.all id := by
      rw [List.size_toArray, ← hlen]; exact LSm.range_all bs
    rw [e]
    exact ⟨.bl (bs.all id), H, I.kept (t' := tk) (LSm.kept_iter hk), rfl, q⟩
theorem i_all {K : Frag} {p : Addr} {bs : List Bool} {H : Hp} {Q : VK} (h : SqL K H p (List.map V.bl bs)) (q : Q (.bl (bs.all id)) H) : rAll K [.ref p] H Q := ⟨p, bs, rfl, h, q⟩
def rInS : R2 := fun x y H Q => ∃ (c : Nat) (j : Str), x = .str ⟨#[c]⟩ ∧ y = .str j ∧ Q (.bl (decide (c ∈ j.cps.toList))) H
theorem op_inS {X : Cx} : OpR X (compareOp .In) rInS := fun pins s σ H x y v u Q I rx ry ⟨c, j, e1, e2, q⟩ => op_in_str pins s σ H x y v u Q I rx ry ⟨⟨#[c]⟩, j, e1, e2, by
  rw [PySem.StrLaws.found_one]; exact q⟩
theorem lcT {K : Frag} {a : Addr} {te : TE} {cs : St} {H1 : Hp} {Q : Addr → Hp → Prop} (xs : List V) (f : V → V) (hS : SqT K H1 a xs) (hz : xs.length ≤ sizeLine)
    (hx : ∀ (i : Nat) (v : V) (H' : Hp) (R : VK), xs[i]? = some v → Same H1 H' → R (f v) H' → te (some v :: cs) H' R) (q : ∀ D H2, New H1 D (.lst (xs.map f)) H2 → Q D H2) :
    ∃ a', V.ref a = .ref a' ∧ (∃ xs, SqT K H1 a' xs) ∧ ∀ D, H1 D = none → ∃ W : Nat → Nat → List V → Hp → Prop, (∃ m, W 0 m [] (upd H1 D (.lst []))) ∧ ∀ i m ys H, W i m ys H →
      H D = some (.lst ys) ∧ (((Itt K a').stop i H ∧ Q D H) ∨ ((Itt K a').go i H ∧ ys.length < sizeLine ∧ ∀ x H', (Itt K a').yld i H x H' → tYes (some x :: cs) H' fun b H2 =>
        if b = true then te (some x :: cs) H2 fun y H3 => H3 D = some (.lst ys) ∧ ∃ m', m' < m ∧ W (i + 1) m' (ys ++ [y]) (upd H3 D (.lst (ys ++ [y]))) else ∃ m', m' < m ∧ W (i + 1) m' ys H2)) := by
  refine ⟨a, rfl, ⟨xs, hS⟩, fun D hD => ?_⟩
  refine ⟨fun i m ys H => m = xs.length - i ∧ i ≤ xs.length ∧ ys = (xs.take i).map f ∧ H = upd H1 D (.lst ys), ⟨xs.length, by simp, Nat.zero_le _, by simp, rfl⟩, ?_⟩
  rintro i m ys H ⟨rfl, hi, hys, rfl⟩
  have s1 : Same H1 (upd H1 D (.lst ys)) := Same.upd (Same.refl H1) hD
  have q1 := s1.tup hS
  refine ⟨upd_same, ?_⟩
  by_cases hlt : i < xs.length
  · have hyl : ys.length = i := by rw [hys, List.length_map, List.length_take]; omega
    refine .inr ⟨⟨xs, xs[i], q1, by simp [hlt]⟩, by omega, fun x H' y => ?_⟩
    obtain ⟨e, y⟩ := y
    subst e
    have hxi := y xs q1
    unfold tYes; dsimp only
    rw [if_pos rfl]
    refine (hx i x _ _ hxi s1 ⟨upd_same, xs.length - (i + 1), by omega, rfl, hlt, ?_, by rw [upd_upd]⟩)
    rw [List.take_add_one, List.map_append, ← hys, hxi]; rfl
  · have e : i = xs.length := by omega
    subst e
    refine .inl ⟨⟨xs, q1, Nat.le_refl _⟩, ?_⟩
    rw [hys, List.take_length]
    exact q D _ ⟨hD, rfl⟩
theorem lcS {te : TE} {cs : St} {H1 : Hp} {Q : Addr → Hp → Prop} (z : Str) (f : Nat → V) (hz : z.length ≤ sizeLine)
    (hx : ∀ (c : Nat) (H' : Hp) (R : VK), c ∈ z.cps.toList → Same H1 H' → R (f c) H' → te (some (.str ⟨#[c]⟩) :: cs) H' R) (q : ∀ D H2, New H1 D (.lst (z.cps.toList.map f)) H2 → Q D H2) :
    ∃ z', V.str z = .str z' ∧ ∀ D, H1 D = none → ∃ W : Nat → Nat → List V → Hp → Prop, (∃ m, W 0 m [] (upd H1 D (.lst []))) ∧ ∀ i m ys H, W i m ys H →
      H D = some (.lst ys) ∧ (((Its z').stop i H ∧ Q D H) ∨ ((Its z').go i H ∧ ys.length < sizeLine ∧ ∀ x H', (Its z').yld i H x H' → tYes (some x :: cs) H' fun b H2 =>
        if b = true then te (some x :: cs) H2 fun y H3 => H3 D = some (.lst ys) ∧ ∃ m', m' < m ∧ W (i + 1) m' (ys ++ [y]) (upd H3 D (.lst (ys ++ [y]))) else ∃ m', m' < m ∧ W (i + 1) m' ys H2)) := by
  refine ⟨z, rfl, fun D hD => ?_⟩
  have hsz : z.cps.toList.length = z.cps.size := Array.length_toList
  have hz' : z.cps.size ≤ sizeLine := hz
  refine ⟨fun i m ys H => m = z.cps.size - i ∧ i ≤ z.cps.size ∧ ys = (z.cps.toList.take i).map f ∧ H = upd H1 D (.lst ys), ⟨z.cps.size, by simp, Nat.zero_le _, by simp, rfl⟩, ?_⟩
  rintro i m ys H ⟨rfl, hi, hys, rfl⟩
  have s1 : Same H1 (upd H1 D (.lst ys)) := Same.upd (Same.refl H1) hD
  refine ⟨upd_same, ?_⟩
  by_cases hlt : i < z.cps.size
  · have hyl : ys.length = i := by rw [hys, List.length_map, List.length_take]; omega
    refine .inr ⟨hlt, by omega, fun x H' y => ?_⟩
    obtain ⟨e, c, hc, rfl⟩ := y
    subst e
    unfold tYes; dsimp only
    rw [if_pos rfl]
    refine (hx c _ _ (List.mem_iff_getElem?.mpr ⟨i, hc⟩) s1 ⟨upd_same, z.cps.size - (i + 1), by omega, rfl, hlt, ?_, by rw [upd_upd]⟩)
    rw [List.take_add_one, List.map_append, ← hys, hc]; rfl
  · have e : i = z.cps.size := by omega
    refine .inl ⟨e, ?_⟩
    have : ys = z.cps.toList.map f := by rw [hys, e, ← hsz, List.take_length]
    rw [this]
    exact q D _ ⟨hD, rfl⟩
def SameB (D : Addr) (H H' : Hp) : Prop := ∀ b u, b ≠ D → H b = some u → H' b = some u
theorem SameB.of {D : Addr} {H H' : Hp} (s : Same H H') : SameB D H H' := fun b u _ e => s b u e
theorem SameB.upd (D : Addr) (H : Hp) (o : HO) : SameB D H (L2.upd H D o) := fun b u n e => by rw [upd_ne n]; exact e
structure LcIt (J : It) (n : Nat) (H1 : Hp) (xs : Nat → V) : Prop where
  go : ∀ i H, i < n → Same H1 H → J.go i H
  yld : ∀ i H x H', i < n → Same H1 H → J.yld i H x H' → H' = H ∧ x = xs i
  stop : ∀ H, Same H1 H → J.stop n H
theorem LcIt.lst {K : Frag} {a : Addr} {H1 : Hp} {xs : List V} (hS : SqL K H1 a xs) : LcIt (Itl K a) xs.length H1 (fun i => xs.getD i .non) where
  go := fun i H hi s => ⟨xs, xs[i], s.seq hS, by simp [hi]⟩
  yld := fun i H x H' hi s y => by
    obtain ⟨e, y⟩ := y
    refine ⟨e, ?_⟩
    have := y xs (s.seq hS)
    rw [List.getD, this]; rfl
  stop := fun H s => ⟨xs, s.seq hS, Nat.le_refl _⟩
theorem LcIt.rng {lo : Int} {n : Nat} {H1 : Hp} : LcIt (Itr lo n) n H1 (fun i => .int (lo + i)) where
  go := fun i H hi s => hi
  yld := fun i H x H' hi s y => y
  stop := fun H s => Nat.le_refl _
theorem lcN {J : It} {n : Nat} {xs : Nat → V} {te : TE} {cs : St} {H1 : Hp} {Q : Addr → Hp → Prop} (L : LcIt J n H1 xs) (Pe : Addr → Nat → V → Hp → Prop) (hz : n ≤ sizeLine)
    (hm : ∀ D i y H H', SameB D H H' → Pe D i y H → Pe D i y H')
    (hx : ∀ (D : Addr) (i : Nat) (H' : Hp) (R : VK), i < n → H1 D = none → (∃ ys, H' D = some (.lst ys)) → Same H1 H' → (∀ y H'', Same H' H'' → Pe D i y H'' → R y H'') → te (some (xs i) :: cs) H' R)
    (q : ∀ D ys H2, H1 D = none → Same H1 H2 → H2 D = some (.lst ys) → ys.length = n → (∀ i y, ys[i]? = some y → Pe D i y H2) → Q D H2) :
    ∀ D, H1 D = none → ∃ W : Nat → Nat → List V → Hp → Prop, (∃ m, W 0 m [] (upd H1 D (.lst []))) ∧ ∀ i m ys H, W i m ys H →
      H D = some (.lst ys) ∧ ((J.stop i H ∧ Q D H) ∨ (J.go i H ∧ ys.length < sizeLine ∧ ∀ x H', J.yld i H x H' → tYes (some x :: cs) H' fun b H2 =>
        if b = true then te (some x :: cs) H2 fun y H3 => H3 D = some (.lst ys) ∧ ∃ m', m' < m ∧ W (i + 1) m' (ys ++ [y]) (upd H3 D (.lst (ys ++ [y]))) else ∃ m', m' < m ∧ W (i + 1) m' ys H2)) := by
  intro D hD
  refine ⟨fun i m ys H => m = n - i ∧ i ≤ n ∧ ys.length = i ∧ H D = some (.lst ys) ∧ Same H1 H ∧ ∀ j y, ys[j]? = some y → Pe D j y H, ⟨n, by simp, Nat.zero_le _, rfl, upd_same, Same.new hD, fun j y e => by simp at e⟩, ?_⟩
  rintro i m ys H ⟨rfl, hi, hyl, hHD, s1, hP⟩
  refine ⟨hHD, ?_⟩
  by_cases hlt : i < n
  · refine .inr ⟨L.go i H hlt s1, by omega, fun x H' y => ?_⟩
    obtain ⟨e, ex⟩ := L.yld i H x H' hlt s1 y
    subst e ex
    unfold tYes; dsimp only
    rw [if_pos rfl]
    refine hx D i _ _ hlt hD ⟨ys, hHD⟩ s1 fun y H'' s2 pe => ⟨s2 _ _ hHD, n - (i + 1), by omega, rfl, hlt, by simp [hyl], upd_same, fun b u e => ?_, fun j y' ej => ?_⟩
    · rw [upd_ne (ne_of_none e hD)]; exact s2 _ _ (s1 _ _ e)
    · refine hm D j y' _ _ (SameB.upd D H'' _) ?_
      by_cases hj : j < ys.length
      · rw [List.getElem?_append_left hj] at ej
        exact hm D j y' _ _ (SameB.of s2) (hP j y' ej)
      · rw [List.getElem?_append_right (by omega)] at ej
        have hj0 : j - ys.length = 0 := by
          by_cases h0 : j - ys.length = 0
          · exact h0
          · rw [List.getElem?_eq_none (by simp; omega)] at ej; cases ej
        rw [hj0] at ej
        have e1 : y = y' := by simpa using ej
        have e2 : j = i := by omega
        rw [← e1, e2]; exact pe
  · have e : i = n := by omega
    subst e
    exact .inl ⟨L.stop H s1, q D ys H hD s1 hHD hyl hP⟩
theorem lcNL {K : Frag} {a : Addr} {te : TE} {cs : St} {H1 : Hp} {Q : Addr → Hp → Prop} (xs : List V) (Pe : Addr → Nat → V → Hp → Prop) (hS : SqL K H1 a xs) (hz : xs.length ≤ sizeLine)
    (hm : ∀ D i y H H', SameB D H H' → Pe D i y H → Pe D i y H')
    (hx : ∀ (D : Addr) (i : Nat) (v : V) (H' : Hp) (R : VK), xs[i]? = some v → H1 D = none → (∃ ys, H' D = some (.lst ys)) → Same H1 H' → (∀ y H'', Same H' H'' → Pe D i y H'' → R y H'') → te (some v :: cs) H' R)
    (q : ∀ D ys H2, H1 D = none → Same H1 H2 → H2 D = some (.lst ys) → ys.length = xs.length → (∀ i y, ys[i]? = some y → Pe D i y H2) → Q D H2) :
    ∃ a', V.ref a = .ref a' ∧ (∃ xs, SqL K H1 a' xs) ∧ ∀ D, H1 D = none → ∃ W : Nat → Nat → List V → Hp → Prop, (∃ m, W 0 m [] (upd H1 D (.lst []))) ∧ ∀ i m ys H, W i m ys H →
      H D = some (.lst ys) ∧ (((Itl K a').stop i H ∧ Q D H) ∨ ((Itl K a').go i H ∧ ys.length < sizeLine ∧ ∀ x H', (Itl K a').yld i H x H' → tYes (some x :: cs) H' fun b H2 =>
        if b = true then te (some x :: cs) H2 fun y H3 => H3 D = some (.lst ys) ∧ ∃ m', m' < m ∧ W (i + 1) m' (ys ++ [y]) (upd H3 D (.lst (ys ++ [y]))) else ∃ m', m' < m ∧ W (i + 1) m' ys H2)) :=
  ⟨a, rfl, ⟨xs, hS⟩, lcN (LcIt.lst hS) Pe hz hm (fun D i H' R hi hD hy s r => by
    refine hx D i _ H' R ?_ hD hy s r
    rw [List.getD, List.getElem?_eq_getElem hi]; rfl) q⟩
structure HasV (K : Frag) (x : Str) (v : V) : Prop where
  ex : ∃ u, nsIn K mainGlobals x = some (some u) ∧ RelV v u
theorem hasV_int {K : Frag} {x : Str} {i : Int} {t : Tok} (h : nsIn K mainGlobals x = some (some (.int i t))) : HasV K x (.int i) := ⟨_, h, ⟨_, rfl⟩⟩
theorem hasV_str {K : Frag} {x : Str} {z : Str} {t : Tok} (h : nsIn K mainGlobals x = some (some (.str z t))) : HasV K x (.str z) := ⟨_, h, ⟨_, rfl⟩⟩
theorem pe_val {X : Cx} {x : Str} {v : V} {pos : Pos} (h : ∃ u, X.mg x = some u ∧ RelV v u) (hg : Gl X x) (hd : (x == ("__debug__" : Str)) = false := by decide) : PE X (.Name x pos) (tC v) := by
  obtain ⟨u, hm, r⟩ := h
  exact pe_glob hg hm r hd
theorem HasV.mg {K : Frag} {x : Str} {v : V} {h : Heap} {mg : Str → Option Value} (V : HasV K x v) (Kb : K.In h) (G : h.Ns mainGlobals mg) : ∃ u, mg x = some u ∧ RelV v u :=
  let ⟨u, a, r⟩ := V.ex
  ⟨u, PySem.W.mg_of Kb G a, r⟩
structure HasCI (K : Frag) (x : Str) (C : Addr) (qual : Str) (st : Stmt) : Prop where
  ns : nsIn K mainGlobals x = some (some (.ref C))
  cl : Cls K C
  ex : ∃ f fd, Mk K C f ∧ Fun K "__init__" qual st f fd
theorem hasCI_mk {K : Frag} {x qual : Str} {C : Addr} {st : Stmt} {f : Addr} {oc : Value} {od an : Option Addr} {osl : Array (Option Value)} {kV doc pm cdv ct : Value} (a : nsIn K mainGlobals x = some (some (.ref C))) (pg : plainGet K C Str.empty = true) (hd : hasDictIn K C = true) (po : plainOver K C = true)
    (sa : findIn K (.ref C) "__setattr__" = some (some (.builtin "object.__setattr__"))) (mk : makesIn K C = true) (i : findIn K (.ref C) "__init__" = some (some (.ref f))) (fn : isFn K (.ref f) = true) (kc : keepIn K (.ref C) = true)
    (l : K.lookup f = some ⟨oc, od, .func (PySem.W.fnOf "__init__" qual (defArgs st) (defBody st) (defScope st) .none kV doc pm an cdv ct), osl⟩)
    (c : codeIn K cdv qual = true) (k : keepIn K (.ref f) = true) : HasCI K x C qual st :=
  ⟨a, ⟨pg, hd, po, sa⟩, f, _, ⟨mk, i, fn, kc⟩, fun_mk l c k⟩
structure MkI (P : Program) (w : World) (K : Frag) (mg : Str → Option Value) (base : Heap) (k : Nat) (C : Addr) (ps : List Str) (sp : Sp) : Prop where
  ex : ∃ f fd, Mk K C f ∧ FnOk P w K mg base CX0 k f fd ps sp ∧ Binds K fd ps []
theorem HasCI.mki {P : Program} {w : World} {K : Frag} {mg : Str → Option Value} {base : Heap} {k : Nat} {x : Str} {C : Addr} {qual : Str} {st : Stmt} {N ps : List Str} {sp : Sp} (F : HasCI K x C qual st) (S : FnScope N ps (defScope st))
    (hbi : ∀ (kV doc pm : Value) (an : Option Addr) (cdv ct : Value) (us : List Value), us.length = ps.length → bindArgs (PySem.W.fnOf "__init__" qual (defArgs st) (defBody st) (defScope st) .none kV doc pm an cdv ct) ⟨us, []⟩ = pure (ps.zip us))
    (len : ∀ vs H Q E, sp vs H Q E → vs.length = ps.length)
    (hbody : ∀ (f : Addr) (cdv : Value) (A : Around) (outer : List Env) (s : Shared) (H : Hp) (vs : List V) (Q : VK) (E : XK), Room k (A.deeper (envOfC qual (defScope st) s.heap.objs.size f cdv)) → sp vs H Q E →
      ∃ t, PSs (cxOf CX0 P w K mg base N qual (defScope st) f cdv A outer s H E).nox (defBody st) t ∧ t { nx := fun _ H' => Q .non H', rt := Q } (start N vs) H) :
    MkI P w K mg base (k + 1) C ps sp := by
  obtain ⟨f, fd, a, F⟩ := F.ex
  exact ⟨f, fd, a, F.ok S len (hbody f), F.binds hbi⟩
theorem pe_makeI {X : Cx} {k : Nat} {C : Addr} {x : Str} {ps : List Str} {sp : Sp} {e : Expr} {es : List Expr} {t : TA} {p pos : Pos} (M : MkI X.prog X.w X.K X.mg X.base k C ps sp) (hr : Room (k + 1) X.A) (hg : Gl X x) (hm : X.mg x = some (.ref C)) (ha : PA X (e :: es) t)
    (hdb : (x == ("__debug__" : Str)) = false := by decide) (he : starEach (e :: es) X.env = (false, eval e X.env) :: starEach es X.env := by rfl) (hpl : (backTo pos (starEach es X.env)).any (·.1) = false := by rfl) :
    PE X (.Call (.Name x p) (e :: es) [] pos) (tMake C sp [] E0 t) := by
  obtain ⟨f, fd, m, F, hb⟩ := M.ex
  exact pe_make m F hr hg hm hb .nil pass0 ha hdb he hpl
theorem i_makeI {C : Addr} {sp : Sp} {t : TA} {σ : St} {H : Hp} {Q : VK} (q : t σ H fun vs H1 => ∀ x dx, H1 x = none → H1 dx = none → dx ≠ x → sp (.ref x :: (vs ++ [])) (upd (upd H1 dx (.own x)) x (.ins C dx [])) (fun v H2 => v = .non ∧ Q (.ref x) H2) E0) : tMake C sp [] E0 t σ H Q := q
section
variable {X : Cx} {K : Frag}
theorem ix_seqK (h : X.K = K) : IxR X (rIx K) := h ▸ ix_seq
theorem call_isiK (h : X.K = K) : CallR X (.builtin "isinstance") (rIsi K) := h ▸ call_isi
theorem call_tupleK (h : X.K = K) : CallR X (.type "tuple") (rTupleA K) := h ▸ call_tupleA
end
section
variable {K : Frag} {σ : St} {H : Hp} {Q : VK} {D : Ends}
theorem i_tupI {tl : TE} {R : It → Hp → Prop} (q : tl σ H fun x H1 => ∃ a, x = .ref a ∧ (∃ xs, SqT K H1 a xs) ∧ R (Itt K a) H1) : iTup K tl σ H R := q
theorem i_strI {tl : TE} {R : It → Hp → Prop} (q : tl σ H fun x H1 => ∃ z, x = .str z ∧ R (Its z) H1) : iStr tl σ H R := q
theorem i_enumI {ta : TA} {R : It → Hp → Prop} (q : ta σ H fun vs H1 => ∃ l, vs = [.ref l] ∧ (∃ xs, SqL K H1 l xs) ∧ R (Ite K l) H1) : iEnum K ta σ H R := q
theorem i_fld {ta : TE} {f : Str} (q : ta σ H fun x H1 => ∃ a C dx fs v, x = .ref a ∧ H1 a = some (.ins C dx fs) ∧ Cls K C ∧ NoAttr K C f ∧ fs.lookup f = some v ∧ Q v H1) : tFld K ta f σ H Q := q
theorem i_setFld {ta tv : TE} {f : Str} (q : tv σ H fun y H1 => ta σ H1 fun x H2 => ∃ a C dx fs, x = .ref a ∧ H2 a = some (.ins C dx fs) ∧ Cls K C ∧ NoAttr K C f ∧ fs.length < 1000 ∧ D.nx σ (upd H2 a (.ins C dx (putF f y fs)))) : sFld K ta tv f D σ H := q
theorem i_dget2 {td ty tx : TE} (q : td σ H fun x H1 => ∃ a, x = .ref a ∧ IsD H1 a ∧ ty σ H1 fun y H2 => tx σ H2 fun z H3 => ∃ o, DGet H3 a y o ∧ Q (o.getD z) H3) : tDGet2 td ty tx σ H Q := q
theorem i_dput {td ty tv : TE} (q : tv σ H fun v H1 => td σ H1 fun x H2 => ty σ H2 fun y H3 => ∃ a H4, x = .ref a ∧ DPut H3 a y v H4 ∧ D.nx σ H4) : sDPut td ty tv D σ H := q
theorem i_dnew (q : ∀ p, H p = none → Q (.ref p) (upd H p (.dK []))) : tDNewK σ H Q := q
theorem i_max {i j : Int} (q : Q (.int (max i j)) H) : ∃ i' j', [V.int i, V.int j] = [.int i', .int j'] ∧ Q (.int (if j' > i' then j' else i')) H :=
  ⟨i, j, rfl, by
    have e : (if j > i then j else i) = max i j := by by_cases h : j > i <;> simp [h] <;> omega
    rw [e]; exact q⟩
theorem i_chain {r r' : R2} {ta tb tc : TE} (q : ta σ H fun x H1 => tb σ H1 fun y H2 => r x y H2 fun z H3 => ∃ k, z = .bl k ∧ (if k = true then tc σ H3 fun w' H4 => r' y w' H4 Q else Q (.bl false) H3)) : tChain r r' ta tb tc σ H Q := q
theorem i_append {l : Addr} {xs : List V} {y : V} (h : H l = some (.lst xs)) (z : xs.length < sizeLine) (q : Q .non (upd H l (.lst (xs ++ [y])))) : rAppend (.ref l) [y] H Q := ⟨l, xs, y, rfl, rfl, h, z, q⟩
theorem i_inS {c : Nat} {j : Str} (q : Q (.bl (decide (c ∈ j.cps.toList))) H) : rInS (.str ⟨#[c]⟩) (.str j) H Q := ⟨c, j, rfl, rfl, q⟩
theorem i_isiI {i : Int} (kII : kitOne K (.type "int") (.type "int") = some true) (q : Q (.bl true) H) : rIsi K [.int i, .ty "int"] H Q := ⟨_, _, _, _, rfl, rfl, .int i, kII, q⟩
theorem i_isiT {a : Addr} {xs : List V} {T : String} {b : Bool} (e : H a = some (.tup xs)) (k : kitOne K (.type "tuple") (.type T) = some b) (q : Q (.bl b) H) : rIsi K [.ref a, .ty T] H Q := ⟨_, _, _, _, rfl, rfl, .tup e, k, q⟩
theorem i_isiL {a : Addr} {xs : List V} {T : String} {b : Bool} (e : H a = some (.lst xs)) (k : kitOne K (.type "list") (.type T) = some b) (q : Q (.bl b) H) : rIsi K [.ref a, .ty T] H Q := ⟨_, _, _, _, rfl, rfl, .lst e, k, q⟩
theorem i_gtup {n : Nat} {t : TGs} {a : Addr} {xs : List V} {Q : St → Hp → Prop} (h : SqT K H a xs) (l : xs.length = n) (q : t xs σ H Q) : gTup K n t (.ref a) σ H Q := ⟨a, xs, rfl, h, l, q⟩
theorem i_gcons {t : TG} {u : TGs} {v : V} {r : List V} {Q : St → Hp → Prop} (q : t v σ H fun σ' H' => u r σ' H' Q) : gCons t u (v :: r) σ H Q := ⟨v, r, rfl, q⟩
theorem i_gnil {Q : St → Hp → Prop} (q : Q σ H) : gNil [] σ H Q := ⟨rfl, q⟩
end
end L2
set_option maxRecDepth 100000
set_option Elab.async false
set_option linter.all false
namespace HT
open PySem PySem.Spec PyProof.Rows
section
variable {prog : Program} {w : World} {A : Around} {E : Value → Shared → Prop} {s : Shared}
end
end HT
namespace L2
open PySem PySem.Spec PySem.W PyProof.Rows
section
variable {X : Cx} {k : Nat} {f C : Addr} {fd : FuncData} {ps : List Str} {sp : Sp} {ES : XS} {x : Str} {p pos : Pos} {e : Expr} {es : List Expr} {t : TA} {dvs : List V} {ds : List Value}
end
section
variable {X : Cx}
end
section
variable {X : Cx}
end
section
variable {prog : Program} {w : World} {A : Around} {E : Value → Shared → Prop} {s : Shared}
end
end L2
set_option maxRecDepth 100000
set_option Elab.async false
set_option linter.all false
namespace HT
open PySem PySem.Spec PyProof.Rows
section
variable {prog : Program} {w : World} {A : Around} {E : Value → Shared → Prop} {s : Shared}
end
end HT
namespace L2
open PySem PySem.Spec PySem.W PyProof.Rows
section
variable {X : Cx}
end
section
variable {X : Cx} {tg : Expr}
end
section
variable {X : Cx}
end
section
variable {X : Cx} {e : Expr} {t : TA} {p p' pos pos' : Pos}
end
section
variable {σ : St} {H : Hp} {Q : VK} {td ty : TE}
theorem i_dix (q : td σ H fun x H1 => ty σ H1 fun y H2 => ∃ a v, x = .ref a ∧ DGet H2 a y (some v) ∧ Q v H2) : tDGet td ty σ H Q := q
end
end L2
set_option maxRecDepth 100000
set_option Elab.async false
set_option linter.all false
namespace L2
open PySem PySem.Spec PySem.W PyProof.Rows
section
variable {X : Cx} {pins : List (Addr × Obj)} {σ : St} {H : Hp} {s : Shared}
end
section
variable {X : Cx}
open Classical in
open Classical in
end
theorem lcF {J : It} {n : Nat} {xs : Nat → V} {tf : TT} {te : TE} {cs : St} {H1 : Hp} {Q : Addr → Hp → Prop} (L : LcIt J n H1 xs) (p : Nat → Bool) (f : Nat → V) (hz : n ≤ sizeLine)
    (hf : ∀ (i : Nat) (H' : Hp) (R : Bool → Hp → Prop), i < n → Same H1 H' → R (p i) H' → tf (some (xs i) :: cs) H' R)
    (hx : ∀ (i : Nat) (H' : Hp) (R : VK), i < n → p i = true → Same H1 H' → R (f i) H' → te (some (xs i) :: cs) H' R)
    (q : ∀ D H2, New H1 D (.lst (((List.range n).filter p).map f)) H2 → Q D H2) :
    ∀ D, H1 D = none → ∃ W : Nat → Nat → List V → Hp → Prop, (∃ m, W 0 m [] (upd H1 D (.lst []))) ∧ ∀ i m ys H, W i m ys H →
      H D = some (.lst ys) ∧ ((J.stop i H ∧ Q D H) ∨ (J.go i H ∧ ys.length < sizeLine ∧ ∀ x H', J.yld i H x H' → tf (some x :: cs) H' fun b H2 =>
        if b = true then te (some x :: cs) H2 fun y H3 => H3 D = some (.lst ys) ∧ ∃ m', m' < m ∧ W (i + 1) m' (ys ++ [y]) (upd H3 D (.lst (ys ++ [y]))) else ∃ m', m' < m ∧ W (i + 1) m' ys H2)) := by
  intro D hD
  refine ⟨fun i m ys H => m = n - i ∧ i ≤ n ∧ ys = ((List.range i).filter p).map f ∧ H = upd H1 D (.lst ys), ⟨n, by simp, Nat.zero_le _, by simp, rfl⟩, ?_⟩
  rintro i m ys H ⟨rfl, hi, hys, rfl⟩
  have s1 : Same H1 (upd H1 D (.lst ys)) := Same.upd (Same.refl H1) hD
  refine ⟨upd_same, ?_⟩
  by_cases hlt : i < n
  · have hyl : ys.length ≤ i := by
      rw [hys, List.length_map]
      exact Nat.le_trans (List.length_filter_le _ _) (Nat.le_of_eq List.length_range)
    refine .inr ⟨L.go i _ hlt s1, by omega, fun x H' y => ?_⟩
    obtain ⟨e, ex⟩ := L.yld i _ x H' hlt s1 y
    subst e ex
    refine hf i _ _ hlt s1 ?_
    cases hp : p i with
    | true =>
      rw [if_pos rfl]
      refine hx i _ _ hlt hp s1 ⟨upd_same, n - (i + 1), by omega, rfl, hlt, ?_, by rw [upd_upd]⟩
      rw [List.range_succ, List.filter_append, List.map_append, ← hys]
      simp [hp]
    | false =>
      rw [if_neg (by decide)]
      refine ⟨n - (i + 1), by omega, rfl, hlt, ?_, rfl⟩
      rw [List.range_succ, List.filter_append, List.map_append, ← hys]
      simp [hp]
  · have e : i = n := by omega
    subst e
    exact .inl ⟨L.stop _ s1, by rw [hys]; exact q D _ ⟨hD, rfl⟩⟩
theorem LcIt.tup {K : Frag} {a : Addr} {H1 : Hp} {xs : List V} (hS : SqT K H1 a xs) : LcIt (Itt K a) xs.length H1 (fun i => xs.getD i .non) where
  go := fun i H hi s => ⟨xs, xs[i], s.tup hS, by simp [hi]⟩
  yld := fun i H x H' hi s y => by
    obtain ⟨e, y⟩ := y
    refine ⟨e, ?_⟩
    have := y xs (s.tup hS)
    rw [List.getD, this]; rfl
  stop := fun H s => ⟨xs, s.tup hS, Nat.le_refl _⟩
end L2
set_option maxRecDepth 100000
set_option Elab.async false
set_option linter.all false
namespace L2
open PySem PySem.Spec PySem.W PyProof.Rows
section
variable {X : Cx} {scope : Scope} {x : Str} {caps : List Str} {ix : List Nat} {pins : List (Addr × Obj)} {σ : St} {H : Hp} {s : Shared}
end
end L2
set_option maxRecDepth 100000
set_option Elab.async false
set_option linter.all false
namespace L2
open PySem PySem.Spec PySem.W PyProof.Rows
section
variable {X : Cx} {scope : Scope} {xs : List Str} {caps : List Str} {ix : List Nat} {pins : List (Addr × Obj)} {σ : St} {H : Hp} {s : Shared}
end
end L2
set_option Elab.async false
set_option linter.all false
set_option maxHeartbeats 4000000
namespace L2
open PySem PyProof PyProof.Rows PySem.W
section
variable {X : Cx}
theorem tup_is {h : Heap} {a : Addr} {items : Array Value} (x : IsTup h a items) : h.IsTuple a items := by
  obtain ⟨o, e, c, n, d⟩ := x
  exact ⟨o, e, c, n, d⟩
end
end L2
set_option Elab.async false
set_option linter.all false
set_option maxHeartbeats 4000000
set_option maxRecDepth 100000
namespace PySem
open Sem (wp)
namespace F
theorem lap_entry_dict_update_loop : entryFor table "dict.update.loop" = some Builtin.«dict.update.loop» := entryFor_of_tree (by kernel_rfl)
theorem lap_plain_dict_update_loop : plainId "dict.update.loop" = true := by decide +kernel
theorem lap_list_keys_none : typeLookup (.type "list") "keys" = pure none := am_miss_of_fast (by kernel_rfl)
end F
theorem lap_getAttrQ_miss {prog : Program} {w : World} {A : Around} {E : Value → Shared → Prop} {s : Shared} {l : Addr} {ob : Obj} {its : Array Value} {c : Nat} {nm : Str} {Q : Option Value → Shared → Prop}
    (at_l : s.heap.get? l = some ob) (is_l : ob.cls = .type "list") (its_l : ob.data = .seq its c) (no_d : ob.dict = none) (lacks : typeLookup (.type "list") nm = pure none) (plain : (["__module__", "__name__", "__qualname__", "__doc__", "__annotations__"] : List Str).contains nm = false) (calm : A.handled = none)
    (go : ∀ h' t', (∀ b u, s.heap.get? b = some u → h'.get? b = some u) → Q none { s with heap := h', toks := t' }) (fits : nm.length + 100 ≤ sizeLine := by size_fits) :
    wpAny (model prog w) A (getAttr? (.ref l) nm) Q E s := by
  obtain ⟨cl, dc, da, sl⟩ := ob
  simp only at is_l its_l no_d
  subst is_l its_l no_d
  obtain ⟨hh, gg, dd, tt, oo⟩ := s
  have ty : ∀ t', Shared.TypeIs ⟨hh, gg, dd, t', oo⟩ (.ref l) "list" := fun _ => ⟨_, at_l, rfl⟩
  have k1 := sub_AttributeError
  have k2 := (F.slot_list_getattribute).lookup
  have k3 := (F.slot_list_getattribute).bind (.ref l)
  have k4 := (am_list_getattr_none)
  unfold getAttr? getAttrBy?; unfold getAttrBy
  repeat (any_goals (first | (exact ty _) | assumption | ((with_reducible show wpAny _ _ (call (Value.builtin "list.__getattribute__") _ _) _ _ _); refine call_meets F.slot_list_getattribute (ty _) am_entry_list_getattribute (F.args_list_getattribute_2 _ _) (meets_getattribute_miss_list l its c sl nm _ lacks plain fits) ⟨at_l, calm, fun h' t' ex made => ?_⟩) | wp_step))
  obtain ⟨_, _, there⟩ := made.there
  show wpAny _ _ (getattributeRaised ..) _ _ _
  unfold getattributeRaised
  repeat (any_goals (first | wp_step | assumption))
  exact go _ _ made.keeps
section
variable {prog : Program} {w : World} {K : Type} [DecidableEq K] {knd : KeyKind prog w K} {A : Around} {R : Result → Shared → Prop}
theorem lap_update_loop {It l D : Addr} {items : Array Value} (h₀ : Heap) (rs : List (K × Value)) (hh : A.handled = none) (hne : l ≠ It) (hDI : D ≠ It) (hDl : D ≠ l) (hrs : rs.length = items.size) (hsz : rs.length ≤ sizeLine)
    (hit : ∀ (i : Nat) (v : Value), items[i]? = some v → ∀ kv : K × Value, rs[i]? = some kv → ∃ (t : Addr) (key : Value), v = Value.ref t ∧ t ≠ D ∧ t ≠ It ∧ h₀.IsTuple t #[key, kv.2] ∧ knd.is kv.1 key = true) :
    ∀ (k i : Nat) (s : Shared) (kvs : List (K × Value)), items.size - i = k → i ≤ items.size → (s.heap.IsListIter It l i ∧ s.heap.IsList l items) → s.heap.DictOf knd D kvs → kvs.length ≤ i → (∀ b o, b ≠ D → b ≠ It → h₀.get? b = some o → s.heap.get? b = some o) →
    (∀ h' tk, h'.DictOf knd D (merged kvs (rs.drop i)) → (∀ b o, b ≠ D → b ≠ It → h₀.get? b = some o → h'.get? b = some o) → R (.ok (.ret .none)) { s with heap := h', toks := tk }) →
    codeAny (model prog w) A (.builtin "dict.update.loop" ⟨[.ref D, .ref It, rawInt i, .none], []⟩) R s := by
  have W := Walks.list (prog := prog) (w := w) (A := A.in1) hh It l hne items
  intro k
  induction k with
  | zero =>
    intro i s kvs hk hi hst hd hl hkp hR
    have hin : i = items.size := by omega
    refine codeAny_builtin F.lap_entry_dict_update_loop ?_
    rw [Around.under_plainId F.lap_plain_dict_update_loop _]
    show wpAny _ A.in1 (pyNext (.ref It) >>= _) _ _ s
    refine wpAny_bind (W.done s _ _ (hin ▸ hst) fun h' tk hk' => ?_)
    show wpAny _ A.in1 (Builtin.Dict.addKeywords D [] >>= _) _ _ _
    refine wpAny_bind (wpAny_pure (wpAny_pure ?_))
    refine hR h' tk ?_ fun b o n1 n2 e => hk' b o (by simpa using n2) (hkp b o n1 n2 e)
    rw [hin, ← hrs, List.drop_length]
    obtain ⟨o, es, ep, ho, r⟩ := hd
    exact ⟨o, es, ep, hk' D o (by simpa using hDI) ho, r⟩
  | succ k ih =>
    intro i s kvs hk hi hst hd hl hkp hR
    have hlt : i < items.size := by omega
    refine codeAny_builtin F.lap_entry_dict_update_loop ?_
    rw [Around.under_plainId F.lap_plain_dict_update_loop _]
    show wpAny _ A.in1 (pyNext (.ref It) >>= _) _ _ s
    refine wpAny_bind (W.item i s _ _ hlt hst fun v h' tk hP hst' hk' => ?_)
    have hri := List.getElem?_eq_getElem (show i < rs.length by omega)
    obtain ⟨t, key, rfl, nt1, nt2, ⟨o, ho, hc, n, hdat⟩, hkey⟩ := hit i v hP rs[i] hri
    have ho' := hk' t o (by simpa using nt2) (hkp t o nt1 nt2 ho)
    have hd' : h'.DictOf knd D kvs := by
      obtain ⟨o, es, ep, ho, r⟩ := hd
      exact ⟨o, es, ep, hk' D o (by simpa using hDI) ho, r⟩
    have hT : (⟨h', s.gens, s.drawn, tk, s.os⟩ : Shared).TypeIs (.ref t) "tuple" := ⟨o, ho', hc⟩
    show wpAny _ A.in1 (holding [Value.ref t] _ >>= _) _ _ _
    refine wpAny_bind (wpAny_holding ?_)
    refine wpAny_bind (wpAny_tryCatch ?_)
    unfold Builtin.Dict.pairItems
    refine wpAny_bind (wpAny_typeOf hT ?_)
    rw [if_pos (by decide)]
    refine wpAny_bind (wpAny_seqItems ho' hdat (wpAny_pure ?_))
    show wpAny _ A.in1 (holding [key, rs[i].2] (dictSet D key rs[i].2)) _ _ _
    refine wpAny_holding (wpAny_dictSet_pairs hkey hd' (fun h2 hd2 hs2 => ?_) (by omega))
    refine wpAny_pure ⟨plainId_quiet F.lap_plain_dict_update_loop _, ?_⟩
    show codeAny (model prog w) A (.builtin "dict.update.loop" ⟨[.ref D, .ref It, rawInt ((i + 1 : Nat) : Int), .none], []⟩) R _
    refine ih (i + 1) _ (stored kvs rs[i].1 rs[i].2) (by omega) hlt (W.frame _ _ _ hst' fun b hb o e => ?_) hd2 ?_ (fun b o n1 n2 e => ?_) fun h3 tk3 hd3 hk3 => ?_
    · have nb : b ≠ D := by
        rcases List.mem_cons.mp hb with z | z
        · rw [z]; exact hDI.symm
        · rw [List.mem_singleton.mp z]; exact hDl.symm
      exact (hs2.2 b nb).trans e
    · have := stored_length_le kvs rs[i].1 rs[i].2
      omega
    · exact (hs2.2 b n1).trans (hk' b o (by simpa using n2) (hkp b o n1 n2 e))
    · refine hR h3 tk3 ?_ hk3
      rw [List.drop_eq_getElem_cons (show i < rs.length by omega)]
      exact hd3
end
section
variable {w : World} {prog : Program} {K : Type} [DecidableEq K] {knd : KeyKind prog w K} {s : Shared} {A : Around} {E : Value → Shared → Prop}
theorem lap_call_dict {l : Addr} {vs : List Value} {n : Nat} {rs : List (K × Value)} {Q : Value → Shared → Prop} (hx : s.heap.get? l = some { cls := .type "list", data := .seq vs.toArray n }) (hh : A.handled = none) (hrs : rs.length = vs.length) (hsz : rs.length ≤ sizeLine)
    (hit : ∀ (i : Nat) (v : Value), vs[i]? = some v → ∀ kv : K × Value, rs[i]? = some kv → ∃ (t : Addr) (key : Value), v = Value.ref t ∧ s.heap.IsTuple t #[key, kv.2] ∧ knd.is kv.1 key = true)
    (h : ∀ h' tk, h'.DictOf knd s.heap.objs.size (merged [] rs) → (∀ b ob, s.heap.get? b = some ob → h'.get? b = some ob) → Q (.ref s.heap.objs.size) { s with heap := h', toks := tk }) :
    wpAny (model prog w) A (call (.type "dict") [.ref l]) Q E s := by
  refine callType_codes (Q₁ := fun v s1 => v = .ref s.heap.objs.size ∧ s1 = { s with heap := s.heap.push { cls := .type "dict", data := .dict #[] } }) F.kt_called_dict (F.kt_typeCall_dict_1 _) F.entry_dict_init (kt_code_dict_new _ ⟨rfl, rfl⟩) ?_
  rintro v s1 ⟨rfl, rfl⟩
  have fresh : (s.heap.push { cls := .type "dict", data := .dict #[] }).DictOf knd s.heap.objs.size [] := Heap.DictOf.new s.heap
  have hx1 : (s.heap.push { cls := .type "dict", data := .dict #[] }).get? l = some { cls := .type "list", data := .seq vs.toArray n } := Heap.get?_push_of_some _ hx
  have ltl : l < s.heap.objs.size := Heap.lt_size hx
  refine ⟨fresh.typeIs, F.args_dict_init_2 _ _, ?_⟩
  unfold Builtin.«dict.__init__»
  refine wpAny_bind ?_
  unfold Builtin.Dict.selfAndRest
  refine wpAny_bind (wpAny_notOrdered_dict fresh.typeIs ?_)
  show wpAny _ _ (pure (s.heap.objs.size, [Value.ref l])) _ _ _
  refine wpAny_pure ?_
  show wpAny _ _ (Builtin.Dict.updateFrom "dict.__init__" s.heap.objs.size (.ref l) [] .none) _ _ _
  unfold Builtin.Dict.updateFrom
  have hT : Shared.TypeIs { s with heap := s.heap.push { cls := .type "dict", data := .dict #[] } } (.ref l) "list" := ⟨_, hx1, rfl⟩
  refine wpAny_bind (wpAny_typeOf hT ?_)
  rw [if_pos (by decide)]
  refine wpAny_bind (lap_getAttrQ_miss hx1 rfl rfl rfl F.lap_list_keys_none (by decide) hh fun h2 tk2 hk2 => ?_)
  rw [if_pos (by decide)]
  refine wpAny_bind (wpAny_rule ?_)
  have hl2 : h2.IsList l vs.toArray := ⟨_, hk2 _ _ hx1, rfl, n, rfl⟩
  refine wpAny_bind (wpAny_pyIter_list hl2 ?_)
  have hd2 : h2.DictOf knd s.heap.objs.size [] := by
    obtain ⟨o, es, ep, ho, r⟩ := fresh
    exact ⟨o, es, ep, hk2 _ _ ho, r⟩
  have hsz2 : s.heap.objs.size < h2.objs.size := by obtain ⟨o, es, ep, ho, r⟩ := hd2; exact Heap.lt_size ho
  refine wpAny_pure ⟨plainId_quiet F.lap_plain_dict_update_loop _, ?_⟩
  refine lap_update_loop (A := A.in1) (knd := knd) (It := h2.objs.size) (l := l) (D := s.heap.objs.size) (items := vs.toArray) s.heap rs hh (Nat.ne_of_lt (Nat.lt_trans ltl hsz2)) (Nat.ne_of_lt hsz2) (Nat.ne_of_gt ltl) (by simpa using hrs) hsz (fun i v hv kv hkv => ?_) vs.length 0 { s with heap := h2.push { cls := .type "list_iterator", data := .fields #[.ref l, .int 0 0] }, toks := tk2 } [] (by simp) (Nat.zero_le _) ⟨⟨_, Heap.get?_push_size _ rfl, rfl, rfl⟩, hl2.push _⟩ (hd2.push _) (Nat.le_refl _) (by intro b o n1 n2 e; exact Heap.get?_push_of_some _ (hk2 _ _ (Heap.get?_push_of_some _ e))) fun h' tk hd' hk' => ?_
  · obtain ⟨t, key, e1, e2, e3⟩ := hit i v (by simpa using hv) kv hkv
    obtain ⟨o, ho, hc, m, hdat⟩ := e2
    have ltt : t < s.heap.objs.size := Heap.lt_size ho
    exact ⟨t, key, e1, Nat.ne_of_lt ltt, Nat.ne_of_lt (Nat.lt_trans ltt hsz2), ⟨o, ho, hc, m, hdat⟩, e3⟩
  · refine ⟨rfl, h h' tk hd' fun b ob e => ?_⟩
    have ltb : b < s.heap.objs.size := Heap.lt_size e
    exact hk' b ob (Nat.ne_of_lt ltb) (Nat.ne_of_lt (Nat.lt_trans ltb hsz2)) e
end
end PySem
namespace L2
open PySem PyProof PyProof.Rows PySem.W
section
variable {X : Cx}
structure PairsAt (H : Hp) (ps : List (Key × V)) (us : List V) : Prop where
  len : ps.length = us.length
  at_ : ∀ (i : Nat) (p : Key × V) (u : V), ps[i]? = some p → us[i]? = some u → ∃ t, u = .ref t ∧ H t = some (.tup [kV p.1, p.2])
theorem pairs_of {pins : List (Addr × Obj)} {σ : St} {H : Hp} {s : Shared} (I : Inv X pins σ H s) : ∀ (ps : List (Key × V)) (us : List V) (its : List Value), Vals us its → PairsAt H ps us →
    ∃ rs : List (Key × Value), KV ps rs ∧ ∀ (i : Nat) (v : Value), its[i]? = some v → ∀ kv : Key × Value, rs[i]? = some kv → ∃ (t : Addr) (key : Value), v = Value.ref t ∧ s.heap.IsTuple t #[key, kv.2] ∧ (mixKind X.prog X.w).is kv.1 key = true
  | [], us, its, rv, h => ⟨[], .nil, fun i v _ kv hk => by simp at hk⟩
  | p :: ps, [], its, rv, h => by have := h.len; simp at this
  | p :: ps, u :: us, its, rv, h => by
    cases rv with
    | @cons _ v1 _ its' r1 rr =>
      obtain ⟨t, e, ht⟩ := h.at_ 0 p u rfl rfl
      subst e
      have e1 : v1 = .ref t := r1
      subst e1
      obtain ⟨tits, rt, htup, _⟩ := I.tuple (xs := [kV p.1, p.2]) (.inl (.inl ht))
      cases rt with
      | cons k1 kk =>
        cases kk with
        | @cons _ vv _ _ v2 kk =>
          cases kk
          obtain ⟨rs, h1, h2⟩ := pairs_of I ps us its' rr ⟨by have := h.len; simpa using this, fun i p' u' e1 e2 => h.at_ (i + 1) p' u' e1 e2⟩
          refine ⟨(p.1, vv) :: rs, .cons ⟨rfl, v2⟩ h1, fun i v hv kv hk => ?_⟩
          cases i with
          | zero =>
            have ev : Value.ref t = v := by simpa using hv
            have ek : (p.1, vv) = kv := by simpa using hk
            subst ev ek
            exact ⟨t, _, rfl, tup_is htup, kV_is k1⟩
          | succ i => exact h2 i v (by simpa using hv) kv (by simpa using hk)
def rDictL (K : PySem.W.Frag) : List V → Hp → VK → Prop := fun xs H Q => ∃ (l : Addr) (us : List V) (ps : List (Key × V)), xs = [.ref l] ∧ H l = some (.lst us) ∧ PairsAt H ps us ∧ ∀ D H2, New H D (.dK (mergeK [] ps)) H2 → Q (.ref D) H2
theorem call_dictL (hc : X.calm = true) : CallR X (.type "dict") (rDictL X.K) := by
  intro pins s σ H xs us' Q I r h
  obtain ⟨l, us, ps, rfl, hl, hp, q⟩ := h
  obtain ⟨u, rfl, ru⟩ := r.one
  cases ru
  obtain ⟨its, n, rv, ho, hz⟩ := I.lst hl
  obtain ⟨rs, hkv, hit⟩ := pairs_of I ps us its rv hp
  have l1 := hp.len
  have l2 := rv.length
  have l3 := hkv.length
  refine lap_call_dict (knd := mixKind X.prog X.w) ho (I.ok.hd hc) (rs := rs) (by omega) (by omega) hit fun h' tk hd hk => ?_
  have hm : KV (mergeK [] ps) (merged [] rs) := KV.merge hkv .nil
  have lm := length_mergeK ps []
  have hfree : H s.heap.objs.size = none := I.hok.fresh (Nat.le_refl _)
  refine ⟨.ref s.heap.objs.size, upd H s.heap.objs.size (.dK (mergeK [] ps)), I.laid (a := s.heap.objs.size) (o := .dK (mergeK [] ps)) (t' := tk) hk (Nat.le_refl _) (dk_new (by simp at lm; omega) (beq_eq_false_iff_ne.mpr (Ne.symm (Nat.ne_of_lt I.big))) hm hd), rfl, q _ _ ⟨hfree, rfl⟩⟩
theorem i_dictL {K : PySem.W.Frag} {l : Addr} {us : List V} {ps : List (Key × V)} {H : Hp} {Q : VK} (h : H l = some (.lst us)) (p : PairsAt H ps us) (q : ∀ D H2, New H D (.dK (mergeK [] ps)) H2 → Q (.ref D) H2) : rDictL K [.ref l] H Q := ⟨l, us, ps, rfl, h, p, q⟩
end
end L2
set_option Elab.async false
set_option linter.all false
set_option maxHeartbeats 4000000
set_option maxRecDepth 100000
namespace L2
open PySem PySem.Spec PyProof PyProof.Rows PySem.W
section
variable {X : Cx} {pins : List (Addr × Obj)} {σ : St} {H : Hp} {s : Shared}
theorem Inv.freeze {d : Addr} {kvs : List (Key × V)} (I : Inv X pins σ H s) (e : H d = some (.dK kvs)) : ∃ o, Inv X pins σ (upd H d (.frz o (.dK kvs))) s := by
  obtain ⟨z, y, vs, r, ob, es, ep, g, c⟩ := (show ObjOk X.prog X.w H s.heap d (.dK kvs) from I.hok d _ e)
  refine ⟨ob, ?_⟩
  have new : ObjOk X.prog X.w (upd H d (.frz ob (.dK kvs))) s.heap d (.frz ob (.dK kvs)) := ⟨g, z, y, vs, r, ob, es, ep, g, c⟩
  exact I.write (t' := s.toks) (h' := s.heap) (by rw [e]; exact True.intro) (.inl rfl) (fun b u _ q => q) ⟨ob, g⟩ new
theorem Inv.thaw {d : Addr} {ob : Obj} {kvs : List (Key × V)} (I : Inv X pins σ H s) (e : H d = some (.frz ob (.dK kvs))) (h0 : ∀ o u, X.H₀ d ≠ some (.frz o u)) : Inv X pins σ (upd H d (.dK kvs)) s := by
  have hn : ∀ b, H b = none → b ≠ d := fun b n z => by rw [z, e] at n; cases n
  obtain ⟨g, q⟩ := (show ObjOk X.prog X.w H s.heap d (.frz ob (.dK kvs)) from I.hok d _ e)
  have ho : ∀ a b, H b = some (.own a) → upd H d (.dK kvs) b = some (.own a) := fun a b r => by
    rw [upd_ne (fun z => by rw [z, e] at r; cases r)]; exact r
  have ht : ∀ b xs, H b = some (.tup xs) → upd H d (.dK kvs) b = some (.tup xs) := fun b xs r => by
    rw [upd_ne (fun z => by rw [z, e] at r; cases r)]; exact r
  refine ⟨I.ok, I.os, I.bare, ⟨I.base.keep, I.base.slot, fun b o e1 n hx => ?_, I.base.there, fun b xs e1 => ht b xs (I.base.tups b xs e1), fun b o u e1 => ?_, fun b ps e1 => ?_⟩, I.loc, I.cell, ?_, fun x c e1 => ?_, fun p hp => ?_, fun b u e1 => ?_, I.len⟩
  · rw [upd_ne (hn b (I.base.free b o e1 n hx))]; exact I.base.free b o e1 n hx
  · have := I.base.frzs b o u e1
    rw [upd_ne (fun z => h0 o u (by rw [← z]; exact e1))]; exact this
  · obtain ⟨m, q'⟩ := I.base.tbls b ps e1
    exact ⟨m, by rw [upd_ne (fun z => by rw [z, e] at q'; cases q')]; exact q'⟩
  · rw [upd_ne (hn _ I.free)]; exact I.free
  · rw [upd_ne (hn _ (I.freeC x c e1))]; exact I.freeC x c e1
  · obtain ⟨a, b, c⟩ := I.pin p hp
    exact ⟨a, by rw [upd_ne (hn _ b)]; exact b, c⟩
  · by_cases hb : b = d
    · subst hb
      rw [upd_same] at e1
      cases e1
      exact q.stay (fun _ _ _ z => z) (ho b) ht
    · rw [upd_ne hb] at e1
      exact (I.hok b u e1).stay (fun _ _ _ z => z) (ho b) ht
def tFz (ts : TS) : TS := fun D σ H => ∃ (d : Addr) (kvs : List (Key × V)), H d = some (.dK kvs) ∧ ∀ o, ts
  { nx := fun σ' H' => H' d = some (.frz o (.dK kvs)) ∧ D.nx σ' (upd H' d (.dK kvs)), rt := fun v H' => H' d = some (.frz o (.dK kvs)) ∧ D.rt v (upd H' d (.dK kvs)),
    bk := fun σ' H' => H' d = some (.frz o (.dK kvs)) ∧ D.bk σ' (upd H' d (.dK kvs)), ct := fun σ' H' => H' d = some (.frz o (.dK kvs)) ∧ D.ct σ' (upd H' d (.dK kvs)) } σ (upd H d (.frz o (.dK kvs)))
theorem ps_fz {st : Stmt} {ts : TS} (h : PS X st ts) : PS X st (tFz ts) := by
  intro pins s σ H D I q
  obtain ⟨d, kvs, e, q⟩ := q
  have h0 : ∀ o u, X.H₀ d ≠ some (.frz o u) := fun o u z => by have := I.base.frzs d o u z; rw [e] at this; cases this
  obtain ⟨o, I1⟩ := I.freeze e
  refine thn (h pins s σ _ _ I1 (q o)) fun f s' z => ?_
  cases f with
  | next => obtain ⟨σ', H', I', a, b⟩ := z; exact ⟨σ', _, I'.thaw a h0, b⟩
  | brk => obtain ⟨σ', H', I', a, b⟩ := z; exact ⟨σ', _, I'.thaw a h0, b⟩
  | cont => obtain ⟨σ', H', I', a, b⟩ := z; exact ⟨σ', _, I'.thaw a h0, b⟩
  | ret v => obtain ⟨x, σ', H', I', r, a, b⟩ := z; exact ⟨x, σ', _, I'.thaw a h0, r, b⟩
theorem i_fz {ts : TS} {D : Ends} {d : Addr} {kvs : List (Key × V)} (e : H d = some (.dK kvs)) (q : ∀ o, ts
  { nx := fun σ' H' => H' d = some (.frz o (.dK kvs)) ∧ D.nx σ' (upd H' d (.dK kvs)), rt := fun v H' => H' d = some (.frz o (.dK kvs)) ∧ D.rt v (upd H' d (.dK kvs)),
    bk := fun σ' H' => H' d = some (.frz o (.dK kvs)) ∧ D.bk σ' (upd H' d (.dK kvs)), ct := fun σ' H' => H' d = some (.frz o (.dK kvs)) ∧ D.ct σ' (upd H' d (.dK kvs)) } σ (upd H d (.frz o (.dK kvs)))) : tFz ts D σ H := ⟨d, kvs, e, q⟩
end
def Iti (d : Addr) (o : Obj) (kvs : List (Key × V)) : It :=
  ⟨fun i H => H d = some (.frz o (.dK kvs)) ∧ i < kvs.length,
   fun i H v H' => ∃ T k x, v = .ref T ∧ New H T (.tup [L2.kV k, x]) H' ∧ kvs[i]? = some (k, x),
   fun i H => H d = some (.frz o (.dK kvs)) ∧ kvs.length ≤ i⟩
theorem key_rel {P : Program} {w : World} {k : Key} {u : Value} (h : (mixKind P w).is k u = true) : RelV (L2.kV k) u := by
  rcases keyIs_shape (show keyIs k u = true from h) with ⟨i, t, rfl, rfl⟩ | ⟨z, t, rfl, rfl⟩
  · exact ⟨t, rfl⟩
  · exact ⟨t, rfl⟩
theorem KV.at : ∀ {kvs : List (Key × V)} {vs : List (Key × Value)}, KV kvs vs → ∀ {i : Nat} {k : Key} {x : V}, kvs[i]? = some (k, x) → ∃ u, vs[i]? = some (k, u) ∧ RelV x u := by
  intro kvs vs r
  induction r with
  | nil => intro i k x e; simp at e
  | @cons p q ps qs h _ ih =>
    intro i k x e
    cases i with
    | zero =>
      simp only [List.getElem?_cons_zero, Option.some.injEq] at e
      subst e
      obtain ⟨q1, q2⟩ := q
      have e1 : k = q1 := h.1
      subst e1
      exact ⟨q2, rfl, h.2⟩
    | succ i =>
      obtain ⟨u, e1, e2⟩ := ih (i := i) (k := k) (x := x) (by simpa using e)
      exact ⟨u, by simpa using e1, e2⟩
theorem dictAt_frz {X : Cx} {pins : List (Addr × Obj)} {σ : St} {H : Hp} {s : Shared} {d : Addr} {o : Obj} {kvs : List (Key × V)} {es0 : Array DictEntry} {ep : Nat} (I : Inv X pins σ H s) (e : H d = some (.frz o (.dK kvs))) (ho : o.data = .dict es0 ep) :
    ∃ vs, KV kvs vs ∧ s.heap.DictAt (mixKind X.prog X.w) d vs ep := by
  obtain ⟨g, z, y, vs, r, ob, es, ep', g', c, hd, rest⟩ := (show ObjOk X.prog X.w H s.heap d (.frz o (.dK kvs)) from I.hok d _ e)
  rw [g] at g'
  cases g'
  rw [ho] at hd
  cases hd
  exact ⟨vs, r, o, es0, g, c, ho, rest⟩
theorem turn_items {P : Program} {w : World} {K : PySem.W.Frag} {es : List Expr} {k : Nat} {tp : Pos} (it d : Addr) (o : Obj) (kvs : List (Key × V)) {es0 : Array DictEntry} {ep : Nat} (ho : o.data = .dict es0 ep) :
    Turn P w K (.Tuple es k tp) (Iti d o kvs) [it] it (fun i h => ∃ ok ov, IsItemIter h it d i kvs.length ep ok ov) where
  mem := by simp
  obj := fun i h st b hb => by
    obtain ⟨ok, ov, he⟩ := st
    have e : b = it := by simpa using hb
    subst e
    exact ⟨_, he, fun v z => by cases z⟩
  keep := fun i h h' st kk => by
    obtain ⟨ok, ov, he⟩ := st
    exact ⟨ok, ov, kk it (by simp) _ he⟩
  item := by
    intro X hP hw hK hc i pins s σ H E I hf st hg
    subst hP hw hK
    obtain ⟨ok, ov, he⟩ := st
    obtain ⟨hd, hi⟩ := hg
    obtain ⟨vs, rel, hm⟩ := dictAt_frz I hd ho
    have hl := rel.length
    obtain ⟨kk, x, hx⟩ : ∃ kk x, kvs[i]? = some (kk, x) := ⟨kvs[i].1, kvs[i].2, List.getElem?_eq_getElem hi⟩
    obtain ⟨u, hu, ru⟩ := rel.at hx
    have he0 : IsItemIter s.heap it d i vs.length ep ok ov := by rw [← hl]; exact he
    refine wpAny_pyNext_items_item he0 hm hu fun key h' hkey ho' hT hsz hk => ⟨_, rfl, ?_⟩
    have I1 : Inv X pins σ H { s with heap := h' } := I.turnedL (t' := s.toks) hf fun b o hb q => hk b o (fun z => hb (by simp [z])) q
    have hlt : it < s.heap.objs.size := Heap.lt_size he
    refine wpAny_letOwnedTupleGo_items ho' fun h2 he2 hs2 => ?_
    have I2 : Inv X pins σ H { s with heap := h2 } := I1.turnedL (t' := s.toks) hf fun b o hb q => (hs2.2 b (fun z => hb (by simp [z]))).trans q
    have hTn : H s.heap.objs.size = none := I.hok.fresh (Nat.le_refl _)
    have hT2 : h2.get? s.heap.objs.size = some { cls := .type "tuple", data := .seq #[key, u] } := (hs2.2 _ (Nat.ne_of_gt hlt)).trans hT
    have I3 : Inv X pins σ (upd H s.heap.objs.size (.tup [L2.kV kk, x])) { s with heap := h2 } := by
      refine I2.track (I.fpOk (Nat.le_refl _) hTn) ⟨by show 2 ≤ sizeLine; decide, [key, u], .cons (key_rel hkey) (.cons ru .nil), ⟨_, hT2, rfl, _, rfl⟩⟩
    refine ⟨.ref s.heap.objs.size, _, I3, rfl, ⟨_, kk, x, rfl, ⟨hTn, rfl⟩, hx⟩, ⟨_, _, by rw [hl]; exact he2⟩, fun b hb => ?_⟩
    have hne : b ≠ s.heap.objs.size := by rw [show b = it by simpa using hb]; exact Nat.ne_of_lt hlt
    rw [upd_ne hne]; exact (hf b hb).1
  done := by
    intro X hP hw hK hc i pins s σ H E I hf st hg
    subst hP hw hK
    obtain ⟨ok, ov, he⟩ := st
    obtain ⟨hd, hi⟩ := hg
    obtain ⟨vs, rel, hm⟩ := dictAt_frz I hd ho
    have hl := rel.length
    have he0 : IsItemIter s.heap it d i vs.length ep ok ov := by rw [← hl]; exact he
    refine wpAny_pyNext_items_end (I.ok.hd hc) he0 hm (List.getElem?_eq_none (by omega)) fun h' hx => ⟨rfl, ?_⟩
    exact I.turnedL (t' := s.toks) hf fun b o hb q => hx b o (fun z => hb (by simp [z])) q
  self := fun _ _ _ _ _ ⟨_, _, he⟩ h => PySem.W.kcp_self he h
def iItems (to : TE) : TI := fun σ H R => to σ H fun x H1 => ∃ d o kvs, x = .ref d ∧ H1 d = some (.frz o (.dK kvs)) ∧ R (Iti d o kvs) H1
theorem pi_items {X : Cx} {es : List Expr} {k : Nat} {tp : Pos} {oe : Expr} {to : TE} {apos cpos : Pos} (hoe : PE X oe to) (hbase : attributeBase oe "items" X.env (eval oe X.env) = eval oe X.env := by rfl)
    (hline : (apos.endLine == cpos.line) = true := by rfl) : PI X (.Tuple es k tp) (.Call (.Attribute oe "items" apos) [] [] cpos) (iItems to) := by
  intro pins s σ H R I h
  refine wpAny_Call_method0_late hbase hline (thn (hoe pins s σ H _ I h) fun v s1 ⟨x, H1, I1, r1, d, o, kvs, ex, hd, q⟩ => ?_)
  subst ex
  obtain rfl : v = Value.ref d := r1
  obtain ⟨t1, t2, t3⟩ := isD_at I1 (.inl ⟨kvs, .inr ⟨o, hd⟩⟩)
  refine ⟨"dict", "dict.items", PySem.F.plainAttrs_dict, PySem.F.slot_dict_items, PySem.F.type_dict_items, t1, t2, Calls.callWith_builtin rfl (PySem.evalArgs_none ?_)⟩
  obtain ⟨g, z, y, vs, rel, ob, es0, ep, g', c, hdat, rest⟩ := (show ObjOk X.prog X.w H1 s1.heap d (.frz o (.dK kvs)) from I1.hok d _ hd)
  have eo : ob = o := by rw [g] at g'; exact (Option.some.inj g').symm
  subst eo
  have hl := rel.length
  refine call_meetsIn PySem.F.slot_dict_items t1 PySem.F.entry_dict_items (PySem.F.args_dict_items_1 _) (meets_dict_items (mixKind X.prog X.w) d t3) ⟨⟨vs, ob, es0, ep, g, c, hdat, rest⟩, ?_⟩
  have hm : (s1.heap.push { cls := .type "dict_items", data := .fields #[.ref d] }).DictAt (mixKind X.prog X.w) d vs ep := Heap.DictAt.push (knd := mixKind X.prog X.w) ⟨ob, es0, g, c, hdat, rest⟩ _
  refine wpAny_pyIter_items (knd := mixKind X.prog X.w) (kvs := vs) (ep := ep) (d := d) ⟨_, Heap.get?_push_size _ rfl, rfl, rfl⟩ hm ?_
  have I2 : Inv X pins σ H1 { s1 with heap := s1.heap.push { cls := .type "dict_items", data := .fields #[.ref d] } } := I1.kept (t' := s1.toks) fun b o e => Heap.get?_push_of_some _ e
  refine ⟨_, [(s1.heap.push { cls := .type "dict_items", data := .fields #[.ref d] }).objs.size], _, _, H1, rfl, I2.kept (t' := s1.toks) fun b o e => Heap.get?_push_of_some _ e, turn_items _ d ob kvs hdat, ⟨.none, .none, ?_⟩, fun b hb => ?_, q⟩
  · rw [hl]; exact Heap.get?_push_size _ rfl
  · have e : b = (s1.heap.push { cls := .type "dict_items", data := .fields #[.ref d] }).objs.size := by simpa using hb
    subst e
    exact I2.fpOk (Nat.le_refl _) (I2.hok.fresh (Nat.le_refl _))
theorem i_items {to : TE} {σ : St} {H : Hp} {R : It → Hp → Prop} (q : to σ H fun x H1 => ∃ d o kvs, x = .ref d ∧ H1 d = some (.frz o (.dK kvs)) ∧ R (Iti d o kvs) H1) : iItems to σ H R := q
theorem for_items {d : Addr} {o : Obj} {kvs : List (Key × V)} {g : TG} {tb : TS} {D : Ends} {σ : St} {H : Hp} (Pv : Nat → St → Hp → Prop) (h0 : Pv 0 σ H) (hl : ∀ i σ H, i ≤ kvs.length → Pv i σ H → H d = some (.frz o (.dK kvs)))
    (hs : ∀ i k x T σ H H', kvs[i]? = some (k, x) → Pv i σ H → New H T (.tup [L2.kV k, x]) H' → g (.ref T) σ H' fun σ2 H2 => tb { D with nx := Pv (i + 1), ct := Pv (i + 1), bk := D.nx } σ2 H2) (hd : ∀ σ H, Pv kvs.length σ H → D.nx σ H) :
    ∃ W : Nat → Nat → St → Hp → Prop, (∃ m, W 0 m σ H) ∧ ∀ i m σ H, W i m σ H →
      ((Iti d o kvs).stop i H ∧ D.nx σ H) ∨ ((Iti d o kvs).go i H ∧ ∃ N : St → Hp → Prop, (∀ σ' H', N σ' H' → ∃ m', m' < m ∧ W (i + 1) m' σ' H') ∧ ∀ x H', (Iti d o kvs).yld i H x H' → g x σ H' fun σ2 H2 => tb { D with nx := N, ct := N, bk := D.nx } σ2 H2) := by
  refine ⟨fun i m σ H => m = kvs.length - i ∧ i ≤ kvs.length ∧ Pv i σ H, ⟨kvs.length, by simp, Nat.zero_le _, h0⟩, ?_⟩
  rintro i m σ H ⟨rfl, hi, hp⟩
  have hf := hl i σ H hi hp
  by_cases hlt : i < kvs.length
  · refine .inr ⟨⟨hf, hlt⟩, Pv (i + 1), fun σ' H' h' => ⟨kvs.length - (i + 1), by omega, rfl, by omega, h'⟩, fun v H' yy => ?_⟩
    obtain ⟨T, k, x, rfl, hN, hq⟩ := yy
    exact hs i k x T σ H H' hq hp hN
  · have ei : i = kvs.length := by omega
    subst ei
    exact .inl ⟨⟨hf, Nat.le_refl _⟩, hd σ H hp⟩
section
variable {X : Cx} {pins : List (Addr × Obj)} {σ : St} {H : Hp} {s : Shared}
end
section
variable {X : Cx}
end
theorem pe_fldK {X : Cx} {K : PySem.W.Frag} {e : Expr} {f : Str} {pos : Pos} {ta : TE} (hK : X.K = K) (he : PE X e ta) (hb : attributeBase e f X.env (eval e X.env) = eval e X.env) : PE X (.Attribute e f pos) (tFld K ta f) := by
  subst hK; exact pe_fld he hb
theorem lcFN {J : It} {n : Nat} {xs : Nat → V} {tf : TT} {te : TE} {cs : St} {H1 : Hp} {Q : Addr → Hp → Prop} (L : LcIt J n H1 xs) (p : Nat → Bool) (Pe : Addr → Nat → V → Hp → Prop) (hz : n ≤ sizeLine)
    (hm : ∀ D i y H H', SameB D H H' → Pe D i y H → Pe D i y H')
    (hf : ∀ (i : Nat) (H' : Hp) (R : Bool → Hp → Prop), i < n → Same H1 H' → R (p i) H' → tf (some (xs i) :: cs) H' R)
    (hx : ∀ (D : Addr) (i : Nat) (H' : Hp) (R : VK), i < n → p i = true → H1 D = none → (∃ ys, H' D = some (.lst ys)) → Same H1 H' → (∀ y H'', Same H' H'' → Pe D i y H'' → R y H'') → te (some (xs i) :: cs) H' R)
    (q : ∀ D ys H2, H1 D = none → Same H1 H2 → H2 D = some (.lst ys) → ys.length = ((List.range n).filter p).length → (∀ (j : Nat) (y : V) (i : Nat), ys[j]? = some y → ((List.range n).filter p)[j]? = some i → Pe D i y H2) → Q D H2) :
    ∀ D, H1 D = none → ∃ W : Nat → Nat → List V → Hp → Prop, (∃ m, W 0 m [] (upd H1 D (.lst []))) ∧ ∀ i m ys H, W i m ys H →
      H D = some (.lst ys) ∧ ((J.stop i H ∧ Q D H) ∨ (J.go i H ∧ ys.length < sizeLine ∧ ∀ x H', J.yld i H x H' → tf (some x :: cs) H' fun b H2 =>
        if b = true then te (some x :: cs) H2 fun y H3 => H3 D = some (.lst ys) ∧ ∃ m', m' < m ∧ W (i + 1) m' (ys ++ [y]) (upd H3 D (.lst (ys ++ [y]))) else ∃ m', m' < m ∧ W (i + 1) m' ys H2)) := by
  intro D hD
  refine ⟨fun i m ys H => m = n - i ∧ i ≤ n ∧ ys.length = ((List.range i).filter p).length ∧ H D = some (.lst ys) ∧ Same H1 H ∧ ∀ (j : Nat) (y : V) (k : Nat), ys[j]? = some y → ((List.range i).filter p)[j]? = some k → Pe D k y H,
    ⟨n, by simp, Nat.zero_le _, rfl, upd_same, Same.new hD, fun j y k e => by simp at e⟩, ?_⟩
  rintro i m ys H ⟨rfl, hi, hyl, hHD, s1, hP⟩
  refine ⟨hHD, ?_⟩
  by_cases hlt : i < n
  · have hle : ys.length ≤ i := by
      rw [hyl]
      exact Nat.le_trans (List.length_filter_le _ _) (Nat.le_of_eq List.length_range)
    refine .inr ⟨L.go i _ hlt s1, by omega, fun x H' y => ?_⟩
    obtain ⟨e, ex⟩ := L.yld i _ x H' hlt s1 y
    subst e ex
    refine hf i _ _ hlt s1 ?_
    cases hp : p i with
    | true =>
      rw [if_pos rfl]
      refine hx D i _ _ hlt hp hD ⟨ys, hHD⟩ s1 fun y H'' s2 hy => ⟨s2 _ _ hHD, n - (i + 1), by omega, rfl, hlt, ?_, upd_same, ?_, ?_⟩
      · rw [List.range_succ, List.filter_append, List.length_append, List.length_append, hyl]
        simp [hp]
      · intro b u e
        rw [upd_ne (ne_of_none e hD)]
        exact s2 _ _ (s1 _ _ e)
      · intro j y' k e1 e2
        have sB : SameB D H' (upd H'' D (.lst (ys ++ [y]))) := fun b u n e => by rw [upd_ne n]; exact s2 _ _ e
        have sB2 : SameB D H'' (upd H'' D (.lst (ys ++ [y]))) := fun b u n e => by rw [upd_ne n]; exact e
        rw [List.range_succ, List.filter_append] at e2
        by_cases hj : j < ys.length
        · rw [List.getElem?_append_left hj] at e1
          rw [List.getElem?_append_left (by omega)] at e2
          exact hm D k y' _ _ sB (hP j y' k e1 e2)
        · rw [List.getElem?_append_right (by omega)] at e1
          rw [List.getElem?_append_right (by omega)] at e2
          have h0 : j - ys.length = 0 := by
            by_cases h0 : j - ys.length = 0
            · exact h0
            · rw [List.getElem?_eq_none (by simp; omega)] at e1; cases e1
          rw [h0] at e1
          rw [← hyl, h0] at e2
          have e1' : y = y' := by simpa using e1
          have e2' : i = k := by simpa [hp] using e2
          subst e1'
          subst e2'
          exact hm D i y _ _ sB2 hy
    | false =>
      rw [if_neg (by decide)]
      refine ⟨n - (i + 1), by omega, rfl, hlt, ?_, hHD, s1, ?_⟩
      · rw [List.range_succ, List.filter_append, List.length_append, hyl]
        simp [hp]
      · intro j y' k e1 e2
        rw [List.range_succ, List.filter_append] at e2
        have e3 : List.filter p [i] = [] := by simp [hp]
        rw [e3, List.append_nil] at e2
        exact hP j y' k e1 e2
  · have e : i = n := by omega
    subst e
    exact .inl ⟨L.stop _ s1, q D ys H hD s1 hHD hyl hP⟩
theorem i_rng2 {ta : TA} {σ : St} {H : Hp} {R : It → Hp → Prop} (q : ta σ H fun vs H1 => ∃ i j : Int, vs = [.int i, .int j] ∧ (-(2 ^ 62) ≤ i ∧ i < 2 ^ 62 ∧ -(2 ^ 62) ≤ j ∧ j < 2 ^ 62) ∧ R (Itr i (j - i).toNat) H1) : iRng2 ta σ H R := q
end L2
set_option Elab.async false
set_option linter.all false
set_option maxRecDepth 100000
set_option maxHeartbeats 4000000
namespace Lap
open PySem L2
seal PE PA PT PS PSs PW PI PG PO
local macro_rules | `(tactic| walk_at "rd1") => `(tactic| first
  | (with_reducible refine i_callX ?_) | (with_reducible refine i_chain ?_) | (with_reducible refine i_gcons ?_) | (with_reducible refine i_gnil ?_) | (with_reducible refine i_inS ?_) | (with_reducible refine i_max ?_) | (with_reducible refine i_raise ?_) | (with_reducible refine i_bm0 ?_) | (with_reducible refine i_bm ?_) | (with_reducible refine i_fmt ?_) | (with_reducible refine i_jNil ?_) | (with_reducible refine i_jRepr ?_) | (with_reducible refine i_jPlain ?_) | (with_reducible refine i_lstA ?_) | (with_reducible refine i_tupA ?_)
  | (with_reducible refine i_seq ?_) | (with_reducible refine i_sl ?_) | (with_reducible refine i_noPart ?_) | (with_reducible refine i_part ?_) | (with_reducible refine i_partI ?_) | (with_reducible refine i_eqB ?_) | (with_reducible refine i_ret ?_) | (with_reducible refine i_ifS ?_) | (with_reducible refine i_asg ?_) | (with_reducible refine i_name ?_) | (with_reducible refine i_next ?_) | (with_reducible refine i_drop ?_)
  | (with_reducible refine i_op ?_) | (with_reducible refine i_un ?_) | (with_reducible refine i_C ?_)
  | ((with_reducible show tVar _ _ _ _); refine ⟨_, rfl, ?_⟩)
  | (with_reducible refine i_I0 ?_) | (with_reducible refine i_U ?_) | (with_reducible refine i_test ?_) | (with_reducible refine i_B ?_) | (with_reducible refine i_bl ?_)
  | (with_reducible refine i_eqI ?_) | (with_reducible refine i_eqS ?_) | (with_reducible refine i_neI ?_) | (with_reducible refine i_neS ?_)
  | (with_reducible refine i_and ?_) | (with_reducible refine i_or ?_) | (with_reducible refine i_not ?_) | (with_reducible refine i_andV ?_) | (with_reducible refine i_orV ?_) | (with_reducible refine i_notV ?_) | (with_reducible refine i_if ?_)
  | (with_reducible refine i_call ?_) | (with_reducible refine i_CB ?_) | (with_reducible refine i_nil ?_) | (with_reducible refine i_cons ?_)
  | (with_reducible refine iteT ?_) | (with_reducible refine iteF ?_) | (with_reducible refine iteNT ?_) | (with_reducible refine iteNF ?_)
  | ((with_reducible refine i_mod ?_ ?_); (first | assumption | (decide +kernel) | omega))
  | ((with_reducible refine i_div ?_ ?_); (decide +kernel))
  | ((with_reducible refine i_pow ?_ ?_); (decide +kernel)))
local macro_rules | `(tactic| walk_at "rd") => `(tactic| repeat (walk_at "rd1"))
def top (i : Nat) : Stmt := PySem.Challenge.pw_lapwork_k15_whole_run_on.main.body.getD i (.Pass ⟨0, 0, 0, 0⟩)
abbrev st_Deed_of : Stmt := inClass (top 15) 1
theorem sc_Deed_of : FnScope ["self", "numbers", "measure"] ["self", "numbers", "measure"] (defScope st_Deed_of) := ⟨rfl, rfl, rfl, by decide +kernel, rfl, by decide +kernel, by decide +kernel⟩
abbrev st_Sum_of : Stmt := inClass (top 16) 1
theorem sc_Sum_of : FnScope ["self", "numbers", "measure"] ["self", "numbers", "measure"] (defScope st_Sum_of) := ⟨rfl, rfl, rfl, by decide +kernel, rfl, by decide +kernel, by decide +kernel⟩
abbrev st_Less_of : Stmt := inClass (top 17) 1
theorem sc_Less_of : FnScope ["self", "numbers", "measure"] ["self", "numbers", "measure"] (defScope st_Less_of) := ⟨rfl, rfl, rfl, by decide +kernel, rfl, by decide +kernel, by decide +kernel⟩
abbrev st_Times_of : Stmt := inClass (top 18) 1
theorem sc_Times_of : FnScope ["self", "numbers", "measure"] ["self", "numbers", "measure"] (defScope st_Times_of) := ⟨rfl, rfl, rfl, by decide +kernel, rfl, by decide +kernel, by decide +kernel⟩
abbrev st_Least_of : Stmt := inClass (top 19) 1
theorem sc_Least_of : FnScope ["self", "numbers", "measure"] ["self", "numbers", "measure"] (defScope st_Least_of) := ⟨rfl, rfl, rfl, by decide +kernel, rfl, by decide +kernel, by decide +kernel⟩
abbrev st_Most_of : Stmt := inClass (top 20) 1
theorem sc_Most_of : FnScope ["self", "numbers", "measure"] ["self", "numbers", "measure"] (defScope st_Most_of) := ⟨rfl, rfl, rfl, by decide +kernel, rfl, by decide +kernel, by decide +kernel⟩
abbrev st_Pick_of : Stmt := inClass (top 21) 1
theorem sc_Pick_of : FnScope ["self", "numbers", "measure"] ["self", "numbers", "measure"] (defScope st_Pick_of) := ⟨rfl, rfl, rfl, by decide +kernel, rfl, by decide +kernel, by decide +kernel⟩
abbrev st_Deed_wants : Stmt := inClass (top 15) 0
theorem sc_Deed_wants : FnScope ["self"] ["self"] (defScope st_Deed_wants) := ⟨rfl, rfl, rfl, by decide +kernel, rfl, by decide +kernel, by decide +kernel⟩
abbrev st_Sum_wants : Stmt := inClass (top 16) 0
theorem sc_Sum_wants : FnScope ["self"] ["self"] (defScope st_Sum_wants) := ⟨rfl, rfl, rfl, by decide +kernel, rfl, by decide +kernel, by decide +kernel⟩
abbrev st_Less_wants : Stmt := inClass (top 17) 0
theorem sc_Less_wants : FnScope ["self"] ["self"] (defScope st_Less_wants) := ⟨rfl, rfl, rfl, by decide +kernel, rfl, by decide +kernel, by decide +kernel⟩
abbrev st_Times_wants : Stmt := inClass (top 18) 0
theorem sc_Times_wants : FnScope ["self"] ["self"] (defScope st_Times_wants) := ⟨rfl, rfl, rfl, by decide +kernel, rfl, by decide +kernel, by decide +kernel⟩
abbrev st_Least_wants : Stmt := inClass (top 19) 0
theorem sc_Least_wants : FnScope ["self"] ["self"] (defScope st_Least_wants) := ⟨rfl, rfl, rfl, by decide +kernel, rfl, by decide +kernel, by decide +kernel⟩
abbrev st_Most_wants : Stmt := inClass (top 20) 0
theorem sc_Most_wants : FnScope ["self"] ["self"] (defScope st_Most_wants) := ⟨rfl, rfl, rfl, by decide +kernel, rfl, by decide +kernel, by decide +kernel⟩
abbrev st_Pick_wants : Stmt := inClass (top 21) 0
theorem sc_Pick_wants : FnScope ["self"] ["self"] (defScope st_Pick_wants) := ⟨rfl, rfl, rfl, by decide +kernel, rfl, by decide +kernel, by decide +kernel⟩
abbrev st_Take_wants : Stmt := inClass (top 24) 0
theorem sc_Take_wants : FnScope ["self"] ["self"] (defScope st_Take_wants) := ⟨rfl, rfl, rfl, by decide +kernel, rfl, by decide +kernel, by decide +kernel⟩
abbrev st_deed_of : Stmt := top 25
theorem sc_deed_of : FnScope ["word"] ["word"] (defScope st_deed_of) := ⟨rfl, rfl, rfl, by decide +kernel, rfl, by decide +kernel, by decide +kernel⟩
abbrev st_is_name : Stmt := top 38
theorem sc_is_name : FnScope ["text"] ["text"] (defScope st_is_name) := ⟨rfl, rfl, rfl, by decide +kernel, rfl, by decide +kernel, by decide +kernel⟩
abbrev st_is_lettered : Stmt := top 39
theorem sc_is_lettered : FnScope ["text"] ["text"] (defScope st_is_lettered) := ⟨rfl, rfl, rfl, by decide +kernel, rfl, by decide +kernel, by decide +kernel⟩
abbrev st_Loop___init__ : Stmt := inClass (top 43) 0
theorem sc_Loop___init__ : FnScope ["self", "measure", "rows"] ["self", "measure", "rows"] (defScope st_Loop___init__) := ⟨rfl, rfl, rfl, by decide +kernel, rfl, by decide +kernel, by decide +kernel⟩
abbrev st_Loop_rows : Stmt := inClass (top 43) 1
theorem sc_Loop_rows : FnScope ["self"] ["self"] (defScope st_Loop_rows) := ⟨rfl, rfl, rfl, by decide +kernel, rfl, by decide +kernel, by decide +kernel⟩
abbrev st_Loop_deepest : Stmt := inClass (top 43) 2
theorem sc_Loop_deepest : FnScope ["self", "name"] ["self", "name"] (defScope st_Loop_deepest) := ⟨rfl, rfl, rfl, by decide +kernel, rfl, by decide +kernel, by decide +kernel⟩
abbrev st_check_measure : Stmt := top 44
theorem sc_check_measure : FnScope ["measure"] ["measure"] (defScope st_check_measure) := ⟨rfl, rfl, rfl, by decide +kernel, rfl, by decide +kernel, by decide +kernel⟩
abbrev st_check_rows : Stmt := top 45
theorem sc_check_rows : FnScope ["rows", "names", "place", "row", "above", "read"] ["rows"] (defScope st_check_rows) := ⟨rfl, rfl, rfl, by decide +kernel, rfl, by decide +kernel, by decide +kernel⟩
abbrev st_check_head : Stmt := top 46
theorem sc_check_head : FnScope ["name", "word", "reads", "above"] ["name", "word", "reads", "above"] (defScope st_check_head) := ⟨rfl, rfl, rfl, by decide +kernel, rfl, by decide +kernel, by decide +kernel⟩
abbrev st_check_read : Stmt := top 47
theorem sc_check_read : FnScope ["read", "names", "above"] ["read", "names", "above"] (defScope st_check_read) := ⟨rfl, rfl, rfl, by decide +kernel, rfl, by decide +kernel, by decide +kernel⟩
abbrev st_check_number : Stmt := top 48
theorem sc_check_number : FnScope ["number"] ["number"] (defScope st_check_number) := ⟨rfl, rfl, rfl, by decide +kernel, rfl, by decide +kernel, by decide +kernel⟩
abbrev st_check_look_back : Stmt := top 49
theorem sc_check_look_back : FnScope ["name", "back", "names", "above"] ["name", "back", "names", "above"] (defScope st_check_look_back) := ⟨rfl, rfl, rfl, by decide +kernel, rfl, by decide +kernel, by decide +kernel⟩
abbrev st_copy_of_row : Stmt := top 50
theorem sc_copy_of_row : FnScope ["row", "reads"] ["row"] (defScope st_copy_of_row) := ⟨rfl, rfl, rfl, by decide +kernel, rfl, by decide +kernel, by decide +kernel⟩
abbrev st_depths_of : Stmt := top 51
theorem sc_depths_of : FnScope ["rows", "depths", "row", "read"] ["rows"] (defScope st_depths_of) := ⟨rfl, rfl, rfl, by decide +kernel, rfl, by decide +kernel, by decide +kernel⟩
abbrev st_law_cell_at : Stmt := top 53
theorem sc_law_cell_at : FnScope ["_law_script", "_law_k"] ["_law_script", "_law_k"] (defScope st_law_cell_at) := ⟨rfl, rfl, rfl, by decide +kernel, rfl, by decide +kernel, by decide +kernel⟩
abbrev st_law_whole : Stmt := top 54
theorem sc_law_whole : FnScope ["_law_found"] ["_law_found"] (defScope st_law_whole) := ⟨rfl, rfl, rfl, by decide +kernel, rfl, by decide +kernel, by decide +kernel⟩
abbrev st_law_mix : Stmt := top 56
theorem sc_law_mix : FnScope ["_law_cell", "_law_k", "_law_number"] ["_law_cell", "_law_k"] (defScope st_law_mix) := ⟨rfl, rfl, rfl, by decide +kernel, rfl, by decide +kernel, by decide +kernel⟩
abbrev st_law_letters : Stmt := top 57
theorem sc_law_letters : FnScope ["_law_number", "_law_many", "_law_made", "_law_k"] ["_law_number", "_law_many"] (defScope st_law_letters) := ⟨rfl, rfl, rfl, by decide +kernel, rfl, by decide +kernel, by decide +kernel⟩
abbrev st_law_names : Stmt := top 58
theorem sc_law_names : FnScope ["_law_script", "_law_many", "_law_number", "_law_place", "_law_made", "_law_at", "_law_own", "_law_word", "_law_sign"] ["_law_script", "_law_many"] (defScope st_law_names) := ⟨rfl, rfl, rfl, by decide +kernel, rfl, by decide +kernel, by decide +kernel⟩
abbrev st_law_wants : Stmt := top 59
theorem sc_law_wants : FnScope ["_law_word"] ["_law_word"] (defScope st_law_wants) := ⟨rfl, rfl, rfl, by decide +kernel, rfl, by decide +kernel, by decide +kernel⟩
abbrev st_law_row : Stmt := top 60
theorem sc_law_row : FnScope ["_law_script", "_law_names_here", "_law_at", "_law_words", "_law_number", "_law_word", "_law_reads", "_law_k", "_law_back", "_law_spot"] ["_law_script", "_law_names_here", "_law_at", "_law_words"] (defScope st_law_row) := ⟨rfl, rfl, rfl, by decide +kernel, rfl, by decide +kernel, by decide +kernel⟩
abbrev st_law_rows : Stmt := top 61
theorem sc_law_rows : FnScope ["_law_script", "_law_many", "_law_words", "_law_names_here"] ["_law_script", "_law_many"] (defScope st_law_rows) := ⟨rfl, rfl, rfl, by decide +kernel, rfl, by decide +kernel, by decide +kernel⟩
abbrev st_law_measure : Stmt := top 62
theorem sc_law_measure : FnScope ["_law_script", "_law_number"] ["_law_script"] (defScope st_law_measure) := ⟨rfl, rfl, rfl, by decide +kernel, rfl, by decide +kernel, by decide +kernel⟩
abbrev st_law_deepest : Stmt := top 63
theorem sc_law_deepest : FnScope ["_law_rows_here", "_law_name", "_law_found", "_law_row_here", "_law_read"] ["_law_rows_here", "_law_name"] (defScope st_law_deepest) := ⟨rfl, rfl, rfl, by decide +kernel, rfl, by decide +kernel, by decide +kernel⟩
abbrev st_Run___init__ : Stmt := inClass (top 28) 0
theorem sc_Run___init__ : FnScope ["self", "loop", "feeds", "begin", "row"] ["self", "loop", "feeds", "begin"] (defScope st_Run___init__) := ⟨rfl, rfl, rfl, by decide +kernel, rfl, by decide +kernel, by decide +kernel⟩
abbrev st_Run_made_at : Stmt := inClass (top 28) 1
theorem sc_Run_made_at : FnScope ["self", "name", "turn"] ["self", "name", "turn"] (defScope st_Run_made_at) := ⟨rfl, rfl, rfl, by decide +kernel, rfl, by decide +kernel, by decide +kernel⟩
abbrev st_Run_numbers_for : Stmt := inClass (top 28) 2
theorem sc_Run_numbers_for : FnScope ["self", "row", "turn"] ["self", "row", "turn"] (defScope st_Run_numbers_for) := ⟨rfl, rfl, rfl, by decide +kernel, rfl, by decide +kernel, by decide +kernel⟩
abbrev st_Run_number_read : Stmt := inClass (top 28) 3
theorem sc_Run_number_read : FnScope ["self", "read", "turn"] ["self", "read", "turn"] (defScope st_Run_number_read) := ⟨rfl, rfl, rfl, by decide +kernel, rfl, by decide +kernel, by decide +kernel⟩
abbrev st_Run_do_turn : Stmt := inClass (top 28) 4
theorem sc_Run_do_turn : FnScope ["self", "turn", "row", "numbers"] ["self", "turn"] (defScope st_Run_do_turn) := ⟨rfl, rfl, rfl, by decide +kernel, rfl, by decide +kernel, by decide +kernel⟩
abbrev st_Run_last_made : Stmt := inClass (top 28) 5
theorem sc_Run_last_made : FnScope ["self", "name", "turns"] ["self", "name", "turns"] (defScope st_Run_last_made) := ⟨rfl, rfl, rfl, by decide +kernel, rfl, by decide +kernel, by decide +kernel⟩
abbrev st_outcome : Stmt := top 29
theorem sc_outcome : FnScope ["loop", "turns", "feeds", "begin", "done", "told", "deep"] ["loop", "turns", "feeds", "begin"] (defScope st_outcome) := ⟨rfl, rfl, rfl, by decide +kernel, rfl, by decide +kernel, by decide +kernel⟩
abbrev st_done_run : Stmt := top 30
theorem sc_done_run : FnScope ["loop", "turns", "feeds", "begin", "done", "turn"] ["loop", "turns", "feeds", "begin"] (defScope st_done_run) := ⟨rfl, rfl, rfl, by decide +kernel, rfl, by decide +kernel, by decide +kernel⟩
abbrev st_check_run : Stmt := top 31
theorem sc_check_run : FnScope ["loop", "turns", "feeds", "begin"] ["loop", "turns", "feeds", "begin"] (defScope st_check_run) := ⟨rfl, rfl, rfl, by decide +kernel, rfl, by decide +kernel, by decide +kernel⟩
abbrev st_check_turns : Stmt := top 32
theorem sc_check_turns : FnScope ["turns"] ["turns"] (defScope st_check_turns) := ⟨rfl, rfl, rfl, by decide +kernel, rfl, by decide +kernel, by decide +kernel⟩
abbrev st_check_feeds : Stmt := top 33
theorem sc_check_feeds : FnScope ["loop", "turns", "feeds", "row"] ["loop", "turns", "feeds"] (defScope st_check_feeds) := ⟨rfl, rfl, rfl, by decide +kernel, rfl, by decide +kernel, by decide +kernel⟩
abbrev st_check_begin : Stmt := top 34
theorem sc_check_begin : FnScope ["loop", "begin", "row"] ["loop", "begin"] (defScope st_check_begin) := ⟨rfl, rfl, rfl, by decide +kernel, rfl, by decide +kernel, by decide +kernel⟩
abbrev st_law_alike : Stmt := top 55
theorem sc_law_alike : FnScope ["_law_found", "_law_due", "_law_k"] ["_law_found", "_law_due"] (defScope st_law_alike) := ⟨rfl, rfl, rfl, by decide +kernel, rfl, by decide +kernel, by decide +kernel⟩
abbrev st_law_given : Stmt := top 64
theorem sc_law_given : FnScope ["_law_script", "_law_at", "_law_most", "_law_made", "_law_k", "_law_cell", "_law_number"] ["_law_script", "_law_at", "_law_most"] (defScope st_law_given) := ⟨rfl, rfl, rfl, by decide +kernel, rfl, by decide +kernel, by decide +kernel⟩
abbrev st_law_feeds : Stmt := top 65
theorem sc_law_feeds : FnScope ["_law_script", "_law_rows_here", "_law_turns", "_law_made", "_law_at"] ["_law_script", "_law_rows_here", "_law_turns"] (defScope st_law_feeds) := ⟨rfl, rfl, rfl, by decide +kernel, rfl, by decide +kernel, by decide +kernel⟩
abbrev st_law_begin : Stmt := top 66
theorem sc_law_begin : FnScope ["_law_script", "_law_rows_here", "_law_made", "_law_at", "_law_deep"] ["_law_script", "_law_rows_here"] (defScope st_law_begin) := ⟨rfl, rfl, rfl, by decide +kernel, rfl, by decide +kernel, by decide +kernel⟩
abbrev st_law_copy : Stmt := top 67
theorem sc_law_copy : FnScope ["_law_lists_here", "_law_made", "_law_name", "_law_row_here"] ["_law_lists_here"] (defScope st_law_copy) := ⟨rfl, rfl, rfl, by decide +kernel, rfl, by decide +kernel, by decide +kernel⟩
abbrev st_law_lists : Stmt := top 68
theorem sc_law_lists : FnScope ["_law_found", "_law_pair"] ["_law_found"] (defScope st_law_lists) := ⟨rfl, rfl, rfl, by decide +kernel, rfl, by decide +kernel, by decide +kernel⟩
abbrev st_law_shaped : Stmt := top 69
theorem sc_law_shaped : FnScope ["_law_found"] ["_law_found"] (defScope st_law_shaped) := ⟨rfl, rfl, rfl, by decide +kernel, rfl, by decide +kernel, by decide +kernel⟩
abbrev st_law : Stmt := top 70
theorem sc_law : FnScope ["_law_script", "_law_head", "_law_rows_here", "_law_turns", "_law_place", "_law_feeds_here", "_law_begin_here", "_law_loop", "_law_every", "_law_one", "_law_later", "_law_name", "_law_row_here", "_law_other", "_law_due", "_law_k", "_law_told"] ["_law_script"] (defScope st_law) := ⟨rfl, rfl, rfl, by decide +kernel, rfl, by decide +kernel, by decide +kernel⟩
inductive Xk where
  | Loop
  | Run
  deriving DecidableEq
structure Tp0 (K : PySem.W.Frag) (C : Dk → Addr) (CE : Xk → Addr) : Prop where
  c_Sum : HasC K "Sum" (C .sum)
  c_Less : HasC K "Less" (C .less)
  c_Times : HasC K "Times" (C .times)
  c_Least : HasC K "Least" (C .least)
  c_Most : HasC K "Most" (C .most)
  c_Pick : HasC K "Pick" (C .pick)
  c_Same : HasC K "Same" (C .same)
  c_Tell : HasC K "Tell" (C .tell)
  c_Take : HasC K "Take" (C .take)
  g_Loop : PySem.W.nsIn K mainGlobals "Loop" = some (some (.ref (CE .Loop)))
  g_Run : PySem.W.nsIn K mainGlobals "Run" = some (some (.ref (CE .Run)))
structure Tp1 (K : PySem.W.Frag) (C : Dk → Addr) (CE : Xk → Addr) : Prop where
  f_of_sum : HasM K (C .sum) "of" "Sum.of" st_Sum_of
  f_of_less : HasM K (C .less) "of" "Less.of" st_Less_of
  f_of_times : HasM K (C .times) "of" "Times.of" st_Times_of
  f_of_least : HasM K (C .least) "of" "Least.of" st_Least_of
  f_of_most : HasM K (C .most) "of" "Most.of" st_Most_of
  f_of_pick : HasM K (C .pick) "of" "Pick.of" st_Pick_of
  f_of_same : HasM K (C .same) "of" "Deed.of" st_Deed_of
  f_of_tell : HasM K (C .tell) "of" "Deed.of" st_Deed_of
  f_of_take : HasM K (C .take) "of" "Deed.of" st_Deed_of
  f_wa_sum : HasM K (C .sum) "wants" "Sum.wants" st_Sum_wants
  f_wa_less : HasM K (C .less) "wants" "Less.wants" st_Less_wants
  f_wa_times : HasM K (C .times) "wants" "Times.wants" st_Times_wants
  f_wa_least : HasM K (C .least) "wants" "Least.wants" st_Least_wants
  f_wa_most : HasM K (C .most) "wants" "Most.wants" st_Most_wants
  f_wa_pick : HasM K (C .pick) "wants" "Pick.wants" st_Pick_wants
  f_wa_same : HasM K (C .same) "wants" "Deed.wants" st_Deed_wants
  f_wa_tell : HasM K (C .tell) "wants" "Deed.wants" st_Deed_wants
  f_wa_take : HasM K (C .take) "wants" "Take.wants" st_Take_wants
  i_Loop : HasCI K "Loop" (CE .Loop) "Loop.__init__" st_Loop___init__
  f_Loop_rows : HasM K (CE .Loop) "rows" "Loop.rows" st_Loop_rows
  f_Loop_deepest : HasM K (CE .Loop) "deepest" "Loop.deepest" st_Loop_deepest
  i_Run : HasCI K "Run" (CE .Run) "Run.__init__" st_Run___init__
  f_Run_made_at : HasM K (CE .Run) "made_at" "Run.made_at" st_Run_made_at
  f_Run_number_read : HasM K (CE .Run) "number_read" "Run.number_read" st_Run_number_read
  f_Run_numbers_for : HasM K (CE .Run) "numbers_for" "Run.numbers_for" st_Run_numbers_for
  f_Run_do_turn : HasM K (CE .Run) "do_turn" "Run.do_turn" st_Run_do_turn
  f_Run_last_made : HasM K (CE .Run) "last_made" "Run.last_made" st_Run_last_made
  w_LETTERS : HasV K "LETTERS" (.str (Str.ofString "abcdefghijklmnopqrstuvwxyz"))
  w_MOST_LETTERS : HasV K "MOST_LETTERS" (.int 12)
  w_MOST_ROWS : HasV K "MOST_ROWS" (.int 12)
  w_MOST_BACK : HasV K "MOST_BACK" (.int 6)
  w_MOST_TURNS : HasV K "MOST_TURNS" (.int 300)
  f_outcome : HasF K "outcome" st_outcome
  f_run : HasF K "done_run" st_done_run
  f_crun : HasF K "check_run" st_check_run
  f_cturns : HasF K "check_turns" st_check_turns
structure Tp2 (K : PySem.W.Frag) (C : Dk → Addr) (CE : Xk → Addr) : Prop where
  f_cfeeds : HasF K "check_feeds" st_check_feeds
  f_cbegin : HasF K "check_begin" st_check_begin
  f_deed : HasF K "deed_of" st_deed_of
  f_islet : HasF K "is_lettered" st_is_lettered
  f_isname : HasF K "is_name" st_is_name
  f_cmeas : HasF K "check_measure" st_check_measure
  f_crows : HasF K "check_rows" st_check_rows
  f_chead : HasF K "check_head" st_check_head
  f_cread : HasF K "check_read" st_check_read
  f_cnum : HasF K "check_number" st_check_number
  f_clook : HasF K "check_look_back" st_check_look_back
  f_copy : HasF K "copy_of_row" st_copy_of_row
  f_depths : HasF K "depths_of" st_depths_of
  f_cell : HasF K "_law_cell_at" st_law_cell_at
  f_whole : HasF K "_law_whole" st_law_whole
  f_mix : HasF K "_law_mix" st_law_mix
  f_letters : HasF K "_law_letters" st_law_letters
  f_names : HasF K "_law_names" st_law_names
  f_wants : HasF K "_law_wants" st_law_wants
  f_row : HasF K "_law_row" st_law_row
  f_rows : HasF K "_law_rows" st_law_rows
  f_measure : HasF K "_law_measure" st_law_measure
  f_deepest : HasF K "_law_deepest" st_law_deepest
  f_alike : HasF K "_law_alike" st_law_alike
  f_given : HasF K "_law_given" st_law_given
  f_feeds : HasF K "_law_feeds" st_law_feeds
  f_begin : HasF K "_law_begin" st_law_begin
  f_copyL : HasF K "_law_copy" st_law_copy
  f_lists : HasF K "_law_lists" st_law_lists
  f_shaped : HasF K "_law_shaped" st_law_shaped
  z_len : PySem.W.nsIn K mainGlobals "len" = some none
  z_isinstance : PySem.W.nsIn K mainGlobals "isinstance" = some none
  z_int : PySem.W.nsIn K mainGlobals "int" = some none
  z_bool : PySem.W.nsIn K mainGlobals "bool" = some none
  z_range : PySem.W.nsIn K mainGlobals "range" = some none
  z_min : PySem.W.nsIn K mainGlobals "min" = some none
structure Tp3 (K : PySem.W.Frag) (C : Dk → Addr) (CE : Xk → Addr) : Prop where
  z_max : PySem.W.nsIn K mainGlobals "max" = some none
  z_list : PySem.W.nsIn K mainGlobals "list" = some none
  z_tuple : PySem.W.nsIn K mainGlobals "tuple" = some none
  z_str : PySem.W.nsIn K mainGlobals "str" = some none
  z_all : PySem.W.nsIn K mainGlobals "all" = some none
  z_enumerate : PySem.W.nsIn K mainGlobals "enumerate" = some none
  z_dict : PySem.W.nsIn K mainGlobals "dict" = some none
  kII : PySem.W.kitOne K (.type "int") (.type "int") = some true
  kIB : PySem.W.kitOne K (.type "int") (.type "bool") = some false
  kTT : PySem.W.kitOne K (.type "tuple") (.type "tuple") = some true
  kTI : PySem.W.kitOne K (.type "tuple") (.type "int") = some false
  kIT : PySem.W.kitOne K (.type "int") (.type "tuple") = some false
  kLL : PySem.W.kitOne K (.type "list") (.type "list") = some true
  kSS : PySem.W.kitOne K (.type "str") (.type "str") = some true
  nM : NoAttr K (CE .Loop) "measure"
  nK : NoAttr K (CE .Loop) "kept"
  nD : NoAttr K (CE .Loop) "depths"
  nRL : NoAttr K (CE .Run) "loop"
  nRF : NoAttr K (CE .Run) "feeds"
  nRB : NoAttr K (CE .Run) "begin"
  nRM : NoAttr K (CE .Run) "made"
structure Tp (K : PySem.W.Frag) (C : Dk → Addr) (CE : Xk → Addr) : Prop extends Tp0 K C CE, Tp1 K C CE, Tp2 K C CE, Tp3 K C CE
structure Txt (K : PySem.W.Frag) (mg : Str → Option Value) (C : Dk → Addr) (CE : Xk → Addr) : Prop extends Tp K C CE where
  mg_Sum : mg "Sum" = some (.ref (C .sum))
  mg_Less : mg "Less" = some (.ref (C .less))
  mg_Times : mg "Times" = some (.ref (C .times))
  mg_Least : mg "Least" = some (.ref (C .least))
  mg_Most : mg "Most" = some (.ref (C .most))
  mg_Pick : mg "Pick" = some (.ref (C .pick))
  mg_Same : mg "Same" = some (.ref (C .same))
  mg_Tell : mg "Tell" = some (.ref (C .tell))
  mg_Take : mg "Take" = some (.ref (C .take))
  mg_Loop : mg "Loop" = some (.ref (CE .Loop))
  mg_Run : mg "Run" = some (.ref (CE .Run))
  nlen : mg "len" = none
  nisi : mg "isinstance" = none
  nint : mg "int" = none
  nbool : mg "bool" = none
  nrange : mg "range" = none
  nmin : mg "min" = none
  nmax : mg "max" = none
  nlist : mg "list" = none
  ntuple : mg "tuple" = none
  nstr : mg "str" = none
  nall : mg "all" = none
  nenumerate : mg "enumerate" = none
  ndict : mg "dict" = none
  v_LETTERS : ∃ u, mg "LETTERS" = some u ∧ RelV (.str (Str.ofString "abcdefghijklmnopqrstuvwxyz")) u
  v_MOST_LETTERS : ∃ u, mg "MOST_LETTERS" = some u ∧ RelV (.int 12) u
  v_MOST_ROWS : ∃ u, mg "MOST_ROWS" = some u ∧ RelV (.int 12) u
  v_MOST_BACK : ∃ u, mg "MOST_BACK" = some u ∧ RelV (.int 6) u
  v_MOST_TURNS : ∃ u, mg "MOST_TURNS" = some u ∧ RelV (.int 300) u
section
variable {K : PySem.W.Frag} {mg : Str → Option Value} {C : Dk → Addr} {CE : Xk → Addr}
theorem Txt.cl (T : Txt K mg C CE) : ∀ d, Cls K (C d)
  | .sum => T.c_Sum.cl
  | .less => T.c_Less.cl
  | .times => T.c_Times.cl
  | .least => T.c_Least.cl
  | .most => T.c_Most.cl
  | .pick => T.c_Pick.cl
  | .same => T.c_Same.cl
  | .tell => T.c_Tell.cl
  | .take => T.c_Take.cl
theorem Txt.mk_Sum (T : Txt K mg C CE) : MkN K (C .sum) := T.c_Sum.mkn
theorem Txt.mk_Less (T : Txt K mg C CE) : MkN K (C .less) := T.c_Less.mkn
theorem Txt.mk_Times (T : Txt K mg C CE) : MkN K (C .times) := T.c_Times.mkn
theorem Txt.mk_Least (T : Txt K mg C CE) : MkN K (C .least) := T.c_Least.mkn
theorem Txt.mk_Most (T : Txt K mg C CE) : MkN K (C .most) := T.c_Most.mkn
theorem Txt.mk_Pick (T : Txt K mg C CE) : MkN K (C .pick) := T.c_Pick.mkn
theorem Txt.mk_Same (T : Txt K mg C CE) : MkN K (C .same) := T.c_Same.mkn
theorem Txt.mk_Tell (T : Txt K mg C CE) : MkN K (C .tell) := T.c_Tell.mkn
theorem Txt.mk_Take (T : Txt K mg C CE) : MkN K (C .take) := T.c_Take.mkn
theorem Tp.txt {h : Heap} (T : Tp K C CE) (X : K.In h) (G : h.Ns mainGlobals mg) : Txt K mg C CE where
  toTp := T
  mg_Sum := PySem.W.mg_of X G T.c_Sum.ns
  mg_Less := PySem.W.mg_of X G T.c_Less.ns
  mg_Times := PySem.W.mg_of X G T.c_Times.ns
  mg_Least := PySem.W.mg_of X G T.c_Least.ns
  mg_Most := PySem.W.mg_of X G T.c_Most.ns
  mg_Pick := PySem.W.mg_of X G T.c_Pick.ns
  mg_Same := PySem.W.mg_of X G T.c_Same.ns
  mg_Tell := PySem.W.mg_of X G T.c_Tell.ns
  mg_Take := PySem.W.mg_of X G T.c_Take.ns
  mg_Loop := PySem.W.mg_of X G T.g_Loop
  mg_Run := PySem.W.mg_of X G T.g_Run
  nlen := PySem.W.mg_none_of X G T.z_len
  nisi := PySem.W.mg_none_of X G T.z_isinstance
  nint := PySem.W.mg_none_of X G T.z_int
  nbool := PySem.W.mg_none_of X G T.z_bool
  nrange := PySem.W.mg_none_of X G T.z_range
  nmin := PySem.W.mg_none_of X G T.z_min
  nmax := PySem.W.mg_none_of X G T.z_max
  nlist := PySem.W.mg_none_of X G T.z_list
  ntuple := PySem.W.mg_none_of X G T.z_tuple
  nstr := PySem.W.mg_none_of X G T.z_str
  nall := PySem.W.mg_none_of X G T.z_all
  nenumerate := PySem.W.mg_none_of X G T.z_enumerate
  ndict := PySem.W.mg_none_of X G T.z_dict
  v_LETTERS := T.w_LETTERS.mg X G
  v_MOST_LETTERS := T.w_MOST_LETTERS.mg X G
  v_MOST_ROWS := T.w_MOST_ROWS.mg X G
  v_MOST_BACK := T.w_MOST_BACK.mg X G
  v_MOST_TURNS := T.w_MOST_TURNS.mg X G
end
def Dk.wants : Dk → Nat
  | .pick => 3 | .same => 1 | .tell => 1 | .take => 0 | _ => 2
def spWants (d : Dk) : Sp := fun vs H Q _ => ∃ a : Addr, vs = [.ref a] ∧ Q (.int (d.wants : Nat)) H
def spWhole : Sp := fun vs H Q _ => ∃ i : Int, vs = [.int i] ∧ Q (.bl true) H
def spCell (K : PySem.W.Frag) : Sp := fun vs H Q _ => ∃ (a : Addr) (ns : List Int) (k : Nat), vs = [.ref a, .int (k : Int)] ∧ SqL K H a (ns.map V.int) ∧ ∀ i : Int, Q (.int i) H
def spMix : Sp := fun vs H Q _ => ∃ (c : Int) (k : Nat), vs = [.int c, .int (k : Int)] ∧ k ≤ 100 ∧ ∀ m : Nat, Q (.int (m : Int)) H
section
variable {P : Program} {w : World} {K : PySem.W.Frag} {mg : Str → Option Value} {base : Heap} {C : Dk → Addr} {CE : Xk → Addr}
theorem lenOf {d : Dk} : ∀ vs H Q E, spOf K d vs H Q E → vs.length = ["self", "numbers", "measure"].length := by
  rintro vs H Q E ⟨a, p, ns, m, rfl, _⟩
  rfl
theorem of_sum (T : Txt K mg C CE) : ∃ f fd, Meth K (C .sum) "of" f ∧ FnOk P w K mg base CX0 1 f fd ["self", "numbers", "measure"] (spOf K .sum) ∧ Binds K fd ["self", "numbers", "measure"] [] := by
  refine T.f_of_sum.fn sc_Sum_of (fun _ _ _ _ _ _ us hl => match us, hl with | [_, _, _], _ => rfl) lenOf (fun f cdv A outer s H vs Q E hr h => ?_)
  obtain ⟨a, p, ns, m, rfl, hS, hn, hm, ho, q⟩ := h
  have hn' : 2 ≤ ns.length := hn
  refine ⟨_, (pss_one (ps_ret (pe_op op_mod (pe_op op_add (pe_ix ix_seq (pv 1) pe_int (fun _ _ => rfl)) (pe_ix ix_seq (pv 1) pe_int (fun _ _ => rfl))) (pv 2)))), ?_⟩
  repeat' (first
    | (walk_at "rd1")
    | ((with_reducible show rIx _ (V.ref _) (V.int _) _ _); (first | refine i_ixL hS (at_ints 0 (by omega)) ?_ | refine i_ixL hS (at_ints 1 (by omega)) ?_ | refine i_ixL hS (at_ints 2 (by omega)) ?_))
    | ((with_reducible refine i_mul ?_ ?_); (exact ho rfl))
    | (refine ⟨_, _, rfl, ?_⟩)
    | (with_reducible refine i_iteI (fun e => ?_) (fun e => ?_)))
  exact q
theorem of_less (T : Txt K mg C CE) : ∃ f fd, Meth K (C .less) "of" f ∧ FnOk P w K mg base CX0 1 f fd ["self", "numbers", "measure"] (spOf K .less) ∧ Binds K fd ["self", "numbers", "measure"] [] := by
  refine T.f_of_less.fn sc_Less_of (fun _ _ _ _ _ _ us hl => match us, hl with | [_, _, _], _ => rfl) lenOf (fun f cdv A outer s H vs Q E hr h => ?_)
  obtain ⟨a, p, ns, m, rfl, hS, hn, hm, ho, q⟩ := h
  have hn' : 2 ≤ ns.length := hn
  refine ⟨_, (pss_one (ps_ret (pe_op op_mod (pe_op op_sub (pe_ix ix_seq (pv 1) pe_int (fun _ _ => rfl)) (pe_ix ix_seq (pv 1) pe_int (fun _ _ => rfl))) (pv 2)))), ?_⟩
  repeat' (first
    | (walk_at "rd1")
    | ((with_reducible show rIx _ (V.ref _) (V.int _) _ _); (first | refine i_ixL hS (at_ints 0 (by omega)) ?_ | refine i_ixL hS (at_ints 1 (by omega)) ?_ | refine i_ixL hS (at_ints 2 (by omega)) ?_))
    | ((with_reducible refine i_mul ?_ ?_); (exact ho rfl))
    | (refine ⟨_, _, rfl, ?_⟩)
    | (with_reducible refine i_iteI (fun e => ?_) (fun e => ?_)))
  exact q
theorem of_times (T : Txt K mg C CE) : ∃ f fd, Meth K (C .times) "of" f ∧ FnOk P w K mg base CX0 1 f fd ["self", "numbers", "measure"] (spOf K .times) ∧ Binds K fd ["self", "numbers", "measure"] [] := by
  refine T.f_of_times.fn sc_Times_of (fun _ _ _ _ _ _ us hl => match us, hl with | [_, _, _], _ => rfl) lenOf (fun f cdv A outer s H vs Q E hr h => ?_)
  obtain ⟨a, p, ns, m, rfl, hS, hn, hm, ho, q⟩ := h
  have hn' : 2 ≤ ns.length := hn
  refine ⟨_, (pss_one (ps_ret (pe_op op_mod (pe_op op_mulO (pe_ix ix_seq (pv 1) pe_int (fun _ _ => rfl)) (pe_ix ix_seq (pv 1) pe_int (fun _ _ => rfl))) (pv 2)))), ?_⟩
  repeat' (first
    | (walk_at "rd1")
    | ((with_reducible show rIx _ (V.ref _) (V.int _) _ _); (first | refine i_ixL hS (at_ints 0 (by omega)) ?_ | refine i_ixL hS (at_ints 1 (by omega)) ?_ | refine i_ixL hS (at_ints 2 (by omega)) ?_))
    | ((with_reducible refine i_mul ?_ ?_); (exact ho rfl))
    | (refine ⟨_, _, rfl, ?_⟩)
    | (with_reducible refine i_iteI (fun e => ?_) (fun e => ?_)))
  exact q
theorem of_least (T : Txt K mg C CE) : ∃ f fd, Meth K (C .least) "of" f ∧ FnOk P w K mg base CX0 1 f fd ["self", "numbers", "measure"] (spOf K .least) ∧ Binds K fd ["self", "numbers", "measure"] [] := by
  refine T.f_of_least.fn sc_Least_of (fun _ _ _ _ _ _ us hl => match us, hl with | [_, _, _], _ => rfl) lenOf (fun f cdv A outer s H vs Q E hr h => ?_)
  obtain ⟨a, p, ns, m, rfl, hS, hn, hm, ho, q⟩ := h
  have hn' : 2 ≤ ns.length := hn
  refine ⟨_, (pss_one (ps_ret (pe_callB (call_min2 rfl) rfl T.nmin PyProof.Rows.boot_min (pa_cons (pe_op op_mod (pe_ix ix_seq (pv 1) pe_int (fun _ _ => rfl)) (pv 2)) (pa_cons (pe_op op_mod (pe_ix ix_seq (pv 1) pe_int (fun _ _ => rfl)) (pv 2)) pa_nil (se rfl)) (se rfl)) (he := se rfl) (hpl := nst rfl)))), ?_⟩
  repeat' (first
    | (walk_at "rd1")
    | ((with_reducible show rIx _ (V.ref _) (V.int _) _ _); (first | refine i_ixL hS (at_ints 0 (by omega)) ?_ | refine i_ixL hS (at_ints 1 (by omega)) ?_ | refine i_ixL hS (at_ints 2 (by omega)) ?_))
    | ((with_reducible refine i_mul ?_ ?_); (exact ho rfl))
    | (refine ⟨_, _, rfl, ?_⟩)
    | (with_reducible refine i_iteI (fun e => ?_) (fun e => ?_)))
  exact q
theorem of_most (T : Txt K mg C CE) : ∃ f fd, Meth K (C .most) "of" f ∧ FnOk P w K mg base CX0 1 f fd ["self", "numbers", "measure"] (spOf K .most) ∧ Binds K fd ["self", "numbers", "measure"] [] := by
  refine T.f_of_most.fn sc_Most_of (fun _ _ _ _ _ _ us hl => match us, hl with | [_, _, _], _ => rfl) lenOf (fun f cdv A outer s H vs Q E hr h => ?_)
  obtain ⟨a, p, ns, m, rfl, hS, hn, hm, ho, q⟩ := h
  have hn' : 2 ≤ ns.length := hn
  refine ⟨_, (pss_one (ps_ret (pe_callB (call_max2 rfl) rfl T.nmax PyProof.Rows.boot_max (pa_cons (pe_op op_mod (pe_ix ix_seq (pv 1) pe_int (fun _ _ => rfl)) (pv 2)) (pa_cons (pe_op op_mod (pe_ix ix_seq (pv 1) pe_int (fun _ _ => rfl)) (pv 2)) pa_nil (se rfl)) (se rfl)) (he := se rfl) (hpl := nst rfl)))), ?_⟩
  repeat' (first
    | (walk_at "rd1")
    | ((with_reducible show rIx _ (V.ref _) (V.int _) _ _); (first | refine i_ixL hS (at_ints 0 (by omega)) ?_ | refine i_ixL hS (at_ints 1 (by omega)) ?_ | refine i_ixL hS (at_ints 2 (by omega)) ?_))
    | ((with_reducible refine i_mul ?_ ?_); (exact ho rfl))
    | (refine ⟨_, _, rfl, ?_⟩)
    | (with_reducible refine i_iteI (fun e => ?_) (fun e => ?_)))
  first | exact q | (rw [show max (ns.getD 0 0 % m) (ns.getD 1 0 % m) = (if ns.getD 1 0 % m > ns.getD 0 0 % m then ns.getD 1 0 % m else ns.getD 0 0 % m) by split <;> omega]; exact q)
theorem of_pick (T : Txt K mg C CE) : ∃ f fd, Meth K (C .pick) "of" f ∧ FnOk P w K mg base CX0 1 f fd ["self", "numbers", "measure"] (spOf K .pick) ∧ Binds K fd ["self", "numbers", "measure"] [] := by
  refine T.f_of_pick.fn sc_Pick_of (fun _ _ _ _ _ _ us hl => match us, hl with | [_, _, _], _ => rfl) lenOf (fun f cdv A outer s H vs Q E hr h => ?_)
  obtain ⟨a, p, ns, m, rfl, hS, hn, hm, ho, q⟩ := h
  have hn' : 3 ≤ ns.length := hn
  refine ⟨_, (pss_cons (ps_if (pt_cmpR op_eq (pe_op op_mod (pe_ix ix_seq (pv 1) pe_int (fun _ _ => rfl)) (pv 2)) pe_int (nomark _)) (pss_one (ps_ret (pe_op op_mod (pe_ix ix_seq (pv 1) pe_int (fun _ _ => rfl)) (pv 2)))) pss_nil)
    (pss_one (ps_ret (pe_op op_mod (pe_ix ix_seq (pv 1) pe_int (fun _ _ => rfl)) (pv 2))))), ?_⟩
  repeat' (first
    | (walk_at "rd1")
    | ((with_reducible show rIx _ (V.ref _) (V.int _) _ _); (first | refine i_ixL hS (at_ints 0 (by omega)) ?_ | refine i_ixL hS (at_ints 1 (by omega)) ?_ | refine i_ixL hS (at_ints 2 (by omega)) ?_))
    | ((with_reducible refine i_mul ?_ ?_); (exact ho rfl))
    | (refine ⟨_, _, rfl, ?_⟩)
    | (with_reducible refine i_iteI (fun e => ?_) (fun e => ?_)))
  all_goals
    have q' : Q (.int (if ns.getD 0 0 % m = 0 then ns.getD 2 0 % m else ns.getD 1 0 % m)) H := q
    first
    | (rw [if_pos (by assumption)] at q'; exact q')
    | (rw [if_neg (by assumption)] at q'; exact q')
theorem of_same (T : Txt K mg C CE) : ∃ f fd, Meth K (C .same) "of" f ∧ FnOk P w K mg base CX0 1 f fd ["self", "numbers", "measure"] (spOf K .same) ∧ Binds K fd ["self", "numbers", "measure"] [] := by
  refine T.f_of_same.fn sc_Deed_of (fun _ _ _ _ _ _ us hl => match us, hl with | [_, _, _], _ => rfl) lenOf (fun f cdv A outer s H vs Q E hr h => ?_)
  obtain ⟨a, p, ns, m, rfl, hS, hn, hm, ho, q⟩ := h
  have hn' : 1 ≤ ns.length := hn
  refine ⟨_, (pss_one (ps_ret (pe_op op_mod (pe_ix ix_seq (pv 1) pe_int (fun _ _ => rfl)) (pv 2)))), ?_⟩
  repeat' (first
    | (walk_at "rd1")
    | ((with_reducible show rIx _ (V.ref _) (V.int _) _ _); (first | refine i_ixL hS (at_ints 0 (by omega)) ?_ | refine i_ixL hS (at_ints 1 (by omega)) ?_ | refine i_ixL hS (at_ints 2 (by omega)) ?_))
    | ((with_reducible refine i_mul ?_ ?_); (exact ho rfl))
    | (refine ⟨_, _, rfl, ?_⟩)
    | (with_reducible refine i_iteI (fun e => ?_) (fun e => ?_)))
  exact q
theorem of_tell (T : Txt K mg C CE) : ∃ f fd, Meth K (C .tell) "of" f ∧ FnOk P w K mg base CX0 1 f fd ["self", "numbers", "measure"] (spOf K .tell) ∧ Binds K fd ["self", "numbers", "measure"] [] := by
  refine T.f_of_tell.fn sc_Deed_of (fun _ _ _ _ _ _ us hl => match us, hl with | [_, _, _], _ => rfl) lenOf (fun f cdv A outer s H vs Q E hr h => ?_)
  obtain ⟨a, p, ns, m, rfl, hS, hn, hm, ho, q⟩ := h
  have hn' : 1 ≤ ns.length := hn
  refine ⟨_, (pss_one (ps_ret (pe_op op_mod (pe_ix ix_seq (pv 1) pe_int (fun _ _ => rfl)) (pv 2)))), ?_⟩
  repeat' (first
    | (walk_at "rd1")
    | ((with_reducible show rIx _ (V.ref _) (V.int _) _ _); (first | refine i_ixL hS (at_ints 0 (by omega)) ?_ | refine i_ixL hS (at_ints 1 (by omega)) ?_ | refine i_ixL hS (at_ints 2 (by omega)) ?_))
    | ((with_reducible refine i_mul ?_ ?_); (exact ho rfl))
    | (refine ⟨_, _, rfl, ?_⟩)
    | (with_reducible refine i_iteI (fun e => ?_) (fun e => ?_)))
  exact q
theorem of_take (T : Txt K mg C CE) : ∃ f fd, Meth K (C .take) "of" f ∧ FnOk P w K mg base CX0 1 f fd ["self", "numbers", "measure"] (spOf K .take) ∧ Binds K fd ["self", "numbers", "measure"] [] := by
  refine T.f_of_take.fn sc_Deed_of (fun _ _ _ _ _ _ us hl => match us, hl with | [_, _, _], _ => rfl) lenOf (fun f cdv A outer s H vs Q E hr h => ?_)
  obtain ⟨a, p, ns, m, rfl, hS, hn, hm, ho, q⟩ := h
  have hn' : 1 ≤ ns.length := hn
  refine ⟨_, (pss_one (ps_ret (pe_op op_mod (pe_ix ix_seq (pv 1) pe_int (fun _ _ => rfl)) (pv 2)))), ?_⟩
  repeat' (first
    | (walk_at "rd1")
    | ((with_reducible show rIx _ (V.ref _) (V.int _) _ _); (first | refine i_ixL hS (at_ints 0 (by omega)) ?_ | refine i_ixL hS (at_ints 1 (by omega)) ?_ | refine i_ixL hS (at_ints 2 (by omega)) ?_))
    | ((with_reducible refine i_mul ?_ ?_); (exact ho rfl))
    | (refine ⟨_, _, rfl, ?_⟩)
    | (with_reducible refine i_iteI (fun e => ?_) (fun e => ?_)))
  exact q
theorem m_of (T : Txt K mg C CE) : MethI P w K mg base 1 "of" ["self", "numbers", "measure"] C (spOf K) := by
  refine ⟨fun d => ⟨T.cl d, ?_⟩⟩
  cases d
  · exact of_sum T
  · exact of_less T
  · exact of_times T
  · exact of_least T
  · exact of_most T
  · exact of_pick T
  · exact of_same T
  · exact of_tell T
  · exact of_take T
theorem wa_sum (T : Txt K mg C CE) : ∃ f fd, Meth K (C .sum) "wants" f ∧ FnOk P w K mg base CX0 1 f fd ["self"] (spWants .sum) ∧ Binds K fd ["self"] [] := by
  refine T.f_wa_sum.fn sc_Sum_wants (fun _ _ _ _ _ _ us hl => match us, hl with | [_], _ => rfl) (by rintro vs H Q E ⟨a, rfl, _⟩; rfl) (fun f cdv A outer s H vs Q E hr h => ?_)
  obtain ⟨a, rfl, q⟩ := h
  refine ⟨_, (pss_one (ps_ret pe_int)), ?_⟩
  walk_at "rd"
  exact q
theorem wa_less (T : Txt K mg C CE) : ∃ f fd, Meth K (C .less) "wants" f ∧ FnOk P w K mg base CX0 1 f fd ["self"] (spWants .less) ∧ Binds K fd ["self"] [] := by
  refine T.f_wa_less.fn sc_Less_wants (fun _ _ _ _ _ _ us hl => match us, hl with | [_], _ => rfl) (by rintro vs H Q E ⟨a, rfl, _⟩; rfl) (fun f cdv A outer s H vs Q E hr h => ?_)
  obtain ⟨a, rfl, q⟩ := h
  refine ⟨_, (pss_one (ps_ret pe_int)), ?_⟩
  walk_at "rd"
  exact q
theorem wa_times (T : Txt K mg C CE) : ∃ f fd, Meth K (C .times) "wants" f ∧ FnOk P w K mg base CX0 1 f fd ["self"] (spWants .times) ∧ Binds K fd ["self"] [] := by
  refine T.f_wa_times.fn sc_Times_wants (fun _ _ _ _ _ _ us hl => match us, hl with | [_], _ => rfl) (by rintro vs H Q E ⟨a, rfl, _⟩; rfl) (fun f cdv A outer s H vs Q E hr h => ?_)
  obtain ⟨a, rfl, q⟩ := h
  refine ⟨_, (pss_one (ps_ret pe_int)), ?_⟩
  walk_at "rd"
  exact q
theorem wa_least (T : Txt K mg C CE) : ∃ f fd, Meth K (C .least) "wants" f ∧ FnOk P w K mg base CX0 1 f fd ["self"] (spWants .least) ∧ Binds K fd ["self"] [] := by
  refine T.f_wa_least.fn sc_Least_wants (fun _ _ _ _ _ _ us hl => match us, hl with | [_], _ => rfl) (by rintro vs H Q E ⟨a, rfl, _⟩; rfl) (fun f cdv A outer s H vs Q E hr h => ?_)
  obtain ⟨a, rfl, q⟩ := h
  refine ⟨_, (pss_one (ps_ret pe_int)), ?_⟩
  walk_at "rd"
  exact q
theorem wa_most (T : Txt K mg C CE) : ∃ f fd, Meth K (C .most) "wants" f ∧ FnOk P w K mg base CX0 1 f fd ["self"] (spWants .most) ∧ Binds K fd ["self"] [] := by
  refine T.f_wa_most.fn sc_Most_wants (fun _ _ _ _ _ _ us hl => match us, hl with | [_], _ => rfl) (by rintro vs H Q E ⟨a, rfl, _⟩; rfl) (fun f cdv A outer s H vs Q E hr h => ?_)
  obtain ⟨a, rfl, q⟩ := h
  refine ⟨_, (pss_one (ps_ret pe_int)), ?_⟩
  walk_at "rd"
  exact q
theorem wa_pick (T : Txt K mg C CE) : ∃ f fd, Meth K (C .pick) "wants" f ∧ FnOk P w K mg base CX0 1 f fd ["self"] (spWants .pick) ∧ Binds K fd ["self"] [] := by
  refine T.f_wa_pick.fn sc_Pick_wants (fun _ _ _ _ _ _ us hl => match us, hl with | [_], _ => rfl) (by rintro vs H Q E ⟨a, rfl, _⟩; rfl) (fun f cdv A outer s H vs Q E hr h => ?_)
  obtain ⟨a, rfl, q⟩ := h
  refine ⟨_, (pss_one (ps_ret pe_int)), ?_⟩
  walk_at "rd"
  exact q
theorem wa_same (T : Txt K mg C CE) : ∃ f fd, Meth K (C .same) "wants" f ∧ FnOk P w K mg base CX0 1 f fd ["self"] (spWants .same) ∧ Binds K fd ["self"] [] := by
  refine T.f_wa_same.fn sc_Deed_wants (fun _ _ _ _ _ _ us hl => match us, hl with | [_], _ => rfl) (by rintro vs H Q E ⟨a, rfl, _⟩; rfl) (fun f cdv A outer s H vs Q E hr h => ?_)
  obtain ⟨a, rfl, q⟩ := h
  refine ⟨_, (pss_one (ps_ret pe_int)), ?_⟩
  walk_at "rd"
  exact q
theorem wa_tell (T : Txt K mg C CE) : ∃ f fd, Meth K (C .tell) "wants" f ∧ FnOk P w K mg base CX0 1 f fd ["self"] (spWants .tell) ∧ Binds K fd ["self"] [] := by
  refine T.f_wa_tell.fn sc_Deed_wants (fun _ _ _ _ _ _ us hl => match us, hl with | [_], _ => rfl) (by rintro vs H Q E ⟨a, rfl, _⟩; rfl) (fun f cdv A outer s H vs Q E hr h => ?_)
  obtain ⟨a, rfl, q⟩ := h
  refine ⟨_, (pss_one (ps_ret pe_int)), ?_⟩
  walk_at "rd"
  exact q
theorem wa_take (T : Txt K mg C CE) : ∃ f fd, Meth K (C .take) "wants" f ∧ FnOk P w K mg base CX0 1 f fd ["self"] (spWants .take) ∧ Binds K fd ["self"] [] := by
  refine T.f_wa_take.fn sc_Take_wants (fun _ _ _ _ _ _ us hl => match us, hl with | [_], _ => rfl) (by rintro vs H Q E ⟨a, rfl, _⟩; rfl) (fun f cdv A outer s H vs Q E hr h => ?_)
  obtain ⟨a, rfl, q⟩ := h
  refine ⟨_, (pss_one (ps_ret pe_int)), ?_⟩
  walk_at "rd"
  exact q
theorem m_wants (T : Txt K mg C CE) : MethI P w K mg base 1 "wants" ["self"] C spWants := by
  refine ⟨fun d => ⟨T.cl d, ?_⟩⟩
  cases d
  · exact wa_sum T
  · exact wa_less T
  · exact wa_times T
  · exact wa_least T
  · exact wa_most T
  · exact wa_pick T
  · exact wa_same T
  · exact wa_tell T
  · exact wa_take T
theorem d_deed (T : Txt K mg C CE) (Kb : K.In base) (G : base.Ns mainGlobals mg) : Df P w K mg base 1 "deed_of" ["word"] (spDeedA C) := by
  refine T.f_deed.df Kb G sc_deed_of (fun _ _ _ _ _ _ us hl => match us, hl with | [_], _ => rfl) (by rintro vs H Q E ⟨d, rfl, _⟩; rfl) (fun f cdv A outer s H vs Q E hr h => ?_)
  refine ⟨_, (pss_cons (ps_if (pt_cmpR op_eq (pv 0) pe_str (nomark _)) (pss_one (ps_ret (pe_makeA T.mk_Sum rfl T.mg_Sum))) pss_nil)
    (pss_cons (ps_if (pt_cmpR op_eq (pv 0) pe_str (nomark _)) (pss_one (ps_ret (pe_makeA T.mk_Less rfl T.mg_Less))) pss_nil)
    (pss_cons (ps_if (pt_cmpR op_eq (pv 0) pe_str (nomark _)) (pss_one (ps_ret (pe_makeA T.mk_Times rfl T.mg_Times))) pss_nil)
    (pss_cons (ps_if (pt_cmpR op_eq (pv 0) pe_str (nomark _)) (pss_one (ps_ret (pe_makeA T.mk_Least rfl T.mg_Least))) pss_nil)
    (pss_cons (ps_if (pt_cmpR op_eq (pv 0) pe_str (nomark _)) (pss_one (ps_ret (pe_makeA T.mk_Most rfl T.mg_Most))) pss_nil)
    (pss_cons (ps_if (pt_cmpR op_eq (pv 0) pe_str (nomark _)) (pss_one (ps_ret (pe_makeA T.mk_Pick rfl T.mg_Pick))) pss_nil)
    (pss_cons (ps_if (pt_cmpR op_eq (pv 0) pe_str (nomark _)) (pss_one (ps_ret (pe_makeA T.mk_Same rfl T.mg_Same))) pss_nil)
    (pss_cons (ps_if (pt_cmpR op_eq (pv 0) pe_str (nomark _)) (pss_one (ps_ret (pe_makeA T.mk_Tell rfl T.mg_Tell))) pss_nil)
    (pss_cons (ps_if (pt_cmpR op_eq (pv 0) pe_str (nomark _)) (pss_one (ps_ret (pe_makeA T.mk_Take rfl T.mg_Take))) pss_nil)
    (pss_one ps_never)))))))))), ?_⟩
  obtain ⟨d, rfl, k⟩ := h
  cases d
  all_goals
    repeat (first
      | (walk_at "rd1")
      | ((with_reducible refine i_iteSe ?_ ?_); (rfl))
      | ((with_reducible refine i_iteSf ?_ ?_); (decide +kernel)))
    exact k
theorem d_whole (T : Txt K mg C CE) (Kb : K.In base) (G : base.Ns mainGlobals mg) : Df P w K mg base 1 "_law_whole" ["_law_found"] spWhole := by
  refine T.f_whole.df Kb G sc_law_whole (fun _ _ _ _ _ _ us hl => match us, hl with | [_], _ => rfl) (by rintro vs H Q E ⟨i, rfl, _⟩; rfl) (fun f cdv A outer s H vs Q E hr h => ?_)
  obtain ⟨i, rfl, q⟩ := h
  refine ⟨_, (pss_one (ps_ret (pe_and (pe_callB call_isi rfl T.nisi PyProof.Rows.boot_isinstance (pa_cons (pv 0) (pa_cons (pe_bltn (v := .ty "int") rfl T.nint PyProof.Rows.boot_int rfl) pa_nil (se rfl)) (se rfl)) (he := se rfl) (hpl := nst rfl)) (pe_one (pe_not (pe_callB call_isi rfl T.nisi PyProof.Rows.boot_isinstance (pa_cons (pv 0) (pa_cons (pe_bltn (v := .ty "bool") rfl T.nbool PyProof.Rows.boot_bool rfl) pa_nil (se rfl)) (se rfl)) (he := se rfl) (hpl := nst rfl))))))), ?_⟩
  walk_at "rd"
  refine ⟨_, _, _, _, rfl, rfl, .int i, T.kII, ?_⟩
  walk_at "rd"
  refine ⟨_, _, _, _, rfl, rfl, .int i, T.kIB, ?_⟩
  walk_at "rd"
  exact q
theorem d_cell (T : Txt K mg C CE) (Kb : K.In base) (G : base.Ns mainGlobals mg) : Df P w K mg base 1 "_law_cell_at" ["_law_script", "_law_k"] (spCell K) := by
  refine T.f_cell.df Kb G sc_law_cell_at (fun _ _ _ _ _ _ us hl => match us, hl with | [_, _], _ => rfl) (by rintro vs H Q E ⟨a, ns, k, rfl, _⟩; rfl) (fun f cdv A outer s H vs Q E hr h => ?_)
  obtain ⟨a, ns, k, rfl, hS, q⟩ := h
  refine ⟨_, (pss_cons (ps_if (pt_cmpR op_lt (pv 1) (pe_callB call_len_seq rfl T.nlen PySem.boot_len (pa_cons (pv 0) pa_nil (se rfl)) (he := se rfl) (hpl := nst rfl)) (nomark _)) (pss_one (ps_ret (pe_ix ix_seq (pv 0) (pv 1) (fun _ _ => rfl)))) pss_nil)
    (pss_one (ps_ret pe_int))), ?_⟩
  walk_at "rd"
  refine ⟨a, _, rfl, .inl hS, ?_⟩
  walk_at "rd"
  refine i_iteD (fun hk => ?_) (fun hk => ?_)
  · walk_at "rd"
    rw [List.length_map] at hk
    refine i_ixL hS (at_ints k (by omega)) ?_
    exact q _
  · walk_at "rd"
    exact q _
theorem mod_b (x : Int) {m : Int} (h : 0 < m) : 0 ≤ x % m ∧ x % m < m := ⟨Int.emod_nonneg x (by omega), Int.emod_lt_of_pos x h⟩
theorem ok_of {a b : Int} (m n : Nat) (a0 : 0 ≤ a) (a1 : a < 2 ^ m) (b0 : 0 ≤ b) (b1 : b < 2 ^ n) (h : m + n ≤ 134217728) : IntMulOk a b := by
  refine mulOk_abs m n ?_ ?_ h
  · have : ((a.natAbs : Nat) : Int) < ((2 ^ m : Nat) : Int) := by
      rw [Int.natCast_pow]; show _ < (2 : Int) ^ m; omega
    exact Int.ofNat_lt.mp this
  · have : ((b.natAbs : Nat) : Int) < ((2 ^ n : Nat) : Int) := by
      rw [Int.natCast_pow]; show _ < (2 : Int) ^ n; omega
    exact Int.ofNat_lt.mp this
theorem d_mix (T : Txt K mg C CE) (Kb : K.In base) (G : base.Ns mainGlobals mg) : Df P w K mg base 1 "_law_mix" ["_law_cell", "_law_k"] spMix := by
  refine T.f_mix.df Kb G sc_law_mix (fun _ _ _ _ _ _ us hl => match us, hl with | [_, _], _ => rfl) (by rintro vs H Q E ⟨c, k, rfl, _⟩; rfl) (fun f cdv A outer s H vs Q E hr h => ?_)
  obtain ⟨c, k, rfl, hk, q⟩ := h
  refine ⟨_, (pss_cons (ps_set (i := 2) sc_law_mix.nd rfl (by first | exact Or.inl rfl | exact Or.inr rfl) (pe_op op_mod (pv 0) (pe_op op_pow pe_int pe_int)))
    (pss_cons (ps_set (i := 2) sc_law_mix.nd rfl (by first | exact Or.inl rfl | exact Or.inr rfl) (pe_op op_mod (pe_op op_mulO (pe_op op_add (pe_op op_add (pe_op op_mulO (pv 2) (pv 2)) (pe_op op_mulO (pe_op op_mulO pe_int (pv 1)) (pv 1))) pe_int) pe_int) (pe_op op_add (pe_op op_pow pe_int pe_int) pe_int)))
    (pss_one (ps_ret (pe_op op_mod (pe_op op_mulO (pv 2) pe_int) (pe_op op_add (pe_op op_pow pe_int pe_int) pe_int)))))), ?_⟩
  walk_at "rd"
  have b := mod_b c (show (0 : Int) < 10 ^ (60 : Int).toNat by decide +kernel)
  have e60 : (10 : Int) ^ (60 : Int).toNat < 2 ^ 200 := by decide +kernel
  generalize c % 10 ^ (60 : Int).toNat = n at *
  obtain ⟨b0, b1⟩ := b
  refine i_mul (ok_of 200 200 b0 (by omega) b0 (by omega) (by decide)) ?_
  walk_at "rd"
  refine i_mul (IntMulOk.of_left (by decide)) ?_
  walk_at "rd"
  have hk2 : (40503 : Int) * (k : Int) < 2 ^ 64 := by omega
  refine i_mul (ok_of 64 64 (by omega) hk2 (by omega) (by omega) (by decide)) ?_
  clear hk2 e60 b1 b0
  walk_at "rd"
  refine i_mul (IntMulOk.of_right (by decide)) ?_
  walk_at "rd"
  have b2 := mod_b ((n * n + 40503 * (k : Int) * (k : Int) + 7919) * 1812433253982451697) (show (0 : Int) < 10 ^ (18 : Int).toNat + 9 by decide +kernel)
  have e18 : (10 : Int) ^ (18 : Int).toNat + 9 < 2 ^ 64 := by decide +kernel
  generalize (n * n + 40503 * (k : Int) * (k : Int) + 7919) * 1812433253982451697 % (10 ^ (18 : Int).toNat + 9) = m2 at *
  refine i_mul (ok_of 64 200 b2.1 (by omega) (by decide) (by decide) (by decide)) ?_
  clear e18 b2
  walk_at "rd"
  have b3 := mod_b (m2 * 739108512309184756019283746561) (show (0 : Int) < 10 ^ (40 : Int).toNat + 121 by decide +kernel)
  generalize m2 * 739108512309184756019283746561 % (10 ^ (40 : Int).toNat + 121) = m3 at *
  obtain ⟨r, rfl⟩ := Int.eq_ofNat_of_zero_le b3.1
  exact q r
theorem at_all {α : Type} {l : List α} {i : Int} {p : α → Prop} (hp : ∀ c ∈ l, p c) (h0 : 0 ≤ i) (h1 : i < l.length) : ∃ c, p c ∧ atI l i = some c := by
  obtain ⟨k, rfl⟩ := Int.eq_ofNat_of_zero_le h0
  have hk : k < l.length := by omega
  exact ⟨l[k], hp _ (List.getElem_mem hk), atI_nat (List.getElem?_eq_getElem hk)⟩
theorem app_list (x y : Str) : (x ++ y).cps.toList = x.cps.toList ++ y.cps.toList := by
  show (x.cps ++ y.cps).toList = _
  simp
theorem len_list (x : Str) : x.cps.toList.length = x.length := Array.length_toList
theorem cut_take (w : Str) (p : Nat) (h : p ≤ w.length) : (cutS w none (some (p : Int))).cps.toList = w.cps.toList.take p := by
  show ((w.cps.toList.drop (HT.sIx w.length 0 none)).take (HT.sIx w.length w.length (some (p : Int)) - HT.sIx w.length 0 none)).toArray.toList = _
  have e1 : HT.sIx w.length 0 none = 0 := rfl
  have e2 : HT.sIx w.length w.length (some (p : Int)) = p := by
    show (if (p : Int) < 0 then ((p : Int) + (w.length : Int)).toNat else min (p : Int).toNat w.length) = p
    rw [if_neg (by omega)]; omega
  rw [e1, e2]; simp
theorem cut_drop (w : Str) (p : Nat) (h : p ≤ w.length) : (cutS w (some (p : Int)) none).cps.toList = w.cps.toList.drop p := by
  show ((w.cps.toList.drop (HT.sIx w.length 0 (some (p : Int)))).take (HT.sIx w.length w.length none - HT.sIx w.length 0 (some (p : Int)))).toArray.toList = _
  have e1 : HT.sIx w.length w.length none = w.length := rfl
  have e2 : HT.sIx w.length 0 (some (p : Int)) = p := by
    show (if (p : Int) < 0 then ((p : Int) + (w.length : Int)).toNat else min (p : Int).toNat w.length) = p
    rw [if_neg (by omega)]; omega
  rw [e1, e2]
  have : (w.cps.toList.drop p).length ≤ w.length - p := by rw [List.length_drop, len_list]; omega
  simp only [List.toList_toArray]
  exact List.take_of_length_le this
def Lo (z : Str) : Prop := ∀ c ∈ z.cps.toList, 97 ≤ c ∧ c ≤ 122
theorem line_big : 10000 ≤ sizeLine := by rw [sizeLine_eq]; decide
def spLetters : Sp := fun vs H Q _ => ∃ (n many : Nat), vs = [.int (n : Int), .int (many : Int)] ∧ many ≤ 12 ∧ ∀ z : Str, z.length = many → Lo z → Q (.str z) H
theorem d_letters (T : Txt K mg C CE) (Kb : K.In base) (G : base.Ns mainGlobals mg) : Df P w K mg base 1 "_law_letters" ["_law_number", "_law_many"] spLetters := by
  refine T.f_letters.df Kb G sc_law_letters (fun _ _ _ _ _ _ us hl => match us, hl with | [_, _], _ => rfl) (by rintro vs H Q E ⟨n, many, rfl, _⟩; rfl) (fun f cdv A outer s H vs Q E hr h => ?_)
  obtain ⟨n, many, rfl, hm, q⟩ := h
  refine ⟨_, (pss_cons (ps_set (i := 2) sc_law_letters.nd rfl (by first | exact Or.inl rfl | exact Or.inr rfl) pe_str)
    (pss_cons (ps_for PassesOwn.never rfl (pi_range1 rfl T.nrange (pa_cons (pv 1) pa_nil (se rfl))) (pg_name (i := 3) sc_law_letters.nd rfl (Or.inl rfl))
      (pss_cons (ps_set (i := 2) sc_law_letters.nd rfl (by first | exact Or.inl rfl | exact Or.inr rfl) (pe_op op_addS (pv 2) (pe_ix ix_seq pe_str (pe_op op_mod (pv 0) pe_int) (fun _ _ => rfl))))
    (pss_one (ps_set (i := 0) sc_law_letters.nd rfl (by first | exact Or.inl rfl | exact Or.inr rfl) (pe_op op_fdiv (pv 0) pe_int)))))
    (pss_one (ps_ret (pv 2))))), ?_⟩
  walk_at "rd"
  refine i_for (i_rng1 ?_)
  walk_at "rd"
  refine ⟨_, rfl, by omega, by omega, ?_⟩
  rw [Int.toNat_natCast]
  have lb := line_big
  refine for_range (lo := 0) (n := many) (fun i σ H2 => ∃ (m : Nat) (z : Str) (x : Option V), σ = [some (.int (m : Int)), some (.int (many : Int)), some (.str z), x] ∧ z.length = i ∧ Lo z ∧ H2 = H) ⟨n, _, none, rfl, by decide +kernel, (by unfold Lo; decide +kernel), rfl⟩ ?_ ?_
  · rintro i σ H2 hi ⟨m, z, x, rfl, hz, hL, rfl⟩
    walk_at "rd"
    have b := mod_b (m : Int) (show (0 : Int) < 26 by decide)
    obtain ⟨ch, hch, hat⟩ := at_all (l := (Str.ofString "abcdefghijklmnopqrstuvwxyz").cps.toList) (p := fun c => 97 ≤ c ∧ c ≤ 122) (by decide +kernel) b.1 (by
      have : (Str.ofString "abcdefghijklmnopqrstuvwxyz").cps.toList.length = 26 := by decide +kernel
      rw [this]; exact b.2)
    refine i_ixS (by decide +kernel) hat ?_
    refine i_addS (by show z.length + 1 ≤ sizeLine; omega) ?_
    walk_at "rd"
    refine ⟨m / 26, _, _, rfl, by rw [strLen_append, hz]; rfl, fun c hc => ?_, rfl⟩
    rw [app_list] at hc
    rcases List.mem_append.mp hc with h | h
    · exact hL c h
    · have : c = ch := by simpa using h
      rw [this]; exact hch
  · rintro σ H2 ⟨m, z, x, rfl, hz, hL, rfl⟩
    walk_at "rd"
    exact q z hz hL
def NmAt (place number i : Nat) (z : Str) : Prop := 1 ≤ z.length ∧ z.length ≤ 12 ∧ Lo z ∧ z.cps.toList[place]? = some (97 + (i + number) % 12)
def NamesOk (zs : List Str) : Prop := zs.length ≤ 12 ∧ ∃ place number : Nat, ∀ i z, zs[i]? = some z → NmAt place number i z
theorem twelve : ∀ j, j < 12 → (Str.ofString "abcdefghijkl").cps.toList[j]? = some (97 + j) := by decide +kernel
theorem nm_of {w : Str} {place number i : Nat} (hp : place < w.length) (hl : w.length ≤ 12) (hL : Lo w) : NmAt place number i ((cutS w none (some (place : Int)) ++ ⟨#[97 + (i + number) % 12]⟩) ++ cutS w (some ((place : Int) + 1)) none) := by
  have e1 := cut_take w place (Nat.le_of_lt hp)
  have e2 : (cutS w (some ((place : Int) + 1)) none).cps.toList = w.cps.toList.drop (place + 1) := cut_drop w (place + 1) hp
  have e : ((cutS w none (some (place : Int)) ++ ⟨#[97 + (i + number) % 12]⟩) ++ cutS w (some ((place : Int) + 1)) none).cps.toList = w.cps.toList.take place ++ [97 + (i + number) % 12] ++ w.cps.toList.drop (place + 1) := by
    rw [app_list, app_list, e1, e2]
  have el : ((cutS w none (some (place : Int)) ++ ⟨#[97 + (i + number) % 12]⟩) ++ cutS w (some ((place : Int) + 1)) none).length = w.length := by
    rw [← len_list, e, List.length_append, List.length_append, List.length_take, List.length_drop, len_list]
    simp only [List.length_cons, List.length_nil]; omega
  refine ⟨by omega, by omega, fun c hc => ?_, ?_⟩
  · rw [e] at hc
    rcases List.mem_append.mp hc with h | h
    · rcases List.mem_append.mp h with h | h
      · exact hL c (List.mem_of_mem_take h)
      · have : c = 97 + (i + number) % 12 := by simpa using h
        omega
    · exact hL c (List.mem_of_mem_drop h)
  · rw [e, List.append_assoc, List.getElem?_append_right (by rw [List.length_take, len_list]; omega)]
    have : place - (w.cps.toList.take place).length = 0 := by rw [List.length_take, len_list]; omega
    rw [this]; rfl
def spNames (K : PySem.W.Frag) : Sp := fun vs H Q _ => ∃ (a : Addr) (ns : List Int) (many : Nat), vs = [.ref a, .int (many : Int)] ∧ SqL K H a (ns.map V.int) ∧ many ≤ 12 ∧
  ∀ p H2 zs, Same H H2 → H2 p = some (.lst (List.map V.str zs)) → NamesOk zs → zs.length = many → Q (.ref p) H2
theorem d_names (T : Txt K mg C CE) (Kb : K.In base) (G : base.Ns mainGlobals mg) : Df P w K mg base 2 "_law_names" ["_law_script", "_law_many"] (spNames K) := by
  have D_law_cell_at : Df P w K mg base 1 "_law_cell_at" ["_law_script", "_law_k"] (spCell K) := d_cell T Kb G
  have D_law_mix : Df P w K mg base 1 "_law_mix" ["_law_cell", "_law_k"] spMix := d_mix T Kb G
  have D_law_letters : Df P w K mg base 1 "_law_letters" ["_law_number", "_law_many"] spLetters := d_letters T Kb G
  refine T.f_names.df Kb G sc_law_names (fun _ _ _ _ _ _ us hl => match us, hl with | [_, _], _ => rfl) (by rintro vs H Q E ⟨a, ns, many, rfl, _⟩; rfl) (fun f cdv A outer s H vs Q E hr h => ?_)
  obtain ⟨a, ns, many, rfl, hS, hm, q⟩ := h
  refine ⟨_, (pss_cons (ps_set (i := 2) sc_law_names.nd rfl (by first | exact Or.inl rfl | exact Or.inr rfl) (pe_callD D_law_mix (hr.mono (by decide)) rfl (pa_cons (pe_callD D_law_cell_at (hr.mono (by decide)) rfl (pa_cons (pv 0) (pa_cons pe_int pa_nil (se rfl)) (se rfl)) (he := se rfl) (hpl := nst rfl)) (pa_cons pe_int pa_nil (se rfl)) (se rfl)) (he := se rfl) (hpl := nst rfl)))
    (pss_cons (ps_set (i := 3) sc_law_names.nd rfl (by first | exact Or.inl rfl | exact Or.inr rfl) (pe_op op_mod (pv 2) pe_int))
    (pss_cons (ps_set (i := 4) sc_law_names.nd rfl (by first | exact Or.inl rfl | exact Or.inr rfl) (pe_lstA pa_nil))
    (pss_cons (ps_for PassesOwn.never rfl (pi_range1 rfl T.nrange (pa_cons (pv 1) pa_nil (se rfl))) (pg_name (i := 5) sc_law_names.nd rfl (Or.inl rfl))
      (pss_cons (ps_set (i := 6) sc_law_names.nd rfl (by first | exact Or.inl rfl | exact Or.inr rfl) (pe_op op_fdiv (pv 2) pe_int))
    (pss_cons (ps_join (ps_if (pt_cmpR op_gt (pe_op op_mod (pv 2) pe_int) pe_int (nomark _)) (pss_one (ps_set (i := 6) sc_law_names.nd rfl (by first | exact Or.inl rfl | exact Or.inr rfl) (pe_callD D_law_mix (hr.mono (by decide)) rfl (pa_cons (pe_callD D_law_cell_at (hr.mono (by decide)) rfl (pa_cons (pv 0) (pa_cons pe_int pa_nil (se rfl)) (se rfl)) (he := se rfl) (hpl := nst rfl)) (pa_cons (pe_op op_add pe_int (pv 5)) pa_nil (se rfl)) (se rfl)) (he := se rfl) (hpl := nst rfl)))) pss_nil))
    (pss_cons (ps_set (i := 7) sc_law_names.nd rfl (by first | exact Or.inl rfl | exact Or.inr rfl) (pe_callD D_law_letters (hr.mono (by decide)) rfl (pa_cons (pv 6) (pa_cons (pe_op op_add (pe_op op_add (pv 3) pe_int) (pe_op op_mod (pe_op op_fdiv (pv 2) pe_int) (pe_op op_sub pe_int (pv 3)))) pa_nil (se rfl)) (se rfl)) (he := se rfl) (hpl := nst rfl)))
    (pss_cons (ps_set (i := 8) sc_law_names.nd rfl (by first | exact Or.inl rfl | exact Or.inr rfl) (pe_ix ix_seq pe_str (pe_op op_mod (pe_op op_add (pv 5) (pv 2)) pe_int) (fun _ _ => rfl)))
    (pss_one (ps_expr (pe_bm PySem.F.plainAttrs_list PySem.F.slot_list_append PySem.F.type_list_append mt_append (pv 4) (pa_cons (pe_op op_addS (pe_op op_addS (pe_slice sl_str (pv 7) po_none (po_some (pv 3))) (pv 8)) (pe_slice sl_str (pv 7) (po_some (pe_op op_add (pv 3) pe_int)) po_none)) pa_nil (se rfl)) (hs := se rfl) (hplain := nst rfl)))))))))
    (pss_one (ps_ret (pv 4))))))), ?_⟩
  walk_at "rd"
  refine ⟨a, ns, 1, rfl, hS, fun c => ?_⟩
  walk_at "rd"
  refine ⟨c, 1, rfl, by decide, fun n => ?_⟩
  walk_at "rd"
  have bp := mod_b (n : Int) (show (0 : Int) < 8 by decide)
  obtain ⟨place, hpl⟩ := Int.eq_ofNat_of_zero_le bp.1
  rw [hpl] at bp
  rw [hpl]
  have hp8 : place < 8 := by omega
  clear bp hpl
  refine ⟨by show 0 ≤ sizeLine; exact Nat.zero_le _, fun D H1 hN1 => ?_⟩
  walk_at "rd"
  refine i_for (i_rng1 ?_)
  walk_at "rd"
  refine ⟨_, rfl, by omega, by omega, ?_⟩
  rw [Int.toNat_natCast]
  have lb := line_big
  refine for_range (lo := 0) (n := many) (fun i σ H2 => ∃ (zs : List Str) (x5 x6 x7 x8 : Option V), σ = [some (.ref a), some (.int (many : Int)), some (.int (n : Int)), some (.int (place : Int)), some (.ref D), x5, x6, x7, x8] ∧ zs.length = i ∧ H2 D = some (.lst (List.map V.str zs)) ∧ Same H H2 ∧ ∀ j z, zs[j]? = some z → NmAt place n j z)
    ⟨[], none, none, none, none, rfl, rfl, hN1.at, hN1.same, fun j z e => by simp at e⟩ ?_ ?_
  · rintro i σ H2 hi ⟨zs, x5, x6, x7, x8, rfl, hl, hD, s2, hz⟩
    have e0 : (0 : Int) + (i : Int) = (i : Int) := Int.zero_add _
    rw [e0]
    walk_at "rd"
    refine i_join (fun σ' H' => H' = H2 ∧ ∃ own : Nat, σ' = [some (.ref a), some (.int (many : Int)), some (.int (n : Int)), some (.int (place : Int)), some (.ref D), some (.int (i : Int)), some (.int (own : Int)), x7, x8]) ?_ ?_
    · walk_at "rd"
      refine i_iteD (fun _ => ?_) (fun _ => ?_)
      · walk_at "rd"
        refine ⟨a, ns, 1, rfl, s2.seq hS, fun c => ?_⟩
        walk_at "rd"
        refine ⟨c, 20 + i, rfl, by omega, fun m => ?_⟩
        walk_at "rd"
        exact ⟨rfl, m, rfl⟩
      · walk_at "rd"
        exact ⟨rfl, n / 4, rfl⟩
    rintro σ' H' ⟨rfl, own, rfl⟩
    walk_at "rd"
    have bq := mod_b ((n : Int) / 12) (show (0 : Int) < 12 - (place : Int) by omega)
    obtain ⟨ex, hex⟩ := Int.eq_ofNat_of_zero_le bq.1
    rw [hex] at bq
    rw [hex]
    refine ⟨own, place + 1 + ex, rfl, by omega, fun wd hwl hwL => ?_⟩
    walk_at "rd"
    have b12 : ((i : Int) + (n : Int)) % 12 = (((i + n) % 12 : Nat) : Int) := by omega
    have hat : atI (Str.ofString "abcdefghijkl").cps.toList (((i : Int) + (n : Int)) % 12) = some (97 + (i + n) % 12) := by
      rw [b12]; exact atI_nat (twelve _ (Nat.mod_lt _ (by decide)))
    refine i_ixS (by decide +kernel) hat ?_
    walk_at "rd"
    refine ⟨.inl ⟨rfl, _, .inl (.inl hD)⟩, ?_⟩
    walk_at "rd"
    have hw12 : wd.length ≤ 12 := by omega
    refine i_slS (by omega) ?_
    have c1 := cutS_len wd none (some (place : Int))
    have c2 := cutS_len wd (some ((place : Int) + 1)) none
    walk_at "rd"
    refine i_addS (by show _ + 1 ≤ _; omega) ?_
    walk_at "rd"
    refine i_slS (by omega) ?_
    refine i_addS (by rw [strLen_append]; show _ + 1 + _ ≤ _; omega) ?_
    walk_at "rd"
    refine i_append hD (by rw [List.length_map]; omega) ?_
    walk_at "rd"
    have hnm : NmAt place n i _ := nm_of (w := wd) (place := place) (number := n) (i := i) (by omega) hw12 hwL
    refine ⟨zs ++ [_], _, _, _, _, rfl, by rw [List.length_append, hl]; rfl, by rw [upd_same, List.map_append]; rfl, fun b u e => ?_, fun j z e => ?_⟩
    · rw [upd_ne (ne_of_none e hN1.free)]; exact s2 _ _ e
    · by_cases hj : j < zs.length
      · rw [List.getElem?_append_left hj] at e
        exact hz j z e
      · rw [List.getElem?_append_right (by omega)] at e
        have hj0 : j = i := by
          by_cases h0 : j - zs.length = 0
          · omega
          · rw [List.getElem?_eq_none (by simp; omega)] at e; cases e
        rw [hj0, show i - zs.length = 0 by omega] at e
        cases e
        rw [hj0]; exact hnm
  · rintro σ H2 ⟨zs, x5, x6, x7, x8, rfl, hl, hD, s2, hz⟩
    walk_at "rd"
    exact q D H2 zs s2 hD ⟨by omega, place, n, hz⟩ hl
inductive Rd where
  | num (i : Int) | back (z : Str) (b : Int)
def RdAt (H : Hp) : Rd → V → Prop
  | .num i, v => v = .int i
  | .back z b, v => ∃ a, v = .ref a ∧ H a = some (.tup [.str z, .int b])
structure RdsAt (H : Hp) (rs : List Rd) (vs : List V) : Prop where
  len : rs.length = vs.length
  at_ : ∀ (i : Nat) r v, rs[i]? = some r → vs[i]? = some v → RdAt H r v
structure Row where
  name : Str
  d : Dk
  reads : List Rd
def RowAt (H : Hp) (r : Row) (v : V) : Prop := ∃ p1 p2 vs, v = .ref p2 ∧ H p2 = some (.tup [.str r.name, .str r.d.word, .ref p1]) ∧ H p1 = some (.tup vs) ∧ RdsAt H r.reads vs
theorem RdAt.same {H H' : Hp} {r : Rd} {v : V} (s : Same H H') (h : RdAt H r v) : RdAt H' r v := by
  cases r with
  | num i => exact h
  | back z b => obtain ⟨a, e, q⟩ := h; exact ⟨a, e, s _ _ q⟩
theorem RdsAt.same {H H' : Hp} {rs : List Rd} {vs : List V} (s : Same H H') (h : RdsAt H rs vs) : RdsAt H' rs vs := ⟨h.len, fun i r v e1 e2 => (h.at_ i r v e1 e2).same s⟩
theorem RowAt.same {H H' : Hp} {r : Row} {v : V} (s : Same H H') (h : RowAt H r v) : RowAt H' r v := by
  obtain ⟨p1, p2, vs, e, h1, h2, h3⟩ := h
  exact ⟨p1, p2, vs, e, s _ _ h1, s _ _ h2, h3.same s⟩
def hide (D : Addr) (H : Hp) : Hp := fun b => if b = D then none else H b
theorem hide_same (D : Addr) (H : Hp) : Same (hide D H) H := fun b u e => by
  unfold hide at e
  by_cases hb : b = D
  · rw [if_pos hb] at e; cases e
  · rw [if_neg hb] at e; exact e
theorem hide_sameB {D : Addr} {H H' : Hp} (s : SameB D H H') : Same (hide D H) (hide D H') := fun b u e => by
  unfold hide at e ⊢
  by_cases hb : b = D
  · rw [if_pos hb] at e; cases e
  · rw [if_neg hb] at e ⊢; exact s b u hb e
theorem at_hide {D : Addr} {H : Hp} {ys xs : List V} {a : Addr} (hD : H D = some (.lst ys)) (h : H a = some (.tup xs)) : hide D H a = some (.tup xs) := by
  unfold hide
  rw [if_neg (fun z => by rw [z, hD] at h; cases h)]; exact h
theorem RdAt.hide {D : Addr} {H : Hp} {ys : List V} (hD : H D = some (.lst ys)) {r : Rd} {v : V} (h : RdAt H r v) : RdAt (hide D H) r v := by
  cases r with
  | num i => exact h
  | back z b => obtain ⟨a, e, q⟩ := h; exact ⟨a, e, at_hide hD q⟩
theorem RdsAt.hide {D : Addr} {H : Hp} {ys : List V} (hD : H D = some (.lst ys)) {rs : List Rd} {vs : List V} (h : RdsAt H rs vs) : RdsAt (hide D H) rs vs := ⟨h.len, fun i r v e1 e2 => (h.at_ i r v e1 e2).hide hD⟩
theorem RowAt.hide {D : Addr} {H : Hp} {ys : List V} (hD : H D = some (.lst ys)) {r : Row} {v : V} (h : RowAt H r v) : RowAt (hide D H) r v := by
  obtain ⟨p1, p2, vs, e, h1, h2, h3⟩ := h
  exact ⟨p1, p2, vs, e, at_hide hD h1, at_hide hD h2, h3.hide hD⟩
def RdOk (zs : List Str) (k : Nat) : Rd → Prop
  | .num i => 0 ≤ i ∧ i < 10 ^ 60
  | .back z b => ∃ j : Nat, zs[j]? = some z ∧ 0 ≤ b ∧ b ≤ 6 ∧ (b = 0 → j < k)
structure RowOk (zs : List Str) (k : Nat) (r : Row) : Prop where
  name : zs[k]? = some r.name
  many : r.reads.length = r.d.wants
  reads : ∀ rd ∈ r.reads, RdOk zs k rd
def spLWants : Sp := fun vs H Q _ => ∃ d : Dk, vs = [.str d.word] ∧ ∀ H2, Same H H2 → Q (.int (d.wants : Nat)) H2
theorem d_lwants (T : Txt K mg C CE) (Kb : K.In base) (G : base.Ns mainGlobals mg) : Df P w K mg base 1 "_law_wants" ["_law_word"] spLWants := by
  refine T.f_wants.df Kb G sc_law_wants (fun _ _ _ _ _ _ us hl => match us, hl with | [_], _ => rfl) (by rintro vs H Q E ⟨d, rfl, _⟩; rfl) (fun f cdv A outer s H vs Q E hr h => ?_)
  refine ⟨_, (pss_cons (ps_if (pt_cmpR op_eq (pv 0) pe_str (nomark _)) (pss_one (ps_ret pe_int)) pss_nil)
    (pss_cons (ps_if (PW.pt (pw_or (pt_cmpR op_eq (pv 0) pe_str (nomark _)) (pw_or1 (pt_cmpR op_eq (pv 0) pe_str (nomark _))))) (pss_one (ps_ret pe_int)) pss_nil)
    (pss_one (ps_ret (pe_ix ix_seq (pe_lstA (pa_cons pe_int (pa_cons pe_int pa_nil (se rfl)) (se rfl))) (pe_callTy call_int1 rfl T.nint PyProof.Rows.boot_int (pa_cons (pe_cmpR op_eq (pv 0) pe_str (nomark _)) pa_nil (se rfl)) (he := se rfl) (hpl := nst rfl)) (fun _ _ => rfl)))))), ?_⟩
  obtain ⟨d, rfl, k⟩ := h
  have e2 : ∀ b : Bool, atI [V.int 2, V.int 3] (if b then 1 else 0) = some (.int (if b then 3 else 2)) := by decide +kernel
  cases d
  all_goals
    repeat (first
      | (walk_at "rd1")
      | ((with_reducible refine i_iteSe ?_ ?_); (rfl))
      | ((with_reducible refine i_iteSf ?_ ?_); (decide +kernel)))
  all_goals first
    | exact k _ (Same.refl _)
    | (refine ⟨by show 2 ≤ sizeLine; decide, fun p H2 hN => ?_⟩
       walk_at "rd"
       refine .inr ⟨_, rfl, ?_⟩
       refine i_ixL hN.lst (e2 _) ?_
       first
         | (rw [show decide (V.str Dk.pick.word = V.str (Str.ofString "pick")) = true by decide +kernel]; exact k _ hN.same)
         | (rw [decide_eq_false (by intro e; exact absurd (V.str.inj e) (by decide +kernel))]; exact k _ hN.same))
def dks : List Dk := [.sum, .less, .times, .least, .most, .pick, .same, .tell, .take]
def wordsV : List V := dks.map fun d => V.str d.word
theorem at_dk {c : Int} (h0 : 0 ≤ c) (h1 : c < 9) : ∃ d : Dk, atI wordsV c = some (.str d.word) := by
  obtain ⟨k, rfl⟩ := Int.eq_ofNat_of_zero_le h0
  have hk : k < 9 := by omega
  refine ⟨dks[k]'hk, atI_nat ?_⟩
  unfold wordsV
  rw [List.getElem?_map, List.getElem?_eq_getElem (show k < dks.length from hk)]; rfl
theorem at_str {zs : List Str} {j : Nat} (h : j < zs.length) : ∃ z, zs[j]? = some z ∧ atI (List.map V.str zs) (j : Int) = some (.str z) :=
  ⟨zs[j], List.getElem?_eq_getElem h, atI_nat (by rw [List.getElem?_map, List.getElem?_eq_getElem h]; rfl)⟩
theorem RdsAt.snoc {H : Hp} {rs : List Rd} {vs : List V} {r : Rd} {v : V} (h : RdsAt H rs vs) (hr : RdAt H r v) : RdsAt H (rs ++ [r]) (vs ++ [v]) := by
  refine ⟨by rw [List.length_append, List.length_append, h.len]; rfl, fun i r' v' e1 e2 => ?_⟩
  have hl := h.len
  by_cases hi : i < rs.length
  · rw [List.getElem?_append_left hi] at e1
    rw [List.getElem?_append_left (by omega)] at e2
    exact h.at_ i r' v' e1 e2
  · rw [List.getElem?_append_right (by omega)] at e1
    rw [List.getElem?_append_right (by omega)] at e2
    have h0 : i - rs.length = 0 := by
      by_cases h0 : i - rs.length = 0
      · exact h0
      · rw [List.getElem?_eq_none (by simp; omega)] at e1; cases e1
    rw [h0] at e1; rw [show i - vs.length = 0 by omega] at e2
    cases e1; cases e2; exact hr
theorem hide_upd (D : Addr) (H : Hp) (o : HO) : hide D (upd H D o) = hide D H := by
  funext b
  unfold hide
  by_cases hb : b = D
  · rw [if_pos hb, if_pos hb]
  · rw [if_neg hb, if_neg hb, upd_ne hb]
theorem RdsAt.app {D : Addr} {H : Hp} {ys : List V} (hD : H D = some (.lst ys)) {rs : List Rd} {vs : List V} {o : HO} (h : RdsAt H rs vs) : RdsAt (upd H D o) rs vs := by
  have h1 := h.hide hD
  rw [← hide_upd D H o] at h1
  exact h1.same (hide_same D _)
theorem mem_snoc {rs : List Rd} {r : Rd} {p : Rd → Prop} (h : ∀ x ∈ rs, p x) (hr : p r) : ∀ x ∈ rs ++ [r], p x := fun x hx => by
  rcases List.mem_append.mp hx with h1 | h1
  · exact h x h1
  · rw [show x = r by simpa using h1]; exact hr
def spRow (K : PySem.W.Frag) : Sp := fun vs H Q _ => ∃ (a np wp : Addr) (ns : List Int) (zs : List Str) (k : Nat), vs = [.ref a, .ref np, .int (k : Int), .ref wp] ∧ SqL K H a (ns.map V.int) ∧ H np = some (.lst (List.map V.str zs)) ∧ H wp = some (.lst wordsV) ∧ NamesOk zs ∧ k < zs.length ∧
  ∀ r v H2, Same H H2 → RowAt H2 r v → RowOk zs k r → Q v H2
theorem wants3 (d : Dk) : d.wants ≤ 3 := by cases d <;> decide
theorem d_row (T : Txt K mg C CE) (Kb : K.In base) (G : base.Ns mainGlobals mg) : Df P w K mg base 2 "_law_row" ["_law_script", "_law_names_here", "_law_at", "_law_words"] (spRow K) := by
  have D_law_cell_at : Df P w K mg base 1 "_law_cell_at" ["_law_script", "_law_k"] (spCell K) := d_cell T Kb G
  have D_law_mix : Df P w K mg base 1 "_law_mix" ["_law_cell", "_law_k"] spMix := d_mix T Kb G
  have D_law_wants : Df P w K mg base 1 "_law_wants" ["_law_word"] spLWants := d_lwants T Kb G
  refine T.f_row.df Kb G sc_law_row (fun _ _ _ _ _ _ us hl => match us, hl with | [_, _, _, _], _ => rfl) (by rintro vs H Q E ⟨a, np, wp, ns, zs, k, rfl, _⟩; rfl) (fun f cdv A outer s H vs Q E hr h => ?_)
  obtain ⟨a, np, wp, ns, zs, k, rfl, hS, hnp, hwp, hzs, hk, q⟩ := h
  have h12 := hzs.1
  refine ⟨_, (pss_cons (ps_set (i := 4) sc_law_row.nd rfl (by first | exact Or.inl rfl | exact Or.inr rfl) (pe_callD D_law_mix (hr.mono (by decide)) rfl (pa_cons (pe_callD D_law_cell_at (hr.mono (by decide)) rfl (pa_cons (pv 0) (pa_cons (pe_op op_add pe_int (pv 2)) pa_nil (se rfl)) (se rfl)) (he := se rfl) (hpl := nst rfl)) (pa_cons (pv 2) pa_nil (se rfl)) (se rfl)) (he := se rfl) (hpl := nst rfl)))
    (pss_cons (ps_set (i := 5) sc_law_row.nd rfl (by first | exact Or.inl rfl | exact Or.inr rfl) (pe_ix ix_seq (pv 3) (pe_op op_mod (pv 4) (pe_callB call_len_seq rfl T.nlen PySem.boot_len (pa_cons (pv 3) pa_nil (se rfl)) (he := se rfl) (hpl := nst rfl))) (fun _ _ => rfl)))
    (pss_cons (ps_set (i := 4) sc_law_row.nd rfl (by first | exact Or.inl rfl | exact Or.inr rfl) (pe_op op_fdiv (pv 4) (pe_callB call_len_seq rfl T.nlen PySem.boot_len (pa_cons (pv 3) pa_nil (se rfl)) (he := se rfl) (hpl := nst rfl))))
    (pss_cons (ps_set (i := 6) sc_law_row.nd rfl (by first | exact Or.inl rfl | exact Or.inr rfl) (pe_lstA pa_nil))
    (pss_cons (ps_for PassesOwn.never rfl (pi_range1 rfl T.nrange (pa_cons (pe_callD D_law_wants (hr.mono (by decide)) rfl (pa_cons (pv 5) pa_nil (se rfl)) (he := se rfl) (hpl := nst rfl)) pa_nil (se rfl))) (pg_name (i := 7) sc_law_row.nd rfl (Or.inl rfl))
      (pss_cons (ps_set (i := 8) sc_law_row.nd rfl (by first | exact Or.inl rfl | exact Or.inr rfl) (pe_op op_mod (pv 4) pe_int))
    (pss_cons (ps_set (i := 9) sc_law_row.nd rfl (by first | exact Or.inl rfl | exact Or.inr rfl) (pe_op op_mod (pe_op op_fdiv (pv 4) pe_int) (pe_callB call_len_seq rfl T.nlen PySem.boot_len (pa_cons (pv 1) pa_nil (se rfl)) (he := se rfl) (hpl := nst rfl))))
    (pss_cons (ps_join (ps_if (PW.pt (pw_and (pt_cmpR op_eq (pv 8) pe_int (nomark _)) (pw_and1 (pt_cmpR op_ge (pv 9) (pv 2) (nomark _))))) (pss_one (ps_set (i := 8) sc_law_row.nd rfl (by first | exact Or.inl rfl | exact Or.inr rfl) (pe_op op_add pe_int (pe_op op_mod (pe_op op_fdiv (pv 4) pe_int) pe_int)))) pss_nil))
    (pss_cons (ps_join (ps_if (pt_cmpR op_eq (pe_op op_mod (pe_op op_fdiv (pv 4) pe_int) pe_int) pe_int (nomark _)) (pss_one (ps_expr (pe_bm PySem.F.plainAttrs_list PySem.F.slot_list_append PySem.F.type_list_append mt_append (pv 6) (pa_cons (pe_op op_mod (pe_callD D_law_cell_at (hr.mono (by decide)) rfl (pa_cons (pv 0) (pa_cons (pe_op op_add (pe_op op_add pe_int (pe_op op_mulO pe_int (pv 2))) (pv 7)) pa_nil (se rfl)) (se rfl)) (he := se rfl) (hpl := nst rfl)) (pe_op op_pow pe_int pe_int)) pa_nil (se rfl)) (hs := se rfl) (hplain := nst rfl)))) (pss_one (ps_expr (pe_bm PySem.F.plainAttrs_list PySem.F.slot_list_append PySem.F.type_list_append mt_append (pv 6) (pa_cons (pe_tupA (pa_cons (pe_ix ix_seq (pv 1) (pv 9) (fun _ _ => rfl)) (pa_cons (pv 8) pa_nil (se rfl)) (se rfl))) pa_nil (se rfl)) (hs := se rfl) (hplain := nst rfl))))))
    (pss_one (ps_set (i := 4) sc_law_row.nd rfl (by first | exact Or.inl rfl | exact Or.inr rfl) (pe_op op_fdiv (pv 4) pe_int))))))))
    (pss_one (ps_ret (pe_tupA (pa_cons (pe_ix ix_seq (pv 1) (pv 2) (fun _ _ => rfl)) (pa_cons (pv 5) (pa_cons (pe_callTy call_tupleA rfl T.ntuple PyProof.Rows.boot_tuple (pa_cons (pv 6) pa_nil (se rfl)) (he := se rfl) (hpl := nst rfl)) pa_nil (se rfl)) (se rfl)) (se rfl)))))))))), ?_⟩
  walk_at "rd"
  refine ⟨a, ns, 4 + k, rfl, hS, fun c => ?_⟩
  walk_at "rd"
  refine ⟨c, k, rfl, by omega, fun n => ?_⟩
  walk_at "rd"
  refine ⟨_, _, rfl, .inl (sqL_inj_of hwp), ?_⟩
  have e9 : (wordsV.length : Int) = 9 := rfl
  rw [e9]
  walk_at "rd"
  have b9 := mod_b (n : Int) (show (0 : Int) < 9 by decide)
  obtain ⟨d, hat⟩ := at_dk b9.1 b9.2
  refine i_ixL (sqL_inj_of hwp) hat ?_
  walk_at "rd"
  refine ⟨_, _, rfl, .inl (sqL_inj_of hwp), ?_⟩
  rw [e9]
  walk_at "rd"
  refine ⟨by show 0 ≤ sizeLine; exact Nat.zero_le _, fun D H1 hN1 => ?_⟩
  walk_at "rd"
  refine i_for (i_rng1 ?_)
  walk_at "rd"
  refine ⟨d, rfl, fun H2 s2 => ?_⟩
  walk_at "rd"
  have w3 := wants3 d
  refine ⟨_, rfl, by omega, by omega, ?_⟩
  rw [Int.toNat_natCast]
  have lb := line_big
  have hzl : 0 < zs.length := by omega
  refine for_range (lo := 0) (n := d.wants) (fun i σ H' => ∃ (m : Nat) (rs : List Rd) (vs : List V) (x7 x8 x9 : Option V), σ = [some (.ref a), some (.ref np), some (.int (k : Int)), some (.ref wp), some (.int (m : Int)), some (.str d.word), some (.ref D), x7, x8, x9] ∧ rs.length = i ∧ H' D = some (.lst vs) ∧ Same H H' ∧ RdsAt H' rs vs ∧ ∀ rd ∈ rs, RdOk zs k rd)
    ⟨n / 9, [], [], none, none, none, rfl, rfl, s2 _ _ hN1.at, hN1.same.trans s2, ⟨rfl, fun i r v e => by simp at e⟩, fun rd h => by simp at h⟩ ?_ ?_
  · rintro i σ H' hi ⟨m, rs, vs, x7, x8, x9, rfl, hrl, hD, s3, hrs, hok⟩
    have hvl := hrs.len
    have e0 : (0 : Int) + (i : Int) = (i : Int) := Int.zero_add _
    rw [e0]
    walk_at "rd"
    refine ⟨_, _, rfl, .inl (sqL_inj_of (s3 _ _ hnp)), ?_⟩
    rw [List.length_map]
    walk_at "rd"
    have b7 := mod_b (m : Int) (show (0 : Int) < 7 by decide)
    generalize (m : Int) % 7 = bk at *
    have bs := mod_b ((m : Int) / 7) (show (0 : Int) < (zs.length : Int) by omega)
    obtain ⟨spot, hsp⟩ := Int.eq_ofNat_of_zero_le bs.1
    rw [hsp] at bs ⊢
    clear hsp
    refine i_join (fun σ' H'' => H'' = H' ∧ ∃ b : Int, σ' = [some (.ref a), some (.ref np), some (.int (k : Int)), some (.ref wp), some (.int (m : Int)), some (.str d.word), some (.ref D), some (.int (i : Int)), some (.int b), some (.int (spot : Int))] ∧ 0 ≤ b ∧ b ≤ 6 ∧ (b = 0 → spot < k)) ?_ ?_
    · walk_at "rd"
      refine i_iteI (fun h0 => ?_) (fun h0 => ?_)
      · walk_at "rd"
        refine i_iteD (fun h1 => ?_) (fun h1 => ?_)
        · walk_at "rd"
          have b6 := mod_b ((m : Int) / 100) (show (0 : Int) < 6 by decide)
          exact ⟨rfl, _, rfl, by omega, by omega, by omega⟩
        · walk_at "rd"
          exact ⟨rfl, _, rfl, by omega, by omega, by omega⟩
      · walk_at "rd"
        exact ⟨rfl, _, rfl, by omega, by omega, fun z => absurd z h0⟩
    rintro σ' H'' ⟨rfl, b, rfl, b0, b1, b2⟩
    walk_at "rd"
    refine i_join (fun σ' H2' => ∃ (rs' : List Rd) (vs' : List V), σ' = [some (.ref a), some (.ref np), some (.int (k : Int)), some (.ref wp), some (.int (m : Int)), some (.str d.word), some (.ref D), some (.int (i : Int)), some (.int b), some (.int (spot : Int))] ∧ rs'.length = i + 1 ∧ H2' D = some (.lst vs') ∧ Same H H2' ∧ RdsAt H2' rs' vs' ∧ ∀ rd ∈ rs', RdOk zs k rd) ?_ ?_
    · have hDn : H D = none := hN1.free
      walk_at "rd"
      refine i_iteI (fun h0 => ?_) (fun h0 => ?_)
      · walk_at "rd"
        refine ⟨.inl ⟨rfl, _, sqL_inj_of hD⟩, ?_⟩
        walk_at "rd"
        refine i_mul (IntMulOk.of_left (by decide)) ?_
        walk_at "rd"
        refine ⟨a, ns, 16 + 3 * k + i, rfl, s3.seq hS, fun c => ?_⟩
        walk_at "rd"
        refine i_append hD (by omega) ?_
        have b60 := mod_b c (show (0 : Int) < 10 ^ (60 : Int).toNat by decide +kernel)
        generalize c % 10 ^ (60 : Int).toNat = v at *
        refine ⟨rs ++ [.num v], vs ++ [.int v], rfl, by rw [List.length_append, hrl]; rfl, upd_same, fun b' u e => ?_, RdsAt.snoc (r := .num v) (v := .int v) (hrs.app hD) rfl, mem_snoc (r := .num v) hok ⟨b60.1, b60.2⟩⟩
        rw [upd_ne (ne_of_none e hDn)]; exact s3 _ _ e
      · walk_at "rd"
        refine ⟨.inl ⟨rfl, _, sqL_inj_of hD⟩, ?_⟩
        walk_at "rd"
        obtain ⟨z, hz, hza⟩ := at_str (zs := zs) (j := spot) (by omega)
        refine i_ixL (sqL_inj_of (s3 _ _ hnp)) hza ?_
        walk_at "rd"
        refine ⟨by show 2 ≤ sizeLine; decide, fun t H3 hN3 => ?_⟩
        walk_at "rd"
        have hD3 := hN3.same _ _ hD
        refine i_append hD3 (by omega) ?_
        have hrd : RdAt H3 (.back z b) (.ref t) := ⟨t, rfl, hN3.at⟩
        have hrd' : RdAt (upd H3 D (.lst (vs ++ [.ref t]))) (.back z b) (.ref t) := by
          have h1 := hrd.hide hD3
          rw [← hide_upd D H3 (.lst (vs ++ [.ref t]))] at h1
          exact h1.same (hide_same D _)
        refine ⟨rs ++ [.back z b], vs ++ [.ref t], rfl, by rw [List.length_append, hrl]; rfl, upd_same, fun b' u e => ?_, RdsAt.snoc ((hrs.same hN3.same).app hD3) hrd', mem_snoc (r := .back z b) hok ⟨spot, hz, b0, b1, b2⟩⟩
        rw [upd_ne (ne_of_none e hDn)]; exact hN3.same _ _ (s3 _ _ e)
    rintro σ' H2' ⟨rs', vs', rfl, h1, h2, h3, h4, h5⟩
    walk_at "rd"
    exact ⟨m / 10000, rs', vs', _, _, _, rfl, h1, h2, h3, h4, h5⟩
  · rintro σ H' ⟨m, rs, vs, x7, x8, x9, rfl, hrl, hD, s3, hrs, hok⟩
    walk_at "rd"
    obtain ⟨z, hz, hza⟩ := at_str hk
    refine i_ixL (sqL_inj_of (s3 _ _ hnp)) hza ?_
    walk_at "rd"
    refine i_tupleAL (sqL_inj_of hD) fun p1 H3 hN3 => ?_
    walk_at "rd"
    refine ⟨by show 3 ≤ sizeLine; decide, fun p2 H4 hN4 => ?_⟩
    exact q ⟨z, d, rs⟩ _ _ ((s3.trans hN3.same).trans hN4.same) ⟨p1, p2, vs, rfl, hN4.at, hN4.same _ _ hN3.at, (hrs.same hN3.same).same hN4.same⟩ ⟨hz, hrl, hok⟩
theorem pick_list {α β : Type} : ∀ (ys : List β) (P : Nat → α → β → Prop), (∀ (i : Nat) y, ys[i]? = some y → ∃ r, P i r y) → ∃ rs : List α, rs.length = ys.length ∧ ∀ (i : Nat) r y, rs[i]? = some r → ys[i]? = some y → P i r y
  | [], _, _ => ⟨[], rfl, fun i r y e => by simp at e⟩
  | y :: ys, P, h => by
    obtain ⟨r, hr⟩ := h 0 y rfl
    obtain ⟨rs, hl, hP⟩ := pick_list ys (fun i => P (i + 1)) (fun i y' e => h (i + 1) y' e)
    refine ⟨r :: rs, by simp [hl], fun i r' y' e1 e2 => ?_⟩
    cases i with
    | zero => cases e1; cases e2; exact hr
    | succ i => exact hP i r' y' e1 e2
structure RowsAt (H : Hp) (rs : List Row) (us : List V) : Prop where
  len : rs.length = us.length
  at_ : ∀ (i : Nat) r u, rs[i]? = some r → us[i]? = some u → RowAt H r u
theorem RowsAt.same {H H' : Hp} {rs : List Row} {us : List V} (s : Same H H') (h : RowsAt H rs us) : RowsAt H' rs us := ⟨h.len, fun i r u e1 e2 => (h.at_ i r u e1 e2).same s⟩
structure RowsOk (zs : List Str) (rs : List Row) : Prop where
  names : NamesOk zs
  len : rs.length = zs.length
  at_ : ∀ (i : Nat) r, rs[i]? = some r → RowOk zs i r
def spRows (K : PySem.W.Frag) : Sp := fun vs H Q _ => ∃ (a : Addr) (ns : List Int) (many : Nat), vs = [.ref a, .int (many : Int)] ∧ SqL K H a (ns.map V.int) ∧ many ≤ 12 ∧
  ∀ p H2 zs rs us, Same H H2 → H2 p = some (.lst us) → RowsAt H2 rs us → RowsOk zs rs → rs.length = many → Q (.ref p) H2
theorem d_rows (T : Txt K mg C CE) (Kb : K.In base) (G : base.Ns mainGlobals mg) : Df P w K mg base 3 "_law_rows" ["_law_script", "_law_many"] (spRows K) := by
  have D_law_names : Df P w K mg base 2 "_law_names" ["_law_script", "_law_many"] (spNames K) := d_names T Kb G
  have D_law_row : Df P w K mg base 2 "_law_row" ["_law_script", "_law_names_here", "_law_at", "_law_words"] (spRow K) := d_row T Kb G
  refine T.f_rows.df Kb G sc_law_rows (fun _ _ _ _ _ _ us hl => match us, hl with | [_, _], _ => rfl) (by rintro vs H Q E ⟨a, ns, many, rfl, _⟩; rfl) (fun f cdv A outer s H vs Q E hr h => ?_)
  obtain ⟨a, ns, many, rfl, hS, hm, q⟩ := h
  refine ⟨_, (pss_cons (ps_set (i := 2) sc_law_rows.nd rfl (by first | exact Or.inl rfl | exact Or.inr rfl) (pe_lstA (pa_cons pe_str (pa_cons pe_str (pa_cons pe_str (pa_cons pe_str (pa_cons pe_str (pa_cons pe_str (pa_cons pe_str (pa_cons pe_str (pa_cons pe_str pa_nil (se rfl)) (se rfl)) (se rfl)) (se rfl)) (se rfl)) (se rfl)) (se rfl)) (se rfl)) (se rfl))))
    (pss_cons (ps_set (i := 3) sc_law_rows.nd rfl (by first | exact Or.inl rfl | exact Or.inr rfl) (pe_callD D_law_names (hr.mono (by decide)) rfl (pa_cons (pv 0) (pa_cons (pv 1) pa_nil (se rfl)) (se rfl)) (he := se rfl) (hpl := nst rfl)))
    (pss_one (ps_ret (pe_lc (Blk.of (caps := ["_law_script", "_law_names_here", "_law_words"]) (ix := [0, 3, 2]) rfl) rfl (pi_range1 rfl T.nrange (pa_cons (pv 1) pa_nil (se rfl))) (fun _ _ _ _ => pf_nil) (fun _ _ _ _ => (pe_callD D_law_row (hr.mono (by decide)) rfl (pa_cons (pv 1) (pa_cons (pv 2) (pa_cons (pv 0) (pa_cons (pv 3) pa_nil (se rfl)) (se rfl)) (se rfl)) (se rfl)) (he := se rfl) (hpl := nst rfl)))))))), ?_⟩
  walk_at "rd"
  refine ⟨by show 9 ≤ sizeLine; decide, fun wp H1 hN1 => ?_⟩
  walk_at "rd"
  refine ⟨a, ns, many, rfl, hN1.same.seq hS, hm, fun np H2 zs s2 hnp hzs hzl => ?_⟩
  walk_at "rd"
  refine i_lc (i_rng1 ?_)
  walk_at "rd"
  refine ⟨_, rfl, by omega, by omega, ?_⟩
  rw [Int.toNat_natCast]
  have lb := line_big
  have t2 := hN1.same.trans s2
  refine lcN LcIt.rng (fun D i y H' => ∃ r, RowOk zs i r ∧ RowAt (hide D H') r y) (by omega) (fun D i y H' H'' s h => ?_) (fun D i H' R hi hD hy s r => ?_) (fun D ys H' hD s hHD hyl hP => ?_)
  · obtain ⟨r, h1, h2⟩ := h
    exact ⟨r, h1, h2.same (hide_sameB s)⟩
  · obtain ⟨ys, hy⟩ := hy
    walk_at "rd"
    refine ⟨a, np, wp, ns, zs, i, by rw [Int.zero_add]; rfl, (t2.trans s).seq hS, s _ _ hnp, s _ _ (s2 _ _ hN1.at), hzs, by omega, fun rw v H'' s'' hrow hok => ?_⟩
    exact r v H'' s'' ⟨rw, hok, hrow.hide (s'' _ _ hy)⟩
  · obtain ⟨rs, hrl, hrs⟩ := pick_list ys (fun i r y => RowOk zs i r ∧ RowAt (hide D H') r y) hP
    refine q D H' zs rs ys (t2.trans s) hHD ⟨hrl, fun i r u e1 e2 => (hrs i r u e1 e2).2.same (hide_same D H')⟩ ⟨hzs, by omega, fun i r e => ?_⟩ (by omega)
    have hi : i < ys.length := by rw [← hrl]; exact (List.getElem?_eq_some_iff.mp e).1
    exact (hrs i r ys[i] e (List.getElem?_eq_getElem hi)).1
def spMeasure (K : PySem.W.Frag) : Sp := fun vs H Q _ => ∃ (a : Addr) (ns : List Int), vs = [.ref a] ∧ SqL K H a (ns.map V.int) ∧ ∀ m : Int, 2 ≤ m → m ≤ 10 ^ (60 : Int).toNat → Q (.int m) H
theorem d_measure (T : Txt K mg C CE) (Kb : K.In base) (G : base.Ns mainGlobals mg) : Df P w K mg base 2 "_law_measure" ["_law_script"] (spMeasure K) := by
  have D_law_cell_at : Df P w K mg base 1 "_law_cell_at" ["_law_script", "_law_k"] (spCell K) := d_cell T Kb G
  have D_law_mix : Df P w K mg base 1 "_law_mix" ["_law_cell", "_law_k"] spMix := d_mix T Kb G
  refine T.f_measure.df Kb G sc_law_measure (fun _ _ _ _ _ _ us hl => match us, hl with | [_], _ => rfl) (by rintro vs H Q E ⟨a, ns, rfl, _⟩; rfl) (fun f cdv A outer s H vs Q E hr h => ?_)
  obtain ⟨a, ns, rfl, hS, q⟩ := h
  refine ⟨_, (pss_cons (ps_set (i := 1) sc_law_measure.nd rfl (by first | exact Or.inl rfl | exact Or.inr rfl) (pe_callD D_law_mix (hr.mono (by decide)) rfl (pa_cons (pe_callD D_law_cell_at (hr.mono (by decide)) rfl (pa_cons (pv 0) (pa_cons pe_int pa_nil (se rfl)) (se rfl)) (he := se rfl) (hpl := nst rfl)) (pa_cons pe_int pa_nil (se rfl)) (se rfl)) (he := se rfl) (hpl := nst rfl)))
    (pss_cons (ps_if (pt_cmpR op_eq (pe_op op_mod (pv 1) pe_int) pe_int (nomark _)) (pss_one (ps_ret (pe_op op_add pe_int (pe_op op_mod (pe_op op_fdiv (pv 1) pe_int) pe_int)))) pss_nil)
    (pss_one (ps_ret (pe_op op_add pe_int (pe_op op_mod (pe_callD D_law_cell_at (hr.mono (by decide)) rfl (pa_cons (pv 0) (pa_cons pe_int pa_nil (se rfl)) (se rfl)) (he := se rfl) (hpl := nst rfl)) (pe_op op_sub (pe_op op_pow pe_int pe_int) pe_int))))))), ?_⟩
  walk_at "rd"
  refine ⟨a, ns, 2, rfl, hS, fun c => ?_⟩
  walk_at "rd"
  refine ⟨c, 2, rfl, by decide, fun n => ?_⟩
  walk_at "rd"
  have e60 : (1000 : Int) ≤ 10 ^ (60 : Int).toNat := by decide +kernel
  have p60 : (0 : Int) < 10 ^ (60 : Int).toNat - 1 := by omega
  refine i_iteI (fun _ => ?_) (fun _ => ?_)
  · clear e60 p60
    walk_at "rd"
    have b := mod_b ((n : Int) / 3) (show (0 : Int) < 30 by decide)
    have e60 : (1000 : Int) ≤ 10 ^ (60 : Int).toNat := by decide +kernel
    exact q _ (by omega) (by omega)
  · clear e60
    walk_at "rd"
    refine ⟨a, ns, 2, rfl, hS, fun c => ?_⟩
    walk_at "rd"
    have b := mod_b c p60
    generalize c % (10 ^ (60 : Int).toNat - 1) = r at *
    exact q _ (by omega) (by omega)
def rdDV : Rd → DV
  | .num i => .f (.int i)
  | .back z b => .t [.f (.str z), .f (.int b)]
theorem drels_of {K : PySem.W.Frag} {H : Hp} : ∀ (ds : List DV) (xs : List V), ds.length = xs.length → (∀ (i : Nat) d x, ds[i]? = some d → xs[i]? = some x → DRel K H d x) → DRels K H ds xs
  | [], [], _, _ => by simp only [DRels]
  | d :: ds, x :: xs, hl, h => by
    simp only [DRels]
    exact ⟨h 0 d x rfl rfl, drels_of ds xs (by simpa using hl) fun i d' x' e1 e2 => h (i + 1) d' x' e1 e2⟩
  | [], _ :: _, hl, _ => by simp at hl
  | _ :: _, [], hl, _ => by simp at hl
theorem at_v {us : List V} {i : Nat} (h : i < us.length) : atI us (i : Int) = some us[i] := atI_nat (List.getElem?_eq_getElem h)
theorem max_of (a b : Int) : (if b > a then b else a) = max a b := by split <;> omega
def deepR (z : Str) (acc : Int) : Rd → Int
  | .num _ => acc
  | .back y b => if y = z then max acc b else acc
def deepRow (z : Str) (acc : Int) (r : Row) : Int := r.reads.foldl (deepR z) acc
def deep (rs : List Row) (z : Str) : Int := rs.foldl (deepRow z) 0
theorem fold_next {α β : Type} (f : β → α → β) (b : β) {l : List α} {i : Nat} {x : α} (h : l[i]? = some x) : (l.take (i + 1)).foldl f b = f ((l.take i).foldl f b) x := by
  rw [List.take_add_one, h, List.foldl_append]; rfl
def spDeepest : Sp := fun vs H Q _ => ∃ (p : Addr) (us : List V) (rs : List Row) (z : Str), vs = [.ref p, .str z] ∧ H p = some (.lst us) ∧ RowsAt H rs us ∧ Q (.int (deep rs z)) H
theorem d_deepest (T : Txt K mg C CE) (Kb : K.In base) (G : base.Ns mainGlobals mg) : Df P w K mg base 1 "_law_deepest" ["_law_rows_here", "_law_name"] spDeepest := by
  refine T.f_deepest.df Kb G sc_law_deepest (fun _ _ _ _ _ _ us hl => match us, hl with | [_, _], _ => rfl) (by rintro vs H Q E ⟨p, us, rs, z, rfl, _⟩; rfl) (fun f cdv A outer s H vs Q E hr h => ?_)
  obtain ⟨p, us, rs, z, rfl, hp, hu, q⟩ := h
  refine ⟨_, (pss_cons (ps_set (i := 2) sc_law_deepest.nd rfl (by first | exact Or.inl rfl | exact Or.inr rfl) pe_int)
    (pss_cons (ps_for PassesOwn.never rfl (pi_list (pv 0)) (pg_name (i := 3) sc_law_deepest.nd rfl (Or.inl rfl))
      (pss_one (ps_for PassesOwn.never rfl (pi_tup (pe_ix ix_seq (pv 3) pe_int (fun _ _ => rfl))) (pg_name (i := 4) sc_law_deepest.nd rfl (Or.inl rfl))
      (pss_one (ps_join (ps_if (PW.pt (pw_and (pt_val (pe_callB call_isi rfl T.nisi PyProof.Rows.boot_isinstance (pa_cons (pv 4) (pa_cons (pe_bltn (v := .ty "tuple") rfl T.ntuple PyProof.Rows.boot_tuple rfl) pa_nil (se rfl)) (se rfl)) (he := se rfl) (hpl := nst rfl))) (pw_and1 (pt_cmpR op_eq (pe_ix ix_seq (pv 4) pe_int (fun _ _ => rfl)) (pv 1) (nomark _))))) (pss_one (ps_set (i := 2) sc_law_deepest.nd rfl (by first | exact Or.inl rfl | exact Or.inr rfl) (pe_callB (call_max2 rfl) rfl T.nmax PyProof.Rows.boot_max (pa_cons (pv 2) (pa_cons (pe_ix ix_seq (pv 4) pe_int (fun _ _ => rfl)) pa_nil (se rfl)) (se rfl)) (he := se rfl) (hpl := nst rfl)))) pss_nil))))))
    (pss_one (ps_ret (pv 2))))), ?_⟩
  have l1 := hu.len
  walk_at "rd"
  refine i_for (i_list ?_)
  walk_at "rd"
  refine ⟨p, rfl, ⟨us, sqL_inj_of hp⟩, ?_⟩
  refine for_list (xs := us) (fun i σ H' => H' = H ∧ ∃ x3 x4, σ = [some (.ref p), some (.str z), some (.int ((rs.take i).foldl (deepRow z) 0)), x3, x4]) ⟨rfl, none, none, rfl⟩ (fun i σ H' _ h => by rw [h.1]; exact sqL_inj_of hp) ?_ ?_
  · rintro i u σ H' hui ⟨rfl, x3, x4, rfl⟩
    have hir : i < rs.length := by rw [l1]; exact (List.getElem?_eq_some_iff.mp hui).1
    have hri := List.getElem?_eq_getElem hir
    have r1 := hu.at_ i rs[i] u hri hui
    rw [fold_next (deepRow z) 0 hri]
    generalize rs[i] = rw at *
    generalize (rs.take i).foldl (deepRow z) 0 = acc at *
    obtain ⟨p1, p2, vs, rfl, h1, h2, h3⟩ := r1
    walk_at "rd"
    refine i_for (i_tupI ?_)
    walk_at "rd"
    refine i_ixT (.inl (.inl h1)) (show atI _ 2 = some (.ref p1) from rfl) ?_
    refine ⟨p1, rfl, ⟨vs, .inl (.inl h2)⟩, ?_⟩
    have l3 := h3.len
    refine for_tup (xs := vs) (fun j σ H2 => H2 = H' ∧ ∃ x4, σ = [some (.ref p), some (.str z), some (.int ((rw.reads.take j).foldl (deepR z) acc)), some (.ref p2), x4]) ⟨rfl, x4, rfl⟩ (fun j σ H2 _ h => by rw [h.1]; exact .inl (.inl h2)) ?_ ?_
    · rintro j v σ H2 hvj ⟨rfl, x4, rfl⟩
      have hjr : j < rw.reads.length := by rw [l3]; exact (List.getElem?_eq_some_iff.mp hvj).1
      have hrj := List.getElem?_eq_getElem hjr
      have r3 := h3.at_ j rw.reads[j] v hrj hvj
      rw [fold_next (deepR z) acc hrj]
      generalize rw.reads[j] = rd at *
      generalize (rw.reads.take j).foldl (deepR z) acc = ac at *
      walk_at "rd"
      refine i_join (fun σ' H' => H' = H2 ∧ σ' = [some (.ref p), some (.str z), some (.int (deepR z ac rd)), some (.ref p2), some v]) ?_ (fun σ' H' ⟨e1, e2⟩ => ⟨e1, _, e2⟩)
      cases rd with
      | num i =>
        have e : v = .int i := r3
        subst e
        walk_at "rd"
        refine ⟨_, _, _, _, rfl, rfl, .int i, T.kIT, ?_⟩
        walk_at "rd"
        exact ⟨rfl, rfl⟩
      | back y b =>
        obtain ⟨t, rfl, ht⟩ := r3
        walk_at "rd"
        refine i_isiT ht T.kTT ?_
        walk_at "rd"
        refine i_ixT (.inl (.inl ht)) (show atI _ 0 = some (.str y) from rfl) ?_
        walk_at "rd"
        by_cases hyz : y = z
        · refine i_iteSe hyz ?_
          walk_at "rd"
          refine i_ixT (.inl (.inl ht)) (show atI _ 1 = some (.int b) from rfl) ?_
          walk_at "rd"
          refine ⟨ac, b, rfl, ?_⟩
          rw [max_of]
          walk_at "rd"
          exact ⟨rfl, by simp [deepR, hyz]⟩
        · refine i_iteSf hyz ?_
          walk_at "rd"
          exact ⟨rfl, by simp [deepR, hyz]⟩
    · rintro σ H2 ⟨rfl, x4, rfl⟩
      refine ⟨rfl, some (.ref p2), x4, ?_⟩
      rw [← l3, List.take_length]; rfl
  · rintro σ H' ⟨rfl, x3, x4, rfl⟩
    walk_at "rd"
    rw [← l1, List.take_length]
    exact q
theorem in_let (c : Nat) (h : 97 ≤ c ∧ c ≤ 122) : c ∈ (Str.ofString "abcdefghijklmnopqrstuvwxyz").cps.toList := by
  have e : ∀ j, j < 26 → 97 + j ∈ (Str.ofString "abcdefghijklmnopqrstuvwxyz").cps.toList := by decide +kernel
  have := e (c - 97) (by omega)
  rwa [show 97 + (c - 97) = c by omega] at this
def spIsName : Sp := fun vs H Q _ => ∃ z : Str, vs = [.str z] ∧ 1 ≤ z.length ∧ z.length ≤ 12 ∧ Lo z ∧ ∀ H2, Same H H2 → Q (.bl true) H2
def spIsLet : Sp := fun vs H Q _ => ∃ z : Str, vs = [.str z] ∧ 1 ≤ z.length ∧ z.length ≤ 12 ∧ Lo z ∧ ∀ H2, Same H H2 → Q (.bl true) H2
theorem d_islet (T : Txt K mg C CE) (Kb : K.In base) (G : base.Ns mainGlobals mg) : Df P w K mg base 1 "is_lettered" ["text"] spIsLet := by
  refine T.f_islet.df Kb G sc_is_lettered (fun _ _ _ _ _ _ us hl => match us, hl with | [_], _ => rfl) (by rintro vs H Q E ⟨z, rfl, _⟩; rfl) (fun f cdv A outer s H vs Q E hr h => ?_)
  obtain ⟨z, rfl, h1, h2, hL, q⟩ := h
  refine ⟨_, (pss_one (ps_ret (pe_and (pe_cmpR op_gt (pe_callB call_lenS rfl T.nlen PySem.boot_len (pa_cons (pv 0) pa_nil (se rfl)) (he := se rfl) (hpl := nst rfl)) pe_int (nomark _)) (pe_one (pe_callB (call_all rfl) rfl T.nall PyProof.Rows.boot_all (pa_cons (pe_lc (Blk.of (caps := []) (ix := []) rfl) rfl (pi_str (pv 0)) (fun _ _ _ _ => pf_nil) (fun _ _ _ _ => (pe_cmpR op_inS (pv 0) (pe_val T.v_LETTERS rfl) (by with_unfolding_all rfl)))) pa_nil (se rfl)) (he := se rfl) (hpl := nst rfl)))))), ?_⟩
  have lb := line_big
  walk_at "rd"
  refine i_lenS (by omega) ?_
  walk_at "rd"
  refine i_iteDt (by omega) ?_
  walk_at "rd"
  refine i_lc (i_strI ?_)
  walk_at "rd"
  refine lcS z (fun c => .bl (decide (c ∈ (Str.ofString "abcdefghijklmnopqrstuvwxyz").cps.toList))) (by omega) (fun c H' R hc s r => ?_) (fun D H2 hN => ?_)
  · walk_at "rd"
    exact r
  · have e : z.cps.toList.map (fun c => V.bl (decide (c ∈ (Str.ofString "abcdefghijklmnopqrstuvwxyz").cps.toList))) = List.map V.bl (z.cps.toList.map fun c => decide (c ∈ (Str.ofString "abcdefghijklmnopqrstuvwxyz").cps.toList)) := by rw [List.map_map]; rfl
    rw [e] at hN
    walk_at "rd"
    refine i_all hN.lst ?_
    have ea : (z.cps.toList.map fun c => decide (c ∈ (Str.ofString "abcdefghijklmnopqrstuvwxyz").cps.toList)).all id = true := by
      rw [List.all_map, List.all_eq_true]
      intro c hc
      exact decide_eq_true (in_let c (hL c hc))
    rw [ea]
    exact q _ hN.same
theorem d_isname (T : Txt K mg C CE) (Kb : K.In base) (G : base.Ns mainGlobals mg) : Df P w K mg base 2 "is_name" ["text"] spIsName := by
  have Dis_lettered : Df P w K mg base 1 "is_lettered" ["text"] spIsLet := d_islet T Kb G
  refine T.f_isname.df Kb G sc_is_name (fun _ _ _ _ _ _ us hl => match us, hl with | [_], _ => rfl) (by rintro vs H Q E ⟨z, rfl, _⟩; rfl) (fun f cdv A outer s H vs Q E hr h => ?_)
  obtain ⟨z, rfl, h1, h2, hL, q⟩ := h
  refine ⟨_, (pss_one (ps_ret (pe_and (pe_callD Dis_lettered (hr.mono (by decide)) rfl (pa_cons (pv 0) pa_nil (se rfl)) (he := se rfl) (hpl := nst rfl)) (pe_one (pe_cmpR op_le (pe_callB call_lenS rfl T.nlen PySem.boot_len (pa_cons (pv 0) pa_nil (se rfl)) (he := se rfl) (hpl := nst rfl)) (pe_val T.v_MOST_LETTERS rfl) (nomark _)))))), ?_⟩
  have lb := line_big
  walk_at "rd"
  refine ⟨z, rfl, h1, h2, hL, fun H1 s1 => ?_⟩
  walk_at "rd"
  refine i_lenS (by omega) ?_
  walk_at "rd"
  rw [decide_eq_true (show (z.length : Int) ≤ 12 by omega)]
  exact q _ s1
def spCMeas : Sp := fun vs H Q _ => ∃ m : Int, vs = [.int m] ∧ 2 ≤ m ∧ m ≤ 10 ^ (60 : Int).toNat ∧ Q .non H
theorem d_cmeas (T : Txt K mg C CE) (Kb : K.In base) (G : base.Ns mainGlobals mg) : Df P w K mg base 1 "check_measure" ["measure"] spCMeas := by
  refine T.f_cmeas.df Kb G sc_check_measure (fun _ _ _ _ _ _ us hl => match us, hl with | [_], _ => rfl) (by rintro vs H Q E ⟨m, rfl, _⟩; rfl) (fun f cdv A outer s H vs Q E hr h => ?_)
  obtain ⟨m, rfl, h1, h2, q⟩ := h
  refine ⟨_, (pss_one (ps_if (pt_not (pt_chain op_le op_le pe_int (pv 0) (pe_op op_pow pe_int pe_int))) (pss_one ps_never) pss_nil)), ?_⟩
  walk_at "rd"
  refine i_iteDt h1 ?_
  walk_at "rd"
  rw [decide_eq_true h2]
  walk_at "rd"
  exact q
def spCNum : Sp := fun vs H Q _ => ∃ i : Int, vs = [.int i] ∧ 0 ≤ i ∧ i < 10 ^ (60 : Int).toNat ∧ Q .non H
theorem d_cnum (T : Txt K mg C CE) (Kb : K.In base) (G : base.Ns mainGlobals mg) : Df P w K mg base 1 "check_number" ["number"] spCNum := by
  refine T.f_cnum.df Kb G sc_check_number (fun _ _ _ _ _ _ us hl => match us, hl with | [_], _ => rfl) (by rintro vs H Q E ⟨m, rfl, _⟩; rfl) (fun f cdv A outer s H vs Q E hr h => ?_)
  obtain ⟨m, rfl, h1, h2, q⟩ := h
  refine ⟨_, (pss_one (ps_if (pt_not (pt_chain op_le op_lt pe_int (pv 0) (pe_op op_pow pe_int pe_int))) (pss_one ps_never) pss_nil)), ?_⟩
  walk_at "rd"
  refine i_iteDt h1 ?_
  walk_at "rd"
  rw [decide_eq_true h2]
  walk_at "rd"
  exact q
theorem inV_mem {z : Str} {zs : List Str} (h : z ∈ zs) : inV (.str z) (List.map V.str zs) = true := by
  refine List.any_eq_true.mpr ⟨.str z, List.mem_map.mpr ⟨z, h, rfl⟩, ?_⟩
  show (z == z) = true
  exact beq_self_eq_true _
theorem inV_not {z : Str} {zs : List Str} (h : ¬ z ∈ zs) : inV (.str z) (List.map V.str zs) = false := by
  refine Bool.eq_false_iff.mpr fun e => h ?_
  obtain ⟨y, hy, e⟩ := List.any_eq_true.mp e
  obtain ⟨x, hx, rfl⟩ := List.mem_map.mp hy
  have e' : (x == z) = true := e
  rw [← beq_iff_eq.mp e']; exact hx
theorem flat_strs (zs : List Str) : (List.map V.str zs).all flatV = true := by rw [List.all_map]; exact List.all_eq_true.mpr fun _ _ => rfl
def spCLook : Sp := fun vs H Q _ => ∃ (z : Str) (b : Int) (np ap : Addr) (zs as : List Str), vs = [.str z, .int b, .ref np, .ref ap] ∧ H np = some (.lst (List.map V.str zs)) ∧ H ap = some (.lst (List.map V.str as)) ∧ z ∈ zs ∧ 0 ≤ b ∧ b ≤ 6 ∧ (b = 0 → z ∈ as) ∧ Q .non H
theorem d_clook (T : Txt K mg C CE) (Kb : K.In base) (G : base.Ns mainGlobals mg) : Df P w K mg base 1 "check_look_back" ["name", "back", "names", "above"] spCLook := by
  refine T.f_clook.df Kb G sc_check_look_back (fun _ _ _ _ _ _ us hl => match us, hl with | [_, _, _, _], _ => rfl) (by rintro vs H Q E ⟨z, b, np, ap, zs, as, rfl, _⟩; rfl) (fun f cdv A outer s H vs Q E hr h => ?_)
  obtain ⟨z, b, np, ap, zs, as, rfl, hnp, hap, hz, b0, b6, ha, q⟩ := h
  refine ⟨_, (pss_cons (ps_if (pt_cmpR op_notIn_seq (pv 0) (pv 2) (by with_unfolding_all rfl)) (pss_one ps_never) pss_nil)
    (pss_cons (ps_if (pt_not (pt_chain op_le op_le pe_int (pv 1) (pe_val T.v_MOST_BACK rfl))) (pss_one ps_never) pss_nil)
    (pss_one (ps_if (PW.pt (pw_and (pt_cmpR op_eq (pv 1) pe_int (nomark _)) (pw_and1 (pt_cmpR op_notIn_seq (pv 0) (pv 3) (by with_unfolding_all rfl))))) (pss_one ps_never) pss_nil)))), ?_⟩
  walk_at "rd"
  refine i_ninL (sqL_inj_of hnp) rfl (flat_strs zs) ?_
  rw [inV_mem hz]
  walk_at "rd"
  refine i_iteDt b0 ?_
  walk_at "rd"
  rw [decide_eq_true b6]
  walk_at "rd"
  refine i_iteI (fun h0 => ?_) (fun h0 => ?_)
  · walk_at "rd"
    refine i_ninL (sqL_inj_of hap) rfl (flat_strs as) ?_
    rw [inV_mem (ha h0)]
    walk_at "rd"
    exact q
  · walk_at "rd"
    exact q
def spCRead : Sp := fun vs H Q _ => ∃ (v : V) (np ap : Addr) (zs : List Str) (k : Nat) (rd : Rd), vs = [v, .ref np, .ref ap] ∧ H np = some (.lst (List.map V.str zs)) ∧ H ap = some (.lst (List.map V.str (zs.take k))) ∧ RdAt H rd v ∧ RdOk zs k rd ∧ Q .non H
theorem d_cread (T : Txt K mg C CE) (Kb : K.In base) (G : base.Ns mainGlobals mg) : Df P w K mg base 2 "check_read" ["read", "names", "above"] spCRead := by
  have Dcheck_number : Df P w K mg base 1 "check_number" ["number"] spCNum := d_cnum T Kb G
  have Dcheck_look_back : Df P w K mg base 1 "check_look_back" ["name", "back", "names", "above"] spCLook := d_clook T Kb G
  refine T.f_cread.df Kb G sc_check_read (fun _ _ _ _ _ _ us hl => match us, hl with | [_, _, _], _ => rfl) (by rintro vs H Q E ⟨v, np, ap, zs, k, rd, rfl, _⟩; rfl) (fun f cdv A outer s H vs Q E hr h => ?_)
  obtain ⟨v, np, ap, zs, k, rd, rfl, hnp, hap, hrd, hok, q⟩ := h
  refine ⟨_, (pss_one (ps_if (pt_val (pe_callB call_isi rfl T.nisi PyProof.Rows.boot_isinstance (pa_cons (pv 0) (pa_cons (pe_bltn (v := .ty "int") rfl T.nint PyProof.Rows.boot_int rfl) pa_nil (se rfl)) (se rfl)) (he := se rfl) (hpl := nst rfl))) (pss_one (ps_expr (pe_callD Dcheck_number (hr.mono (by decide)) rfl (pa_cons (pv 0) pa_nil (se rfl)) (he := se rfl) (hpl := nst rfl)))) (pss_one (ps_expr (pe_callD Dcheck_look_back (hr.mono (by decide)) rfl (pa_cons (pe_ix ix_seq (pv 0) pe_int (fun _ _ => rfl)) (pa_cons (pe_ix ix_seq (pv 0) pe_int (fun _ _ => rfl)) (pa_cons (pv 1) (pa_cons (pv 2) pa_nil (se rfl)) (se rfl)) (se rfl)) (se rfl)) (he := se rfl) (hpl := nst rfl)))))), ?_⟩
  cases rd with
  | num i =>
    have e : v = .int i := hrd
    subst e
    walk_at "rd"
    refine i_isiI T.kII ?_
    walk_at "rd"
    refine ⟨i, rfl, hok.1, hok.2, ?_⟩
    walk_at "rd"
    exact q
  | back z b =>
    obtain ⟨t, rfl, ht⟩ := hrd
    obtain ⟨j, hj, b0, b6, bk⟩ := hok
    walk_at "rd"
    refine i_isiT ht T.kTI ?_
    walk_at "rd"
    refine i_ixT (.inl (.inl ht)) (show atI _ 0 = some (.str z) from rfl) ?_
    walk_at "rd"
    refine i_ixT (.inl (.inl ht)) (show atI _ 1 = some (.int b) from rfl) ?_
    walk_at "rd"
    refine ⟨z, b, np, ap, zs, zs.take k, rfl, hnp, hap, List.mem_iff_getElem?.mpr ⟨j, hj⟩, b0, b6, fun h0 => List.mem_iff_getElem?.mpr ⟨j, by rw [List.getElem?_take_of_lt (bk h0)]; exact hj⟩, ?_⟩
    walk_at "rd"
    exact q
def spCHead : Sp := fun vs H Q _ => ∃ (z : Str) (d : Dk) (p1 ap : Addr) (us : List V) (as : List Str), vs = [.str z, .str d.word, .ref p1, .ref ap] ∧ 1 ≤ z.length ∧ z.length ≤ 12 ∧ Lo z ∧ H p1 = some (.tup us) ∧ us.length = d.wants ∧ H ap = some (.lst (List.map V.str as)) ∧ ¬ z ∈ as ∧ ∀ H2, Same H H2 → Q .non H2
theorem d_chead (T : Txt K mg C CE) (Kb : K.In base) (G : base.Ns mainGlobals mg) : Df P w K mg base 3 "check_head" ["name", "word", "reads", "above"] spCHead := by
  have Dis_name : Df P w K mg base 2 "is_name" ["text"] spIsName := d_isname T Kb G
  have Ddeed_of : Df P w K mg base 1 "deed_of" ["word"] (spDeedA C) := d_deed T Kb G
  have Mwants : MethI P w K mg base 1 "wants" ["self"] C spWants := m_wants T
  refine T.f_chead.df Kb G sc_check_head (fun _ _ _ _ _ _ us hl => match us, hl with | [_, _, _, _], _ => rfl) (by rintro vs H Q E ⟨z, d, p1, ap, us, as, rfl, _⟩; rfl) (fun f cdv A outer s H vs Q E hr h => ?_)
  obtain ⟨z, d, p1, ap, us, as, rfl, z1, z12, hL, hp1, hul, hap, hna, q⟩ := h
  refine ⟨_, (pss_cons (ps_if (pt_not (pt_val (pe_callD Dis_name (hr.mono (by decide)) rfl (pa_cons (pv 0) pa_nil (se rfl)) (he := se rfl) (hpl := nst rfl)))) (pss_one ps_never) pss_nil)
    (pss_cons (ps_if (pt_cmpR op_in_seq (pv 0) (pv 3) (by with_unfolding_all rfl)) (pss_one ps_never) pss_nil)
    (pss_one (ps_if (pt_cmpR op_ne (pe_callB call_len_seq rfl T.nlen PySem.boot_len (pa_cons (pv 2) pa_nil (se rfl)) (he := se rfl) (hpl := nst rfl)) (pe_methI0 Mwants (pe_callD Ddeed_of (hr.mono (by decide)) rfl (pa_cons (pv 1) pa_nil (se rfl)) (he := se rfl) (hpl := nst rfl)) (hr.mono (by decide))) (nomark _)) (pss_one ps_never) pss_nil)))), ?_⟩
  walk_at "rd"
  refine ⟨z, rfl, z1, z12, hL, fun H1 s1 => ?_⟩
  walk_at "rd"
  refine i_inL (sqL_inj_of (s1 _ _ hap)) rfl (flat_strs as) ?_
  rw [inV_not hna]
  walk_at "rd"
  refine ⟨_, _, rfl, .inr (.inl (.inl (s1 _ _ hp1))), ?_⟩
  walk_at "rd"
  refine i_methI ?_
  walk_at "rd"
  refine ⟨d, rfl, fun x dx H2 hN2 => ?_⟩
  refine ⟨d, x, dx, [], rfl, hN2.at, rfl, ?_⟩
  walk_at "rd"
  refine ⟨x, rfl, ?_⟩
  walk_at "rd"
  rw [decide_eq_true (show V.int (us.length : Int) = V.int (d.wants : Nat) by rw [hul])]
  walk_at "rd"
  exact q _ (s1.trans hN2.same)
theorem cutV_take (xs : List V) (k : Nat) : cutV xs none (some (k : Int)) = xs.take k := by
  unfold cutV
  have e1 : HT.sIx xs.length 0 none = 0 := rfl
  have e2 : HT.sIx xs.length xs.length (some (k : Int)) = min k xs.length := by
    show (if (k : Int) < 0 then ((k : Int) + (xs.length : Int)).toNat else min (k : Int).toNat xs.length) = _
    rw [if_neg (by omega)]; omega
  rw [e1, e2, List.drop_zero, Nat.sub_zero]
  by_cases h : k ≤ xs.length
  · rw [Nat.min_eq_left h]
  · rw [Nat.min_eq_right (by omega), List.take_length, List.take_of_length_le (by omega)]
theorem nd_names {zs : List Str} (h : NamesOk zs) {i : Nat} {z : Str} (hz : zs[i]? = some z) : ¬ z ∈ zs.take i := by
  obtain ⟨h12, place, n, hn⟩ := h
  intro hm
  obtain ⟨j, hj⟩ := List.mem_iff_getElem?.mp hm
  have hji : j < i := by
    have := (List.getElem?_eq_some_iff.mp hj).1
    rw [List.length_take] at this; omega
  rw [List.getElem?_take_of_lt hji] at hj
  have hi12 : i < zs.length := (List.getElem?_eq_some_iff.mp hz).1
  have a := (hn i z hz).2.2.2
  have b := (hn j z hj).2.2.2
  rw [a] at b
  have := Option.some.inj b
  omega
def TK (H H' : Hp) : Prop := ∀ b xs, H b = some (.tup xs) → H' b = some (.tup xs)
theorem TK.upd {H : Hp} {x : Addr} {o u : HO} (h : H x = some o) (n : ∀ xs, o ≠ .tup xs) : TK H (L2.upd H x u) := fun b xs e => by
  rw [upd_ne (fun z => by rw [z, h] at e; exact n xs (Option.some.inj e))]; exact e
theorem RdAt.keep {H H' : Hp} {r : Rd} {v : V} (s : TK H H') (h : RdAt H r v) : RdAt H' r v := by
  cases r with
  | num i => exact h
  | back z b => obtain ⟨a, e, q⟩ := h; exact ⟨a, e, s _ _ q⟩
theorem RowAt.keep {H H' : Hp} {r : Row} {v : V} (s : TK H H') (h : RowAt H r v) : RowAt H' r v := by
  obtain ⟨p1, p2, vs, e, h1, h2, h3⟩ := h
  exact ⟨p1, p2, vs, e, s _ _ h1, s _ _ h2, h3.len, fun i r v e1 e2 => (h3.at_ i r v e1 e2).keep s⟩
theorem RowsAt.keep {H H' : Hp} {rs : List Row} {us : List V} (s : TK H H') (h : RowsAt H rs us) : RowsAt H' rs us := ⟨h.len, fun i r u e1 e2 => (h.at_ i r u e1 e2).keep s⟩
def spCRows : Sp := fun vs H Q _ => ∃ (p : Addr) (us : List V) (zs : List Str) (rs : List Row), vs = [.ref p] ∧ H p = some (.lst us) ∧ RowsAt H rs us ∧ RowsOk zs rs ∧ 1 ≤ rs.length ∧ ∀ H2, Same H H2 → Q .non H2
theorem d_crows (T : Txt K mg C CE) (Kb : K.In base) (G : base.Ns mainGlobals mg) : Df P w K mg base 4 "check_rows" ["rows"] spCRows := by
  have Dcheck_head : Df P w K mg base 3 "check_head" ["name", "word", "reads", "above"] spCHead := d_chead T Kb G
  have Dcheck_read : Df P w K mg base 2 "check_read" ["read", "names", "above"] spCRead := d_cread T Kb G
  refine T.f_crows.df Kb G sc_check_rows (fun _ _ _ _ _ _ us hl => match us, hl with | [_], _ => rfl) (by rintro vs H Q E ⟨p, us, zs, rs, rfl, _⟩; rfl) (fun f cdv A outer s H vs Q E hr h => ?_)
  obtain ⟨p, us, zs, rs, rfl, hp, hu, hok, h1, q⟩ := h
  refine ⟨_, (pss_cons (ps_if (pt_not (pt_chain op_le op_le pe_int (pe_callB call_len_seq rfl T.nlen PySem.boot_len (pa_cons (pv 0) pa_nil (se rfl)) (he := se rfl) (hpl := nst rfl)) (pe_val T.v_MOST_ROWS rfl))) (pss_one ps_never) pss_nil)
    (pss_cons (ps_lc (i := 1) sc_check_rows.nd rfl rfl (by with_unfolding_all rfl) (Blk.of (caps := []) (ix := []) rfl) rfl (pi_list (pv 0)) (fun _ _ _ _ => pf_nil) (fun _ _ _ _ => (pe_ix (ix_seqK (K := K) rfl) (pv 0) pe_int (fun _ _ => rfl))))
    (pss_one (ps_for PassesOwn.never rfl (pi_enum rfl T.nenumerate (pa_cons (pv 0) pa_nil (se rfl))) (pg_tup rfl (pgs_cons (pg_name (i := 2) sc_check_rows.nd rfl (Or.inl rfl)) (pgs_cons (pg_name (i := 3) sc_check_rows.nd rfl (Or.inl rfl)) pgs_nil)))
      (pss_cons (ps_set (i := 4) sc_check_rows.nd rfl (by first | exact Or.inl rfl | exact Or.inr rfl) (pe_slice sl_listA (pv 1) po_none (po_some (pv 2))))
    (pss_cons (ps_expr (pe_callD Dcheck_head (hr.mono (by decide)) rfl (pa_cons (pe_ix ix_seq (pv 3) pe_int (fun _ _ => rfl)) (pa_cons (pe_ix ix_seq (pv 3) pe_int (fun _ _ => rfl)) (pa_cons (pe_ix ix_seq (pv 3) pe_int (fun _ _ => rfl)) (pa_cons (pv 4) pa_nil (se rfl)) (se rfl)) (se rfl)) (se rfl)) (he := se rfl) (hpl := nst rfl)))
    (pss_one (ps_for PassesOwn.never rfl (pi_tup (pe_ix ix_seq (pv 3) pe_int (fun _ _ => rfl))) (pg_name (i := 5) sc_check_rows.nd rfl (Or.inl rfl))
      (pss_one (ps_expr (pe_callD Dcheck_read (hr.mono (by decide)) rfl (pa_cons (pv 5) (pa_cons (pv 1) (pa_cons (pv 4) pa_nil (se rfl)) (se rfl)) (se rfl)) (he := se rfl) (hpl := nst rfl)))))))))))), ?_⟩
  have l1 := hu.len
  have l2 := hok.len
  have l12 := hok.names.1
  have lb := line_big
  walk_at "rd"
  refine ⟨_, _, rfl, .inl (sqL_inj_of hp), ?_⟩
  walk_at "rd"
  refine i_iteDt (by omega) ?_
  walk_at "rd"
  rw [decide_eq_true (show (us.length : Int) ≤ 12 by omega)]
  walk_at "rd"
  refine i_setLc (i_lc (i_list ?_))
  walk_at "rd"
  refine lcNL us (fun D i y H' => ∃ r, rs[i]? = some r ∧ y = .str r.name) (sqL_inj_of hp) (by omega) (fun D i y H' H'' _ h => h) (fun D i v H' R hv hD hy s r => ?_) (fun D ys H1 hD s1 hHD hyl hP => ?_)
  · have hir : i < rs.length := by rw [l1]; exact (List.getElem?_eq_some_iff.mp hv).1
    have hri := List.getElem?_eq_getElem hir
    obtain ⟨p1, p2, vs, rfl, h1, h2, h3⟩ := (hu.at_ i rs[i] v hri hv).same s
    walk_at "rd"
    refine i_ixT (.inl (.inl h1)) (show atI _ 0 = some (.str rs[i].name) from rfl) ?_
    exact r _ _ (Same.refl _) ⟨rs[i], hri, rfl⟩
  have hnp : H1 D = some (.lst (List.map V.str zs)) := by
    rw [hHD]
    congr 1; congr 1
    refine List.ext_getElem? fun i => ?_
    rw [List.getElem?_map]
    by_cases hi : i < ys.length
    · obtain ⟨r, hr1, hr2⟩ := hP i ys[i] (List.getElem?_eq_getElem hi)
      rw [List.getElem?_eq_getElem hi, hr2, (hok.at_ i r hr1).name]; rfl
    · rw [List.getElem?_eq_none (by omega), List.getElem?_eq_none (by omega)]; rfl
  dsimp only
  refine i_for (i_enumI ?_)
  walk_at "rd"
  refine ⟨p, rfl, ⟨us, sqL_inj_of (s1 _ _ hp)⟩, ?_⟩
  refine for_enum (xs := us) (fun i σ H' => Same H1 H' ∧ ∃ x2 x3 x4 x5, σ = [some (.ref p), some (.ref D), x2, x3, x4, x5]) ⟨Same.refl _, none, none, none, none, rfl⟩ (fun i σ H' _ h => sqL_inj_of (h.1 _ _ (s1 _ _ hp))) ?_ ?_
  · rintro i u t σ H2 H3 hui ⟨s2, x2, x3, x4, x5, rfl⟩ hN3
    have s3 := s2.trans hN3.same
    have hir : i < rs.length := by rw [l1]; exact (List.getElem?_eq_some_iff.mp hui).1
    have hri := List.getElem?_eq_getElem hir
    have rok := hok.at_ i rs[i] hri
    have rat := (hu.at_ i rs[i] u hri hui).same (s1.trans s3)
    generalize rs[i] = rw at *
    obtain ⟨place, n, hn⟩ := hok.names.2
    have nm := hn i rw.name rok.name
    have nd := nd_names hok.names rok.name
    obtain ⟨p1, p2, vs, rfl, r1, r2, r3⟩ := rat
    have r3l := r3.len
    refine i_gtup hN3.tup rfl ?_
    walk_at "rd"
    refine i_slLA (sqL_inj_of (s3 _ _ hnp)) fun ap H4 hN4 => ?_
    rw [cutV_take, ← List.map_take] at hN4
    have s4 := s3.trans hN4.same
    walk_at "rd"
    refine i_ixT (.inl (.inl (hN4.same _ _ r1))) (show atI _ 0 = some (.str rw.name) from rfl) ?_
    walk_at "rd"
    refine i_ixT (.inl (.inl (hN4.same _ _ r1))) (show atI _ 1 = some (.str rw.d.word) from rfl) ?_
    walk_at "rd"
    refine i_ixT (.inl (.inl (hN4.same _ _ r1))) (show atI _ 2 = some (.ref p1) from rfl) ?_
    walk_at "rd"
    refine ⟨rw.name, rw.d, p1, ap, vs, zs.take i, rfl, nm.1, nm.2.1, nm.2.2.1, hN4.same _ _ r2, by rw [← r3l]; exact rok.many, hN4.at, nd, fun H5 s5 => ?_⟩
    walk_at "rd"
    dsimp only
    refine i_for (i_tupI ?_)
    walk_at "rd"
    refine i_ixT (.inl (.inl (s5 _ _ (hN4.same _ _ r1)))) (show atI _ 2 = some (.ref p1) from rfl) ?_
    have r2' := s5 _ _ (hN4.same _ _ r2)
    refine ⟨p1, rfl, ⟨vs, .inl (.inl r2')⟩, ?_⟩
    refine for_tup (xs := vs) (fun j σ H' => H' = H5 ∧ ∃ x5, σ = [some (.ref p), some (.ref D), some (.int (i : Int)), some (.ref p2), some (.ref ap), x5]) ⟨rfl, x5, rfl⟩ (fun j σ H' _ h => by rw [h.1]; exact .inl (.inl r2')) ?_ ?_
    · rintro j v σ H' hvj ⟨rfl, x5, rfl⟩
      have hjr : j < rw.reads.length := by rw [r3l]; exact (List.getElem?_eq_some_iff.mp hvj).1
      have hrj := List.getElem?_eq_getElem hjr
      have ra := ((r3.at_ j rw.reads[j] v hrj hvj).same hN4.same).same s5
      have ro := rok.reads rw.reads[j] (List.getElem_mem hjr)
      walk_at "rd"
      refine ⟨v, D, ap, zs, i, rw.reads[j], rfl, (s4.trans s5) _ _ hnp, s5 _ _ hN4.at, ra, ro, ?_⟩
      walk_at "rd"
      exact ⟨rfl, _, rfl⟩
    · rintro σ H' ⟨rfl, x5, rfl⟩
      exact ⟨s4.trans s5, _, _, _, _, rfl⟩
  · rintro σ H2 ⟨s2, x2, x3, x4, x5, rfl⟩
    exact q _ (s1.trans s2)
def spCopy : Sp := fun vs H Q _ => ∃ (u : V) (r : Row), vs = [u] ∧ r.reads.length ≤ 3 ∧ RowAt H r u ∧ ∀ v H2, Same H H2 → RowAt H2 r v → Q v H2
theorem d_copy (T : Txt K mg C CE) (Kb : K.In base) (G : base.Ns mainGlobals mg) : Df P w K mg base 1 "copy_of_row" ["row"] spCopy := by
  refine T.f_copy.df Kb G sc_copy_of_row (fun _ _ _ _ _ _ us hl => match us, hl with | [_], _ => rfl) (by rintro vs H Q E ⟨u, r, rfl, _⟩; rfl) (fun f cdv A outer s H vs Q E hr h => ?_)
  obtain ⟨u, r, rfl, hl3, hrow, q⟩ := h
  obtain ⟨p1, p2, vs, rfl, r1, r2, r3⟩ := hrow
  have r3l := r3.len
  have lb := line_big
  refine ⟨_, (pss_cons (ps_lc (i := 1) sc_copy_of_row.nd rfl rfl (by with_unfolding_all rfl) (Blk.of (caps := []) (ix := []) rfl) rfl (pi_tup (pe_ix ix_seq (pv 0) pe_int (fun _ _ => rfl))) (fun _ _ _ _ => pf_nil) (fun _ _ _ _ => (pe_ifExp (pt_val (pe_callB (call_isiK (K := K) rfl) rfl T.nisi PyProof.Rows.boot_isinstance (pa_cons (pv 0) (pa_cons (pe_bltn (v := .ty "int") rfl T.nint PyProof.Rows.boot_int rfl) pa_nil (se rfl)) (se rfl)) (he := se rfl) (hpl := nst rfl))) (pv 0) (pe_callTy (call_tupleK (K := K) rfl) rfl T.ntuple PyProof.Rows.boot_tuple (pa_cons (pv 0) pa_nil (se rfl)) (he := se rfl) (hpl := nst rfl)))))
    (pss_one (ps_ret (pe_tupA (pa_cons (pe_ix ix_seq (pv 0) pe_int (fun _ _ => rfl)) (pa_cons (pe_ix ix_seq (pv 0) pe_int (fun _ _ => rfl)) (pa_cons (pe_callTy call_tupleA rfl T.ntuple PyProof.Rows.boot_tuple (pa_cons (pv 1) pa_nil (se rfl)) (he := se rfl) (hpl := nst rfl)) pa_nil (se rfl)) (se rfl)) (se rfl)))))), ?_⟩
  walk_at "rd"
  refine i_setLc (i_lc (i_tupI ?_))
  walk_at "rd"
  refine i_ixT (.inl (.inl r1)) (show atI _ 2 = some (.ref p1) from rfl) ?_
  refine lcT vs id (.inl (.inl r2)) (by omega) (fun i v H' R hv s k => ?_) (fun D H1 hN1 => ?_)
  · have hir : i < r.reads.length := by rw [r3l]; exact (List.getElem?_eq_some_iff.mp hv).1
    have ra := (r3.at_ i r.reads[i] v (List.getElem?_eq_getElem hir) hv).same s
    generalize r.reads[i] = rd at *
    cases rd with
    | num i =>
      have e : v = .int i := ra
      subst e
      walk_at "rd"
      refine i_isiI T.kII ?_
      walk_at "rd"
      exact k
    | back z b =>
      obtain ⟨t, rfl, ht⟩ := ra
      walk_at "rd"
      refine i_isiT ht T.kTI ?_
      walk_at "rd"
      refine i_tupleAT (.inl (.inl ht)) ?_
      exact k
  rw [List.map_id] at hN1
  walk_at "rd"
  have r1' := hN1.same _ _ r1
  refine i_ixT (.inl (.inl r1')) (show atI _ 0 = some (.str r.name) from rfl) ?_
  walk_at "rd"
  refine i_ixT (.inl (.inl r1')) (show atI _ 1 = some (.str r.d.word) from rfl) ?_
  walk_at "rd"
  refine i_tupleAL hN1.lst fun p3 H2 hN2 => ?_
  walk_at "rd"
  refine ⟨by show 3 ≤ sizeLine; decide, fun p4 H3 hN3 => ?_⟩
  have s3 := (hN1.same.trans hN2.same).trans hN3.same
  exact q _ _ s3 ⟨p3, p4, vs, rfl, hN3.at, hN3.same _ _ hN2.at, r3.same s3⟩
def DepOf (kvs : List (Key × V)) (g : Str → Int) : Prop := ∀ z : Str, (valV kvs (Sum.inr z)).getD (.int 0) = .int (g z)
theorem DepOf.put {kvs : List (Key × V)} {g : Str → Int} (h : DepOf kvs g) (y : Str) (b : Int) : DepOf (putK kvs (Sum.inr y) (.int (max b (g y)))) (fun z => deepR z (g z) (.back y b)) := by
  intro z
  rw [valV_put]
  by_cases hz : z = y
  · subst hz
    simp [deepR, Int.max_comm]
  · have : ¬ (Sum.inr z : Key) = Sum.inr y := fun e => hz (Sum.inr.inj e)
    rw [if_neg this, h z]
    show V.int (g z) = V.int (if y = z then max (g z) b else g z)
    rw [if_neg fun e => hz e.symm]
def spDepths : Sp := fun vs H Q _ => ∃ (p : Addr) (us : List V) (rs : List Row), vs = [.ref p] ∧ H p = some (.lst us) ∧ RowsAt H rs us ∧ rs.length ≤ 12 ∧ (∀ r ∈ rs, r.reads.length ≤ 3) ∧ ∀ d kvs H2, Same H H2 → H2 d = some (.dK kvs) → DepOf kvs (deep rs) → Q (.ref d) H2
theorem d_depths (T : Txt K mg C CE) (Kb : K.In base) (G : base.Ns mainGlobals mg) : Df P w K mg base 1 "depths_of" ["rows"] spDepths := by
  refine T.f_depths.df Kb G sc_depths_of (fun _ _ _ _ _ _ us hl => match us, hl with | [_], _ => rfl) (by rintro vs H Q E ⟨p, us, rs, rfl, _⟩; rfl) (fun f cdv A outer s H vs Q E hr h => ?_)
  obtain ⟨p, us, rs, rfl, hp, hu, h12, h3, q⟩ := h
  refine ⟨_, (pss_cons (ps_set (i := 1) sc_depths_of.nd rfl (by first | exact Or.inl rfl | exact Or.inr rfl) pe_dnewK)
    (pss_cons (ps_for PassesOwn.never rfl (pi_list (pv 0)) (pg_name (i := 2) sc_depths_of.nd rfl (Or.inl rfl))
      (pss_one (ps_for PassesOwn.never rfl (pi_tup (pe_ix ix_seq (pv 2) pe_int (fun _ _ => rfl))) (pg_name (i := 3) sc_depths_of.nd rfl (Or.inl rfl))
      (pss_one (ps_join (ps_if (pt_not (pt_val (pe_callB call_isi rfl T.nisi PyProof.Rows.boot_isinstance (pa_cons (pv 3) (pa_cons (pe_bltn (v := .ty "int") rfl T.nint PyProof.Rows.boot_int rfl) pa_nil (se rfl)) (se rfl)) (he := se rfl) (hpl := nst rfl)))) (pss_one (ps_dput (hu_of hr) (pv 1) (pe_ix ix_seq (pv 3) pe_int (fun _ _ => rfl)) (pe_callB (call_max2 rfl) rfl T.nmax PyProof.Rows.boot_max (pa_cons (pe_ix ix_seq (pv 3) pe_int (fun _ _ => rfl)) (pa_cons (pe_dget2 (hu_of hr) (pv 1) (pe_ix ix_seq (pv 3) pe_int (fun _ _ => rfl)) pe_int ⟨rfl, rfl, rfl, rfl⟩) pa_nil (se rfl)) (se rfl)) (he := se rfl) (hpl := nst rfl)) rfl)) pss_nil))))))
    (pss_one (ps_ret (pv 1))))), ?_⟩
  have l1 := hu.len
  have lb := line_big
  walk_at "rd"
  refine i_dnew fun d hd => ?_
  have hs0 : Same H (upd H d (.dK [])) := Same.new hd
  have hd0 : upd H d (.dK []) d = some (.dK []) := upd_same
  generalize upd H d (.dK []) = H0 at *
  walk_at "rd"
  dsimp only
  refine i_for (i_list ?_)
  walk_at "rd"
  refine ⟨p, rfl, ⟨us, sqL_inj_of (hs0 _ _ hp)⟩, ?_⟩
  refine for_list (xs := us) (fun i σ H' => Same H H' ∧ ∃ kvs x2 x3, σ = [some (.ref p), some (.ref d), x2, x3] ∧ H' d = some (.dK kvs) ∧ kvs.length ≤ 3 * i ∧ DepOf kvs fun z => (rs.take i).foldl (deepRow z) 0)
    ⟨hs0, [], none, none, rfl, hd0, Nat.zero_le _, fun z => rfl⟩ (fun i σ H' _ h => sqL_inj_of (h.1 _ _ hp)) ?_ ?_
  · rintro i u σ H' hui ⟨s1, kvs, x2, x3, rfl, hdk, hkl, hdep⟩
    have hiu := (List.getElem?_eq_some_iff.mp hui).1
    have hir : i < rs.length := by rw [l1]; exact hiu
    have hri := List.getElem?_eq_getElem hir
    have r1 := hu.at_ i rs[i] u hri hui
    have hr3 := h3 rs[i] (List.getElem_mem hir)
    have hnx : (fun z => (rs.take (i + 1)).foldl (deepRow z) 0) = fun z => deepRow z ((rs.take i).foldl (deepRow z) 0) rs[i] := by
      funext z; exact fold_next (deepRow z) 0 hri
    rw [hnx]
    generalize rs[i] = rw at *
    generalize hg : (fun z => (rs.take i).foldl (deepRow z) 0) = g at *
    have hg' : (fun z => deepRow z ((rs.take i).foldl (deepRow z) 0) rw) = fun z => deepRow z (g z) rw := by rw [← hg]
    rw [hg']
    obtain ⟨p1, p2, vs, rfl, h1, h2, hv⟩ := r1
    have hvl := hv.len
    walk_at "rd"
    dsimp only
    refine i_for (i_tupI ?_)
    walk_at "rd"
    refine i_ixT (.inl (.inl (s1 _ _ h1))) (show atI _ 2 = some (.ref p1) from rfl) ?_
    refine ⟨p1, rfl, ⟨vs, .inl (.inl (s1 _ _ h2))⟩, ?_⟩
    refine for_tup (xs := vs) (fun j σ H2 => Same H H2 ∧ ∃ kvs x3, σ = [some (.ref p), some (.ref d), some (.ref p2), x3] ∧ H2 d = some (.dK kvs) ∧ kvs.length ≤ 3 * i + j ∧ DepOf kvs fun z => (rw.reads.take j).foldl (deepR z) (g z))
      ⟨s1, kvs, x3, rfl, hdk, hkl, hdep⟩ (fun j σ H2 _ h => .inl (.inl (h.1 _ _ h2))) ?_ ?_
    · rintro j v σ H2 hvj ⟨s2, kv2, x3, rfl, hd2, hk2, hdep2⟩
      have hjv := (List.getElem?_eq_some_iff.mp hvj).1
      have hjr : j < rw.reads.length := by rw [hvl]; exact hjv
      have hrj := List.getElem?_eq_getElem hjr
      have r3 := (hv.at_ j rw.reads[j] v hrj hvj).same s2
      have hnx2 : (fun z => (rw.reads.take (j + 1)).foldl (deepR z) (g z)) = fun z => deepR z ((rw.reads.take j).foldl (deepR z) (g z)) rw.reads[j] := by
        funext z; exact fold_next (deepR z) (g z) hrj
      rw [hnx2]
      generalize rw.reads[j] = rd at *
      generalize hg2 : (fun z => (rw.reads.take j).foldl (deepR z) (g z)) = g2 at *
      have hg2' : (fun z => deepR z ((rw.reads.take j).foldl (deepR z) (g z)) rd) = fun z => deepR z (g2 z) rd := by rw [← hg2]
      rw [hg2']
      walk_at "rd"
      refine i_join (fun σ' H3 => Same H H3 ∧ σ' = [some (.ref p), some (.ref d), some (.ref p2), some v] ∧ ∃ kv3, H3 d = some (.dK kv3) ∧ kv3.length ≤ 3 * i + (j + 1) ∧ DepOf kv3 fun z => deepR z (g2 z) rd) ?_ (fun σ' H3 ⟨a, b, kv3, c⟩ => ⟨a, kv3, _, b, c⟩)
      cases rd with
      | num i' =>
        have e : v = .int i' := r3
        subst e
        walk_at "rd"
        refine i_isiI T.kII ?_
        walk_at "rd"
        exact ⟨s2, rfl, kv2, hd2, by omega, hdep2⟩
      | back y b =>
        obtain ⟨t, rfl, ht⟩ := r3
        walk_at "rd"
        refine i_isiT ht T.kTI ?_
        walk_at "rd"
        refine i_dput ?_
        walk_at "rd"
        refine i_ixT (.inl (.inl ht)) (show atI _ 1 = some (.int b) from rfl) ?_
        walk_at "rd"
        refine i_dget2 ?_
        walk_at "rd"
        refine ⟨d, rfl, .inl ⟨kv2, .inl hd2⟩, ?_⟩
        walk_at "rd"
        refine i_ixT (.inl (.inl ht)) (show atI _ 0 = some (.str y) from rfl) ?_
        walk_at "rd"
        refine ⟨_, DGet.k (k := Sum.inr y) hd2, ?_⟩
        rw [hdep2 y]
        walk_at "rd"
        refine ⟨b, g2 y, rfl, ?_⟩
        rw [max_of]
        walk_at "rd"
        refine i_ixT (.inl (.inl ht)) (show atI _ 0 = some (.str y) from rfl) ?_
        refine ⟨d, _, rfl, DPut.k (k := Sum.inr y) hd2 (by omega), ?_⟩
        refine ⟨fun b' u e => ?_, rfl, _, upd_same, ?_, hdep2.put y b⟩
        · rw [upd_ne (ne_of_none e hd)]; exact s2 _ _ e
        · have := length_putK kv2 (Sum.inr y : Key) (.int (max b (g2 y))); omega
    · rintro σ H2 ⟨s2, kv2, x3, rfl, hd2, hk2, hdep2⟩
      refine ⟨s2, kv2, _, _, rfl, hd2, by omega, ?_⟩
      rw [← hvl, List.take_length] at hdep2
      exact hdep2
  · rintro σ H' ⟨s1, kvs, x2, x3, rfl, hdk, hkl, hdep⟩
    walk_at "rd"
    rw [← l1, List.take_length] at hdep
    exact q d kvs H' s1 hdk hdep
def LoopAt (CL : Addr) (H : Hp) (x k : Addr) (m : Int) (rs : List Row) : Prop := ∃ (dx d : Addr) (fs : List (Str × V)) (ws : List V) (kvs : List (Key × V)), H x = some (.ins CL dx fs) ∧ fs.lookup (Str.ofString "measure") = some (.int m) ∧ fs.lookup (Str.ofString "kept") = some (.ref k) ∧ fs.lookup (Str.ofString "depths") = some (.ref d) ∧ fs.lookup (Str.ofString "rows") = none ∧ fs.lookup (Str.ofString "deepest") = none ∧
  H k = some (.lst ws) ∧ RowsAt H rs ws ∧ H d = some (.dK kvs) ∧ DepOf kvs (deep rs)
theorem LoopAt.same {CL : Addr} {H H' : Hp} {x k : Addr} {m : Int} {rs : List Row} (s : Same H H') (h : LoopAt CL H x k m rs) : LoopAt CL H' x k m rs := by
  obtain ⟨dx, d, fs, ws, kvs, h1, a, b, c, e, f, h2, h3, h4, h5⟩ := h
  exact ⟨dx, d, fs, ws, kvs, s _ _ h1, a, b, c, e, f, s _ _ h2, h3.same s, s _ _ h4, h5⟩
def spLRows (CL : Addr) : Sp := fun vs H Q _ => ∃ (x k : Addr) (m : Int) (rs : List Row), vs = [.ref x] ∧ LoopAt CL H x k m rs ∧ ∀ p us H2, New H p (.lst us) H2 → RowsAt H2 rs us → Q (.ref p) H2
theorem m_rows (T : Txt K mg C CE) : MethI P w K mg base 1 "rows" ["self"] (fun _ : Unit => CE .Loop) (fun _ => spLRows (CE .Loop)) := by
  refine ⟨fun _ => ⟨T.i_Loop.cl, ?_⟩⟩
  refine T.f_Loop_rows.fn sc_Loop_rows (fun _ _ _ _ _ _ us hl => match us, hl with | [_], _ => rfl) (by rintro vs H Q E ⟨a, k, m, rs, rfl, _⟩; rfl) (fun f cdv A outer s H vs Q E hr h => ?_)
  obtain ⟨x, k, m, rs, rfl, hl, q⟩ := h
  obtain ⟨dx, d, fs, ws, kvs, h1, a, b, c, e, f', h2, h3, h4, h5⟩ := hl
  refine ⟨_, (pss_one (ps_ret (pe_callTy call_listA rfl T.nlist PyProof.Rows.boot_list (pa_cons (pe_fld (pv 0) rfl) pa_nil (se rfl)) (he := se rfl) (hpl := nst rfl)))), ?_⟩
  walk_at "rd"
  refine i_fld ?_
  walk_at "rd"
  refine ⟨x, _, dx, fs, .ref k, rfl, h1, T.i_Loop.cl, T.nK, b, ?_⟩
  walk_at "rd"
  refine i_listAL (sqL_inj_of h2) fun p H2 hN => ?_
  exact q p ws H2 hN (h3.same hN.same)
def spLDeep (CL : Addr) : Sp := fun vs H Q _ => ∃ (x k : Addr) (m : Int) (rs : List Row) (z : Str), vs = [.ref x, .str z] ∧ LoopAt CL H x k m rs ∧ Q (.int (deep rs z)) H
theorem m_deepest (T : Txt K mg C CE) : MethI P w K mg base 1 "deepest" ["self", "name"] (fun _ : Unit => CE .Loop) (fun _ => spLDeep (CE .Loop)) := by
  refine ⟨fun _ => ⟨T.i_Loop.cl, ?_⟩⟩
  refine T.f_Loop_deepest.fn sc_Loop_deepest (fun _ _ _ _ _ _ us hl => match us, hl with | [_, _], _ => rfl) (by rintro vs H Q E ⟨a, k, m, rs, z, rfl, _⟩; rfl) (fun f cdv A outer s H vs Q E hr h => ?_)
  obtain ⟨x, k, m, rs, z, rfl, hl, q⟩ := h
  obtain ⟨dx, d, fs, ws, kvs, h1, a, b, c, e, f', h2, h3, h4, h5⟩ := hl
  refine ⟨_, (pss_one (ps_ret (pe_dget2 (hu_of hr) (pe_fld (pv 0) rfl) (pv 1) pe_int ⟨rfl, rfl, rfl, rfl⟩))), ?_⟩
  walk_at "rd"
  refine i_dget2 ?_
  refine i_fld ?_
  walk_at "rd"
  refine ⟨x, _, dx, fs, .ref d, rfl, h1, T.i_Loop.cl, T.nD, c, ?_⟩
  refine ⟨d, rfl, .inl ⟨kvs, .inl h4⟩, ?_⟩
  walk_at "rd"
  refine ⟨_, DGet.k (k := Sum.inr z) h4, ?_⟩
  rw [h5 z]
  exact q
theorem reads3 {zs : List Str} {rs : List Row} (h : RowsOk zs rs) : ∀ r ∈ rs, r.reads.length ≤ 3 := fun r hr => by
  obtain ⟨i, hi⟩ := List.mem_iff_getElem?.mp hr
  rw [(h.at_ i r hi).many]; exact wants3 _
def spInit (CL : Addr) : Sp := fun vs H Q _ => ∃ (x dx p : Addr) (m : Int) (us : List V) (zs : List Str) (rs : List Row), vs = [.ref x, .int m, .ref p] ∧ H x = some (.ins CL dx []) ∧ 2 ≤ m ∧ m ≤ 10 ^ (60 : Int).toNat ∧ H p = some (.lst us) ∧ RowsAt H rs us ∧ RowsOk zs rs ∧ 1 ≤ rs.length ∧
  ∀ k H2, H k = none → SameB x H H2 → LoopAt CL H2 x k m rs → Q .non H2
theorem mk_loop (T : Txt K mg C CE) (Kb : K.In base) (G : base.Ns mainGlobals mg) : MkI P w K mg base 5 (CE .Loop) ["self", "measure", "rows"] (spInit (CE .Loop)) := by
  have Dcheck_measure : Df P w K mg base 1 "check_measure" ["measure"] spCMeas := d_cmeas T Kb G
  have Dcheck_rows : Df P w K mg base 4 "check_rows" ["rows"] spCRows := d_crows T Kb G
  have Dcopy_of_row : Df P w K mg base 1 "copy_of_row" ["row"] spCopy := d_copy T Kb G
  have Ddepths_of : Df P w K mg base 1 "depths_of" ["rows"] spDepths := d_depths T Kb G
  refine T.i_Loop.mki sc_Loop___init__ (fun _ _ _ _ _ _ us hl => match us, hl with | [_, _, _], _ => rfl) (by rintro vs H Q E ⟨x, dx, p, m, us, zs, rs, rfl, _⟩; rfl) (fun f cdv A outer s H vs Q E hr h => ?_)
  obtain ⟨x, dx, p, m, us, zs, rs, rfl, hx, m2, m60, hp, hu, hok, h1, q⟩ := h
  refine ⟨_, (pss_cons (ps_expr (pe_callD Dcheck_measure (hr.mono (by decide)) rfl (pa_cons (pv 1) pa_nil (se rfl)) (he := se rfl) (hpl := nst rfl)))
    (pss_cons (ps_expr (pe_callD Dcheck_rows (hr.mono (by decide)) rfl (pa_cons (pv 2) pa_nil (se rfl)) (he := se rfl) (hpl := nst rfl)))
    (pss_cons (ps_fld (pv 0) (pv 1) (by with_unfolding_all rfl))
    (pss_cons (ps_fld (pv 0) (pe_lc (Blk.of (caps := []) (ix := []) rfl) rfl (pi_list (pv 2)) (fun _ _ _ _ => pf_nil) (fun _ _ _ _ => (pe_callD Dcopy_of_row (hr.mono (by decide)) rfl (pa_cons (pv 0) pa_nil (se rfl)) (he := se rfl) (hpl := nst rfl)))) (by with_unfolding_all rfl))
    (pss_one (ps_fld (pv 0) (pe_callD Ddepths_of (hr.mono (by decide)) rfl (pa_cons (pe_fld (pv 0) rfl) pa_nil (se rfl)) (he := se rfl) (hpl := nst rfl)) (by with_unfolding_all rfl))))))), ?_⟩
  have l1 := hu.len
  have l2 := hok.len
  have l12 := hok.names.1
  have lb := line_big
  walk_at "rd"
  refine ⟨m, rfl, m2, m60, ?_⟩
  walk_at "rd"
  refine ⟨p, us, zs, rs, rfl, hp, hu, hok, h1, fun H1 s1 => ?_⟩
  clear m60
  walk_at "rd"
  refine i_setFld ?_
  walk_at "rd"
  refine ⟨x, _, dx, [], rfl, s1 _ _ hx, T.i_Loop.cl, T.nM, by show 0 < 1000; decide, ?_⟩
  have b2 : SameB x H (upd H1 x (.ins (CE .Loop) dx (putF (Str.ofString "measure") (.int m) []))) := fun b u n e => by rw [upd_ne n]; exact s1 _ _ e
  have x2 : upd H1 x (.ins (CE .Loop) dx (putF (Str.ofString "measure") (.int m) [])) x = some (.ins (CE .Loop) dx (putF (Str.ofString "measure") (.int m) [])) := upd_same
  have u2 : RowsAt (upd H1 x (.ins (CE .Loop) dx (putF (Str.ofString "measure") (.int m) []))) rs us := (hu.same s1).keep (TK.upd (s1 _ _ hx) (by intro xs z; cases z))
  have hpx : p ≠ x := ne_of hp hx (by intro z; cases z)
  have p2 := b2 p _ hpx hp
  generalize upd H1 x (.ins (CE .Loop) dx (putF (Str.ofString "measure") (.int m) [])) = H2 at *
  walk_at "rd"
  dsimp only
  refine i_setFld ?_
  refine i_lc (i_list ?_)
  walk_at "rd"
  refine lcNL us (fun D i y H' => ∃ r, rs[i]? = some r ∧ RowAt (hide D H') r y) (sqL_inj_of p2) (by omega) (fun D i y H' H'' s' h => ?_) (fun D i v H' R hv hD hy s' r => ?_) (fun k ws H3 hk s3 hk3 hwl hP => ?_)
  · obtain ⟨r, e1, e2⟩ := h
    exact ⟨r, e1, e2.same (hide_sameB s')⟩
  · obtain ⟨ys, hy⟩ := hy
    have hir : i < rs.length := by rw [l1]; exact (List.getElem?_eq_some_iff.mp hv).1
    have hri := List.getElem?_eq_getElem hir
    walk_at "rd"
    refine ⟨v, rs[i], rfl, reads3 hok _ (List.getElem_mem hir), (u2.at_ i rs[i] v hri hv).same s', fun v' H'' s'' hrow => ?_⟩
    exact r v' H'' s'' ⟨rs[i], hri, hrow.hide (s'' _ _ hy)⟩
  have w3 : RowsAt H3 rs ws := ⟨by omega, fun i r u e1 e2 => by
    obtain ⟨r', e3, e4⟩ := hP i u e2
    rw [e1] at e3; cases e3
    exact e4.same (hide_same k H3)⟩
  have x3 := s3 _ _ x2
  have hkx : k ≠ x := fun z => by rw [z, x2] at hk; cases hk
  have hk0 : H k = none := by
    cases e : H k with
    | none => rfl
    | some o => have := b2 k o hkx e; rw [hk] at this; cases this
  walk_at "rd"
  refine ⟨x, _, dx, _, rfl, x3, T.i_Loop.cl, T.nK, (show 1 < 1000 by decide), ?_⟩
  have b4 : SameB x H (upd H3 x (.ins (CE .Loop) dx (putF (Str.ofString "kept") (.ref k) (putF (Str.ofString "measure") (.int m) [])))) := fun b u n e => by rw [upd_ne n]; exact s3 _ _ (b2 b u n e)
  have x4 : upd H3 x (.ins (CE .Loop) dx (putF (Str.ofString "kept") (.ref k) (putF (Str.ofString "measure") (.int m) []))) x = some (.ins (CE .Loop) dx (putF (Str.ofString "kept") (.ref k) (putF (Str.ofString "measure") (.int m) []))) := upd_same
  have w4 : RowsAt (upd H3 x (.ins (CE .Loop) dx (putF (Str.ofString "kept") (.ref k) (putF (Str.ofString "measure") (.int m) [])))) rs ws := w3.keep (TK.upd x3 (by intro xs z; cases z))
  have k4 : upd H3 x (.ins (CE .Loop) dx (putF (Str.ofString "kept") (.ref k) (putF (Str.ofString "measure") (.int m) []))) k = some (.lst ws) := by rw [upd_ne hkx]; exact hk3
  generalize upd H3 x (.ins (CE .Loop) dx (putF (Str.ofString "kept") (.ref k) (putF (Str.ofString "measure") (.int m) []))) = H4 at *
  dsimp only
  refine i_setFld ?_
  walk_at "rd"
  refine i_fld ?_
  walk_at "rd"
  refine ⟨x, _, dx, _, .ref k, rfl, x4, T.i_Loop.cl, T.nK, rfl, ?_⟩
  walk_at "rd"
  refine ⟨k, ws, rs, rfl, k4, w4, by omega, reads3 hok, fun d kvs H5 s5 hd5 hdep => ?_⟩
  walk_at "rd"
  refine ⟨x, _, dx, _, rfl, s5 _ _ x4, T.i_Loop.cl, T.nD, (show 2 < 1000 by decide), ?_⟩
  have x5 := s5 _ _ x4
  refine q k _ hk0 (fun b u n e => by rw [upd_ne n]; exact s5 _ _ (b4 b u n e)) ⟨dx, d, _, ws, kvs, upd_same, rfl, rfl, rfl, rfl, rfl, ?_, (w4.same s5).keep (TK.upd x5 (by intro xs z; cases z)), ?_, hdep⟩
  · rw [upd_ne hkx]; exact s5 _ _ k4
  · rw [upd_ne (ne_of hd5 x5 (by intro z; cases z))]; exact hd5
theorem name_inj {zs : List Str} (h : NamesOk zs) {i j : Nat} {z : Str} (hi : zs[i]? = some z) (hj : zs[j]? = some z) : i = j := by
  rcases Nat.lt_trichotomy i j with l | l | l
  · exact absurd (List.mem_iff_getElem?.mpr ⟨i, by rw [List.getElem?_take_of_lt l]; exact hi⟩) (nd_names h hj)
  · exact l
  · exact absurd (List.mem_iff_getElem?.mpr ⟨j, by rw [List.getElem?_take_of_lt l]; exact hj⟩) (nd_names h hi)
theorem deepR_le (z : Str) (acc : Int) (rd : Rd) : acc ≤ deepR z acc rd := by
  cases rd with
  | num i => exact Int.le_refl _
  | back y b =>
    show acc ≤ if y = z then max acc b else acc
    split <;> omega
theorem foldR_le (z : Str) : ∀ (l : List Rd) (acc : Int), acc ≤ l.foldl (deepR z) acc
  | [], acc => Int.le_refl _
  | rd :: l, acc => Int.le_trans (deepR_le z acc rd) (foldR_le z l _)
theorem foldR_mem {z : Str} {b : Int} : ∀ {l : List Rd} {acc : Int}, Rd.back z b ∈ l → b ≤ l.foldl (deepR z) acc
  | rd :: l, acc, h => by
    rcases List.mem_cons.mp h with e | h
    · refine Int.le_trans ?_ (foldR_le z l _)
      rw [← e]
      show b ≤ if z = z then max acc b else acc
      rw [if_pos rfl]; omega
    · exact foldR_mem (l := l) h
theorem foldRow_le (z : Str) : ∀ (l : List Row) (acc : Int), acc ≤ l.foldl (deepRow z) acc
  | [], acc => Int.le_refl _
  | r :: l, acc => Int.le_trans (foldR_le z r.reads acc) (foldRow_le z l _)
theorem foldRow_mem {z : Str} {b : Int} {r : Row} (hb : Rd.back z b ∈ r.reads) : ∀ {l : List Row} {acc : Int}, r ∈ l → b ≤ l.foldl (deepRow z) acc
  | q :: l, acc, h => by
    rcases List.mem_cons.mp h with e | h
    · refine Int.le_trans ?_ (foldRow_le z l _)
      rw [← e]; exact foldR_mem hb
    · exact foldRow_mem hb (l := l) h
theorem deep_mem {rs : List Row} {z : Str} {b : Int} {r : Row} (hr : r ∈ rs) (hb : Rd.back z b ∈ r.reads) : b ≤ deep rs z := foldRow_mem hb hr
theorem deep_nn (rs : List Row) (z : Str) : 0 ≤ deep rs z := foldRow_le z rs 0
theorem foldR_6 {z : Str} : ∀ {l : List Rd} {acc : Int}, acc ≤ 6 → (∀ rd ∈ l, ∀ y b, rd = Rd.back y b → b ≤ 6) → l.foldl (deepR z) acc ≤ 6
  | [], acc, h, _ => h
  | rd :: l, acc, h, hl => by
    refine foldR_6 (l := l) ?_ fun rd' h' => hl rd' (List.mem_cons_of_mem _ h')
    cases rd with
    | num i => exact h
    | back y b =>
      have := hl _ List.mem_cons_self y b rfl
      show (if y = z then max acc b else acc) ≤ 6
      split <;> omega
theorem foldRow_6 {z : Str} : ∀ {l : List Row} {acc : Int}, acc ≤ 6 → (∀ r ∈ l, ∀ rd ∈ r.reads, ∀ y b, rd = Rd.back y b → b ≤ 6) → l.foldl (deepRow z) acc ≤ 6
  | [], acc, h, _ => h
  | r :: l, acc, h, hl => foldRow_6 (l := l) (foldR_6 h (hl r List.mem_cons_self)) fun r' h' => hl r' (List.mem_cons_of_mem _ h')
theorem deep_6 {zs : List Str} {rs : List Row} (h : RowsOk zs rs) (z : Str) : deep rs z ≤ 6 := by
  refine foldRow_6 (by decide) fun r hr rd hrd y b e => ?_
  obtain ⟨i, hi⟩ := List.mem_iff_getElem?.mp hr
  have := (h.at_ i r hi).reads rd hrd
  rw [e] at this
  obtain ⟨_, _, _, h6, _⟩ := this
  exact h6
abbrev Ls := List (Str × List Int)
abbrev Md := Str → List Int
def look (l : Ls) (z : Str) : List Int := (l.lookup z).getD []
def getR (m : Int) (bl : Ls) (M : Md) (t : Nat) : Rd → Int
  | .num i => i
  | .back z b => if (t : Int) < b then (look bl z).getD (b - t - 1).toNat 0 % m else (M z).getD ((t : Int) - b).toNat 0
def gets (m : Int) (fl bl : Ls) (M : Md) (t : Nat) (r : Row) : List Int := if r.d = .take then [(look fl r.name).getD t 0] else r.reads.map (getR m bl M t)
def stepR (m : Int) (fl bl : Ls) (t : Nat) (M : Md) (r : Row) : Md := fun z => if z = r.name then M z ++ [r.d.of (gets m fl bl M t r) m] else M z
def turnR (m : Int) (fl bl : Ls) (rs : List Row) (M : Md) (t : Nat) : Md := rs.foldl (stepR m fl bl t) M
def runR (m : Int) (fl bl : Ls) (rs : List Row) (n : Nat) : Md := (List.range n).foldl (turnR m fl bl rs) fun _ => []
theorem runR_next (m : Int) (fl bl : Ls) (rs : List Row) (n : Nat) : runR m fl bl rs (n + 1) = turnR m fl bl rs (runR m fl bl rs n) n := by
  unfold runR
  rw [List.range_succ, List.foldl_append]; rfl
def RdGo (bl : Ls) (zs : List Str) (M : Md) (t : Nat) : Rd → Prop
  | .num _ => True
  | .back z b => z ∈ zs ∧ 0 ≤ b ∧ ((t : Int) < b → ∃ l, bl.lookup z = some l ∧ (b - t - 1).toNat < l.length) ∧ (b ≤ (t : Int) → ((t : Int) - b).toNat < (M z).length)
def RowGo (fl bl : Ls) (zs : List Str) (M : Md) (t : Nat) (r : Row) : Prop := (r.d = .take → ∃ l, fl.lookup r.name = some l ∧ t < l.length) ∧ ∀ rd ∈ r.reads, RdGo bl zs M t rd
def FeOk (rs : List Row) (fl : Ls) (n : Nat) : Prop := ∀ r ∈ rs, r.d = .take → ∃ l, fl.lookup r.name = some l ∧ n ≤ l.length
def BeOk (rs : List Row) (bl : Ls) : Prop := ∀ r ∈ rs, 0 < deep rs r.name → ∃ l, bl.lookup r.name = some l ∧ deep rs r.name ≤ l.length
structure Going (zs : List Str) (m : Int) (i t : Nat) (M : Md) : Prop where
  len : ∀ (j : Nat) z, zs[j]? = some z → (M z).length = if j < i then t + 1 else t
  bd : ∀ z x, x ∈ M z → 0 ≤ x ∧ x < m
theorem Going.at {zs : List Str} {m : Int} {i t : Nat} {M : Md} (g : Going zs m i t M) (h0 : 0 < m) (z : Str) (k : Nat) : 0 ≤ (M z).getD k 0 ∧ (M z).getD k 0 < m := by
  rw [List.getD]
  cases hk : (M z)[k]? with
  | none => exact ⟨Int.le_refl _, h0⟩
  | some x => exact g.bd z x (List.mem_of_getElem? hk)
theorem of_b (d : Dk) (ns : List Int) {m : Int} (h : 0 < m) : 0 ≤ d.of ns m ∧ d.of ns m < m := by
  cases d <;> simp only [Dk.of]
  all_goals first
    | exact mod_b _ h
    | (split <;> exact mod_b _ h)
theorem Going.go {zs : List Str} {rs : List Row} {m : Int} {fl bl : Ls} {n i t : Nat} {M : Md} {r : Row} (g : Going zs m i t M) (hok : RowsOk zs rs) (hr : rs[i]? = some r) (hf : FeOk rs fl n) (hb : BeOk rs bl) (ht : t < n) : RowGo fl bl zs M t r := by
  have hm : r ∈ rs := List.mem_iff_getElem?.mpr ⟨i, hr⟩
  refine ⟨fun e => ?_, fun rd hrd => ?_⟩
  · obtain ⟨l, h1, h2⟩ := hf r hm e
    exact ⟨l, h1, by omega⟩
  · have ok := (hok.at_ i r hr).reads rd hrd
    cases rd with
    | num _ => trivial
    | back z b =>
      obtain ⟨j, hj, b0, b6, bk⟩ := ok
      refine ⟨List.mem_iff_getElem?.mpr ⟨j, hj⟩, b0, fun hlt => ?_, fun hle => ?_⟩
      · have hd := deep_mem hm hrd
        have hjl : j < rs.length := by rw [hok.len]; exact (List.getElem?_eq_some_iff.mp hj).1
        have hrj := List.getElem?_eq_getElem hjl
        have hn := (hok.at_ j rs[j] hrj).name
        rw [hj] at hn
        have hn' : z = rs[j].name := Option.some.inj hn
        obtain ⟨l, h1, h2⟩ := hb rs[j] (List.getElem_mem hjl) (by rw [← hn']; omega)
        rw [← hn'] at h1 h2
        exact ⟨l, h1, by omega⟩
      · rw [g.len j z hj]
        by_cases h0 : b = 0
        · rw [if_pos (bk h0)]; omega
        · split <;> omega
theorem Going.step {zs : List Str} {rs : List Row} {m : Int} {fl bl : Ls} {i t : Nat} {M : Md} {r : Row} (g : Going zs m i t M) (hok : RowsOk zs rs) (hr : rs[i]? = some r) (h0 : 0 < m) : Going zs m (i + 1) t (stepR m fl bl t M r) := by
  have hn := (hok.at_ i r hr).name
  refine ⟨fun j z hj => ?_, fun z x hx => ?_⟩
  · show (if z = r.name then M z ++ [r.d.of (gets m fl bl M t r) m] else M z).length = _
    by_cases hz : z = r.name
    · have hji : j = i := name_inj hok.names hj (by rw [hz]; exact hn)
      rw [if_pos hz, List.length_append, g.len j z hj, if_neg (by omega), if_pos (by omega)]; rfl
    · have hji : j ≠ i := fun e => hz (by rw [e, hn] at hj; exact (Option.some.inj hj).symm)
      rw [if_neg hz, g.len j z hj]
      by_cases hlt : j < i
      · rw [if_pos hlt, if_pos (by omega)]
      · rw [if_neg hlt, if_neg (by omega)]
  · have hx' : x ∈ (if z = r.name then M z ++ [r.d.of (gets m fl bl M t r) m] else M z) := hx
    by_cases hz : z = r.name
    · rw [if_pos hz] at hx'
      rcases List.mem_append.mp hx' with h | h
      · exact g.bd z x h
      · rw [show x = r.d.of (gets m fl bl M t r) m by simpa using h]; exact of_b _ _ h0
    · rw [if_neg hz] at hx'; exact g.bd z x hx'
theorem Going.take {zs : List Str} {rs : List Row} {m : Int} {fl bl : Ls} {t : Nat} {M : Md} (g : Going zs m 0 t M) (hok : RowsOk zs rs) (h0 : 0 < m) : ∀ i, i ≤ rs.length → Going zs m i t ((rs.take i).foldl (stepR m fl bl t) M)
  | 0, _ => by simpa using g
  | i + 1, h => by
    have hr := List.getElem?_eq_getElem (show i < rs.length by omega)
    rw [fold_next (stepR m fl bl t) M hr]
    exact (Going.take g hok h0 i (by omega)).step hok hr h0
theorem Going.turn {zs : List Str} {rs : List Row} {m : Int} {fl bl : Ls} {t : Nat} {M : Md} (g : Going zs m 0 t M) (hok : RowsOk zs rs) (h0 : 0 < m) : Going zs m 0 (t + 1) (turnR m fl bl rs M t) := by
  have h := Going.take (fl := fl) (bl := bl) g hok h0 rs.length (Nat.le_refl _)
  rw [List.take_length] at h
  refine ⟨fun j z hj => ?_, h.bd⟩
  have hl : j < rs.length := by rw [hok.len]; exact (List.getElem?_eq_some_iff.mp hj).1
  have := h.len j z hj
  rw [if_pos hl] at this
  rw [if_neg (by omega)]; exact this
theorem Going.run {zs : List Str} {rs : List Row} {m : Int} (fl bl : Ls) (hok : RowsOk zs rs) (h0 : 0 < m) : ∀ n, Going zs m 0 n (runR m fl bl rs n)
  | 0 => ⟨fun j z hj => by rw [if_neg (by omega)]; rfl, fun z x hx => by simp [runR] at hx⟩
  | n + 1 => by rw [runR_next]; exact (Going.run fl bl hok h0 n).turn hok h0
theorem getR_b {zs : List Str} {m : Int} {bl : Ls} {i t : Nat} {M : Md} {k : Nat} {rd : Rd} (g : Going zs m i t M) (h0 : 0 < m) (h60 : m ≤ 10 ^ 60) (ok : RdOk zs k rd) : 0 ≤ getR m bl M t rd ∧ getR m bl M t rd < 10 ^ 60 := by
  cases rd with
  | num v => exact ok
  | back z b =>
    show 0 ≤ (if (t : Int) < b then _ else _) ∧ (if (t : Int) < b then _ else _) < (10 : Int) ^ 60
    split
    · have := mod_b ((look bl z).getD (b - t - 1).toNat 0) h0
      omega
    · have := g.at h0 z ((t : Int) - b).toNat
      omega
theorem gets_b {zs : List Str} {m : Int} {fl bl : Ls} {i t k : Nat} {M : Md} {r : Row} (g : Going zs m i t M) (h0 : 0 < m) (h60 : m ≤ 10 ^ 60) (ok : RowOk zs k r) (hd : r.d ≠ .take) (j : Nat) : 0 ≤ (gets m fl bl M t r).getD j 0 ∧ (gets m fl bl M t r).getD j 0 < 10 ^ 60 := by
  unfold gets
  rw [if_neg hd, List.getD, List.getElem?_map]
  cases hj : r.reads[j]? with
  | none => exact ⟨Int.le_refl _, by show (0 : Int) < 10 ^ 60; decide⟩
  | some rd => exact getR_b g h0 h60 (ok.reads rd (List.mem_of_getElem? hj))
theorem gets_len {zs : List Str} {m : Int} {fl bl : Ls} {t k : Nat} {M : Md} {r : Row} (ok : RowOk zs k r) : r.d.need ≤ (gets m fl bl M t r).length := by
  unfold gets
  by_cases hd : r.d = .take
  · rw [if_pos hd, hd]; exact Nat.le_refl _
  · rw [if_neg hd, List.length_map, ok.many]
    revert hd
    cases r.d <;> intro hd <;> first | exact Nat.le_refl _ | exact absurd rfl hd
def endV (m : Int) (bl : Ls) (M : Md) (n : Nat) (z : Str) (k : Nat) : Int := if n < k + 1 then (look bl z).getD (k - n) 0 % m else (M z).getD (n - 1 - k) 0
def endsOf (m : Int) (bl : Ls) (rs : List Row) (M : Md) (n : Nat) (z : Str) : List Int := (List.range (deep rs z).toNat).map (endV m bl M n z)
def LiAt (H : Hp) (a : Str × List Int) (b : Key × V) : Prop := b.1 = Sum.inr a.1 ∧ ∃ p, b.2 = .ref p ∧ H p = some (.lst (List.map V.int a.2))
def LsAt (H : Hp) (d : Addr) (ls : Ls) : Prop := ∃ kvs, H d = some (.dK kvs) ∧ (ls.map (·.1)).Nodup ∧ Paired (LiAt H) ls kvs
theorem LiAt.same {H H' : Hp} (s : Same H H') {a : Str × List Int} {b : Key × V} (h : LiAt H a b) : LiAt H' a b := by
  obtain ⟨e, p, e2, hp⟩ := h
  exact ⟨e, p, e2, s _ _ hp⟩
theorem LsAt.same {H H' : Hp} {d : Addr} {ls : Ls} (s : Same H H') (h : LsAt H d ls) : LsAt H' d ls := by
  obtain ⟨kvs, e, n, r⟩ := h
  exact ⟨kvs, s _ _ e, n, Paired.mapP r fun a b z => z.same s⟩
theorem paired_none {H : Hp} : ∀ {ls : Ls} {kvs : List (Key × V)}, Paired (LiAt H) ls kvs → ∀ {z : Str}, ls.lookup z = none → valV kvs (Sum.inr z) = none := by
  intro ls kvs h
  induction h with
  | nil => intro z _; exact valV_nil
  | @cons a b l1 l2 h _ ih =>
    intro z e
    obtain ⟨e1, p, ep, hp⟩ := h
    obtain ⟨a1, a2⟩ := a
    rw [List.lookup_cons] at e
    cases hz : z == a1 with
    | true => rw [hz] at e; cases e
    | false =>
      rw [hz] at e
      have hz' : ¬ z = a1 := by simpa using hz
      rw [valV_neg (by rw [e1]; exact fun q => hz' (Sum.inr.inj q).symm)]
      exact ih e
theorem paired_some {H : Hp} : ∀ {ls : Ls} {kvs : List (Key × V)}, Paired (LiAt H) ls kvs → ∀ {z : Str} {l : List Int}, ls.lookup z = some l → ∃ p, valV kvs (Sum.inr z) = some (.ref p) ∧ H p = some (.lst (List.map V.int l)) := by
  intro ls kvs h
  induction h with
  | nil => intro z l e; simp at e
  | @cons a b l1 l2 h _ ih =>
    intro z l e
    obtain ⟨e1, p, ep, hp⟩ := h
    obtain ⟨a1, a2⟩ := a
    rw [List.lookup_cons] at e
    cases hz : z == a1 with
    | true =>
      rw [hz] at e
      have hz' : z = a1 := by simpa using hz
      have e' : a2 = l := Option.some.inj e
      exact ⟨p, by rw [valV_pos (by rw [e1, hz']), ep], by rw [← e']; exact hp⟩
    | false =>
      rw [hz] at e
      have hz' : ¬ z = a1 := by simpa using hz
      obtain ⟨q, h1, h2⟩ := ih e
      exact ⟨q, by rw [valV_neg (by rw [e1]; exact fun q => hz' (Sum.inr.inj q).symm)]; exact h1, h2⟩
theorem LsAt.isD {H : Hp} {d : Addr} {ls : Ls} (h : LsAt H d ls) : IsD H d := by
  obtain ⟨kvs, e, _⟩ := h
  exact .inl ⟨kvs, .inl e⟩
theorem LsAt.get {H : Hp} {d : Addr} {ls : Ls} {z : Str} {l : List Int} (h : LsAt H d ls) (e : ls.lookup z = some l) : ∃ p, DGet H d (.str z) (some (.ref p)) ∧ H p = some (.lst (List.map V.int l)) := by
  obtain ⟨kvs, hd, _, r⟩ := h
  obtain ⟨p, h1, h2⟩ := paired_some r e
  refine ⟨p, ?_, h2⟩
  rw [← h1]; exact DGet.k (k := Sum.inr z) hd
theorem LsAt.getN {H : Hp} {d : Addr} {ls : Ls} {z : Str} (h : LsAt H d ls) (e : ls.lookup z = none) : DGet H d (.str z) none := by
  obtain ⟨kvs, hd, _, r⟩ := h
  rw [← paired_none r e]; exact DGet.k (k := Sum.inr z) hd
theorem look_none : ∀ {ls : Ls} {z : Str}, ¬ z ∈ ls.map (·.1) → ls.lookup z = none
  | [], _, _ => rfl
  | (a, b) :: ls, z, h => by
    have h1 : ¬ z = a := fun e => h (by rw [e]; exact List.mem_cons_self)
    rw [List.lookup_cons, show (z == a) = false by simpa using h1]
    exact look_none fun q => h (List.mem_cons_of_mem _ q)
theorem look_mem : ∀ {ls : Ls} {z : Str}, z ∈ ls.map (·.1) → ∃ l, ls.lookup z = some l ∧ (z, l) ∈ ls
  | [], _, h => by simp at h
  | (a, b) :: ls, z, h => by
    rw [List.lookup_cons]
    cases hz : z == a with
    | true =>
      have hz' : z = a := by simpa using hz
      exact ⟨b, rfl, by rw [hz']; exact List.mem_cons_self⟩
    | false =>
      have hz' : ¬ z = a := by simpa using hz
      have h1 : z ∈ ls.map (·.1) := by
        rcases List.mem_cons.mp (show z ∈ a :: ls.map (·.1) from h) with e | e
        · exact absurd e hz'
        · exact e
      obtain ⟨l, e1, e2⟩ := look_mem h1
      exact ⟨l, e1, List.mem_cons_of_mem _ e2⟩
theorem Paired.len' {α β : Type} {F : α → β → Prop} : ∀ {l : List α} {r : List β}, Paired F l r → l.length = r.length
  | _, _, .nil => rfl
  | _, _, .cons _ t => by rw [List.length_cons, List.length_cons, Paired.len' t]
theorem LsAt.add {H : Hp} {d p : Addr} {ls : Ls} {z : Str} {l : List Int} (h : LsAt H d ls) (hz : ¬ z ∈ ls.map (·.1)) (hp : H p = some (.lst (List.map V.int l))) (hl : ls.length < 1000) :
    ∃ H', DPut H d (.str z) (.ref p) H' ∧ SameB d H H' ∧ LsAt H' d (ls ++ [(z, l)]) := by
  obtain ⟨kvs, hd, n, r⟩ := h
  have hv := paired_none r (look_none hz)
  have lb := line_big
  have hlen := Paired.len' r
  refine ⟨_, DPut.k (k := Sum.inr z) hd (by omega), fun b u nb e => by rw [upd_ne nb]; exact e, kvs ++ [(Sum.inr z, .ref p)], ?_, ?_, ?_⟩
  · rw [upd_same, putK_new (.ref p) hv]
  · rw [List.map_append]; exact nd_snoc n hz
  · have hk : ∀ (q : Addr) (xs : List V), H q = some (.lst xs) → upd H d (.dK (putK kvs (Sum.inr z) (.ref p))) q = some (.lst xs) := fun q xs e => by
      rw [upd_ne (ne_of e hd (by intro z; cases z))]; exact e
    refine Paired.snoc (Paired.mapP r fun a b z => ?_) ⟨rfl, p, rfl, hk _ _ hp⟩
    obtain ⟨e1, q, e2, e3⟩ := z
    exact ⟨e1, q, e2, hk _ _ e3⟩
theorem LsAt.upd {H : Hp} {d b : Addr} {ls : Ls} {o u : HO} (h : LsAt H d ls) (hb : H b = some u) (n1 : ∀ kvs, u ≠ .dK kvs) (n2 : ∀ xs, u ≠ .lst xs) : LsAt (L2.upd H b o) d ls := by
  obtain ⟨kvs, hd, n, r⟩ := h
  refine ⟨kvs, ?_, n, Paired.mapP r fun a c z => ?_⟩
  · rw [upd_ne (ne_of hd hb (fun z => n1 _ z.symm))]; exact hd
  · obtain ⟨e1, q, e2, e3⟩ := z
    exact ⟨e1, q, e2, by rw [upd_ne (ne_of e3 hb (fun z => n2 _ z.symm))]; exact e3⟩
structure MadeAt (H : Hp) (d : Addr) (A : Str → Addr) (zs : List Str) (M : Md) : Prop where
  ex : ∃ kvs, H d = some (.dK kvs) ∧ kvs.length ≤ zs.length ∧ ∀ z ∈ zs, valV kvs (Sum.inr z) = some (.ref (A z))
  at_ : ∀ z ∈ zs, H (A z) = some (.lst (List.map V.int (M z)))
  inj : ∀ y ∈ zs, ∀ z ∈ zs, A y = A z → y = z
theorem MadeAt.same {H H' : Hp} {d : Addr} {A : Str → Addr} {zs : List Str} {M : Md} (s : Same H H') (h : MadeAt H d A zs M) : MadeAt H' d A zs M := by
  obtain ⟨kvs, e, l, v⟩ := h.ex
  exact ⟨⟨kvs, s _ _ e, l, v⟩, fun z hz => s _ _ (h.at_ z hz), h.inj⟩
theorem MadeAt.get {H : Hp} {d : Addr} {A : Str → Addr} {zs : List Str} {M : Md} {z : Str} (h : MadeAt H d A zs M) (hz : z ∈ zs) : DGet H d (.str z) (some (.ref (A z))) := by
  obtain ⟨kvs, e, l, v⟩ := h.ex
  rw [← v z hz]; exact DGet.k (k := Sum.inr z) e
theorem MadeAt.app {H : Hp} {d : Addr} {A : Str → Addr} {zs : List Str} {M M' : Md} {z : Str} {x : Int} (h : MadeAt H d A zs M) (hz : z ∈ zs) (hM : ∀ y, M' y = if y = z then M y ++ [x] else M y) : MadeAt (upd H (A z) (.lst (List.map V.int (M z) ++ [.int x]))) d A zs M' := by
  obtain ⟨kvs, e, l, v⟩ := h.ex
  refine ⟨⟨kvs, by rw [upd_ne (ne_of e (h.at_ z hz) (by intro z; cases z))]; exact e, l, v⟩, fun y hy => ?_, h.inj⟩
  by_cases hyz : y = z
  · subst hyz
    rw [upd_same, hM y, if_pos rfl, List.map_append]; rfl
  · rw [upd_ne (fun q => hyz (h.inj y hy z hz q)), hM y, if_neg hyz]; exact h.at_ y hy
theorem MadeAt.grow {H H1 : Hp} {d p : Addr} {A : Str → Addr} {zs : List Str} {i : Nat} {z : Str} (h : MadeAt H d A (zs.take i) fun _ => []) (hz : zs[i]? = some z) (nz : ¬ z ∈ zs.take i) (hl : zs.length ≤ 12) (hN : New H p (.lst []) H1) :
    ∃ H', DPut H1 d (.str z) (.ref p) H' ∧ SameB d H H' ∧ MadeAt H' d (fun y => if y = z then p else A y) (zs.take (i + 1)) fun _ => [] := by
  obtain ⟨kvs, e, l, v⟩ := h.ex
  have lb := line_big
  have hi : i < zs.length := (List.getElem?_eq_some_iff.mp hz).1
  rw [List.length_take] at l
  have e1 := hN.same _ _ e
  have hdp : d ≠ p := ne_of_none e hN.free
  have ht : zs.take (i + 1) = zs.take i ++ [z] := by rw [List.take_add_one, hz]; rfl
  refine ⟨_, DPut.k (k := Sum.inr z) e1 (by omega), fun b u nb q => by rw [upd_ne nb]; exact hN.same _ _ q, ⟨⟨_, upd_same, ?_, fun y hy => ?_⟩, fun y hy => ?_, fun y hy w hw q => ?_⟩⟩
  · have := length_putK kvs (Sum.inr z : Key) (.ref p)
    rw [List.length_take]; omega
  · rw [valV_put]
    by_cases hyz : y = z
    · rw [if_pos (by rw [hyz]), if_pos hyz]
    · rw [if_neg (fun q => hyz (Sum.inr.inj q)), if_neg hyz]
      refine v y ?_
      rw [ht] at hy
      rcases List.mem_append.mp hy with q | q
      · exact q
      · exact absurd (by simpa using q) hyz
  · by_cases hyz : y = z
    · rw [if_pos hyz, upd_ne (Ne.symm hdp)]; exact hN.at
    · rw [if_neg hyz]
      have hy' : y ∈ zs.take i := by
        rw [ht] at hy
        rcases List.mem_append.mp hy with q | q
        · exact q
        · exact absurd (by simpa using q) hyz
      have := hN.same _ _ (h.at_ y hy')
      rw [upd_ne (ne_of this e1 (by intro z; cases z))]; exact this
  · have hmem : ∀ y ∈ zs.take (i + 1), ¬ y = z → y ∈ zs.take i := fun y hy n => by
      rw [ht] at hy
      rcases List.mem_append.mp hy with q | q
      · exact q
      · exact absurd (by simpa using q) n
    by_cases hyz : y = z
    · by_cases hwz : w = z
      · rw [hyz, hwz]
      · rw [if_pos hyz, if_neg hwz] at q
        have := h.at_ w (hmem w hw hwz)
        rw [← q, hN.free] at this; cases this
    · by_cases hwz : w = z
      · rw [if_neg hyz, if_pos hwz] at q
        have := h.at_ y (hmem y hy hyz)
        rw [q, hN.free] at this; cases this
      · rw [if_neg hyz, if_neg hwz] at q
        exact h.inj y (hmem y hy hyz) w (hmem w hw hwz) q
def PrAt1 (S : Addr → Prop) (H : Hp) (a : Str × List Int) (u : V) : Prop := ∃ t p, u = .ref t ∧ H t = some (.tup [.str a.1, .ref p]) ∧ H p = some (.lst (List.map V.int a.2)) ∧ S p
structure PrAt (S : Addr → Prop) (H : Hp) (ps : Ls) (us : List V) : Prop where
  len : ps.length = us.length
  at_ : ∀ (i : Nat) a u, ps[i]? = some a → us[i]? = some u → PrAt1 S H a u
theorem PrAt.same {S : Addr → Prop} {H H' : Hp} {ps : Ls} {us : List V} (s : Same H H') (h : PrAt S H ps us) : PrAt S H' ps us := ⟨h.len, fun i a u e1 e2 => by
  obtain ⟨t, p, e, h1, h2, h3⟩ := h.at_ i a u e1 e2
  exact ⟨t, p, e, s _ _ h1, s _ _ h2, h3⟩⟩
theorem cut_ints (ns : List Int) (a b : Option Int) : ∃ ks : List Int, cutV (List.map V.int ns) a b = List.map V.int ks := by
  unfold cutV
  rw [List.length_map]
  exact ⟨_, by rw [← List.map_drop, ← List.map_take]⟩
def spGiven (K : PySem.W.Frag) : Sp := fun vs H Q _ => ∃ (a : Addr) (ns : List Int) (at' most : Nat), vs = [.ref a, .int (at' : Int), .int (most : Int)] ∧ SqL K H a (ns.map V.int) ∧ at' ≤ 100 ∧ most ≤ 400 ∧
  ∀ p H2 (l : List Int), Same H H2 → H p = none → H2 p = some (.lst (List.map V.int l)) → l.length = most → Q (.ref p) H2
theorem d_given (T : Txt K mg C CE) (Kb : K.In base) (G : base.Ns mainGlobals mg) : Df P w K mg base 1 "_law_given" ["_law_script", "_law_at", "_law_most"] (spGiven K) := by
  refine T.f_given.df Kb G sc_law_given (fun _ _ _ _ _ _ us hl => match us, hl with | [_, _, _], _ => rfl) (by rintro vs H Q E ⟨a, ns, at', most, rfl, _⟩; rfl) (fun f cdv A outer s H vs Q E hr h => ?_)
  obtain ⟨a, ns, at', most, rfl, hS, hat, hmo, q⟩ := h
  refine ⟨_, (pss_cons (ps_set (i := 3) sc_law_given.nd rfl (by first | exact Or.inl rfl | exact Or.inr rfl) (pe_lstA pa_nil))
    (pss_cons (ps_for PassesOwn.never rfl (pi_enum rfl T.nenumerate (pa_cons (pe_slice sl_listA (pv 0) (po_some (pv 1)) (po_some pe_int)) pa_nil (se rfl))) (pg_tup rfl (pgs_cons (pg_name (i := 4) sc_law_given.nd rfl (Or.inl rfl)) (pgs_cons (pg_name (i := 5) sc_law_given.nd rfl (Or.inl rfl)) pgs_nil)))
      (pss_cons (ps_set (i := 6) sc_law_given.nd rfl (by first | exact Or.inl rfl | exact Or.inr rfl) (pe_op op_mod (pv 5) (pe_op op_pow pe_int pe_int)))
    (pss_cons (ps_join (ps_if (pt_cmpR op_eq (pe_op op_mod (pe_op op_fdiv (pv 5) pe_int) pe_int) pe_int (nomark _)) (pss_one (ps_set (i := 6) sc_law_given.nd rfl (by first | exact Or.inl rfl | exact Or.inr rfl) (pe_un un_neg (pv 6)))) pss_nil))
    (pss_one (ps_if (pt_cmpR op_lt (pe_callB call_len_seq rfl T.nlen PySem.boot_len (pa_cons (pv 3) pa_nil (se rfl)) (he := se rfl) (hpl := nst rfl)) (pv 2) (nomark _)) (pss_one (ps_expr (pe_bm PySem.F.plainAttrs_list PySem.F.slot_list_append PySem.F.type_list_append mt_append (pv 3) (pa_cons (pv 6) pa_nil (se rfl)) (hs := se rfl) (hplain := nst rfl)))) pss_nil)))))
    (pss_cons (ps_for PassesOwn.never rfl (pi_range2 rfl T.nrange (pa_cons (pe_callB call_len_seq rfl T.nlen PySem.boot_len (pa_cons (pv 3) pa_nil (se rfl)) (he := se rfl) (hpl := nst rfl)) (pa_cons (pv 2) pa_nil (se rfl)) (se rfl))) (pg_name (i := 4) sc_law_given.nd rfl (Or.inl rfl))
      (pss_one (ps_expr (pe_bm PySem.F.plainAttrs_list PySem.F.slot_list_append PySem.F.type_list_append mt_append (pv 3) (pa_cons (pe_op op_add (pe_op op_mulO (pv 4) (pv 1)) (pv 2)) pa_nil (se rfl)) (hs := se rfl) (hplain := nst rfl)))))
    (pss_one (ps_ret (pv 3)))))), ?_⟩
  have lb := line_big
  walk_at "rd"
  refine ⟨by show 0 ≤ sizeLine; exact Nat.zero_le _, fun D H1 hN1 => ?_⟩
  walk_at "rd"
  refine i_for (i_enumI ?_)
  walk_at "rd"
  refine i_slLA (hN1.same.seq hS) fun sp H2 hN2 => ?_
  walk_at "rd"
  obtain ⟨ks, hks⟩ := cut_ints ns (some (at' : Int)) (some 63)
  rw [hks] at hN2
  have hDn : H D = none := hN1.free
  have hDsp : D ≠ sp := ne_of_none hN1.at hN2.free
  refine ⟨sp, rfl, ⟨_, hN2.lst⟩, ?_⟩
  refine for_enum (xs := List.map V.int ks) (fun i σ H' => Same H H' ∧ H' sp = some (.lst (List.map V.int ks)) ∧ ∃ (l : List Int) (x4 x5 x6 : Option V), σ = [some (.ref a), some (.int (at' : Int)), some (.int (most : Int)), some (.ref D), x4, x5, x6] ∧ H' D = some (.lst (List.map V.int l)) ∧ l.length ≤ most)
    ⟨hN1.same.trans hN2.same, hN2.at, [], none, none, none, rfl, hN2.same _ _ hN1.at, Nat.zero_le _⟩ (fun i σ H' _ h => sqL_inj_of h.2.1) ?_ ?_
  · rintro i u t σ H3 H4 hui ⟨s3, hsp, l, x4, x5, x6, rfl, hD, hll⟩ hN4
    rw [List.getElem?_map] at hui
    obtain ⟨c, hci, rfl⟩ : ∃ c, ks[i]? = some c ∧ V.int c = u := by
      cases hci : ks[i]? with
      | none => rw [hci] at hui; cases hui
      | some c => rw [hci] at hui; exact ⟨c, rfl, Option.some.inj hui⟩
    refine i_gtup hN4.tup rfl ?_
    walk_at "rd"
    refine i_join (fun σ' H' => H' = H4 ∧ ∃ v : Int, σ' = [some (.ref a), some (.int (at' : Int)), some (.int (most : Int)), some (.ref D), some (.int (i : Int)), some (.int c), some (.int v)]) ?_ ?_
    · walk_at "rd"
      refine i_iteI (fun _ => ?_) (fun _ => ?_)
      · walk_at "rd"
        exact ⟨rfl, _, rfl⟩
      · walk_at "rd"
        exact ⟨rfl, _, rfl⟩
    rintro σ' H' ⟨rfl, v, rfl⟩
    have hD4 := hN4.same _ _ hD
    have hsp4 := hN4.same _ _ hsp
    have s4 := s3.trans hN4.same
    walk_at "rd"
    refine ⟨_, _, rfl, .inl (sqL_inj_of hD4), ?_⟩
    walk_at "rd"
    refine i_iteD (fun hlt => ?_) (fun hlt => ?_)
    · walk_at "rd"
      refine ⟨.inl ⟨rfl, _, sqL_inj_of hD4⟩, ?_⟩
      walk_at "rd"
      rw [List.length_map] at hlt
      refine i_append hD4 (by rw [List.length_map]; omega) ?_
      refine ⟨fun b o e => ?_, ?_, l ++ [v], _, _, _, rfl, by rw [upd_same, List.map_append]; rfl, by rw [List.length_append, List.length_singleton]; omega⟩
      · rw [upd_ne (ne_of_none e hDn)]; exact s4 _ _ e
      · rw [upd_ne (Ne.symm hDsp)]; exact hsp4
    · walk_at "rd"
      exact ⟨s4, hsp4, l, _, _, _, rfl, hD4, hll⟩
  · rintro σ H3 ⟨s3, hsp, l, x4, x5, x6, rfl, hD, hll⟩
    dsimp only
    refine i_for (i_rng2 ?_)
    walk_at "rd"
    refine ⟨_, _, rfl, .inl (sqL_inj_of hD), ?_⟩
    walk_at "rd"
    rw [List.length_map]
    refine ⟨_, _, rfl, ⟨by omega, by omega, by omega, by omega⟩, ?_⟩
    refine for_range (lo := (l.length : Int)) (n := ((most : Int) - (l.length : Int)).toNat) (fun i σ H' => Same H H' ∧ ∃ (l' : List Int) (x4 x5 x6 : Option V), σ = [some (.ref a), some (.int (at' : Int)), some (.int (most : Int)), some (.ref D), x4, x5, x6] ∧ H' D = some (.lst (List.map V.int l')) ∧ l'.length = l.length + i)
      ⟨s3, l, _, _, _, rfl, hD, rfl⟩ ?_ ?_
    · rintro i σ H4 hi ⟨s4, l', y4, y5, y6, rfl, hD4, hl'⟩
      walk_at "rd"
      refine ⟨.inl ⟨rfl, _, sqL_inj_of hD4⟩, ?_⟩
      walk_at "rd"
      refine i_mul (ok_of 64 64 (by omega) (by omega) (by omega) (by omega) (by decide)) ?_
      walk_at "rd"
      refine i_append hD4 (by rw [List.length_map]; omega) ?_
      refine ⟨fun b o e => ?_, l' ++ [_], _, _, _, rfl, by rw [upd_same, List.map_append]; rfl, by rw [List.length_append, List.length_singleton]; omega⟩
      rw [upd_ne (ne_of_none e hDn)]; exact s4 _ _ e
    · rintro σ H4 ⟨s4, l', y4, y5, y6, rfl, hD4, hl'⟩
      walk_at "rd"
      exact q D H4 l' s4 hDn hD4 (by omega)
theorem word_ne {d e : Dk} (h : ¬ d = e) : ¬ d.word = e.word := by
  revert h
  cases d <;> cases e <;> intro h <;> first | exact absurd rfl h | decide +kernel
theorem nm_not {zs : List Str} {rs : List Row} (h : RowsOk zs rs) {i : Nat} {r : Row} (hr : rs[i]? = some r) (q : Row → Bool) : ¬ r.name ∈ ((rs.take i).filter q).map (·.name) := fun hm => by
  obtain ⟨r', hr', e⟩ := List.mem_map.mp hm
  obtain ⟨j, hj⟩ := List.mem_iff_getElem?.mp (List.mem_filter.mp hr').1
  have hji : j < i := by
    have := (List.getElem?_eq_some_iff.mp hj).1
    rw [List.length_take] at this; omega
  rw [List.getElem?_take_of_lt hji] at hj
  have h1 := (h.at_ j r' hj).name
  have h2 := (h.at_ i r hr).name
  rw [e] at h1
  have := name_inj h.names h1 h2
  omega
theorem filt_next {rs : List Row} {i : Nat} {r : Row} (hr : rs[i]? = some r) (q : Row → Bool) : ((rs.take (i + 1)).filter q).map (·.name) = ((rs.take i).filter q).map (·.name) ++ if q r = true then [r.name] else [] := by
  rw [List.take_add_one, hr, Option.toList_some, List.filter_append, List.map_append]
  cases hq : q r <;> simp [hq]
structure FedAt (H : Hp) (d : Addr) (rs : List Row) (q : Row → Bool) (n : Str → Int) (ls : Ls) : Prop where
  at_ : LsAt H d ls
  keys : ls.map (·.1) = (rs.filter q).map (·.name)
  lens : ∀ a ∈ ls, n a.1 ≤ (a.2.length : Int)
theorem FedAt.len {H : Hp} {d : Addr} {rs : List Row} {q : Row → Bool} {n : Str → Int} {ls : Ls} (h : FedAt H d rs q n ls) : ls.length ≤ rs.length := by
  have e : (ls.map (·.1)).length = ((rs.filter q).map (·.name)).length := by rw [h.keys]
  rw [List.length_map, List.length_map] at e
  have := List.length_filter_le q rs
  omega
theorem FedAt.next {H H3 : Hp} {d p : Addr} {rs : List Row} {q : Row → Bool} {n : Str → Int} {ls : Ls} {zs : List Str} {i : Nat} {r : Row} {l : List Int} (h : FedAt H d (rs.take i) q n ls) (s : Same H H3) (hok : RowsOk zs rs) (hr : rs[i]? = some r) (hq : q r = true)
    (hp : H3 p = some (.lst (List.map V.int l))) (hl : n r.name ≤ (l.length : Int)) : ∃ H', DPut H3 d (.str r.name) (.ref p) H' ∧ SameB d H3 H' ∧ FedAt H' d (rs.take (i + 1)) q n (ls ++ [(r.name, l)]) := by
  have hlen := h.len
  have h12 := hok.names.1
  have hrl := hok.len
  rw [List.length_take] at hlen
  obtain ⟨H', a, b, c⟩ := (h.at_.same s).add (z := r.name) (p := p) (l := l) (by rw [h.keys]; exact nm_not hok hr q) hp (by omega)
  refine ⟨H', a, b, c, ?_, fun x hx => ?_⟩
  · rw [List.map_append, h.keys, filt_next hr q, if_pos hq]; rfl
  · rcases List.mem_append.mp hx with z | z
    · exact h.lens x z
    · rw [show x = (r.name, l) by simpa using z]; exact hl
theorem FedAt.skip {H : Hp} {d : Addr} {rs : List Row} {q : Row → Bool} {n : Str → Int} {ls : Ls} {i : Nat} {r : Row} (h : FedAt H d (rs.take i) q n ls) (hr : rs[i]? = some r) (hq : q r = false) : FedAt H d (rs.take (i + 1)) q n ls :=
  ⟨h.at_, by rw [h.keys, filt_next hr q, hq]; simp, h.lens⟩
theorem FedAt.look {H : Hp} {d : Addr} {rs : List Row} {q : Row → Bool} {n : Str → Int} {ls : Ls} (h : FedAt H d rs q n ls) {r : Row} (hr : r ∈ rs) (hq : q r = true) : ∃ l, ls.lookup r.name = some l ∧ n r.name ≤ (l.length : Int) := by
  obtain ⟨l, e1, e2⟩ := look_mem (ls := ls) (z := r.name) (by rw [h.keys]; exact List.mem_map.mpr ⟨r, List.mem_filter.mpr ⟨hr, hq⟩, rfl⟩)
  exact ⟨l, e1, h.lens _ e2⟩
def isTake (r : Row) : Bool := decide (r.d = .take)
def isDeep (rs : List Row) (r : Row) : Bool := decide (0 < deep rs r.name)
def spFeeds (K : PySem.W.Frag) : Sp := fun vs H Q _ => ∃ (a p : Addr) (ns : List Int) (us : List V) (zs : List Str) (rs : List Row) (n : Nat), vs = [.ref a, .ref p, .int (n : Int)] ∧ SqL K H a (ns.map V.int) ∧ H p = some (.lst us) ∧ RowsAt H rs us ∧ RowsOk zs rs ∧ n ≤ 300 ∧
  ∀ d H2 (ls : Ls), Same H H2 → H d = none → FedAt H2 d rs isTake (fun _ => (n : Int)) ls → Q (.ref d) H2
theorem d_feeds (T : Txt K mg C CE) (Kb : K.In base) (G : base.Ns mainGlobals mg) : Df P w K mg base 2 "_law_feeds" ["_law_script", "_law_rows_here", "_law_turns"] (spFeeds K) := by
  have D_law_given : Df P w K mg base 1 "_law_given" ["_law_script", "_law_at", "_law_most"] (spGiven K) := d_given T Kb G
  refine T.f_feeds.df Kb G sc_law_feeds (fun _ _ _ _ _ _ us hl => match us, hl with | [_, _, _], _ => rfl) (by rintro vs H Q E ⟨a, p, ns, us, zs, rs, n, rfl, _⟩; rfl) (fun f cdv A outer s H vs Q E hr h => ?_)
  obtain ⟨a, p, ns, us, zs, rs, n, rfl, hS, hp, hu, hok, hn, q⟩ := h
  refine ⟨_, (pss_cons (ps_set (i := 3) sc_law_feeds.nd rfl (by first | exact Or.inl rfl | exact Or.inr rfl) pe_dnewK)
    (pss_cons (ps_for PassesOwn.never rfl (pi_range1 rfl T.nrange (pa_cons (pe_callB call_len_seq rfl T.nlen PySem.boot_len (pa_cons (pv 1) pa_nil (se rfl)) (he := se rfl) (hpl := nst rfl)) pa_nil (se rfl))) (pg_name (i := 4) sc_law_feeds.nd rfl (Or.inl rfl))
      (pss_one (ps_if (pt_cmpR op_eq (pe_ix ix_seq (pe_ix ix_seq (pv 1) (pv 4) (fun _ _ => rfl)) pe_int (fun _ _ => rfl)) pe_str (nomark _)) (pss_one (ps_dput (hu_of hr) (pv 3) (pe_ix ix_seq (pe_ix ix_seq (pv 1) (pv 4) (fun _ _ => rfl)) pe_int (fun _ _ => rfl)) (pe_callD D_law_given (hr.mono (by decide)) rfl (pa_cons (pv 0) (pa_cons (pv 4) (pa_cons (pe_op op_add (pv 2) (pe_op op_mod (pv 4) pe_int)) pa_nil (se rfl)) (se rfl)) (se rfl)) (he := se rfl) (hpl := nst rfl)) rfl)) pss_nil)))
    (pss_one (ps_ret (pv 3))))), ?_⟩
  have l1 := hu.len
  have l2 := hok.len
  have l12 := hok.names.1
  walk_at "rd"
  refine i_dnew fun d hd => ?_
  have hs0 : Same H (upd H d (.dK [])) := Same.new hd
  have hd0 : upd H d (.dK []) d = some (.dK []) := upd_same
  generalize upd H d (.dK []) = H0 at *
  walk_at "rd"
  dsimp only
  refine i_for (i_rng1 ?_)
  walk_at "rd"
  refine ⟨_, _, rfl, .inl (sqL_inj_of (hs0 _ _ hp)), ?_⟩
  refine ⟨_, rfl, by omega, by omega, ?_⟩
  rw [Int.toNat_natCast]
  refine for_range (lo := 0) (n := us.length) (fun i σ H' => Same H H' ∧ ∃ (ls : Ls) (x4 : Option V), σ = [some (.ref a), some (.ref p), some (.int (n : Int)), some (.ref d), x4] ∧ FedAt H' d (rs.take i) isTake (fun _ => (n : Int)) ls)
    ⟨hs0, [], none, rfl, ⟨[], hd0, List.nodup_nil, .nil⟩, rfl, fun a h => by simp at h⟩ ?_ ?_
  · rintro i σ H' hi ⟨s1, ls, x4, rfl, hF⟩
    have e0 : (0 : Int) + (i : Int) = (i : Int) := Int.zero_add _
    rw [e0]
    have hir : i < rs.length := by omega
    have hri := List.getElem?_eq_getElem hir
    have hui := List.getElem?_eq_getElem hi
    have a1 := at_v hi
    have r1 := (hu.at_ i rs[i] us[i] hri hui).same s1
    generalize rs[i] = rw at *
    generalize us[i] = u at *
    obtain ⟨p1, p2, vs, rfl, h1, h2, h3⟩ := r1
    walk_at "rd"
    refine i_ixL (sqL_inj_of (s1 _ _ hp)) a1 ?_
    walk_at "rd"
    refine i_ixT (.inl (.inl h1)) (show atI _ 1 = some (.str rw.d.word) from rfl) ?_
    walk_at "rd"
    by_cases ht : rw.d = .take
    · refine i_iteSe (by rw [ht]; rfl) ?_
      walk_at "rd"
      refine i_dput ?_
      walk_at "rd"
      refine ⟨a, ns, i, n + i % 2, rfl, s1.seq hS, by omega, by omega, fun lp H3 l s3 hfr hlp hll => ?_⟩
      walk_at "rd"
      refine i_ixL (sqL_inj_of (s3 _ _ (s1 _ _ hp))) a1 ?_
      walk_at "rd"
      refine i_ixT (.inl (.inl (s3 _ _ h1))) (show atI _ 0 = some (.str rw.name) from rfl) ?_
      obtain ⟨H4, hput, sb, hF4⟩ := hF.next s3 hok hri (show isTake rw = true from decide_eq_true ht) hlp (show (n : Int) ≤ (l.length : Int) by omega)
      refine ⟨d, H4, rfl, hput, fun b o e => ?_, _, _, rfl, hF4⟩
      exact sb b o (ne_of_none e hd) (s3 _ _ (s1 _ _ e))
    · refine i_iteSf (word_ne (e := .take) ht) ?_
      walk_at "rd"
      exact ⟨s1, ls, _, rfl, hF.skip hri (decide_eq_false ht)⟩
  · rintro σ H' ⟨s1, ls, x4, rfl, hF⟩
    walk_at "rd"
    rw [← l1, List.take_length] at hF
    exact q d H' ls s1 hd hF
def spBegin (K : PySem.W.Frag) : Sp := fun vs H Q _ => ∃ (a p : Addr) (ns : List Int) (us : List V) (zs : List Str) (rs : List Row), vs = [.ref a, .ref p] ∧ SqL K H a (ns.map V.int) ∧ H p = some (.lst us) ∧ RowsAt H rs us ∧ RowsOk zs rs ∧
  ∀ d H2 (ls : Ls), Same H H2 → H d = none → FedAt H2 d rs (isDeep rs) (deep rs) ls → Q (.ref d) H2
theorem d_begin (T : Txt K mg C CE) (Kb : K.In base) (G : base.Ns mainGlobals mg) : Df P w K mg base 2 "_law_begin" ["_law_script", "_law_rows_here"] (spBegin K) := by
  have D_law_given : Df P w K mg base 1 "_law_given" ["_law_script", "_law_at", "_law_most"] (spGiven K) := d_given T Kb G
  have D_law_deepest : Df P w K mg base 1 "_law_deepest" ["_law_rows_here", "_law_name"] spDeepest := d_deepest T Kb G
  refine T.f_begin.df Kb G sc_law_begin (fun _ _ _ _ _ _ us hl => match us, hl with | [_, _], _ => rfl) (by rintro vs H Q E ⟨a, p, ns, us, zs, rs, rfl, _⟩; rfl) (fun f cdv A outer s H vs Q E hr h => ?_)
  obtain ⟨a, p, ns, us, zs, rs, rfl, hS, hp, hu, hok, q⟩ := h
  refine ⟨_, (pss_cons (ps_set (i := 2) sc_law_begin.nd rfl (by first | exact Or.inl rfl | exact Or.inr rfl) pe_dnewK)
    (pss_cons (ps_for PassesOwn.never rfl (pi_range1 rfl T.nrange (pa_cons (pe_callB call_len_seq rfl T.nlen PySem.boot_len (pa_cons (pv 1) pa_nil (se rfl)) (he := se rfl) (hpl := nst rfl)) pa_nil (se rfl))) (pg_name (i := 3) sc_law_begin.nd rfl (Or.inl rfl))
      (pss_cons (ps_set (i := 4) sc_law_begin.nd rfl (by first | exact Or.inl rfl | exact Or.inr rfl) (pe_callD D_law_deepest (hr.mono (by decide)) rfl (pa_cons (pv 1) (pa_cons (pe_ix ix_seq (pe_ix ix_seq (pv 1) (pv 3) (fun _ _ => rfl)) pe_int (fun _ _ => rfl)) pa_nil (se rfl)) (se rfl)) (he := se rfl) (hpl := nst rfl)))
    (pss_one (ps_if (pt_cmpR op_gt (pv 4) pe_int (nomark _)) (pss_one (ps_dput (hu_of hr) (pv 2) (pe_ix ix_seq (pe_ix ix_seq (pv 1) (pv 3) (fun _ _ => rfl)) pe_int (fun _ _ => rfl)) (pe_callD D_law_given (hr.mono (by decide)) rfl (pa_cons (pv 0) (pa_cons (pe_op op_add (pe_op op_mulO pe_int (pv 3)) pe_int) (pa_cons (pe_op op_add (pv 4) (pe_op op_mod (pv 3) pe_int)) pa_nil (se rfl)) (se rfl)) (se rfl)) (he := se rfl) (hpl := nst rfl)) rfl)) pss_nil))))
    (pss_one (ps_ret (pv 2))))), ?_⟩
  have l1 := hu.len
  have l2 := hok.len
  have l12 := hok.names.1
  walk_at "rd"
  refine i_dnew fun d hd => ?_
  have hs0 : Same H (upd H d (.dK [])) := Same.new hd
  have hd0 : upd H d (.dK []) d = some (.dK []) := upd_same
  generalize upd H d (.dK []) = H0 at *
  walk_at "rd"
  dsimp only
  refine i_for (i_rng1 ?_)
  walk_at "rd"
  refine ⟨_, _, rfl, .inl (sqL_inj_of (hs0 _ _ hp)), ?_⟩
  refine ⟨_, rfl, by omega, by omega, ?_⟩
  rw [Int.toNat_natCast]
  refine for_range (lo := 0) (n := us.length) (fun i σ H' => Same H H' ∧ ∃ (ls : Ls) (x3 x4 : Option V), σ = [some (.ref a), some (.ref p), some (.ref d), x3, x4] ∧ FedAt H' d (rs.take i) (isDeep rs) (deep rs) ls)
    ⟨hs0, [], none, none, rfl, ⟨[], hd0, List.nodup_nil, .nil⟩, rfl, fun a h => by simp at h⟩ ?_ ?_
  · rintro i σ H' hi ⟨s1, ls, x3, x4, rfl, hF⟩
    have e0 : (0 : Int) + (i : Int) = (i : Int) := Int.zero_add _
    rw [e0]
    have hir : i < rs.length := by omega
    have hri := List.getElem?_eq_getElem hir
    have hui := List.getElem?_eq_getElem hi
    have a1 := at_v hi
    have r1 := (hu.at_ i rs[i] us[i] hri hui).same s1
    generalize rs[i] = rw at *
    generalize us[i] = u at *
    obtain ⟨p1, p2, vs, rfl, h1, h2, h3⟩ := r1
    walk_at "rd"
    refine i_ixL (sqL_inj_of (s1 _ _ hp)) a1 ?_
    walk_at "rd"
    refine i_ixT (.inl (.inl h1)) (show atI _ 0 = some (.str rw.name) from rfl) ?_
    walk_at "rd"
    refine ⟨p, us, rs, rw.name, rfl, s1 _ _ hp, hu.same s1, ?_⟩
    obtain ⟨dn, hdn⟩ := Int.eq_ofNat_of_zero_le (deep_nn rs rw.name)
    have hd6 := deep_6 hok rw.name
    walk_at "rd"
    refine i_iteD (fun hlt => ?_) (fun hlt => ?_)
    · walk_at "rd"
      refine i_dput ?_
      walk_at "rd"
      refine i_mul (IntMulOk.of_left (by decide)) ?_
      walk_at "rd"
      refine ⟨a, ns, 3 * i + 1, dn + i % 3, by rw [hdn]; rfl, s1.seq hS, by omega, by omega, fun lp H3 l s3 hfr hlp hll => ?_⟩
      walk_at "rd"
      refine i_ixL (sqL_inj_of (s3 _ _ (s1 _ _ hp))) a1 ?_
      walk_at "rd"
      refine i_ixT (.inl (.inl (s3 _ _ h1))) (show atI _ 0 = some (.str rw.name) from rfl) ?_
      obtain ⟨H4, hput, sb, hF4⟩ := hF.next s3 hok hri (show isDeep rs rw = true from decide_eq_true hlt) hlp (show deep rs rw.name ≤ (l.length : Int) by omega)
      refine ⟨d, H4, rfl, hput, fun b o e => ?_, _, _, _, rfl, hF4⟩
      exact sb b o (ne_of_none e hd) (s3 _ _ (s1 _ _ e))
    · walk_at "rd"
      exact ⟨s1, ls, _, _, rfl, hF.skip hri (decide_eq_false hlt)⟩
  · rintro σ H' ⟨s1, ls, x3, x4, rfl, hF⟩
    walk_at "rd"
    rw [← l1, List.take_length] at hF
    exact q d H' ls s1 hd hF
theorem gets_take {m : Int} {fl bl : Ls} {M : Md} {t : Nat} {r : Row} (h : r.d = .take) : gets m fl bl M t r = [(look fl r.name).getD t 0] := if_pos h
theorem gets_not {m : Int} {fl bl : Ls} {M : Md} {t : Nat} {r : Row} (h : ¬ r.d = .take) : gets m fl bl M t r = r.reads.map (getR m bl M t) := if_neg h
theorem look_of {l : Ls} {z : Str} {xs : List Int} (h : l.lookup z = some xs) : look l z = xs := by unfold look; rw [h]; rfl
theorem at_int {ns : List Int} {i : Int} (h0 : 0 ≤ i) (h : i.toNat < ns.length) : atI (List.map V.int ns) i = some (.int (ns.getD i.toNat 0)) := by
  have e : i = ((i.toNat : Nat) : Int) := by omega
  have := at_ints (ns := ns) i.toNat h
  rw [← e] at this; exact this
theorem map_next {α β : Type} (f : α → β) {l : List α} {i : Nat} {x : α} (h : l[i]? = some x) : (l.take (i + 1)).map f = (l.take i).map f ++ [f x] := by
  rw [List.take_add_one, h, List.map_append]; rfl
theorem zs_mem {zs : List Str} {rs : List Row} (h : RowsOk zs rs) {i : Nat} {r : Row} (hr : rs[i]? = some r) : r.name ∈ zs := List.mem_iff_getElem?.mpr ⟨i, (h.at_ i r hr).name⟩
def endsL (m : Int) (bl : Ls) (rs : List Row) (M : Md) (n : Nat) (qs : List Row) : Ls := (qs.filter (isDeep rs)).map fun r => (r.name, endsOf m bl rs M n r.name)
theorem PrAt.upd {S : Addr → Prop} {H : Hp} {ps : Ls} {us xs : List V} {b : Addr} {o : HO} (h : PrAt S H ps us) (hb : H b = some (.lst xs)) (hne : ∀ p, S p → p ≠ b) : PrAt S (L2.upd H b o) ps us := ⟨h.len, fun i a u e1 e2 => by
  obtain ⟨t, p, e, h1, h2, h3⟩ := h.at_ i a u e1 e2
  exact ⟨t, p, e, by rw [upd_ne (ne_of h1 hb (by intro z; cases z))]; exact h1, by rw [upd_ne (hne p h3)]; exact h2, h3⟩⟩
theorem PrAt.snoc {S : Addr → Prop} {H : Hp} {ps : Ls} {us : List V} {a : Str × List Int} {u : V} (h : PrAt S H ps us) (hu : PrAt1 S H a u) : PrAt S H (ps ++ [a]) (us ++ [u]) := by
  refine ⟨by rw [List.length_append, List.length_append, h.len]; rfl, fun i a' u' e1 e2 => ?_⟩
  have hl := h.len
  by_cases hi : i < ps.length
  · rw [List.getElem?_append_left hi] at e1
    rw [List.getElem?_append_left (by omega)] at e2
    exact h.at_ i a' u' e1 e2
  · rw [List.getElem?_append_right (by omega)] at e1
    rw [List.getElem?_append_right (by omega)] at e2
    have h0 : i - ps.length = 0 := by
      by_cases h0 : i - ps.length = 0
      · exact h0
      · rw [List.getElem?_eq_none (by simp; omega)] at e1; cases e1
    rw [h0] at e1; rw [show i - us.length = 0 by omega] at e2
    cases e1; cases e2; exact hu
def spAlikeL : Sp := fun vs H Q _ => ∃ (p q : Addr) (l : List Int), vs = [.ref p, .ref q] ∧ H p = some (.lst (List.map V.int l)) ∧ H q = some (.lst (List.map V.int l)) ∧ l.length ≤ 400 ∧ Q (.bl true) H
theorem d_alikeL (T : Txt K mg C CE) (Kb : K.In base) (G : base.Ns mainGlobals mg) : Df P w K mg base 2 "_law_alike" ["_law_found", "_law_due"] spAlikeL := by
  have D_law_whole : Df P w K mg base 1 "_law_whole" ["_law_found"] spWhole := d_whole T Kb G
  refine T.f_alike.df Kb G sc_law_alike (fun _ _ _ _ _ _ us hl => match us, hl with | [_, _], _ => rfl) (by rintro vs H Q E ⟨p, q, l, rfl, _⟩; rfl) (fun f cdv A outer s H vs Q E hr h => ?_)
  obtain ⟨p, p', l, rfl, hp, hp', hl, q⟩ := h
  refine ⟨_, (pss_cons (ps_if (PW.pt (pw_or (pt_not (pt_val (pe_callB call_isi rfl T.nisi PyProof.Rows.boot_isinstance (pa_cons (pv 0) (pa_cons (pe_bltn (v := .ty "list") rfl T.nlist PyProof.Rows.boot_list rfl) pa_nil (se rfl)) (se rfl)) (he := se rfl) (hpl := nst rfl)))) (pw_or1 (pt_cmpR op_ne (pe_callB call_len_seq rfl T.nlen PySem.boot_len (pa_cons (pv 0) pa_nil (se rfl)) (he := se rfl) (hpl := nst rfl)) (pe_callB call_len_seq rfl T.nlen PySem.boot_len (pa_cons (pv 1) pa_nil (se rfl)) (he := se rfl) (hpl := nst rfl)) (nomark _))))) (pss_one (ps_ret pe_bl)) pss_nil)
    (pss_cons (ps_for PassesOwn.never rfl (pi_range1 rfl T.nrange (pa_cons (pe_callB call_len_seq rfl T.nlen PySem.boot_len (pa_cons (pv 1) pa_nil (se rfl)) (he := se rfl) (hpl := nst rfl)) pa_nil (se rfl))) (pg_name (i := 2) sc_law_alike.nd rfl (Or.inl rfl))
      (pss_one (ps_if (PW.pt (pw_or (pt_not (pt_val (pe_callD D_law_whole (hr.mono (by decide)) rfl (pa_cons (pe_ix ix_seq (pv 0) (pv 2) (fun _ _ => rfl)) pa_nil (se rfl)) (he := se rfl) (hpl := nst rfl)))) (pw_or1 (pt_cmpR op_ne (pe_ix ix_seq (pv 0) (pv 2) (fun _ _ => rfl)) (pe_ix ix_seq (pv 1) (pv 2) (fun _ _ => rfl)) (nomark _))))) (pss_one (ps_ret pe_bl)) pss_nil)))
    (pss_one (ps_ret pe_bl)))), ?_⟩
  have hlm : (List.map V.int l).length = l.length := List.length_map _
  walk_at "rd"
  refine i_isiL hp T.kLL ?_
  walk_at "rd"
  refine ⟨_, _, rfl, .inl (sqL_inj_of hp), ?_⟩
  walk_at "rd"
  refine ⟨_, _, rfl, .inl (sqL_inj_of hp'), ?_⟩
  walk_at "rd"
  rw [decide_eq_true (rfl : V.int ((List.map V.int l).length : Int) = V.int ((List.map V.int l).length : Int))]
  walk_at "rd"
  refine i_for (i_rng1 ?_)
  walk_at "rd"
  refine ⟨_, _, rfl, .inl (sqL_inj_of hp'), ?_⟩
  refine ⟨_, rfl, by omega, by omega, ?_⟩
  rw [Int.toNat_natCast]
  refine for_range (lo := 0) (n := (List.map V.int l).length) (fun i σ H' => H' = H ∧ ∃ x, σ = [some (.ref p), some (.ref p'), x]) ⟨rfl, none, rfl⟩ ?_ ?_
  · rintro i σ H' hi ⟨rfl, x, rfl⟩
    have e0 : (0 : Int) + (i : Int) = (i : Int) := Int.zero_add _
    rw [e0]
    have hil : i < l.length := by omega
    walk_at "rd"
    refine i_ixL (sqL_inj_of hp) (at_ints i hil) ?_
    walk_at "rd"
    refine ⟨_, rfl, ?_⟩
    walk_at "rd"
    refine i_ixL (sqL_inj_of hp) (at_ints i hil) ?_
    walk_at "rd"
    refine i_ixL (sqL_inj_of hp') (at_ints i hil) ?_
    walk_at "rd"
    rw [decide_eq_true (rfl : V.int (l.getD i 0) = V.int (l.getD i 0))]
    walk_at "rd"
    exact ⟨rfl, _, rfl⟩
  · rintro σ H' ⟨rfl, x, rfl⟩
    walk_at "rd"
    exact q
theorem paired_at {α β : Type} {F : α → β → Prop} : ∀ {l : List α} {r : List β}, Paired F l r → ∀ {i : Nat} {b : β}, r[i]? = some b → ∃ a, l[i]? = some a ∧ F a b := by
  intro l r h
  induction h with
  | nil => intro i b e; simp at e
  | @cons a b' l1 l2 h _ ih =>
    intro i b e
    cases i with
    | zero => cases e; exact ⟨a, rfl, h⟩
    | succ i => exact ih (i := i) (by simpa using e)
theorem nd_at {ls : Ls} (h : (ls.map (·.1)).Nodup) {i : Nat} {z : Str} {l : List Int} (e : ls[i]? = some (z, l)) : ¬ z ∈ (ls.take i).map (·.1) := fun hm => by
  have hi := (List.getElem?_eq_some_iff.mp e).1
  have e1 : ls.map (·.1) = (ls.take i).map (·.1) ++ z :: (ls.drop (i + 1)).map (·.1) := by
    have h1 : ls = ls.take i ++ (z, l) :: ls.drop (i + 1) := by
      have h2 : ls.drop i = (z, l) :: ls.drop (i + 1) := by
        rw [List.drop_eq_getElem_cons hi, (List.getElem?_eq_some_iff.mp e).2]
      rw [← h2, List.take_append_drop]
    conv => lhs; rw [h1]
    rw [List.map_append]; rfl
  rw [e1] at h
  exact (List.nodup_append.mp h).2.2 z hm z List.mem_cons_self rfl
def spCopyL : Sp := fun vs H Q _ => ∃ (d : Addr) (ls : Ls), vs = [.ref d] ∧ LsAt H d ls ∧ ls.length ≤ 100 ∧ ∀ d' H2, Same H H2 → H d' = none → LsAt H2 d' ls → Q (.ref d') H2
theorem d_copyL (T : Txt K mg C CE) (Kb : K.In base) (G : base.Ns mainGlobals mg) : Df P w K mg base 1 "_law_copy" ["_law_lists_here"] spCopyL := by
  refine T.f_copyL.df Kb G sc_law_copy (fun _ _ _ _ _ _ us hl => match us, hl with | [_], _ => rfl) (by rintro vs H Q E ⟨d, ls, rfl, _⟩; rfl) (fun f cdv A outer s H vs Q E hr h => ?_)
  obtain ⟨d, ls, rfl, hls, h100, q⟩ := h
  obtain ⟨kvs, hd, hnd, hpr⟩ := hls
  have hlen := Paired.len' hpr
  refine ⟨_, (pss_cons (ps_set (i := 1) sc_law_copy.nd rfl (by first | exact Or.inl rfl | exact Or.inr rfl) pe_dnewK)
    (pss_cons (ps_fz (ps_for PassesOwn.never rfl (pi_items (pv 0)) (pg_tup rfl (pgs_cons (pg_name (i := 2) sc_law_copy.nd rfl (Or.inl rfl)) (pgs_cons (pg_name (i := 3) sc_law_copy.nd rfl (Or.inl rfl)) pgs_nil)))
      (pss_one (ps_dput (hu_of hr) (pv 1) (pv 2) (pe_callTy call_listA rfl T.nlist PyProof.Rows.boot_list (pa_cons (pv 3) pa_nil (se rfl)) (he := se rfl) (hpl := nst rfl)) rfl))))
    (pss_one (ps_ret (pv 1))))), ?_⟩
  walk_at "rd"
  refine i_dnew fun D hD => ?_
  have hs0 : Same H (upd H D (.dK [])) := Same.new hD
  have hD0 : upd H D (.dK []) D = some (.dK []) := upd_same
  generalize upd H D (.dK []) = H0 at *
  have hdD : D ≠ d := fun z => by rw [z, hd] at hD; cases hD
  walk_at "rd"
  dsimp only
  refine i_fz (hs0 _ _ hd) fun o => ?_
  refine i_for (i_items ?_)
  walk_at "rd"
  refine ⟨d, o, kvs, rfl, upd_same, ?_⟩
  refine for_items (kvs := kvs) (fun i σ H' => SameB d H H' ∧ H' d = some (.frz o (.dK kvs)) ∧ ∃ (x2 x3 : Option V), σ = [some (.ref d), some (.ref D), x2, x3] ∧ LsAt H' D (ls.take i))
    ⟨fun b u n e => by rw [upd_ne n]; exact hs0 _ _ e, upd_same, none, none, rfl, ⟨[], by rw [upd_ne hdD]; exact hD0, List.nodup_nil, .nil⟩⟩ (fun i σ H' _ h => h.2.1) ?_ ?_
  · rintro i k x t σ H1 H2 hx ⟨sb, hfz, x2, x3, rfl, hL⟩ hN2
    obtain ⟨⟨z, l⟩, hzl, hk, p, hxp, hp⟩ := paired_at hpr hx
    have hk' : k = Sum.inr z := hk
    have hxp' : x = .ref p := hxp
    subst hk' hxp'
    have hpd : p ≠ d := ne_of hp hd (by intro z; cases z)
    have hp2 := hN2.same _ _ (sb p _ hpd hp)
    refine i_gtup hN2.tup rfl ?_
    walk_at "rd"
    refine i_dput ?_
    walk_at "rd"
    refine i_listAL (sqL_inj_of hp2) fun lp H3 hN3 => ?_
    walk_at "rd"
    have hil : i < ls.length := (List.getElem?_eq_some_iff.mp hzl).1
    obtain ⟨H4, hput, sb4, hL4⟩ := ((hL.same hN2.same).same hN3.same).add (z := z) (p := lp) (l := l) (nd_at hnd hzl) hN3.at (by rw [List.length_take]; omega)
    have s13 := hN2.same.trans hN3.same
    have hdD' : d ≠ D := Ne.symm hdD
    refine ⟨D, H4, rfl, hput, fun b u n e => ?_, ?_, _, _, rfl, ?_⟩
    · exact sb4 b u (fun w => by rw [w, hD] at e; cases e) (s13 _ _ (sb b u n e))
    · exact sb4 d _ hdD' (s13 _ _ hfz)
    · rw [List.take_add_one, hzl]; exact hL4
  · rintro σ H1 ⟨sb, hfz, x2, x3, rfl, hL⟩
    refine ⟨hfz, ?_⟩
    walk_at "rd"
    rw [← hlen, List.take_length] at hL
    refine q D _ (fun b u e => ?_) hD (hL.upd hfz (by intro kvs z; cases z) (by intro xs z; cases z))
    by_cases hb : b = d
    · rw [hb] at e ⊢
      rw [hd] at e
      rw [upd_same]; exact e
    · rw [upd_ne hb]; exact sb b u hb e
structure RunAt (CL CR : Addr) (H0 H : Hp) (x : Addr) (m : Int) (rs : List Row) (zs : List Str) (fl bl : Ls) (A : Str → Addr) (M : Md) : Prop where
  ex : ∃ (lx k fd bd md dx : Addr) (fs : List (Str × V)), LoopAt CL H0 lx k m rs ∧ LsAt H0 fd fl ∧ LsAt H0 bd bl ∧ H x = some (.ins CR dx fs) ∧ fs.lookup (Str.ofString "loop") = some (.ref lx) ∧ fs.lookup (Str.ofString "feeds") = some (.ref fd) ∧ fs.lookup (Str.ofString "begin") = some (.ref bd) ∧ fs.lookup (Str.ofString "made") = some (.ref md) ∧
    (fs.lookup (Str.ofString "made_at") = none ∧ fs.lookup (Str.ofString "number_read") = none ∧ fs.lookup (Str.ofString "numbers_for") = none ∧ fs.lookup (Str.ofString "do_turn") = none ∧ fs.lookup (Str.ofString "last_made") = none) ∧ MadeAt H md A zs M
  same : Same H0 H
  fr : ∀ z ∈ zs, H0 (A z) = none
theorem RunAt.to {CL CR : Addr} {H0 H H' : Hp} {x : Addr} {m : Int} {rs : List Row} {zs : List Str} {fl bl : Ls} {A : Str → Addr} {M : Md} (s : Same H H') (h : RunAt CL CR H0 H x m rs zs fl bl A M) : RunAt CL CR H0 H' x m rs zs fl bl A M := by
  obtain ⟨⟨lx, k, fd, bd, md, dx, fs, a, b, c, d, e1, e2, e3, e4, e5, hM⟩, hs, hf⟩ := h
  exact ⟨⟨lx, k, fd, bd, md, dx, fs, a, b, c, s _ _ d, e1, e2, e3, e4, e5, hM.same s⟩, hs.trans s, hf⟩
theorem loop_fs {CL : Addr} {H : Hp} {x k : Addr} {m : Int} {rs : List Row} (h : LoopAt CL H x k m rs) : ∃ dx fs, H x = some (.ins CL dx fs) ∧ fs.lookup (Str.ofString "measure") = some (.int m) ∧ fs.lookup (Str.ofString "rows") = none ∧ fs.lookup (Str.ofString "deepest") = none := by
  obtain ⟨dx, d, fs, ws, kvs, h1, a, b, c, e, f, _⟩ := h
  exact ⟨dx, fs, h1, a, e, f⟩
def spRMadeAt (CL CR : Addr) : Sp := fun vs H Q _ => ∃ (H0 : Hp) (x : Addr) (m : Int) (rs : List Row) (zs : List Str) (fl bl : Ls) (A : Str → Addr) (M : Md) (z : Str) (t : Int), vs = [.ref x, .str z, .int t] ∧ RunAt CL CR H0 H x m rs zs fl bl A M ∧ z ∈ zs ∧ 0 < m ∧ (t < 0 → ∃ l, bl.lookup z = some l ∧ (-t - 1).toNat < l.length) ∧ (0 ≤ t → t.toNat < (M z).length) ∧
  Q (.int (if t < 0 then (look bl z).getD (-t - 1).toNat 0 % m else (M z).getD t.toNat 0)) H
theorem m_madeat (T : Txt K mg C CE) : MethI P w K mg base 1 "made_at" ["self", "name", "turn"] (fun _ : Unit => CE .Run) (fun _ => spRMadeAt (CE .Loop) (CE .Run)) := by
  refine ⟨fun _ => ⟨T.i_Run.cl, ?_⟩⟩
  refine T.f_Run_made_at.fn sc_Run_made_at (fun _ _ _ _ _ _ us hl => match us, hl with | [_, _, _], _ => rfl) (by rintro vs H Q E ⟨H0, x, m, rs, zs, fl, bl, A, M, z, t, rfl, _⟩; rfl) (fun f cdv A outer s H vs Q E hr h => ?_)
  obtain ⟨H0, x, m, rs, zs, fl, bl, A', M, z, t, rfl, hR, hz, m0, hlt, hle, q⟩ := h
  obtain ⟨⟨lx, k, fd, bd, md, dx, fs, hL, hf, hb, hx, f1, f2, f3, f4, f5, hM⟩, hs, hfr⟩ := hR
  obtain ⟨dxl, fsl, hlx, gm, gr, gd⟩ := loop_fs (hL.same hs)
  refine ⟨_, (pss_cons (ps_if (pt_cmpR op_lt (pv 2) pe_int (nomark _)) (pss_one (ps_ret (pe_op op_mod (pe_ix ix_seq (pe_dget (hu_of hr) (pe_fld (pv 0) rfl) (pv 1) (fun _ _ => rfl)) (pe_op op_sub (pe_un un_neg (pv 2)) pe_int) (fun _ _ => rfl)) (pe_fld (pe_fld (pv 0) rfl) rfl)))) pss_nil)
    (pss_one (ps_ret (pe_ix ix_seq (pe_dget (hu_of hr) (pe_fld (pv 0) rfl) (pv 1) (fun _ _ => rfl)) (pv 2) (fun _ _ => rfl))))), ?_⟩
  walk_at "rd"
  refine i_iteD (fun h0 => ?_) (fun h0 => ?_)
  · rw [if_pos h0] at q
    obtain ⟨l, hl, hll⟩ := hlt h0
    obtain ⟨lp, g1, g2⟩ := (hb.same hs).get hl
    rw [look_of hl] at q
    walk_at "rd"
    refine i_dix ?_
    refine i_fld ?_
    walk_at "rd"
    refine ⟨x, _, dx, fs, .ref bd, rfl, hx, T.i_Run.cl, T.nRB, f3, ?_⟩
    walk_at "rd"
    refine ⟨bd, _, rfl, g1, ?_⟩
    walk_at "rd"
    refine i_ixL (sqL_inj_of g2) (at_int (by omega) hll) ?_
    walk_at "rd"
    refine i_fld ?_
    refine i_fld ?_
    walk_at "rd"
    refine ⟨x, _, dx, fs, .ref lx, rfl, hx, T.i_Run.cl, T.nRL, f1, ?_⟩
    refine ⟨lx, _, dxl, fsl, .int m, rfl, hlx, T.i_Loop.cl, T.nM, gm, ?_⟩
    walk_at "rd"
    exact q
  · rw [if_neg h0] at q
    walk_at "rd"
    refine i_dix ?_
    refine i_fld ?_
    walk_at "rd"
    refine ⟨x, _, dx, fs, .ref md, rfl, hx, T.i_Run.cl, T.nRM, f4, ?_⟩
    walk_at "rd"
    refine ⟨md, _, rfl, hM.get hz, ?_⟩
    walk_at "rd"
    refine i_ixL (sqL_inj_of (hM.at_ z hz)) (at_int (by omega) (hle (by omega))) ?_
    exact q
def spRNumRead (CL CR : Addr) : Sp := fun vs H Q _ => ∃ (H0 : Hp) (x : Addr) (m : Int) (rs : List Row) (zs : List Str) (fl bl : Ls) (A : Str → Addr) (M : Md) (v : V) (rd : Rd) (t : Nat), vs = [.ref x, v, .int (t : Int)] ∧ RunAt CL CR H0 H x m rs zs fl bl A M ∧ RdAt H rd v ∧ RdGo bl zs M t rd ∧ 0 < m ∧ Q (.int (getR m bl M t rd)) H
theorem m_numread (T : Txt K mg C CE) : MethI P w K mg base 2 "number_read" ["self", "read", "turn"] (fun _ : Unit => CE .Run) (fun _ => spRNumRead (CE .Loop) (CE .Run)) := by
  have Mmade_at : MethI P w K mg base 1 "made_at" ["self", "name", "turn"] (fun _ : Unit => CE .Run) (fun _ => spRMadeAt (CE .Loop) (CE .Run)) := m_madeat T
  refine ⟨fun _ => ⟨T.i_Run.cl, ?_⟩⟩
  refine T.f_Run_number_read.fn sc_Run_number_read (fun _ _ _ _ _ _ us hl => match us, hl with | [_, _, _], _ => rfl) (by rintro vs H Q E ⟨H0, x, m, rs, zs, fl, bl, A, M, v, rd, t, rfl, _⟩; rfl) (fun f cdv A outer s H vs Q E hr h => ?_)
  obtain ⟨H0, x, m, rs, zs, fl, bl, A', M, v, rd, t, rfl, hR, hrd, hgo, m0, q⟩ := h
  refine ⟨_, (pss_cons (ps_if (pt_val (pe_callB call_isi rfl T.nisi PyProof.Rows.boot_isinstance (pa_cons (pv 1) (pa_cons (pe_bltn (v := .ty "int") rfl T.nint PyProof.Rows.boot_int rfl) pa_nil (se rfl)) (se rfl)) (he := se rfl) (hpl := nst rfl))) (pss_one (ps_ret (pv 1))) pss_nil)
    (pss_one (ps_ret (pe_methI Mmade_at (pv 0) (hr.mono (by decide)) (pa_cons (pe_ix ix_seq (pv 1) pe_int (fun _ _ => rfl)) (pa_cons (pe_op op_sub (pv 2) (pe_ix ix_seq (pv 1) pe_int (fun _ _ => rfl))) pa_nil (se rfl)) (se rfl)) (hst := se rfl) (hpl := nst rfl))))), ?_⟩
  cases rd with
  | num i =>
    have e : v = .int i := hrd
    subst e
    walk_at "rd"
    refine i_isiI T.kII ?_
    walk_at "rd"
    exact q
  | back z b =>
    obtain ⟨ta, rfl, hta⟩ := hrd
    obtain ⟨hz, b0, glt, gle⟩ := hgo
    have hR0 := hR
    obtain ⟨⟨lx, k, fd, bd, md, dx, fs, hL, hf, hb, hx, f1, f2, f3, f4, ⟨f5, f6, f7, f8, f9⟩, hM⟩, hs, hfr⟩ := hR
    walk_at "rd"
    refine i_isiT hta T.kTI ?_
    walk_at "rd"
    refine i_methI ?_
    walk_at "rd"
    refine ⟨(), x, dx, fs, rfl, hx, f5, ?_⟩
    walk_at "rd"
    refine i_ixT (.inl (.inl hta)) (show atI _ 0 = some (.str z) from rfl) ?_
    walk_at "rd"
    refine i_ixT (.inl (.inl hta)) (show atI _ 1 = some (.int b) from rfl) ?_
    walk_at "rd"
    refine ⟨H0, x, m, rs, zs, fl, bl, A', M, z, (t : Int) - b, rfl, hR0, hz, m0, fun h0 => ?_, fun h0 => gle (by omega), ?_⟩
    · obtain ⟨l, h1, h2⟩ := glt (by omega)
      exact ⟨l, h1, by omega⟩
    · have e : (if (t : Int) - b < 0 then (look bl z).getD (-((t : Int) - b) - 1).toNat 0 % m else (M z).getD ((t : Int) - b).toNat 0) = getR m bl M t (.back z b) := by
        show _ = if (t : Int) < b then (look bl z).getD (b - t - 1).toNat 0 % m else (M z).getD ((t : Int) - b).toNat 0
        by_cases h0 : (t : Int) < b
        · rw [if_pos h0, if_pos (by omega), show (-((t : Int) - b) - 1).toNat = (b - t - 1).toNat by omega]
        · rw [if_neg h0, if_neg (by omega)]
      rw [e]; exact q
def spRNumFor (CL CR : Addr) : Sp := fun vs H Q _ => ∃ (H0 : Hp) (x : Addr) (m : Int) (rs : List Row) (zs : List Str) (fl bl : Ls) (A : Str → Addr) (M : Md) (v : V) (r : Row) (t : Nat), vs = [.ref x, v, .int (t : Int)] ∧ RunAt CL CR H0 H x m rs zs fl bl A M ∧ RowAt H r v ∧ RowGo fl bl zs M t r ∧ 0 < m ∧ r.reads.length ≤ 3 ∧
  ∀ p H2, Same H H2 → H2 p = some (.lst (List.map V.int (gets m fl bl M t r))) → Q (.ref p) H2
theorem m_numfor (T : Txt K mg C CE) : MethI P w K mg base 3 "numbers_for" ["self", "row", "turn"] (fun _ : Unit => CE .Run) (fun _ => spRNumFor (CE .Loop) (CE .Run)) := by
  have Mnumber_read : MethI P w K mg base 2 "number_read" ["self", "read", "turn"] (fun _ : Unit => CE .Run) (fun _ => spRNumRead (CE .Loop) (CE .Run)) := m_numread T
  refine ⟨fun _ => ⟨T.i_Run.cl, ?_⟩⟩
  refine T.f_Run_numbers_for.fn sc_Run_numbers_for (fun _ _ _ _ _ _ us hl => match us, hl with | [_, _, _], _ => rfl) (by rintro vs H Q E ⟨H0, x, m, rs, zs, fl, bl, A, M, v, r, t, rfl, _⟩; rfl) (fun f cdv A outer s H vs Q E hr h => ?_)
  obtain ⟨H0, x, m, rs, zs, fl, bl, A', M, v, r, t, rfl, hR, hrow, hgo, m0, hr3, q⟩ := h
  have hR0 := hR
  obtain ⟨⟨lx, k, fd, bd, md, dx, fs, hL, hf, hb, hx, f1, f2, f3, f4, ⟨f5, f6, f7, f8, f9⟩, hM⟩, hs, hfr⟩ := hR
  obtain ⟨p1, p2, vs, rfl, h1, h2, h3⟩ := hrow
  have l3 := h3.len
  have lb := line_big
  refine ⟨_, (pss_cons (ps_if (pt_cmpR op_eq (pe_ix ix_seq (pv 1) pe_int (fun _ _ => rfl)) pe_str (nomark _)) (pss_one (ps_ret (pe_lstA (pa_cons (pe_ix ix_seq (pe_dget (hu_of hr) (pe_fld (pv 0) rfl) (pe_ix ix_seq (pv 1) pe_int (fun _ _ => rfl)) (fun _ _ => rfl)) (pv 2) (fun _ _ => rfl)) pa_nil (se rfl))))) pss_nil)
    (pss_one (ps_ret (pe_lc (Blk.of (caps := ["turn", "self"]) (ix := [2, 0]) rfl) rfl (pi_tup (pe_ix ix_seq (pv 1) pe_int (fun _ _ => rfl))) (fun _ _ _ _ => pf_nil) (fun _ _ _ _ => (pe_methI Mnumber_read (pv 2) (hr.mono (by decide)) (pa_cons (pv 0) (pa_cons (pv 1) pa_nil (se rfl)) (se rfl)) (hst := se rfl) (hpl := nst rfl))))))), ?_⟩
  walk_at "rd"
  refine i_ixT (.inl (.inl h1)) (show atI _ 1 = some (.str r.d.word) from rfl) ?_
  walk_at "rd"
  by_cases ht : r.d = .take
  · refine i_iteSe (by rw [ht]; rfl) ?_
    obtain ⟨l, hl, htl⟩ := hgo.1 ht
    obtain ⟨lp, g1, g2⟩ := (hf.same hs).get hl
    walk_at "rd"
    refine i_dix ?_
    refine i_fld ?_
    walk_at "rd"
    refine ⟨x, _, dx, fs, .ref fd, rfl, hx, T.i_Run.cl, T.nRF, f2, ?_⟩
    walk_at "rd"
    refine i_ixT (.inl (.inl h1)) (show atI _ 0 = some (.str r.name) from rfl) ?_
    refine ⟨fd, _, rfl, g1, ?_⟩
    walk_at "rd"
    refine i_ixL (sqL_inj_of g2) (at_ints t htl) ?_
    walk_at "rd"
    refine ⟨by show 1 ≤ sizeLine; omega, fun p H2 hN => ?_⟩
    refine q p H2 hN.same ?_
    rw [hN.at, gets_take ht, look_of hl]; rfl
  · refine i_iteSf (word_ne (e := .take) ht) ?_
    walk_at "rd"
    refine i_lc (i_tupI ?_)
    walk_at "rd"
    refine i_ixT (.inl (.inl h1)) (show atI _ 2 = some (.ref p1) from rfl) ?_
    refine ⟨p1, rfl, ⟨vs, .inl (.inl h2)⟩, ?_⟩
    refine lcN (LcIt.tup (.inl (.inl h2))) (fun D i y H' => ∃ rd, r.reads[i]? = some rd ∧ y = .int (getR m bl M t rd)) (by omega) (fun D i y H' H'' _ h => h) (fun D i H' R hi hD hy s' rr => ?_) (fun D ys H2 hD s2 hHD hyl hP => ?_)
    · have hir : i < r.reads.length := by omega
      have hri := List.getElem?_eq_getElem hir
      have hvi := List.getElem?_eq_getElem hi
      have ra := (h3.at_ i r.reads[i] vs[i] hri hvi).same s'
      have go := hgo.2 r.reads[i] (List.getElem_mem hir)
      have ev : vs.getD i V.non = vs[i] := by rw [List.getD, hvi]; rfl
      rw [ev]
      generalize vs[i] = v at *
      walk_at "rd"
      refine i_methI ?_
      walk_at "rd"
      refine ⟨(), x, dx, fs, rfl, s' _ _ hx, f6, ?_⟩
      walk_at "rd"
      refine ⟨H0, x, m, rs, zs, fl, bl, A', M, v, r.reads[i], t, rfl, hR0.to s', ra, go, m0, ?_⟩
      exact rr _ _ (Same.refl _) ⟨r.reads[i], hri, rfl⟩
    · refine q D H2 s2 ?_
      rw [hHD, gets_not ht]
      congr 1; congr 1
      refine List.ext_getElem? fun i => ?_
      rw [List.getElem?_map, List.getElem?_map]
      by_cases hi : i < ys.length
      · obtain ⟨rd, e1, e2⟩ := hP i ys[i] (List.getElem?_eq_getElem hi)
        rw [List.getElem?_eq_getElem hi, e1, e2]; rfl
      · rw [List.getElem?_eq_none (by omega), List.getElem?_eq_none (by omega)]; rfl
def spRTurn (CL CR : Addr) : Sp := fun vs H Q _ => ∃ (H0 : Hp) (x : Addr) (m : Int) (rs : List Row) (zs : List Str) (fl bl : Ls) (A : Str → Addr) (M : Md) (t n : Nat), vs = [.ref x, .int (t : Int)] ∧ RunAt CL CR H0 H x m rs zs fl bl A M ∧ RowsOk zs rs ∧ Going zs m 0 t M ∧ FeOk rs fl n ∧ BeOk rs bl ∧ t < n ∧ n ≤ 300 ∧ 2 ≤ m ∧ m ≤ 10 ^ 60 ∧
  ∀ H2, RunAt CL CR H0 H2 x m rs zs fl bl A (turnR m fl bl rs M t) → Q .non H2
theorem m_turn (T : Txt K mg C CE) (Kb : K.In base) (G : base.Ns mainGlobals mg) : MethI P w K mg base 4 "do_turn" ["self", "turn"] (fun _ : Unit => CE .Run) (fun _ => spRTurn (CE .Loop) (CE .Run)) := by
  have Mnumbers_for : MethI P w K mg base 3 "numbers_for" ["self", "row", "turn"] (fun _ : Unit => CE .Run) (fun _ => spRNumFor (CE .Loop) (CE .Run)) := m_numfor T
  have Mrows : MethI P w K mg base 1 "rows" ["self"] (fun _ : Unit => CE .Loop) (fun _ => spLRows (CE .Loop)) := m_rows T
  have Ddeed_of : Df P w K mg base 1 "deed_of" ["word"] (spDeedA C) := d_deed T Kb G
  have Mof : MethI P w K mg base 1 "of" ["self", "numbers", "measure"] C (spOf K) := m_of T
  refine ⟨fun _ => ⟨T.i_Run.cl, ?_⟩⟩
  refine T.f_Run_do_turn.fn sc_Run_do_turn (fun _ _ _ _ _ _ us hl => match us, hl with | [_, _], _ => rfl) (by rintro vs H Q E ⟨H0, x, m, rs, zs, fl, bl, A, M, t, n, rfl, _⟩; rfl) (fun f cdv A outer s H vs Q E hr h => ?_)
  obtain ⟨H0, x, m, rs, zs, fl, bl, A', M, t, n, rfl, hR, hok, hg, hfe, hbe, htn, hn, m2, m60, q⟩ := h
  have hR0 := hR
  obtain ⟨⟨lx, k, fd, bd, md, dx, fs, hL, hf, hb, hx, f1, f2, f3, f4, ⟨f5, f6, f7, f8, f9⟩, hM⟩, hs, hfr⟩ := hR
  obtain ⟨dxl, fsl, hlx, gm, gr, gd⟩ := loop_fs hL
  have m0 : 0 < m := by omega
  have l2 := hok.len
  have l12 := hok.names.1
  have lb := line_big
  refine ⟨_, (pss_one (ps_for PassesOwn.never rfl (pi_list (pe_methI0 Mrows (pe_fld (pv 0) rfl) (hr.mono (by decide)))) (pg_name (i := 2) sc_Run_do_turn.nd rfl (Or.inl rfl))
      (pss_cons (ps_set (i := 3) sc_Run_do_turn.nd rfl (by first | exact Or.inl rfl | exact Or.inr rfl) (pe_methI Mnumbers_for (pv 0) (hr.mono (by decide)) (pa_cons (pv 2) (pa_cons (pv 1) pa_nil (se rfl)) (se rfl)) (hst := se rfl) (hpl := nst rfl)))
    (pss_one (ps_expr (pe_bm PySem.F.plainAttrs_list PySem.F.slot_list_append PySem.F.type_list_append mt_append (pe_dget (hu_of hr) (pe_fld (pv 0) rfl) (pe_ix ix_seq (pv 2) pe_int (fun _ _ => rfl)) (fun _ _ => rfl)) (pa_cons (pe_methI Mof (pe_callD Ddeed_of (hr.mono (by decide)) rfl (pa_cons (pe_ix ix_seq (pv 2) pe_int (fun _ _ => rfl)) pa_nil (se rfl)) (he := se rfl) (hpl := nst rfl)) (hr.mono (by decide)) (pa_cons (pv 3) (pa_cons (pe_fld (pe_fld (pv 0) rfl) rfl) pa_nil (se rfl)) (se rfl)) (hst := se rfl) (hpl := nst rfl)) pa_nil (se rfl)) (hs := se rfl) (hplain := nst rfl))))))), ?_⟩
  walk_at "rd"
  refine i_for (i_list ?_)
  refine i_methI ?_
  refine i_fld ?_
  walk_at "rd"
  refine ⟨x, _, dx, fs, .ref lx, rfl, hx, T.i_Run.cl, T.nRL, f1, ?_⟩
  refine ⟨(), lx, dxl, fsl, rfl, hs _ _ hlx, gr, ?_⟩
  walk_at "rd"
  refine ⟨lx, k, m, rs, rfl, hL.same hs, fun p us H1 hN1 hu => ?_⟩
  have l1 := hu.len
  refine ⟨p, rfl, ⟨us, hN1.lst⟩, ?_⟩
  refine for_list (xs := us) (fun i σ H' => RunAt (CE .Loop) (CE .Run) H0 H' x m rs zs fl bl A' ((rs.take i).foldl (stepR m fl bl t) M) ∧ H' p = some (.lst us) ∧ RowsAt H' rs us ∧ H' x = some (.ins (CE .Run) dx fs) ∧ MadeAt H' md A' zs ((rs.take i).foldl (stepR m fl bl t) M) ∧ ∃ x2 x3, σ = [some (.ref x), some (.int (t : Int)), x2, x3])
    ⟨hR0.to hN1.same, hN1.at, hu, hN1.same _ _ hx, hM.same hN1.same, none, none, rfl⟩ (fun i σ H' _ h => sqL_inj_of h.2.1) ?_ ?_
  · rintro i u σ H3 hui ⟨hR3, hp3, hu3, hx3, hM3, x2, x3, rfl⟩
    have hiu := (List.getElem?_eq_some_iff.mp hui).1
    have hir : i < rs.length := by rw [l1]; exact hiu
    have hri := List.getElem?_eq_getElem hir
    have r1 := hu3.at_ i rs[i] u hri hui
    have gi := hg.take (fl := fl) (bl := bl) hok m0 i (by omega)
    have go := gi.go hok hri hfe hbe htn
    have rok := hok.at_ i rs[i] hri
    have hzm := zs_mem hok hri
    have fn := fold_next (stepR m fl bl t) M hri
    have hrd3 : rs[i].reads.length ≤ 3 := by rw [rok.many]; exact wants3 _
    generalize rs[i] = rw at *
    generalize (rs.take i).foldl (stepR m fl bl t) M = M3 at *
    have r0 := r1
    obtain ⟨p1, p2, vs, rfl, h1, h2, h3⟩ := r1
    have hlM := gi.len i rw.name rok.name
    rw [if_neg (by omega)] at hlM
    have hs3 := hR3.same
    walk_at "rd"
    refine i_methI ?_
    walk_at "rd"
    refine ⟨(), x, dx, fs, rfl, hx3, f7, ?_⟩
    walk_at "rd"
    refine ⟨H0, x, m, rs, zs, fl, bl, A', M3, .ref p2, rw, t, rfl, hR3, r0, go, m0, hrd3, fun np H4 s4 hnp => ?_⟩
    have hx4 := s4 _ _ hx3
    have hM4 := hM3.same s4
    walk_at "rd"
    refine i_dix ?_
    refine i_fld ?_
    walk_at "rd"
    refine ⟨x, _, dx, fs, .ref md, rfl, hx4, T.i_Run.cl, T.nRM, f4, ?_⟩
    walk_at "rd"
    refine i_ixT (.inl (.inl (s4 _ _ h1))) (show atI _ 0 = some (.str rw.name) from rfl) ?_
    refine ⟨md, _, rfl, hM4.get hzm, ?_⟩
    refine ⟨.inl ⟨rfl, _, sqL_inj_of (hM4.at_ _ hzm)⟩, ?_⟩
    walk_at "rd"
    refine i_methI ?_
    walk_at "rd"
    refine i_ixT (.inl (.inl (s4 _ _ h1))) (show atI _ 1 = some (.str rw.d.word) from rfl) ?_
    walk_at "rd"
    refine ⟨rw.d, rfl, fun y dy H5 hN5 => ?_⟩
    refine ⟨rw.d, y, dy, [], rfl, hN5.at, rfl, ?_⟩
    have s5 := s4.trans hN5.same
    walk_at "rd"
    refine i_fld ?_
    refine i_fld ?_
    walk_at "rd"
    refine ⟨x, _, dx, fs, .ref lx, rfl, s5 _ _ hx3, T.i_Run.cl, T.nRL, f1, ?_⟩
    refine ⟨lx, _, dxl, fsl, .int m, rfl, s5 _ _ (hs3 _ _ hlx), T.i_Loop.cl, T.nM, gm, ?_⟩
    walk_at "rd"
    refine ⟨y, np, gets m fl bl M3 t rw, m, rfl, sqL_inj_of (hN5.same _ _ hnp), gets_len rok, m0, fun hti => ?_, ?_⟩
    · have ntk : rw.d ≠ .take := by rw [hti]; decide
      have e60 : (10 : Int) ^ 60 < 2 ^ 200 := by decide +kernel
      have b0 := gets_b (fl := fl) (bl := bl) gi m0 m60 rok ntk 0
      have b1 := gets_b (fl := fl) (bl := bl) gi m0 m60 rok ntk 1
      exact ok_of 200 200 b0.1 (by omega) b1.1 (by omega) (by decide)
    have hM5 := hM3.same s5
    walk_at "rd"
    refine i_append (hM5.at_ _ hzm) (by rw [List.length_map]; omega) ?_
    have hA5 := hM5.at_ _ hzm
    have hM6 := hM5.app (M' := stepR m fl bl t M3 rw) (x := rw.d.of (gets m fl bl M3 t rw) m) hzm fun y => rfl
    have hx6 : upd H5 (A' rw.name) (.lst (List.map V.int (M3 rw.name) ++ [.int (rw.d.of (gets m fl bl M3 t rw) m)])) x = some (.ins (CE .Run) dx fs) := by
      rw [upd_ne (ne_of (s5 _ _ hx3) hA5 (by intro z; cases z))]; exact s5 _ _ hx3
    have hs6 : Same H0 (upd H5 (A' rw.name) (.lst (List.map V.int (M3 rw.name) ++ [.int (rw.d.of (gets m fl bl M3 t rw) m)]))) := fun b o e => by
      rw [upd_ne (ne_of_none e (hfr _ hzm))]; exact s5 _ _ (hs3 _ _ e)
    have hp5 := s5 _ _ hp3
    have hpA : p ≠ A' rw.name := fun z => by
      have := hM.at_ _ hzm
      rw [← z, hN1.free] at this; cases this
    rw [fn]
    refine ⟨⟨⟨lx, k, fd, bd, md, dx, fs, hL, hf, hb, hx6, f1, f2, f3, f4, ⟨f5, f6, f7, f8, f9⟩, hM6⟩, hs6, hfr⟩, ?_, (hu3.same s5).keep (TK.upd hA5 (by intro xs z; cases z)), hx6, hM6, _, _, rfl⟩
    rw [upd_ne hpA]; exact hp5
  · rintro σ H3 ⟨hR3, hp3, hu3, hx3, hM3, x2, x3, rfl⟩
    rw [← l1, List.take_length] at hR3
    exact q H3 hR3
def spRLast (CL CR : Addr) : Sp := fun vs H Q _ => ∃ (H0 : Hp) (x : Addr) (m : Int) (rs : List Row) (zs : List Str) (fl bl : Ls) (A : Str → Addr) (M : Md) (z : Str) (n : Nat), vs = [.ref x, .str z, .int (n : Int)] ∧ RunAt CL CR H0 H x m rs zs fl bl A M ∧ RowsOk zs rs ∧ z ∈ zs ∧ (0 < deep rs z → ∃ l, bl.lookup z = some l ∧ deep rs z ≤ l.length) ∧ (M z).length = n ∧ 0 < m ∧
  ∀ p H2, New H p (.lst (List.map V.int (endsOf m bl rs M n z))) H2 → Q (.ref p) H2
theorem m_last (T : Txt K mg C CE) : MethI P w K mg base 2 "last_made" ["self", "name", "turns"] (fun _ : Unit => CE .Run) (fun _ => spRLast (CE .Loop) (CE .Run)) := by
  have Mmade_at : MethI P w K mg base 1 "made_at" ["self", "name", "turn"] (fun _ : Unit => CE .Run) (fun _ => spRMadeAt (CE .Loop) (CE .Run)) := m_madeat T
  have Mdeepest : MethI P w K mg base 1 "deepest" ["self", "name"] (fun _ : Unit => CE .Loop) (fun _ => spLDeep (CE .Loop)) := m_deepest T
  refine ⟨fun _ => ⟨T.i_Run.cl, ?_⟩⟩
  refine T.f_Run_last_made.fn sc_Run_last_made (fun _ _ _ _ _ _ us hl => match us, hl with | [_, _, _], _ => rfl) (by rintro vs H Q E ⟨H0, x, m, rs, zs, fl, bl, A, M, z, n, rfl, _⟩; rfl) (fun f cdv A outer s H vs Q E hr h => ?_)
  obtain ⟨H0, x, m, rs, zs, fl, bl, A', M, z, n, rfl, hR, hok, hz, hbz, hlM, m0, q⟩ := h
  have hR0 := hR
  obtain ⟨⟨lx, k, fd, bd, md, dx, fs, hL, hf, hb, hx, f1, f2, f3, f4, ⟨f5, f6, f7, f8, f9⟩, hM⟩, hs, hfr⟩ := hR
  obtain ⟨dxl, fsl, hlx, gm, gr, gd⟩ := loop_fs hL
  have hd6 := deep_6 hok z
  obtain ⟨dn, hdn⟩ := Int.eq_ofNat_of_zero_le (deep_nn rs z)
  have lb := line_big
  refine ⟨_, (pss_one (ps_ret (pe_lc (Blk.of (caps := ["name", "self", "turns"]) (ix := [1, 0, 2]) rfl) rfl (pi_range1 rfl T.nrange (pa_cons (pe_methI Mdeepest (pe_fld (pv 0) rfl) (hr.mono (by decide)) (pa_cons (pv 1) pa_nil (se rfl)) (hst := se rfl) (hpl := nst rfl)) pa_nil (se rfl))) (fun _ _ _ _ => pf_nil) (fun _ _ _ _ => (pe_methI Mmade_at (pv 2) (hr.mono (by decide)) (pa_cons (pv 1) (pa_cons (pe_op op_sub (pe_op op_sub (pv 3) pe_int) (pv 0)) pa_nil (se rfl)) (se rfl)) (hst := se rfl) (hpl := nst rfl)))))), ?_⟩
  walk_at "rd"
  refine i_lc (i_rng1 ?_)
  walk_at "rd"
  refine i_methI ?_
  refine i_fld ?_
  walk_at "rd"
  refine ⟨x, _, dx, fs, .ref lx, rfl, hx, T.i_Run.cl, T.nRL, f1, ?_⟩
  refine ⟨(), lx, dxl, fsl, rfl, hs _ _ hlx, gd, ?_⟩
  walk_at "rd"
  refine ⟨lx, k, m, rs, z, rfl, hL.same hs, ?_⟩
  walk_at "rd"
  rw [hdn]
  refine ⟨_, rfl, by omega, by omega, ?_⟩
  rw [Int.toNat_natCast]
  refine lcR (n := dn) (fun i => .int (endV m bl M n z i)) (by omega) (fun i H' R hi s' rr => ?_) (fun D H2 hN => ?_)
  · have e0 : (0 : Int) + (i : Int) = (i : Int) := Int.zero_add _
    rw [e0]
    walk_at "rd"
    refine i_methI ?_
    walk_at "rd"
    refine ⟨(), x, dx, fs, rfl, s' _ _ hx, f5, ?_⟩
    walk_at "rd"
    refine ⟨H0, x, m, rs, zs, fl, bl, A', M, z, (n : Int) - 1 - (i : Int), rfl, hR0.to s', hz, m0, fun h0 => ?_, fun h0 => by omega, ?_⟩
    · obtain ⟨l, h1, h2⟩ := hbz (by omega)
      exact ⟨l, h1, by omega⟩
    · have e : (if (n : Int) - 1 - (i : Int) < 0 then (look bl z).getD (-((n : Int) - 1 - (i : Int)) - 1).toNat 0 % m else (M z).getD ((n : Int) - 1 - (i : Int)).toNat 0) = endV m bl M n z i := by
        unfold endV
        by_cases h0 : n < i + 1
        · rw [if_pos h0, if_pos (by omega), show (-((n : Int) - 1 - (i : Int)) - 1).toNat = i - n by omega]
        · rw [if_neg h0, if_neg (by omega), show ((n : Int) - 1 - (i : Int)).toNat = n - 1 - i by omega]
      rw [e]; exact rr
  · refine q D H2 ?_
    unfold endsOf
    rw [hdn, Int.toNat_natCast, List.map_map]
    exact hN
def spRunInit (CL CR : Addr) : Sp := fun vs H Q _ => ∃ (H0 : Hp) (x dx lx k fd bd : Addr) (m : Int) (rs : List Row) (zs : List Str) (fl bl : Ls), vs = [.ref x, .ref lx, .ref fd, .ref bd] ∧ H x = some (.ins CR dx []) ∧ Same H0 H ∧ H0 x = none ∧ LoopAt CL H0 lx k m rs ∧ LsAt H0 fd fl ∧ LsAt H0 bd bl ∧ RowsOk zs rs ∧
  ∀ A H2, RunAt CL CR H0 H2 x m rs zs fl bl A (fun _ => []) → Q .non H2
theorem mk_run (T : Txt K mg C CE) : MkI P w K mg base 2 (CE .Run) ["self", "loop", "feeds", "begin"] (spRunInit (CE .Loop) (CE .Run)) := by
  have Mrows : MethI P w K mg base 1 "rows" ["self"] (fun _ : Unit => CE .Loop) (fun _ => spLRows (CE .Loop)) := m_rows T
  refine T.i_Run.mki sc_Run___init__ (fun _ _ _ _ _ _ us hl => match us, hl with | [_, _, _, _], _ => rfl) (by rintro vs H Q E ⟨H0, x, dx, lx, k, fd, bd, m, rs, zs, fl, bl, rfl, _⟩; rfl) (fun f cdv A outer s H vs Q E hr h => ?_)
  obtain ⟨H0, x, dx, lx, k, fd, bd, m, rs, zs, fl, bl, rfl, hx, hs, hx0, hL, hf, hb, hok, q⟩ := h
  obtain ⟨dxl, fsl, hlx, gm, gr, gd⟩ := loop_fs hL
  have l2 := hok.len
  have l12 := hok.names.1
  have lb := line_big
  have su : ∀ {H' : Hp} {o : HO}, Same H0 H' → Same H0 (upd H' x o) := fun s b u e => by rw [upd_ne (ne_of_none e hx0)]; exact s _ _ e
  refine ⟨_, (pss_cons (ps_fld (pv 0) (pv 1) (by with_unfolding_all rfl))
    (pss_cons (ps_fld (pv 0) (pv 2) (by with_unfolding_all rfl))
    (pss_cons (ps_fld (pv 0) (pv 3) (by with_unfolding_all rfl))
    (pss_cons (ps_fld (pv 0) pe_dnewK (by with_unfolding_all rfl))
    (pss_one (ps_for PassesOwn.never rfl (pi_list (pe_methI0 Mrows (pv 1) (hr.mono (by decide)))) (pg_name (i := 4) sc_Run___init__.nd rfl (Or.inl rfl))
      (pss_one (ps_dput (hu_of hr) (pe_fld (pv 0) rfl) (pe_ix ix_seq (pv 4) pe_int (fun _ _ => rfl)) (pe_lstA pa_nil) rfl)))))))), ?_⟩
  walk_at "rd"
  refine i_setFld ?_
  walk_at "rd"
  refine ⟨x, _, dx, [], rfl, hx, T.i_Run.cl, T.nRL, by show 0 < 1000; decide, ?_⟩
  have hs1 := su (o := .ins (CE .Run) dx (putF (Str.ofString "loop") (.ref lx) [])) hs
  have hx1 : upd H x (.ins (CE .Run) dx (putF (Str.ofString "loop") (.ref lx) [])) x = some (.ins (CE .Run) dx (putF (Str.ofString "loop") (.ref lx) [])) := upd_same
  generalize upd H x (.ins (CE .Run) dx (putF (Str.ofString "loop") (.ref lx) [])) = H1 at *
  walk_at "rd"
  dsimp only
  refine i_setFld ?_
  walk_at "rd"
  refine ⟨x, _, dx, _, rfl, hx1, T.i_Run.cl, T.nRF, (show 1 < 1000 by decide), ?_⟩
  have hs2 := su (o := .ins (CE .Run) dx (putF (Str.ofString "feeds") (.ref fd) (putF (Str.ofString "loop") (.ref lx) []))) hs1
  have hx2 : upd H1 x (.ins (CE .Run) dx (putF (Str.ofString "feeds") (.ref fd) (putF (Str.ofString "loop") (.ref lx) []))) x = some (.ins (CE .Run) dx (putF (Str.ofString "feeds") (.ref fd) (putF (Str.ofString "loop") (.ref lx) []))) := upd_same
  generalize upd H1 x (.ins (CE .Run) dx (putF (Str.ofString "feeds") (.ref fd) (putF (Str.ofString "loop") (.ref lx) []))) = H2 at *
  walk_at "rd"
  dsimp only
  refine i_setFld ?_
  walk_at "rd"
  refine ⟨x, _, dx, _, rfl, hx2, T.i_Run.cl, T.nRB, (show 2 < 1000 by decide), ?_⟩
  have hs3 := su (o := .ins (CE .Run) dx (putF (Str.ofString "begin") (.ref bd) (putF (Str.ofString "feeds") (.ref fd) (putF (Str.ofString "loop") (.ref lx) [])))) hs2
  have hx3 : upd H2 x (.ins (CE .Run) dx (putF (Str.ofString "begin") (.ref bd) (putF (Str.ofString "feeds") (.ref fd) (putF (Str.ofString "loop") (.ref lx) [])))) x = some (.ins (CE .Run) dx (putF (Str.ofString "begin") (.ref bd) (putF (Str.ofString "feeds") (.ref fd) (putF (Str.ofString "loop") (.ref lx) [])))) := upd_same
  generalize upd H2 x (.ins (CE .Run) dx (putF (Str.ofString "begin") (.ref bd) (putF (Str.ofString "feeds") (.ref fd) (putF (Str.ofString "loop") (.ref lx) [])))) = H3 at *
  walk_at "rd"
  dsimp only
  refine i_setFld ?_
  refine i_dnew fun md hmd => ?_
  have hs4 : Same H0 (upd H3 md (.dK [])) := hs3.upd hmd
  have hm4 : upd H3 md (.dK []) md = some (.dK []) := upd_same
  have hxm : x ≠ md := ne_of_none hx3 hmd
  have hx4 : upd H3 md (.dK []) x = some (.ins (CE .Run) dx (putF (Str.ofString "begin") (.ref bd) (putF (Str.ofString "feeds") (.ref fd) (putF (Str.ofString "loop") (.ref lx) [])))) := by rw [upd_ne hxm]; exact hx3
  have hmd0 : H0 md = none := hs3.free hmd
  generalize upd H3 md (.dK []) = H4 at *
  walk_at "rd"
  refine ⟨x, _, dx, _, rfl, hx4, T.i_Run.cl, T.nRM, (show 3 < 1000 by decide), ?_⟩
  have hs5 := su (o := .ins (CE .Run) dx (putF (Str.ofString "made") (.ref md) (putF (Str.ofString "begin") (.ref bd) (putF (Str.ofString "feeds") (.ref fd) (putF (Str.ofString "loop") (.ref lx) []))))) hs4
  have hx5 : upd H4 x (.ins (CE .Run) dx (putF (Str.ofString "made") (.ref md) (putF (Str.ofString "begin") (.ref bd) (putF (Str.ofString "feeds") (.ref fd) (putF (Str.ofString "loop") (.ref lx) []))))) x = some (.ins (CE .Run) dx (putF (Str.ofString "made") (.ref md) (putF (Str.ofString "begin") (.ref bd) (putF (Str.ofString "feeds") (.ref fd) (putF (Str.ofString "loop") (.ref lx) []))))) := upd_same
  have hm5 : upd H4 x (.ins (CE .Run) dx (putF (Str.ofString "made") (.ref md) (putF (Str.ofString "begin") (.ref bd) (putF (Str.ofString "feeds") (.ref fd) (putF (Str.ofString "loop") (.ref lx) []))))) md = some (.dK []) := by rw [upd_ne (Ne.symm hxm)]; exact hm4
  generalize upd H4 x (.ins (CE .Run) dx (putF (Str.ofString "made") (.ref md) (putF (Str.ofString "begin") (.ref bd) (putF (Str.ofString "feeds") (.ref fd) (putF (Str.ofString "loop") (.ref lx) []))))) = H5 at *
  walk_at "rd"
  dsimp only
  refine i_for (i_list ?_)
  refine i_methI ?_
  walk_at "rd"
  refine ⟨(), lx, dxl, fsl, rfl, hs5 _ _ hlx, gr, ?_⟩
  walk_at "rd"
  refine ⟨lx, k, m, rs, rfl, hL.same hs5, fun p us H6 hN6 hu => ?_⟩
  have l1 := hu.len
  have hm6 := hN6.same _ _ hm5
  have hx6 := hN6.same _ _ hx5
  have hs6 := hs5.trans hN6.same
  have hpm : p ≠ md := fun z => by have := hN6.free; rw [z, hm5] at this; cases this
  refine ⟨p, rfl, ⟨us, hN6.lst⟩, ?_⟩
  refine for_list (xs := us) (fun i σ H' => SameB md H6 H' ∧ ∃ (A' : Str → Addr) (x4 : Option V), σ = [some (.ref x), some (.ref lx), some (.ref fd), some (.ref bd), x4] ∧ MadeAt H' md A' (zs.take i) (fun _ => []) ∧ ∀ z ∈ zs.take i, H0 (A' z) = none)
    ⟨fun b u n e => e, fun _ => md, none, rfl, ⟨⟨[], hm6, Nat.zero_le _, fun z h => by simp at h⟩, fun z h => by simp at h, fun y h => by simp at h⟩, fun z h => by simp at h⟩ (fun i σ H' _ h => sqL_inj_of (h.1 _ _ hpm hN6.at)) ?_ ?_
  · rintro i u σ H7 hui ⟨sb, A', x4, rfl, hM, hfr⟩
    have hir : i < rs.length := by rw [l1]; exact (List.getElem?_eq_some_iff.mp hui).1
    have hri := List.getElem?_eq_getElem hir
    have r1 : RowAt H7 rs[i] u := (hu.at_ i rs[i] u hri hui).keep fun b xs e => sb b _ (fun z => by rw [z, hm6] at e; cases e) e
    have hnm := (hok.at_ i rs[i] hri).name
    generalize rs[i] = rw at *
    obtain ⟨p1, p2, vs, rfl, h1, h2, h3⟩ := r1
    have hx7 := sb _ _ hxm hx6
    have hs7 : Same H0 H7 := fun b o e => sb b o (ne_of_none e hmd0) (hs6 _ _ e)
    walk_at "rd"
    refine i_dput ?_
    walk_at "rd"
    refine ⟨by show 0 ≤ sizeLine; exact Nat.zero_le _, fun lp H8 hN => ?_⟩
    walk_at "rd"
    refine i_fld ?_
    walk_at "rd"
    refine ⟨x, _, dx, _, .ref md, rfl, hN.same _ _ hx7, T.i_Run.cl, T.nRM, rfl, ?_⟩
    walk_at "rd"
    refine i_ixT (.inl (.inl (hN.same _ _ h1))) (show atI _ 0 = some (.str rw.name) from rfl) ?_
    obtain ⟨H9, hput, sb9, hM9⟩ := hM.grow hnm (nd_names hok.names hnm) l12 hN
    refine ⟨md, H9, rfl, hput, fun b o n e => sb9 b o n (sb b o n e), _, _, rfl, hM9, fun z hz => ?_⟩
    by_cases hzn : z = rw.name
    · rw [if_pos hzn]; exact hs7.free hN.free
    · rw [if_neg hzn]
      refine hfr z ?_
      rw [List.take_add_one, hnm] at hz
      rcases List.mem_append.mp hz with w | w
      · exact w
      · exact absurd (by simpa using w) hzn
  · rintro σ H7 ⟨sb, A', x4, rfl, hM, hfr⟩
    rw [← l1, l2, List.take_length] at hM hfr
    refine q A' H7 ⟨⟨lx, k, fd, bd, md, dx, _, hL, hf, hb, sb _ _ hxm hx6, rfl, rfl, rfl, rfl, ⟨rfl, rfl, rfl, rfl, rfl⟩, hM⟩, fun b o e => sb b o (ne_of_none e hmd0) (hs6 _ _ e), hfr⟩
def spCTurns : Sp := fun vs H Q _ => ∃ n : Nat, vs = [.int (n : Int)] ∧ n ≤ 300 ∧ Q .non H
theorem d_cturns (T : Txt K mg C CE) (Kb : K.In base) (G : base.Ns mainGlobals mg) : Df P w K mg base 1 "check_turns" ["turns"] spCTurns := by
  refine T.f_cturns.df Kb G sc_check_turns (fun _ _ _ _ _ _ us hl => match us, hl with | [_], _ => rfl) (by rintro vs H Q E ⟨m, rfl, _⟩; rfl) (fun f cdv A outer s H vs Q E hr h => ?_)
  obtain ⟨n, rfl, hn, q⟩ := h
  refine ⟨_, (pss_one (ps_if (pt_not (pt_chain op_le op_le pe_int (pv 0) (pe_val T.v_MOST_TURNS rfl))) (pss_one ps_never) pss_nil)), ?_⟩
  walk_at "rd"
  refine i_iteDt (by omega) ?_
  walk_at "rd"
  rw [decide_eq_true (show (n : Int) ≤ 300 by omega)]
  walk_at "rd"
  exact q
def spCFeeds (CL : Addr) : Sp := fun vs H Q _ => ∃ (lx k fd : Addr) (m : Int) (rs : List Row) (fl : Ls) (n : Nat), vs = [.ref lx, .int (n : Int), .ref fd] ∧ LoopAt CL H lx k m rs ∧ LsAt H fd fl ∧ FeOk rs fl n ∧ ∀ H2, Same H H2 → Q .non H2
theorem d_cfeeds (T : Txt K mg C CE) (Kb : K.In base) (G : base.Ns mainGlobals mg) : Df P w K mg base 2 "check_feeds" ["loop", "turns", "feeds"] (spCFeeds (CE .Loop)) := by
  have Mrows : MethI P w K mg base 1 "rows" ["self"] (fun _ : Unit => CE .Loop) (fun _ => spLRows (CE .Loop)) := m_rows T
  refine T.f_cfeeds.df Kb G sc_check_feeds (fun _ _ _ _ _ _ us hl => match us, hl with | [_, _, _], _ => rfl) (by rintro vs H Q E ⟨lx, k, fd, m, rs, fl, n, rfl, _⟩; rfl) (fun f cdv A outer s H vs Q E hr h => ?_)
  obtain ⟨lx, k, fd, m, rs, fl, n, rfl, hL, hf, hfe, q⟩ := h
  obtain ⟨dxl, fsl, hlx, gm, gr, gd⟩ := loop_fs hL
  refine ⟨_, (pss_one (ps_for PassesOwn.never rfl (pi_list (pe_methI0 Mrows (pv 0) (hr.mono (by decide)))) (pg_name (i := 3) sc_check_feeds.nd rfl (Or.inl rfl))
      (pss_one (ps_if (PW.pt (pw_and (pt_cmpR op_eq (pe_ix ix_seq (pv 3) pe_int (fun _ _ => rfl)) pe_str (nomark _)) (pw_and1 (pt_cmpR op_lt (pe_callB call_len_seq rfl T.nlen PySem.boot_len (pa_cons (pe_dget2 (hu_of hr) (pv 2) (pe_ix ix_seq (pv 3) pe_int (fun _ _ => rfl)) (pe_lstA pa_nil) ⟨rfl, rfl, rfl, rfl⟩) pa_nil (se rfl)) (he := se rfl) (hpl := nst rfl)) (pv 1) (nomark _))))) (pss_one ps_never) pss_nil)))), ?_⟩
  walk_at "rd"
  refine i_for (i_list ?_)
  refine i_methI ?_
  walk_at "rd"
  refine ⟨(), lx, dxl, fsl, rfl, hlx, gr, ?_⟩
  walk_at "rd"
  refine ⟨lx, k, m, rs, rfl, hL, fun p us H1 hN1 hu => ?_⟩
  have l1 := hu.len
  refine ⟨p, rfl, ⟨us, hN1.lst⟩, ?_⟩
  refine for_list (xs := us) (fun i σ H' => Same H1 H' ∧ ∃ x3, σ = [some (.ref lx), some (.int (n : Int)), some (.ref fd), x3]) ⟨Same.refl _, none, rfl⟩ (fun i σ H' _ h => sqL_inj_of (h.1 _ _ hN1.at)) ?_ ?_
  · rintro i u σ H2 hui ⟨s2, x3, rfl⟩
    have hir : i < rs.length := by rw [l1]; exact (List.getElem?_eq_some_iff.mp hui).1
    have hri := List.getElem?_eq_getElem hir
    have r1 := (hu.at_ i rs[i] u hri hui).same s2
    have hfr := hfe rs[i] (List.getElem_mem hir)
    generalize rs[i] = rw at *
    obtain ⟨p1, p2, vs, rfl, h1, h2, h3⟩ := r1
    walk_at "rd"
    refine i_ixT (.inl (.inl h1)) (show atI _ 1 = some (.str rw.d.word) from rfl) ?_
    walk_at "rd"
    by_cases ht : rw.d = .take
    · refine i_iteSe (by rw [ht]; rfl) ?_
      obtain ⟨l, hl, hnl⟩ := hfr ht
      have hf2 := hf.same (hN1.same.trans s2)
      walk_at "rd"
      refine i_dget2 ?_
      walk_at "rd"
      refine ⟨fd, rfl, hf2.isD, ?_⟩
      walk_at "rd"
      refine i_ixT (.inl (.inl h1)) (show atI _ 0 = some (.str rw.name) from rfl) ?_
      walk_at "rd"
      refine ⟨by show 0 ≤ sizeLine; exact Nat.zero_le _, fun e H3 hN3 => ?_⟩
      obtain ⟨lp, g1, g2⟩ := (hf2.same hN3.same).get hl
      refine ⟨_, g1, ?_⟩
      walk_at "rd"
      refine ⟨lp, _, rfl, .inl (sqL_inj_of g2), ?_⟩
      rw [List.length_map]
      walk_at "rd"
      refine i_iteDf (by omega) ?_
      walk_at "rd"
      exact ⟨s2.trans hN3.same, _, rfl⟩
    · refine i_iteSf (word_ne (e := .take) ht) ?_
      walk_at "rd"
      exact ⟨s2, _, rfl⟩
  · rintro σ H2 ⟨s2, x3, rfl⟩
    exact q _ (hN1.same.trans s2)
def spCBegin (CL : Addr) : Sp := fun vs H Q _ => ∃ (lx k bd : Addr) (m : Int) (rs : List Row) (bl : Ls), vs = [.ref lx, .ref bd] ∧ LoopAt CL H lx k m rs ∧ LsAt H bd bl ∧ BeOk rs bl ∧ ∀ H2, Same H H2 → Q .non H2
theorem d_cbegin (T : Txt K mg C CE) (Kb : K.In base) (G : base.Ns mainGlobals mg) : Df P w K mg base 2 "check_begin" ["loop", "begin"] (spCBegin (CE .Loop)) := by
  have Mrows : MethI P w K mg base 1 "rows" ["self"] (fun _ : Unit => CE .Loop) (fun _ => spLRows (CE .Loop)) := m_rows T
  have Mdeepest : MethI P w K mg base 1 "deepest" ["self", "name"] (fun _ : Unit => CE .Loop) (fun _ => spLDeep (CE .Loop)) := m_deepest T
  refine T.f_cbegin.df Kb G sc_check_begin (fun _ _ _ _ _ _ us hl => match us, hl with | [_, _], _ => rfl) (by rintro vs H Q E ⟨lx, k, bd, m, rs, bl, rfl, _⟩; rfl) (fun f cdv A outer s H vs Q E hr h => ?_)
  obtain ⟨lx, k, bd, m, rs, bl, rfl, hL, hb, hbe, q⟩ := h
  obtain ⟨dxl, fsl, hlx, gm, gr, gd⟩ := loop_fs hL
  refine ⟨_, (pss_one (ps_for PassesOwn.never rfl (pi_list (pe_methI0 Mrows (pv 0) (hr.mono (by decide)))) (pg_name (i := 2) sc_check_begin.nd rfl (Or.inl rfl))
      (pss_one (ps_if (pt_cmpR op_lt (pe_callB call_len_seq rfl T.nlen PySem.boot_len (pa_cons (pe_dget2 (hu_of hr) (pv 1) (pe_ix ix_seq (pv 2) pe_int (fun _ _ => rfl)) (pe_lstA pa_nil) ⟨rfl, rfl, rfl, rfl⟩) pa_nil (se rfl)) (he := se rfl) (hpl := nst rfl)) (pe_methI Mdeepest (pv 0) (hr.mono (by decide)) (pa_cons (pe_ix ix_seq (pv 2) pe_int (fun _ _ => rfl)) pa_nil (se rfl)) (hst := se rfl) (hpl := nst rfl)) (nomark _)) (pss_one ps_never) pss_nil)))), ?_⟩
  walk_at "rd"
  refine i_for (i_list ?_)
  refine i_methI ?_
  walk_at "rd"
  refine ⟨(), lx, dxl, fsl, rfl, hlx, gr, ?_⟩
  walk_at "rd"
  refine ⟨lx, k, m, rs, rfl, hL, fun p us H1 hN1 hu => ?_⟩
  have l1 := hu.len
  refine ⟨p, rfl, ⟨us, hN1.lst⟩, ?_⟩
  refine for_list (xs := us) (fun i σ H' => Same H1 H' ∧ ∃ x2, σ = [some (.ref lx), some (.ref bd), x2]) ⟨Same.refl _, none, rfl⟩ (fun i σ H' _ h => sqL_inj_of (h.1 _ _ hN1.at)) ?_ ?_
  · rintro i u σ H2 hui ⟨s2, x2, rfl⟩
    have hir : i < rs.length := by rw [l1]; exact (List.getElem?_eq_some_iff.mp hui).1
    have hri := List.getElem?_eq_getElem hir
    have r1 := (hu.at_ i rs[i] u hri hui).same s2
    have hbr := hbe rs[i] (List.getElem_mem hir)
    generalize rs[i] = rw at *
    obtain ⟨p1, p2, vs, rfl, h1, h2, h3⟩ := r1
    have t2 := hN1.same.trans s2
    have hb2 := hb.same t2
    have dnn := deep_nn rs rw.name
    walk_at "rd"
    refine i_dget2 ?_
    walk_at "rd"
    refine ⟨bd, rfl, hb2.isD, ?_⟩
    walk_at "rd"
    refine i_ixT (.inl (.inl h1)) (show atI _ 0 = some (.str rw.name) from rfl) ?_
    walk_at "rd"
    refine ⟨by show 0 ≤ sizeLine; exact Nat.zero_le _, fun e H3 hN3 => ?_⟩
    obtain ⟨o, lp, l, g1, g2, g3, g4⟩ : ∃ (o : Option V) (lp : Addr) (l : List Int), DGet H3 bd (.str rw.name) o ∧ o.getD (.ref e) = .ref lp ∧ H3 lp = some (.lst (List.map V.int l)) ∧ ¬ ((l.length : Int) < deep rs rw.name) := by
      cases hlk : bl.lookup rw.name with
      | none =>
        refine ⟨none, e, [], (hb2.same hN3.same).getN hlk, rfl, hN3.at, fun z => ?_⟩
        have z' : (0 : Int) < deep rs rw.name := z
        obtain ⟨l, h1, _⟩ := hbr z'
        rw [hlk] at h1; cases h1
      | some l =>
        obtain ⟨lp, g1, g2⟩ := (hb2.same hN3.same).get hlk
        refine ⟨_, lp, l, g1, rfl, g2, fun z => ?_⟩
        obtain ⟨l', h1, h2⟩ := hbr (by omega)
        rw [hlk] at h1
        cases h1
        omega
    refine ⟨_, g1, ?_⟩
    rw [g2]
    walk_at "rd"
    refine ⟨lp, _, rfl, .inl (sqL_inj_of g3), ?_⟩
    rw [List.length_map]
    walk_at "rd"
    refine i_methI ?_
    walk_at "rd"
    have t3 := t2.trans hN3.same
    refine ⟨(), lx, dxl, fsl, rfl, t3 _ _ hlx, gd, ?_⟩
    walk_at "rd"
    refine i_ixT (.inl (.inl (hN3.same _ _ h1))) (show atI _ 0 = some (.str rw.name) from rfl) ?_
    walk_at "rd"
    refine ⟨lx, k, m, rs, rw.name, rfl, hL.same t3, ?_⟩
    walk_at "rd"
    refine i_iteDf g4 ?_
    walk_at "rd"
    exact ⟨s2.trans hN3.same, _, rfl⟩
  · rintro σ H2 ⟨s2, x2, rfl⟩
    exact q _ (hN1.same.trans s2)
structure Asks (CL : Addr) (H : Hp) (lx k fd bd : Addr) (m : Int) (rs : List Row) (zs : List Str) (fl bl : Ls) (n : Nat) : Prop where
  loop : LoopAt CL H lx k m rs
  ok : RowsOk zs rs
  fe : LsAt H fd fl
  be : LsAt H bd bl
  feo : FeOk rs fl n
  beo : BeOk rs bl
  few : n ≤ 300
  m2 : 2 ≤ m
  m60 : m ≤ 10 ^ 60
theorem Asks.same {CL : Addr} {H H' : Hp} {lx k fd bd : Addr} {m : Int} {rs : List Row} {zs : List Str} {fl bl : Ls} {n : Nat} (s : Same H H') (h : Asks CL H lx k fd bd m rs zs fl bl n) : Asks CL H' lx k fd bd m rs zs fl bl n :=
  ⟨h.loop.same s, h.ok, h.fe.same s, h.be.same s, h.feo, h.beo, h.few, h.m2, h.m60⟩
def spCRun (CL : Addr) : Sp := fun vs H Q _ => ∃ (lx k fd bd : Addr) (m : Int) (rs : List Row) (zs : List Str) (fl bl : Ls) (n : Nat), vs = [.ref lx, .int (n : Int), .ref fd, .ref bd] ∧ Asks CL H lx k fd bd m rs zs fl bl n ∧ ∀ H2, Same H H2 → Q .non H2
theorem d_crun (T : Txt K mg C CE) (Kb : K.In base) (G : base.Ns mainGlobals mg) : Df P w K mg base 3 "check_run" ["loop", "turns", "feeds", "begin"] (spCRun (CE .Loop)) := by
  have Dcheck_turns : Df P w K mg base 1 "check_turns" ["turns"] spCTurns := d_cturns T Kb G
  have Dcheck_feeds : Df P w K mg base 2 "check_feeds" ["loop", "turns", "feeds"] (spCFeeds (CE .Loop)) := d_cfeeds T Kb G
  have Dcheck_begin : Df P w K mg base 2 "check_begin" ["loop", "begin"] (spCBegin (CE .Loop)) := d_cbegin T Kb G
  refine T.f_crun.df Kb G sc_check_run (fun _ _ _ _ _ _ us hl => match us, hl with | [_, _, _, _], _ => rfl) (by rintro vs H Q E ⟨lx, k, fd, bd, m, rs, zs, fl, bl, n, rfl, _⟩; rfl) (fun f cdv A outer s H vs Q E hr h => ?_)
  obtain ⟨lx, k, fd, bd, m, rs, zs, fl, bl, n, rfl, h, q⟩ := h
  refine ⟨_, (pss_cons (ps_expr (pe_callD Dcheck_turns (hr.mono (by decide)) rfl (pa_cons (pv 1) pa_nil (se rfl)) (he := se rfl) (hpl := nst rfl)))
    (pss_cons (ps_expr (pe_callD Dcheck_feeds (hr.mono (by decide)) rfl (pa_cons (pv 0) (pa_cons (pv 1) (pa_cons (pv 2) pa_nil (se rfl)) (se rfl)) (se rfl)) (he := se rfl) (hpl := nst rfl)))
    (pss_one (ps_expr (pe_callD Dcheck_begin (hr.mono (by decide)) rfl (pa_cons (pv 0) (pa_cons (pv 3) pa_nil (se rfl)) (se rfl)) (he := se rfl) (hpl := nst rfl)))))), ?_⟩
  walk_at "rd"
  refine ⟨n, rfl, h.few, ?_⟩
  walk_at "rd"
  refine ⟨lx, k, fd, m, rs, fl, n, rfl, h.loop, h.fe, h.feo, fun H1 s1 => ?_⟩
  walk_at "rd"
  refine ⟨lx, k, bd, m, rs, bl, rfl, h.loop.same s1, h.be.same s1, h.beo, fun H2 s2 => ?_⟩
  walk_at "rd"
  exact q _ (s1.trans s2)
def spRun (CL CR : Addr) : Sp := fun vs H Q _ => ∃ (lx k fd bd : Addr) (m : Int) (rs : List Row) (zs : List Str) (fl bl : Ls) (n : Nat), vs = [.ref lx, .int (n : Int), .ref fd, .ref bd] ∧ Asks CL H lx k fd bd m rs zs fl bl n ∧ ∀ x A H2, RunAt CL CR H H2 x m rs zs fl bl A (runR m fl bl rs n) → Q (.ref x) H2
theorem d_run (T : Txt K mg C CE) (Kb : K.In base) (G : base.Ns mainGlobals mg) : Df P w K mg base 5 "done_run" ["loop", "turns", "feeds", "begin"] (spRun (CE .Loop) (CE .Run)) := by
  have Dcheck_run : Df P w K mg base 3 "check_run" ["loop", "turns", "feeds", "begin"] (spCRun (CE .Loop)) := d_crun T Kb G
  have MRun : MkI P w K mg base 2 (CE .Run) ["self", "loop", "feeds", "begin"] (spRunInit (CE .Loop) (CE .Run)) := mk_run T
  have Mdo_turn : MethI P w K mg base 4 "do_turn" ["self", "turn"] (fun _ : Unit => CE .Run) (fun _ => spRTurn (CE .Loop) (CE .Run)) := m_turn T Kb G
  refine T.f_run.df Kb G sc_done_run (fun _ _ _ _ _ _ us hl => match us, hl with | [_, _, _, _], _ => rfl) (by rintro vs H Q E ⟨lx, k, fd, bd, m, rs, zs, fl, bl, n, rfl, _⟩; rfl) (fun f cdv A outer s H vs Q E hr h => ?_)
  obtain ⟨lx, k, fd, bd, m, rs, zs, fl, bl, n, rfl, h, q⟩ := h
  have hn := h.few
  have m2 := h.m2
  have m60 := h.m60
  refine ⟨_, (pss_cons (ps_expr (pe_callD Dcheck_run (hr.mono (by decide)) rfl (pa_cons (pv 0) (pa_cons (pv 1) (pa_cons (pv 2) (pa_cons (pv 3) pa_nil (se rfl)) (se rfl)) (se rfl)) (se rfl)) (he := se rfl) (hpl := nst rfl)))
    (pss_cons (ps_set (i := 4) sc_done_run.nd rfl (by first | exact Or.inl rfl | exact Or.inr rfl) (pe_makeI MRun (hr.mono (by decide)) rfl T.mg_Run (pa_cons (pv 0) (pa_cons (pv 2) (pa_cons (pv 3) pa_nil (se rfl)) (se rfl)) (se rfl)) (he := se rfl) (hpl := nst rfl)))
    (pss_cons (ps_for PassesOwn.never rfl (pi_range1 rfl T.nrange (pa_cons (pv 1) pa_nil (se rfl))) (pg_name (i := 5) sc_done_run.nd rfl (Or.inl rfl))
      (pss_one (ps_expr (pe_methI Mdo_turn (pv 4) (hr.mono (by decide)) (pa_cons (pv 5) pa_nil (se rfl)) (hst := se rfl) (hpl := nst rfl)))))
    (pss_one (ps_ret (pv 4)))))), ?_⟩
  clear m60
  walk_at "rd"
  refine ⟨lx, k, fd, bd, m, rs, zs, fl, bl, n, rfl, h, fun H1 s1 => ?_⟩
  walk_at "rd"
  refine i_makeI ?_
  walk_at "rd"
  intro x dx hx hdx hne
  have sA : Same H1 (upd (upd H1 dx (.own x)) x (.ins (CE .Run) dx [])) := Same.upd (Same.new hdx) (by rw [upd_ne hne.symm]; exact hx)
  have xA : upd (upd H1 dx (.own x)) x (.ins (CE .Run) dx []) x = some (.ins (CE .Run) dx []) := upd_same
  generalize upd (upd H1 dx (.own x)) x (.ins (CE .Run) dx []) = HA at *
  have a1 := h.same s1
  refine ⟨H, x, dx, lx, k, fd, bd, m, rs, zs, fl, bl, rfl, xA, s1.trans sA, s1.free hx, h.loop, h.fe, h.be, h.ok, fun A' H2 hR => ⟨rfl, ?_⟩⟩
  walk_at "rd"
  refine i_for (i_rng1 ?_)
  walk_at "rd"
  refine ⟨_, rfl, by omega, by omega, ?_⟩
  rw [Int.toNat_natCast]
  refine for_range (lo := 0) (n := n) (fun t σ H' => RunAt (CE .Loop) (CE .Run) H H' x m rs zs fl bl A' (runR m fl bl rs t) ∧ ∃ x5, σ = [some (.ref lx), some (.int (n : Int)), some (.ref fd), some (.ref bd), some (.ref x), x5]) ⟨hR, none, rfl⟩ ?_ ?_
  · rintro t σ H3 ht ⟨hR3, x5, rfl⟩
    have e0 : (0 : Int) + (t : Int) = (t : Int) := Int.zero_add _
    rw [e0]
    have hR4 := hR3
    obtain ⟨⟨lx', k', fd', bd', md, dx', fs, hL, hf, hb, hx3, f1, f2, f3, f4, ⟨f5, f6, f7, f8, f9⟩, hM⟩, hs, hfr⟩ := hR3
    walk_at "rd"
    refine i_methI ?_
    walk_at "rd"
    refine ⟨(), x, dx', fs, rfl, hx3, f8, ?_⟩
    walk_at "rd"
    refine ⟨H, x, m, rs, zs, fl, bl, A', runR m fl bl rs t, t, n, rfl, hR4, h.ok, Going.run fl bl h.ok (by omega) t, h.feo, h.beo, ht, h.few, h.m2, h.m60, fun H4 hR5 => ?_⟩
    walk_at "rd"
    rw [← runR_next] at hR5
    exact ⟨hR5, _, rfl⟩
  · rintro σ H3 ⟨hR3, x5, rfl⟩
    walk_at "rd"
    exact q x A' H3 hR3
def pI (q : Row → Bool) (rs : List Row) (i : Nat) : Bool := match rs[i]? with
  | some r => q r
  | none => false
theorem idx_take (q : Row → Bool) (rs : List Row) : ∀ k, k ≤ rs.length → ((List.range k).filter (pI q rs)).map (fun i => rs[i]?) = ((rs.take k).filter q).map some
  | 0, _ => by simp
  | k + 1, h => by
    have hk : k < rs.length := by omega
    have hr := List.getElem?_eq_getElem hk
    have e : pI q rs k = q rs[k] := by unfold pI; rw [hr]
    rw [List.range_succ, List.filter_append, List.map_append, idx_take q rs k (by omega), List.take_add_one, hr, Option.toList_some, List.filter_append, List.map_append]
    cases hq : q rs[k] <;> simp [e, hq, hr]
theorem idx_filter (q : Row → Bool) (rs : List Row) : ((List.range rs.length).filter (pI q rs)).map (fun i => rs[i]?) = (rs.filter q).map some := by
  have := idx_take q rs rs.length (Nat.le_refl _)
  rw [List.take_length] at this; exact this
theorem idx_len (q : Row → Bool) (rs : List Row) : ((List.range rs.length).filter (pI q rs)).length = (rs.filter q).length := by
  have := congrArg List.length (idx_filter q rs)
  rwa [List.length_map, List.length_map] at this
theorem idx_at {q : Row → Bool} {rs : List Row} {j : Nat} {r : Row} (h : (rs.filter q)[j]? = some r) : ∃ i, ((List.range rs.length).filter (pI q rs))[j]? = some i ∧ rs[i]? = some r := by
  have e := congrArg (fun l => l[j]?) (idx_filter q rs)
  simp only [List.getElem?_map, h, Option.map_some] at e
  cases hj : ((List.range rs.length).filter (pI q rs))[j]? with
  | none => rw [hj] at e; cases e
  | some i =>
    rw [hj] at e
    exact ⟨i, rfl, Option.some.inj e⟩
def isTell (r : Row) : Bool := decide (r.d = .tell)
def pairL (M : Md) (qs : List Row) : Ls := qs.map fun r => (r.name, M r.name)
theorem pr_rows {S : Addr → Prop} {H : Hp} {A : Str → Addr} {zs : List Str} {M : Md} {qs : List Row} {us : List V} {md : Addr} (hl : us.length = qs.length) (hM : MadeAt H md A zs M) (hz : ∀ r ∈ qs, r.name ∈ zs) (hS : ∀ r ∈ qs, S (A r.name))
    (h : ∀ (j : Nat) u r, us[j]? = some u → qs[j]? = some r → ∃ t, u = .ref t ∧ H t = some (.tup [.str r.name, .ref (A r.name)])) : PrAt S H (pairL M qs) us := by
  refine ⟨by unfold pairL; rw [List.length_map]; omega, fun i a u e1 e2 => ?_⟩
  unfold pairL at e1
  rw [List.getElem?_map] at e1
  cases hr : qs[i]? with
  | none => rw [hr] at e1; cases e1
  | some r =>
    rw [hr] at e1
    have e : (r.name, M r.name) = a := Option.some.inj e1
    subst e
    obtain ⟨t, e3, e4⟩ := h i u r e2 hr
    have hm : r ∈ qs := List.mem_of_getElem? hr
    exact ⟨t, A r.name, e3, e4, hM.at_ _ (hz r hm), hS r hm⟩
theorem row_zs {zs : List Str} {rs : List Row} (h : RowsOk zs rs) : ∀ r ∈ rs, r.name ∈ zs := fun r hr => by
  obtain ⟨i, hi⟩ := List.mem_iff_getElem?.mp hr
  exact zs_mem h hi
def spOutcome (CL : Addr) : Sp := fun vs H Q _ => ∃ (lx k fd bd : Addr) (m : Int) (rs : List Row) (zs : List Str) (fl bl : Ls) (n : Nat), vs = [.ref lx, .int (n : Int), .ref fd, .ref bd] ∧ Asks CL H lx k fd bd m rs zs fl bl n ∧
  ∀ t p1 p2 u1 u2 H2, Same H H2 → H2 t = some (.tup [.ref p1, .ref p2]) → H2 p1 = some (.lst u1) → H2 p2 = some (.lst u2) → PrAt (fun _ => True) H2 (pairL (runR m fl bl rs n) (rs.filter isTell)) u1 → PrAt (fun _ => True) H2 (endsL m bl rs (runR m fl bl rs n) n rs) u2 → Q (.ref t) H2
theorem d_outcome (T : Txt K mg C CE) (Kb : K.In base) (G : base.Ns mainGlobals mg) : Df P w K mg base 6 "outcome" ["loop", "turns", "feeds", "begin"] (spOutcome (CE .Loop)) := by
  have Ddone_run : Df P w K mg base 5 "done_run" ["loop", "turns", "feeds", "begin"] (spRun (CE .Loop) (CE .Run)) := d_run T Kb G
  have Mrows : MethI P w K mg base 1 "rows" ["self"] (fun _ : Unit => CE .Loop) (fun _ => spLRows (CE .Loop)) := m_rows T
  have Mdeepest : MethI P w K mg base 1 "deepest" ["self", "name"] (fun _ : Unit => CE .Loop) (fun _ => spLDeep (CE .Loop)) := m_deepest T
  have Mlast_made : MethI P w K mg base 2 "last_made" ["self", "name", "turns"] (fun _ : Unit => CE .Run) (fun _ => spRLast (CE .Loop) (CE .Run)) := m_last T
  refine T.f_outcome.df Kb G sc_outcome (fun _ _ _ _ _ _ us hl => match us, hl with | [_, _, _, _], _ => rfl) (by rintro vs H Q E ⟨lx, k, fd, bd, m, rs, zs, fl, bl, n, rfl, _⟩; rfl) (fun f cdv A outer s H vs Q E hr h => ?_)
  obtain ⟨lx, k, fd, bd, m, rs, zs, fl, bl, n, rfl, h, q⟩ := h
  obtain ⟨dxl, fsl, hlx, gm, gr, gd⟩ := loop_fs h.loop
  have lb := line_big
  have l2 := h.ok.len
  have l12 := h.ok.names.1
  have m2 := h.m2
  have hg := Going.run fl bl h.ok (show 0 < m by omega) n
  refine ⟨_, (pss_cons (ps_set (i := 4) sc_outcome.nd rfl (by first | exact Or.inl rfl | exact Or.inr rfl) (pe_callD Ddone_run (hr.mono (by decide)) rfl (pa_cons (pv 0) (pa_cons (pv 1) (pa_cons (pv 2) (pa_cons (pv 3) pa_nil (se rfl)) (se rfl)) (se rfl)) (se rfl)) (he := se rfl) (hpl := nst rfl)))
    (pss_cons (ps_lc (i := 5) sc_outcome.nd rfl rfl (by with_unfolding_all rfl) (Blk.of (caps := ["done"]) (ix := [4]) rfl) rfl (pi_list (pe_methI0 Mrows (pv 0) (hr.mono (by decide)))) (fun _ _ _ _ => (pf_one (pt_cmpR op_eq (pe_ix (ix_seqK (K := K) rfl) (pv 0) pe_int (fun _ _ => rfl)) pe_str (nomark _)))) (fun _ _ _ _ => (pe_tupA (pa_cons (pe_ix (ix_seqK (K := K) rfl) (pv 0) pe_int (fun _ _ => rfl)) (pa_cons (pe_dget (hu_of hr) (pe_fldK (K := K) rfl (pv 1) rfl) (pe_ix (ix_seqK (K := K) rfl) (pv 0) pe_int (fun _ _ => rfl)) (fun _ _ => rfl)) pa_nil (se rfl)) (se rfl)))))
    (pss_cons (ps_lc (i := 6) sc_outcome.nd rfl rfl (by with_unfolding_all rfl) (Blk.of (caps := ["loop"]) (ix := [0]) rfl) rfl (pi_list (pe_methI0 Mrows (pv 0) (hr.mono (by decide)))) (fun _ _ _ _ => (pf_one (pt_cmpR op_gt (pe_methI Mdeepest (pv 1) (hr.mono (by decide)) (pa_cons (pe_ix (ix_seqK (K := K) rfl) (pv 0) pe_int (fun _ _ => rfl)) pa_nil (se rfl)) (hst := se rfl) (hpl := nst rfl)) pe_int (nomark _)))) (fun _ _ _ _ => (pe_ix (ix_seqK (K := K) rfl) (pv 0) pe_int (fun _ _ => rfl))))
    (pss_one (ps_ret (pe_tupA (pa_cons (pv 5) (pa_cons (pe_lc (Blk.of (caps := ["turns", "done"]) (ix := [1, 4]) rfl) rfl (pi_list (pv 6)) (fun _ _ _ _ => pf_nil) (fun _ _ _ _ => (pe_tupA (pa_cons (pv 0) (pa_cons (pe_methI Mlast_made (pv 2) (hr.mono (by decide)) (pa_cons (pv 0) (pa_cons (pv 1) pa_nil (se rfl)) (se rfl)) (hst := se rfl) (hpl := nst rfl)) pa_nil (se rfl)) (se rfl))))) pa_nil (se rfl)) (se rfl)))))))), ?_⟩
  walk_at "rd"
  refine ⟨lx, k, fd, bd, m, rs, zs, fl, bl, n, rfl, h, fun x A' H1 hR => ?_⟩
  have hR0 := hR
  obtain ⟨⟨lx', k', fd', bd', md, dx, fs, hL, hf, hb, hx, f1, f2, f3, f4, ⟨f5, f6, f7, f8, f9⟩, hM⟩, hs, hfr⟩ := hR
  walk_at "rd"
  refine i_setLc (i_lc (i_list ?_))
  refine i_methI ?_
  walk_at "rd"
  refine ⟨(), lx, dxl, fsl, rfl, hs _ _ hlx, gr, ?_⟩
  walk_at "rd"
  refine ⟨lx, k, m, rs, rfl, h.loop.same hs, fun rp us H2 hN2 hu => ?_⟩
  have l1 := hu.len
  refine ⟨rp, rfl, ⟨us, hN2.lst⟩, ?_⟩
  have ev : ∀ i, i < us.length → ∃ r v, rs[i]? = some r ∧ us[i]? = some v ∧ us.getD i V.non = v := fun i hi => by
    have hir : i < rs.length := by omega
    exact ⟨rs[i], us[i], List.getElem?_eq_getElem hir, List.getElem?_eq_getElem hi, by rw [List.getD, List.getElem?_eq_getElem hi]; rfl⟩
  refine lcFN (LcIt.lst hN2.lst) (pI isTell rs) (fun D i y H' => ∃ r t, rs[i]? = some r ∧ y = .ref t ∧ t ≠ D ∧ H' t = some (.tup [.str r.name, .ref (A' r.name)])) (by omega) (fun D i y H' H'' s' hh => ?_) (fun i H' R hi s' rr => ?_) (fun D i H' R hi hpi hD hy s' rr => ?_) (fun D ys H3 hD s3 hHD hyl hP => ?_)
  · obtain ⟨r, t, e1, e2, e3, e4⟩ := hh
    exact ⟨r, t, e1, e2, e3, s' t _ e3 e4⟩
  · obtain ⟨r, v, e1, e2, e3⟩ := ev i hi
    rw [e3]
    have ep : pI isTell rs i = isTell r := by unfold pI; rw [e1]
    rw [ep] at rr
    obtain ⟨p1, p2, vs, rfl, h1, h2, h3⟩ := (hu.at_ i r v e1 e2).same s'
    walk_at "rd"
    refine i_ixT (.inl (.inl h1)) (show atI _ 1 = some (.str r.d.word) from rfl) ?_
    walk_at "rd"
    have ed : decide (V.str r.d.word = V.str (Str.ofString "tell")) = isTell r := by
      unfold isTell
      by_cases ht : r.d = .tell
      · rw [decide_eq_true ht, decide_eq_true (by rw [ht]; rfl)]
      · rw [decide_eq_false ht, decide_eq_false (show ¬ V.str r.d.word = V.str (Str.ofString "tell") from fun z => word_ne (e := .tell) ht (V.str.inj z))]
    rw [ed]; exact rr
  · obtain ⟨r, v, e1, e2, e3⟩ := ev i hi
    rw [e3]
    have hzm := zs_mem h.ok e1
    obtain ⟨p1, p2, vs, rfl, h1, h2, h3⟩ := (hu.at_ i r v e1 e2).same s'
    have t2 := hN2.same.trans s'
    walk_at "rd"
    refine i_ixT (.inl (.inl h1)) (show atI _ 0 = some (.str r.name) from rfl) ?_
    walk_at "rd"
    refine i_dix ?_
    refine i_fld ?_
    walk_at "rd"
    refine ⟨x, _, dx, fs, .ref md, rfl, t2 _ _ hx, T.i_Run.cl, T.nRM, f4, ?_⟩
    walk_at "rd"
    refine i_ixT (.inl (.inl h1)) (show atI _ 0 = some (.str r.name) from rfl) ?_
    refine ⟨md, _, rfl, (hM.same t2).get hzm, ?_⟩
    walk_at "rd"
    refine ⟨by show 2 ≤ sizeLine; omega, fun t H4 hN4 => ?_⟩
    obtain ⟨ys, hy⟩ := hy
    exact rr _ _ hN4.same ⟨r, t, e1, rfl, fun z => (by have := hN4.free; rw [z, hy] at this; cases this), hN4.at⟩
  have t3 := hN2.same.trans s3
  have hT3 : PrAt (fun _ => True) H3 (pairL (runR m fl bl rs n) (rs.filter isTell)) ys := by
    refine pr_rows (by rw [hyl, ← l1, idx_len]) (hM.same t3) (fun r hr => row_zs h.ok r (List.mem_filter.mp hr).1) (fun _ _ => trivial) (fun j u r e1 e2 => ?_)
    obtain ⟨i, e3, e4⟩ := idx_at e2
    rw [l1] at e3
    obtain ⟨r', t, e5, e6, _, e7⟩ := hP j u i e1 e3
    rw [e4] at e5
    cases e5
    exact ⟨t, e6, e7⟩
  clear hP ev hyl
  have hs3 := hs.trans t3
  dsimp only
  refine i_setLc (i_lc (i_list ?_))
  refine i_methI ?_
  walk_at "rd"
  refine ⟨(), lx, dxl, fsl, rfl, hs3 _ _ hlx, gr, ?_⟩
  walk_at "rd"
  refine ⟨lx, k, m, rs, rfl, h.loop.same hs3, fun rp2 ws H4 hN4 hw => ?_⟩
  have l4 := hw.len
  refine ⟨rp2, rfl, ⟨ws, hN4.lst⟩, ?_⟩
  have ev : ∀ i, i < ws.length → ∃ r v, rs[i]? = some r ∧ ws[i]? = some v ∧ ws.getD i V.non = v := fun i hi => by
    have hir : i < rs.length := by omega
    exact ⟨rs[i], ws[i], List.getElem?_eq_getElem hir, List.getElem?_eq_getElem hi, by rw [List.getD, List.getElem?_eq_getElem hi]; rfl⟩
  refine lcF (LcIt.lst hN4.lst) (pI (isDeep rs) rs) (fun i => match rs[i]? with | some r => .str r.name | none => .non) (by omega) (fun i H' R hi s' rr => ?_) (fun i H' R hi hpi s' rr => ?_) (fun DD H5 hN5 => ?_)
  · obtain ⟨r, v, e1, e2, e3⟩ := ev i hi
    rw [e3]
    have ep : pI (isDeep rs) rs i = isDeep rs r := by unfold pI; rw [e1]
    rw [ep] at rr
    obtain ⟨p1, p2, vs, rfl, h1, h2, h3⟩ := (hw.at_ i r v e1 e2).same s'
    have t5 := (hs3.trans hN4.same).trans s'
    walk_at "rd"
    refine i_methI ?_
    walk_at "rd"
    refine ⟨(), lx, dxl, fsl, rfl, t5 _ _ hlx, gd, ?_⟩
    walk_at "rd"
    refine i_ixT (.inl (.inl h1)) (show atI _ 0 = some (.str r.name) from rfl) ?_
    walk_at "rd"
    refine ⟨lx, k, m, rs, r.name, rfl, h.loop.same t5, ?_⟩
    walk_at "rd"
    exact rr
  · obtain ⟨r, v, e1, e2, e3⟩ := ev i hi
    rw [e3]
    simp only [e1] at rr
    obtain ⟨p1, p2, vs, rfl, h1, h2, h3⟩ := (hw.at_ i r v e1 e2).same s'
    walk_at "rd"
    refine i_ixT (.inl (.inl h1)) (show atI _ 0 = some (.str r.name) from rfl) ?_
    exact rr
  have hN5' : New H4 DD (.lst ((rs.filter (isDeep rs)).map fun r => V.str r.name)) H5 := by
    have e : ((List.range ws.length).filter (pI (isDeep rs) rs)).map (fun i => match rs[i]? with | some r => V.str r.name | none => V.non) = (rs.filter (isDeep rs)).map fun r => V.str r.name := by
      have e1 := congrArg (List.map fun o : Option Row => match o with | some r => V.str r.name | none => V.non) (idx_filter (isDeep rs) rs)
      rw [List.map_map, List.map_map] at e1
      rw [← l4]; exact e1
    rw [← e]; exact hN5
  clear hN5 ev
  have t5 := (t3.trans hN4.same).trans hN5'.same
  have hfl : (rs.filter (isDeep rs)).length ≤ 12 := by have := List.length_filter_le (isDeep rs) rs; omega
  walk_at "rd"
  refine i_lc (i_list ?_)
  walk_at "rd"
  refine lcNL ((rs.filter (isDeep rs)).map fun r => V.str r.name) (fun D i y H' => ∃ r t L, (rs.filter (isDeep rs))[i]? = some r ∧ y = .ref t ∧ t ≠ D ∧ L ≠ D ∧ H' t = some (.tup [.str r.name, .ref L]) ∧ H' L = some (.lst (List.map V.int (endsOf m bl rs (runR m fl bl rs n) n r.name)))) hN5'.lst (by rw [List.length_map]; omega) (fun D i y H' H'' s' hh => ?_) (fun D i v H' R hv hD hy s' rr => ?_) (fun D ys2 H6 hD s6 hHD2 hyl hP => ?_)
  · obtain ⟨r, t, L, e1, e2, e3, e4, e5, e6⟩ := hh
    exact ⟨r, t, L, e1, e2, e3, e4, s' t _ e3 e5, s' L _ e4 e6⟩
  · rw [List.getElem?_map] at hv
    cases hri : (rs.filter (isDeep rs))[i]? with
    | none => rw [hri] at hv; cases hv
    | some r =>
      rw [hri] at hv
      cases hv
      have hrm := List.mem_filter.mp (List.mem_of_getElem? hri)
      have hzm := row_zs h.ok r hrm.1
      have t7 := t5.trans s'
      obtain ⟨zj, hzj⟩ := List.mem_iff_getElem?.mp hzm
      have hln := hg.len zj r.name hzj
      rw [if_neg (by omega)] at hln
      walk_at "rd"
      refine i_methI ?_
      walk_at "rd"
      refine ⟨(), x, dx, fs, rfl, t7 _ _ hx, f9, ?_⟩
      walk_at "rd"
      refine ⟨H, x, m, rs, zs, fl, bl, A', runR m fl bl rs n, r.name, n, rfl, hR0.to t7, h.ok, hzm, h.beo r hrm.1, hln, by omega, fun L H8 hN8 => ?_⟩
      walk_at "rd"
      refine ⟨by show 2 ≤ sizeLine; omega, fun t H9 hN9 => ?_⟩
      obtain ⟨ys', hy⟩ := hy
      have hy8 := hN8.same _ _ hy
      refine rr _ _ (hN8.same.trans hN9.same) ⟨r, t, L, hri, rfl, fun z => ?_, fun z => ?_, hN9.at, hN9.same _ _ hN8.at⟩
      · have := hN9.free; rw [z, hy8] at this; cases this
      · have := hN8.free; rw [z, hy] at this; cases this
  walk_at "rd"
  refine ⟨by show 2 ≤ sizeLine; omega, fun t H7 hN7 => ?_⟩
  have t6 := (hN4.same.trans hN5'.same).trans (s6.trans hN7.same)
  refine q t _ D ys ys2 H7 (hs.trans (t5.trans (s6.trans hN7.same))) hN7.at (t6 _ _ hHD) (hN7.same _ _ hHD2) (hT3.same t6) ?_
  rw [List.length_map] at hyl
  refine ⟨by unfold endsL; rw [List.length_map]; omega, fun i a u e1 e2 => ?_⟩
  unfold endsL at e1
  rw [List.getElem?_map] at e1
  obtain ⟨r, tt, L, g1, g2, g3, g4, g5, g6⟩ := hP i u e2
  rw [g1] at e1
  have e : (r.name, endsOf m bl rs (runR m fl bl rs n) n r.name) = a := Option.some.inj e1
  subst e
  exact ⟨tt, L, g2, hN7.same _ _ g5, hN7.same _ _ g6, trivial⟩
def dropL (k : Nat) (fl : Ls) : Ls := fl.map fun a => (a.1, a.2.drop k)
theorem look_dropL (k : Nat) : ∀ (fl : Ls) (z : Str), (dropL k fl).lookup z = (fl.lookup z).map (List.drop k)
  | [], z => rfl
  | (a, l) :: fl, z => by
    show ((a, l.drop k) :: dropL k fl).lookup z = _
    rw [List.lookup_cons, List.lookup_cons]
    cases z == a with
    | true => rfl
    | false => exact look_dropL k fl z
theorem look_drop (k : Nat) (fl : Ls) (z : Str) (j : Nat) : (look (dropL k fl) z).getD j 0 = (look fl z).getD (k + j) 0 := by
  unfold look
  rw [look_dropL]
  cases fl.lookup z with
  | none => simp
  | some l => simp [List.getD, List.getElem?_drop]
theorem getD_right (a b : List Int) (x : Nat) : (a ++ b).getD (a.length + x) 0 = b.getD x 0 := by
  rw [List.getD, List.getElem?_append_right (by omega), show a.length + x - a.length = x by omega]; rfl
theorem getD_left (a b : List Int) {x : Nat} (h : x < a.length) : (a ++ b).getD x 0 = a.getD x 0 := by
  rw [List.getD, List.getElem?_append_left h]; rfl
theorem look_ends {m : Int} {bl : Ls} {rs : List Row} {M : Md} {k : Nat} {r : Row} (hr : r ∈ rs) (hd : 0 < deep rs r.name) : look (endsL m bl rs M k rs) r.name = endsOf m bl rs M k r.name := by
  obtain ⟨l, e1, e2⟩ := look_mem (ls := endsL m bl rs M k rs) (z := r.name) (List.mem_map.mpr ⟨(r.name, endsOf m bl rs M k r.name), List.mem_map.mpr ⟨r, List.mem_filter.mpr ⟨hr, decide_eq_true hd⟩, rfl⟩, rfl⟩)
  unfold look
  rw [e1]
  obtain ⟨r', _, e⟩ := List.mem_map.mp e2
  have h1 : r'.name = r.name := congrArg Prod.fst e
  have h2 : endsOf m bl rs M k r'.name = l := congrArg Prod.snd e
  rw [← h2, h1]; rfl
theorem ends_at {m : Int} {bl : Ls} {rs : List Row} {M : Md} {k i : Nat} {z : Str} (h : (i : Int) < deep rs z) : (endsOf m bl rs M k z).getD i 0 = endV m bl M k z i := by
  unfold endsOf
  rw [List.getD, List.getElem?_map, List.getElem?_range (by omega)]; rfl
theorem endV_mod {zs : List Str} {m : Int} {bl : Ls} {M : Md} {k i : Nat} {z : Str} (g : Going zs m 0 k M) (h0 : 0 < m) : endV m bl M k z i % m = endV m bl M k z i := by
  unfold endV
  split
  · exact Int.emod_emod_of_dvd _ (Int.dvd_refl m)
  · have := g.at h0 z (k - 1 - i)
    exact Int.emod_eq_of_lt this.1 this.2
theorem name_row {zs : List Str} {rs : List Row} (hok : RowsOk zs rs) {z : Str} (hz : z ∈ zs) : ∃ r ∈ rs, r.name = z := by
  obtain ⟨j, hj⟩ := List.mem_iff_getElem?.mp hz
  have hl : j < rs.length := by rw [hok.len]; exact (List.getElem?_eq_some_iff.mp hj).1
  have := (hok.at_ j rs[j] (List.getElem?_eq_getElem hl)).name
  rw [hj] at this
  exact ⟨rs[j], List.getElem_mem hl, (Option.some.inj this).symm⟩
theorem getR_on {zs : List Str} {rs : List Row} {m : Int} {bl : Ls} {k j i : Nat} {M S1 S2 : Md} {r : Row} {rd : Rd} (hok : RowsOk zs rs) (h0 : 0 < m) (g : Going zs m 0 k M) (hs : ∀ z ∈ zs, S1 z = M z ++ S2 z) (hr : rs[i]? = some r) (hrd : rd ∈ r.reads) :
    getR m bl S1 (k + j) rd = getR m (endsL m bl rs M k rs) S2 j rd := by
  have hm : r ∈ rs := List.mem_iff_getElem?.mpr ⟨i, hr⟩
  have ok := (hok.at_ i r hr).reads rd hrd
  cases rd with
  | num _ => rfl
  | back z b =>
    obtain ⟨jz, hjz, b0, b6, _⟩ := ok
    have hz : z ∈ zs := List.mem_iff_getElem?.mpr ⟨jz, hjz⟩
    have hk : (M z).length = k := by have := g.len jz z hjz; rwa [if_neg (by omega)] at this
    have hdp := deep_mem hm hrd
    show (if ((k + j : Nat) : Int) < b then (look bl z).getD (b - ((k + j : Nat) : Int) - 1).toNat 0 % m else (S1 z).getD (((k + j : Nat) : Int) - b).toNat 0) =
      if (j : Int) < b then (look (endsL m bl rs M k rs) z).getD (b - j - 1).toNat 0 % m else (S2 z).getD ((j : Int) - b).toNat 0
    rw [hs z hz]
    by_cases hjb : (j : Int) < b
    · rw [if_pos hjb]
      obtain ⟨r', hr', hn⟩ := name_row hok hz
      have hl : look (endsL m bl rs M k rs) z = endsOf m bl rs M k z := by rw [← hn]; exact look_ends hr' (by rw [hn]; omega)
      rw [hl, ends_at (show (((b - j - 1).toNat : Nat) : Int) < deep rs z by omega), endV_mod g h0]
      unfold endV
      by_cases hkb : ((k + j : Nat) : Int) < b
      · rw [if_pos hkb, if_pos (by omega), show (b - ((k + j : Nat) : Int) - 1).toNat = (b - j - 1).toNat - k by omega]
      · rw [if_neg hkb, if_neg (by omega), getD_left _ _ (by omega), show (((k + j : Nat) : Int) - b).toNat = k - 1 - (b - j - 1).toNat by omega]
    · rw [if_neg hjb, if_neg (by omega), show (((k + j : Nat) : Int) - b).toNat = (M z).length + ((j : Int) - b).toNat by omega, getD_right]
theorem gets_on {zs : List Str} {rs : List Row} {m : Int} {fl bl : Ls} {k j i : Nat} {M S1 S2 : Md} {r : Row} (hok : RowsOk zs rs) (h0 : 0 < m) (g : Going zs m 0 k M) (hs : ∀ z ∈ zs, S1 z = M z ++ S2 z) (hr : rs[i]? = some r) :
    gets m fl bl S1 (k + j) r = gets m (dropL k fl) (endsL m bl rs M k rs) S2 j r := by
  unfold gets
  split
  · rw [look_drop]
  · exact List.map_congr_left fun rd hrd => getR_on hok h0 g hs hr hrd
theorem turn_on {zs : List Str} {rs : List Row} {m : Int} {fl bl : Ls} {k j : Nat} {M S1 S2 : Md} (hok : RowsOk zs rs) (h0 : 0 < m) (g : Going zs m 0 k M) (hs : ∀ z ∈ zs, S1 z = M z ++ S2 z) : ∀ i, i ≤ rs.length → ∀ z ∈ zs,
    (rs.take i).foldl (stepR m fl bl (k + j)) S1 z = M z ++ (rs.take i).foldl (stepR m (dropL k fl) (endsL m bl rs M k rs) j) S2 z
  | 0, _, z, hz => by simpa using hs z hz
  | i + 1, hi, z, hz => by
    have hr := List.getElem?_eq_getElem (show i < rs.length by omega)
    have ih := turn_on (fl := fl) (bl := bl) (j := j) hok h0 g hs i (by omega)
    rw [fold_next _ _ hr, fold_next _ _ hr]
    have hg := gets_on (fl := fl) (bl := bl) (j := j) hok h0 g ih hr
    show (if z = rs[i].name then _ ++ [rs[i].d.of _ m] else _) = M z ++ if z = rs[i].name then _ ++ [rs[i].d.of _ m] else _
    by_cases hzr : z = rs[i].name
    · rw [if_pos hzr, if_pos hzr, ih z hz, hg, List.append_assoc]
    · rw [if_neg hzr, if_neg hzr, ih z hz]
theorem run_on {zs : List Str} {rs : List Row} {m : Int} (fl bl : Ls) (hok : RowsOk zs rs) (h0 : 0 < m) (k : Nat) : ∀ j, ∀ z ∈ zs, runR m fl bl rs (k + j) z = runR m fl bl rs k z ++ runR m (dropL k fl) (endsL m bl rs (runR m fl bl rs k) k rs) rs j z
  | 0, z, hz => by show runR m fl bl rs k z = _ ++ []; rw [List.append_nil]
  | j + 1, z, hz => by
    have ih := run_on fl bl hok h0 k j
    have h := turn_on (fl := fl) (bl := bl) (j := j) hok h0 (Going.run fl bl hok h0 k) ih rs.length (Nat.le_refl _) z hz
    rw [List.take_length] at h
    rw [runR_next, show k + (j + 1) = (k + j) + 1 by omega, runR_next]
    exact h
theorem ends_on {zs : List Str} {rs : List Row} {m : Int} (fl bl : Ls) (hok : RowsOk zs rs) (h0 : 0 < m) (k j : Nat) {z : Str} (hz : z ∈ zs) :
    endsOf m bl rs (runR m fl bl rs (k + j)) (k + j) z = endsOf m (endsL m bl rs (runR m fl bl rs k) k rs) rs (runR m (dropL k fl) (endsL m bl rs (runR m fl bl rs k) k rs) rs j) j z := by
  have g := Going.run fl bl hok h0 k
  unfold endsOf
  refine List.map_congr_left fun i hi => ?_
  have hid : (i : Int) < deep rs z := by have := List.mem_range.mp hi; omega
  obtain ⟨jz, hjz⟩ := List.mem_iff_getElem?.mp hz
  have hk : (runR m fl bl rs k z).length = k := by have := g.len jz z hjz; rwa [if_neg (by omega)] at this
  unfold endV
  rw [run_on fl bl hok h0 k j z hz]
  by_cases hji : j < i + 1
  · rw [if_pos hji]
    obtain ⟨r', hr', hn⟩ := name_row hok hz
    have hl : look (endsL m bl rs (runR m fl bl rs k) k rs) z = endsOf m bl rs (runR m fl bl rs k) k z := by rw [← hn]; exact look_ends hr' (by rw [hn]; omega)
    rw [hl, ends_at (show ((i - j : Nat) : Int) < deep rs z by omega), endV_mod g h0]
    unfold endV
    by_cases hki : k + j < i + 1
    · rw [if_pos hki, if_pos (by omega), show i - (k + j) = i - j - k by omega]
    · rw [if_neg hki, if_neg (by omega), getD_left _ _ (by omega), show k + j - 1 - i = k - 1 - (i - j) by omega]
  · rw [if_neg hji, if_neg (by omega), show k + j - 1 - i = (runR m fl bl rs k z).length + (j - 1 - i) by omega, getD_right]
theorem fe_on {rs : List Row} {fl : Ls} {n k : Nat} (h : FeOk rs fl n) : FeOk rs (dropL k fl) (n - k) := fun r hr ht => by
  obtain ⟨l, e1, e2⟩ := h r hr ht
  exact ⟨l.drop k, by rw [look_dropL, e1]; rfl, by rw [List.length_drop]; omega⟩
theorem be_on {rs : List Row} {m : Int} {bl : Ls} {M : Md} {k : Nat} : BeOk rs (endsL m bl rs M k rs) := fun r hr ht => by
  obtain ⟨l, e1, e2⟩ := look_mem (ls := endsL m bl rs M k rs) (z := r.name) (List.mem_map.mpr ⟨(r.name, endsOf m bl rs M k r.name), List.mem_map.mpr ⟨r, List.mem_filter.mpr ⟨hr, decide_eq_true ht⟩, rfl⟩, rfl⟩)
  refine ⟨l, e1, ?_⟩
  obtain ⟨r', _, e⟩ := List.mem_map.mp e2
  have h1 : r'.name = r.name := congrArg Prod.fst e
  have h2 : endsOf m bl rs M k r'.name = l := congrArg Prod.snd e
  rw [← h2, h1]
  unfold endsOf
  rw [List.length_map, List.length_range]; omega
def spLists : Sp := fun vs H Q _ => ∃ (p : Addr) (us : List V) (ps : Ls) (S : Addr → Prop), vs = [.ref p] ∧ H p = some (.lst us) ∧ PrAt S H ps us ∧ (∀ a ∈ ps, a.2.length ≤ 400) ∧ Q (.bl true) H
theorem d_lists (T : Txt K mg C CE) (Kb : K.In base) (G : base.Ns mainGlobals mg) : Df P w K mg base 3 "_law_lists" ["_law_found"] spLists := by
  have D_law_alike : Df P w K mg base 2 "_law_alike" ["_law_found", "_law_due"] spAlikeL := d_alikeL T Kb G
  refine T.f_lists.df Kb G sc_law_lists (fun _ _ _ _ _ _ us hl => match us, hl with | [_], _ => rfl) (by rintro vs H Q E ⟨p, us, ps, S, rfl, _⟩; rfl) (fun f cdv A outer s H vs Q E hr h => ?_)
  obtain ⟨p, us, ps, S, rfl, hp, hu, hl4, q⟩ := h
  refine ⟨_, (pss_cons (ps_if (pt_not (pt_val (pe_callB call_isi rfl T.nisi PyProof.Rows.boot_isinstance (pa_cons (pv 0) (pa_cons (pe_bltn (v := .ty "list") rfl T.nlist PyProof.Rows.boot_list rfl) pa_nil (se rfl)) (se rfl)) (he := se rfl) (hpl := nst rfl)))) (pss_one (ps_ret pe_bl)) pss_nil)
    (pss_cons (ps_for PassesOwn.never rfl (pi_list (pv 0)) (pg_name (i := 1) sc_law_lists.nd rfl (Or.inl rfl))
      (pss_cons (ps_if (PW.pt (pw_or (pt_not (pt_val (pe_callB call_isi rfl T.nisi PyProof.Rows.boot_isinstance (pa_cons (pv 1) (pa_cons (pe_bltn (v := .ty "tuple") rfl T.ntuple PyProof.Rows.boot_tuple rfl) pa_nil (se rfl)) (se rfl)) (he := se rfl) (hpl := nst rfl)))) (pw_or (pt_cmpR op_ne (pe_callB call_len_seq rfl T.nlen PySem.boot_len (pa_cons (pv 1) pa_nil (se rfl)) (he := se rfl) (hpl := nst rfl)) pe_int (nomark _)) (pw_or1 (pt_not (pt_val (pe_callB call_isi rfl T.nisi PyProof.Rows.boot_isinstance (pa_cons (pe_ix ix_seq (pv 1) pe_int (fun _ _ => rfl)) (pa_cons (pe_bltn (v := .ty "str") rfl T.nstr PyProof.Rows.boot_str rfl) pa_nil (se rfl)) (se rfl)) (he := se rfl) (hpl := nst rfl)))))))) (pss_one (ps_ret pe_bl)) pss_nil)
    (pss_one (ps_if (PW.pt (pw_or (pt_not (pt_val (pe_callB call_isi rfl T.nisi PyProof.Rows.boot_isinstance (pa_cons (pe_ix ix_seq (pv 1) pe_int (fun _ _ => rfl)) (pa_cons (pe_bltn (v := .ty "list") rfl T.nlist PyProof.Rows.boot_list rfl) pa_nil (se rfl)) (se rfl)) (he := se rfl) (hpl := nst rfl)))) (pw_or1 (pt_not (pt_val (pe_callD D_law_alike (hr.mono (by decide)) rfl (pa_cons (pe_ix ix_seq (pv 1) pe_int (fun _ _ => rfl)) (pa_cons (pe_ix ix_seq (pv 1) pe_int (fun _ _ => rfl)) pa_nil (se rfl)) (se rfl)) (he := se rfl) (hpl := nst rfl))))))) (pss_one (ps_ret pe_bl)) pss_nil))))
    (pss_one (ps_ret pe_bl)))), ?_⟩
  have l1 := hu.len
  walk_at "rd"
  refine i_isiL hp T.kLL ?_
  walk_at "rd"
  refine i_for (i_list ?_)
  walk_at "rd"
  refine ⟨p, rfl, ⟨us, sqL_inj_of hp⟩, ?_⟩
  refine for_list (xs := us) (fun i σ H' => H' = H ∧ ∃ x, σ = [some (.ref p), x]) ⟨rfl, none, rfl⟩ (fun i σ H' _ h => by rw [h.1]; exact sqL_inj_of hp) ?_ ?_
  · rintro i u σ H' hui ⟨rfl, x, rfl⟩
    have hip : i < ps.length := by rw [l1]; exact (List.getElem?_eq_some_iff.mp hui).1
    have r1 := hu.at_ i ps[i] u (List.getElem?_eq_getElem hip) hui
    have hl := hl4 ps[i] (List.getElem_mem hip)
    generalize ps[i] = pr at *
    obtain ⟨t1, b1, rfl, h1, h1', _⟩ := r1
    walk_at "rd"
    refine i_isiT h1 T.kTT ?_
    walk_at "rd"
    refine ⟨_, _, rfl, .inr (.inl (.inl h1)), ?_⟩
    walk_at "rd"
    rw [decide_eq_true (show V.int (([V.str pr.1, V.ref b1].length : Nat) : Int) = V.int 2 from rfl)]
    walk_at "rd"
    refine i_ixT (.inl (.inl h1)) (show atI _ 0 = some (.str pr.1) from rfl) ?_
    walk_at "rd"
    refine ⟨_, _, _, _, rfl, rfl, .str pr.1, T.kSS, ?_⟩
    walk_at "rd"
    refine i_ixT (.inl (.inl h1)) (show atI _ 1 = some (.ref b1) from rfl) ?_
    walk_at "rd"
    refine i_isiL h1' T.kLL ?_
    walk_at "rd"
    refine i_ixT (.inl (.inl h1)) (show atI _ 1 = some (.ref b1) from rfl) ?_
    walk_at "rd"
    refine i_ixT (.inl (.inl h1)) (show atI _ 1 = some (.ref b1) from rfl) ?_
    walk_at "rd"
    refine ⟨b1, b1, pr.2, rfl, h1', h1', hl, ?_⟩
    walk_at "rd"
    exact ⟨rfl, _, rfl⟩
  · rintro σ H' ⟨rfl, x, rfl⟩
    walk_at "rd"
    exact q
def spShaped : Sp := fun vs H Q _ => ∃ (t p1 p2 : Addr) (u1 u2 : List V) (a b : Ls) (S1 S2 : Addr → Prop), vs = [.ref t] ∧ H t = some (.tup [.ref p1, .ref p2]) ∧ H p1 = some (.lst u1) ∧ H p2 = some (.lst u2) ∧ PrAt S1 H a u1 ∧ PrAt S2 H b u2 ∧ (∀ x ∈ a, x.2.length ≤ 400) ∧ (∀ x ∈ b, x.2.length ≤ 400) ∧ Q (.bl true) H
theorem d_shaped (T : Txt K mg C CE) (Kb : K.In base) (G : base.Ns mainGlobals mg) : Df P w K mg base 4 "_law_shaped" ["_law_found"] spShaped := by
  have D_law_lists : Df P w K mg base 3 "_law_lists" ["_law_found"] spLists := d_lists T Kb G
  refine T.f_shaped.df Kb G sc_law_shaped (fun _ _ _ _ _ _ us hl => match us, hl with | [_], _ => rfl) (by rintro vs H Q E ⟨t, p1, p2, u1, u2, a, b, S1, S2, rfl, _⟩; rfl) (fun f cdv A outer s H vs Q E hr h => ?_)
  obtain ⟨t, p1, p2, u1, u2, a, b, S1, S2, rfl, ht, hp1, hp2, h1, h2, ma, mb, q⟩ := h
  refine ⟨_, (pss_cons (ps_if (PW.pt (pw_or (pt_not (pt_val (pe_callB call_isi rfl T.nisi PyProof.Rows.boot_isinstance (pa_cons (pv 0) (pa_cons (pe_bltn (v := .ty "tuple") rfl T.ntuple PyProof.Rows.boot_tuple rfl) pa_nil (se rfl)) (se rfl)) (he := se rfl) (hpl := nst rfl)))) (pw_or1 (pt_cmpR op_ne (pe_callB call_len_seq rfl T.nlen PySem.boot_len (pa_cons (pv 0) pa_nil (se rfl)) (he := se rfl) (hpl := nst rfl)) pe_int (nomark _))))) (pss_one (ps_ret pe_bl)) pss_nil)
    (pss_one (ps_ret (pe_and (pe_callD D_law_lists (hr.mono (by decide)) rfl (pa_cons (pe_ix ix_seq (pv 0) pe_int (fun _ _ => rfl)) pa_nil (se rfl)) (he := se rfl) (hpl := nst rfl)) (pe_one (pe_callD D_law_lists (hr.mono (by decide)) rfl (pa_cons (pe_ix ix_seq (pv 0) pe_int (fun _ _ => rfl)) pa_nil (se rfl)) (he := se rfl) (hpl := nst rfl))))))), ?_⟩
  walk_at "rd"
  refine i_isiT ht T.kTT ?_
  walk_at "rd"
  refine ⟨_, _, rfl, .inr (.inl (.inl ht)), ?_⟩
  walk_at "rd"
  rw [decide_eq_true (show V.int (([V.ref p1, V.ref p2].length : Nat) : Int) = V.int 2 from rfl)]
  walk_at "rd"
  refine i_ixT (.inl (.inl ht)) (show atI _ 0 = some (.ref p1) from rfl) ?_
  walk_at "rd"
  refine ⟨p1, u1, a, S1, rfl, hp1, h1, ma, ?_⟩
  walk_at "rd"
  refine i_ixT (.inl (.inl ht)) (show atI _ 1 = some (.ref p2) from rfl) ?_
  walk_at "rd"
  refine ⟨p2, u2, b, S2, rfl, hp2, h2, mb, ?_⟩
  exact q
theorem eqVs_self : ∀ xs : List V, xs.all flatV = true → eqVs xs xs = true
  | [], _ => rfl
  | x :: xs, h => by
    rw [List.all_cons, Bool.and_eq_true] at h
    show (eqV x x && eqVs xs xs) = true
    rw [eqV_self h.1, eqVs_self xs h.2]; rfl
def prDV (a : Str × List Int) : DV := .t [.f (.str a.1), .l (flats (List.map V.int a.2))]
theorem flat_ints (l : List Int) : (List.map V.int l).all flatV = true := by
  rw [List.all_map]; exact List.all_eq_true.mpr fun _ _ => rfl
theorem PrAt1.drel {K : PySem.W.Frag} {S : Addr → Prop} {H : Hp} {a : Str × List Int} {u : V} (h : PrAt1 S H a u) : DRel K H (prDV a) u := by
  obtain ⟨t, p, rfl, h1, h2, _⟩ := h
  simp only [prDV, DRel, DRels]
  exact ⟨t, _, rfl, .inl (.inl h1), ⟨rfl, rfl⟩, ⟨p, _, rfl, .inl (.inl h2), flats_rel (flat_ints a.2)⟩, trivial⟩
theorem PrAt.drel {K : PySem.W.Frag} {S : Addr → Prop} {H : Hp} {ps : Ls} {us : List V} {p : Addr} (hp : H p = some (.lst us)) (h : PrAt S H ps us) : DRel K H (.l (ps.map prDV)) (.ref p) := by
  simp only [DRel]
  refine ⟨p, us, rfl, .inl (.inl hp), drels_of _ _ (by rw [List.length_map]; exact h.len) fun i d x e1 e2 => ?_⟩
  rw [List.getElem?_map] at e1
  cases hr : ps[i]? with
  | none => rw [hr] at e1; cases e1
  | some a =>
    rw [hr] at e1
    have e : prDV a = d := Option.some.inj e1
    rw [← e]; exact (h.at_ i a x hr e2).drel
theorem deps_prs : ∀ ps : Ls, deps (ps.map prDV) ≤ 2
  | [] => by simp only [List.map_nil, deps]; omega
  | a :: ps => by
    have ih := deps_prs ps
    simp only [List.map_cons, deps]
    have : dep (prDV a) ≤ 2 := by simp only [prDV, dep, deps, flats_dep]; omega
    omega
theorem dep_prs (ps : Ls) : dep (.l (ps.map prDV)) ≤ 20 ∧ 0 < dep (.l (ps.map prDV)) := by
  have := deps_prs ps
  simp only [dep]; omega
theorem merge_nd : ∀ (ps acc : List (Key × V)), (acc.map (·.1) ++ ps.map (·.1)).Nodup → mergeK acc ps = acc ++ ps
  | [], acc, _ => by show acc = _; rw [List.append_nil]
  | p :: ps, acc, h => by
    have hn : valV acc p.1 = none := by
      cases hv : valV acc p.1 with
      | none => rfl
      | some v => exact absurd rfl ((List.nodup_append.mp h).2.2 p.1 (valV_in hv) p.1 List.mem_cons_self)
    show mergeK (putK acc p.1 p.2) ps = _
    rw [putK_new p.2 hn, merge_nd ps (acc ++ [(p.1, p.2)]) (by rw [List.map_append, List.append_assoc]; exact h), List.append_assoc]; rfl
theorem paired_of {α β : Type} {F : α → β → Prop} : ∀ (l : List α) (r : List β), r.length = l.length → (∀ (i : Nat) a b, l[i]? = some a → r[i]? = some b → F a b) → Paired F l r
  | [], [], _, _ => .nil
  | a :: l, b :: r, h, q => .cons (q 0 a b rfl rfl) (paired_of l r (by simpa using h) fun i a' b' e1 e2 => q (i + 1) a' b' e1 e2)
  | [], _ :: _, h, _ => by simp at h
  | _ :: _, [], h, _ => by simp at h
theorem PrAt.pairs {S : Addr → Prop} {H : Hp} {ps : Ls} {us : List V} (h : PrAt S H ps us) : ∃ ks : List (Key × V), PairsAt H ks us ∧ Paired (LiAt H) ps ks := by
  obtain ⟨ks, hl, hk⟩ := pick_list us (fun i (k : Key × V) y => ∀ a, ps[i]? = some a → LiAt H a k ∧ ∃ t, y = .ref t ∧ H t = some (.tup [kV k.1, k.2])) (fun i y e => by
    have hi : i < ps.length := by rw [h.len]; exact (List.getElem?_eq_some_iff.mp e).1
    obtain ⟨t, p, e1, e2, e3, _⟩ := h.at_ i ps[i] y (List.getElem?_eq_getElem hi) e
    refine ⟨(Sum.inr ps[i].1, .ref p), fun a ha => ?_⟩
    rw [List.getElem?_eq_getElem hi] at ha
    have ha' := Option.some.inj ha
    subst ha'
    exact ⟨⟨rfl, p, rfl, e3⟩, t, e1, e2⟩)
  refine ⟨ks, ⟨hl, fun i k u e1 e2 => ?_⟩, ?_⟩
  · have hi : i < ps.length := by rw [h.len, ← hl]; exact (List.getElem?_eq_some_iff.mp e1).1
    exact (hk i k u e1 e2 _ (List.getElem?_eq_getElem hi)).2
  · have hall : ∀ (i : Nat) a k, ps[i]? = some a → ks[i]? = some k → LiAt H a k := fun i a k e1 e2 => by
      have hi : i < us.length := by rw [← hl]; exact (List.getElem?_eq_some_iff.mp e2).1
      exact (hk i k _ e2 (List.getElem?_eq_getElem hi) a e1).1
    exact paired_of ps ks (by rw [hl, h.len]) hall
theorem cutV_drop (ls : List Int) (k : Nat) : cutV (List.map V.int ls) (some (k : Int)) none = List.map V.int (ls.drop k) := by
  unfold cutV
  have e1 : HT.sIx (List.map V.int ls).length (List.map V.int ls).length none = (List.map V.int ls).length := rfl
  have e2 : HT.sIx (List.map V.int ls).length 0 (some (k : Int)) = min k (List.map V.int ls).length := by
    show (if (k : Int) < 0 then ((k : Int) + ((List.map V.int ls).length : Int)).toNat else min (k : Int).toNat (List.map V.int ls).length) = _
    rw [if_neg (by omega)]; omega
  rw [e1, e2, List.map_drop]
  by_cases h : k ≤ (List.map V.int ls).length
  · rw [Nat.min_eq_left h]
    exact List.take_of_length_le (by rw [List.length_drop]; omega)
  · rw [Nat.min_eq_right (by omega), List.drop_length, List.drop_of_length_le (by omega), List.take_nil]
theorem dropL_next {fl : Ls} {k i : Nat} {z : Str} {l : List Int} (h : fl[i]? = some (z, l)) : dropL k (fl.take (i + 1)) = dropL k (fl.take i) ++ [(z, l.drop k)] := by
  unfold dropL
  rw [List.take_add_one, h, List.map_append]; rfl
theorem dropL_keys (fl : Ls) (k : Nat) : (dropL k fl).map (·.1) = fl.map (·.1) := by
  unfold dropL
  rw [List.map_map]; rfl
theorem endsL_nd {zs : List Str} {rs : List Row} {m : Int} {bl : Ls} {M : Md} {n : Nat} (hok : RowsOk zs rs) : ((endsL m bl rs M n rs).map (·.1)).Nodup := by
  have e : (endsL m bl rs M n rs).map (·.1) = (rs.filter (isDeep rs)).map (·.name) := by unfold endsL; rw [List.map_map]; rfl
  have hz : rs.map (·.name) = zs := by
    refine List.ext_getElem? fun i => ?_
    rw [List.getElem?_map]
    by_cases hi : i < rs.length
    · rw [List.getElem?_eq_getElem hi, (hok.at_ i rs[i] (List.getElem?_eq_getElem hi)).name]; rfl
    · rw [List.getElem?_eq_none (by omega), List.getElem?_eq_none (by have := hok.len; omega)]; rfl
  have hnd : zs.Nodup := List.pairwise_iff_getElem.mpr fun i j hi hj hij he => by
    have hji : i = j := name_inj hok.names (List.getElem?_eq_getElem hi) (by rw [List.getElem?_eq_getElem hj, he])
    omega
  rw [e]
  rw [← hz] at hnd
  exact hnd.sublist (List.Sublist.map _ List.filter_sublist)
structure OutAt (H : Hp) (t : Addr) (a b : Ls) : Prop where
  ex : ∃ (p1 p2 : Addr) (u1 u2 : List V), H t = some (.tup [.ref p1, .ref p2]) ∧ H p1 = some (.lst u1) ∧ H p2 = some (.lst u2) ∧ PrAt (fun _ => True) H a u1 ∧ PrAt (fun _ => True) H b u2
theorem OutAt.same {H H' : Hp} {t : Addr} {a b : Ls} (s : Same H H') (h : OutAt H t a b) : OutAt H' t a b := by
  obtain ⟨p1, p2, u1, u2, h1, h2, h3, h4, h5⟩ := h.ex
  exact ⟨p1, p2, u1, u2, s _ _ h1, s _ _ h2, s _ _ h3, h4.same s, h5.same s⟩
theorem pair_on {zs : List Str} {rs : List Row} {m : Int} (fl bl : Ls) (hok : RowsOk zs rs) (h0 : 0 < m) (k j : Nat) (qs : List Row) (hq : ∀ r ∈ qs, r ∈ rs) :
    pairL (runR m fl bl rs (k + j)) qs = qs.map fun r => (r.name, runR m fl bl rs k r.name ++ runR m (dropL k fl) (endsL m bl rs (runR m fl bl rs k) k rs) rs j r.name) := by
  unfold pairL
  refine List.map_congr_left fun r hr => ?_
  rw [run_on fl bl hok h0 k j r.name (row_zs hok r (hq r hr))]
theorem endsL_on {zs : List Str} {rs : List Row} {m : Int} (fl bl : Ls) (hok : RowsOk zs rs) (h0 : 0 < m) (k j : Nat) :
    endsL m bl rs (runR m fl bl rs (k + j)) (k + j) rs = endsL m (endsL m bl rs (runR m fl bl rs k) k rs) rs (runR m (dropL k fl) (endsL m bl rs (runR m fl bl rs k) k rs) rs j) j rs := by
  refine List.map_congr_left fun r hr => ?_
  have := ends_on fl bl hok h0 k j (row_zs hok r (List.mem_filter.mp hr).1)
  rw [this]
theorem st_eq {t : TS} {D : Ends} {σ σ' : St} {H : Hp} (e : σ = σ') (q : t D σ' H) : t D σ H := e ▸ q
theorem FedAt.feo {H : Hp} {d : Addr} {rs : List Row} {n : Nat} {ls : Ls} (h : FedAt H d rs isTake (fun _ => (n : Int)) ls) : FeOk rs ls n := fun r hr ht => by
  obtain ⟨l, e1, e2⟩ := h.look hr (show isTake r = true from decide_eq_true ht)
  exact ⟨l, e1, Int.ofNat_le.mp e2⟩
theorem FedAt.beo {H : Hp} {d : Addr} {rs : List Row} {ls : Ls} (h : FedAt H d rs (isDeep rs) (deep rs) ls) : BeOk rs ls := fun r hr ht => h.look hr (show isDeep rs r = true from decide_eq_true ht)
theorem FeOk.le {rs : List Row} {fl : Ls} {n k : Nat} (h : FeOk rs fl n) (hk : k ≤ n) : FeOk rs fl k := fun r hr ht => by
  obtain ⟨l, e1, e2⟩ := h r hr ht
  exact ⟨l, e1, by omega⟩
theorem run_len {zs : List Str} {rs : List Row} {m : Int} (fl bl : Ls) (hok : RowsOk zs rs) (h0 : 0 < m) (n : Nat) : ∀ z ∈ zs, (runR m fl bl rs n z).length = n := fun z hz => by
  obtain ⟨j, hj⟩ := List.mem_iff_getElem?.mp hz
  have := (Going.run fl bl hok h0 n).len j z hj
  rwa [if_neg (by omega)] at this
theorem pairL_few {zs : List Str} {rs qs : List Row} {m : Int} {fl bl : Ls} {n : Nat} (hok : RowsOk zs rs) (h0 : 0 < m) (hn : n ≤ 300) (hq : ∀ r ∈ qs, r ∈ rs) : ∀ a ∈ pairL (runR m fl bl rs n) qs, a.2.length ≤ 400 := fun a ha => by
  obtain ⟨r, hr, e⟩ := List.mem_map.mp ha
  rw [← e]
  have := run_len fl bl hok h0 n r.name (row_zs hok r (hq r hr))
  show (runR m fl bl rs n r.name).length ≤ 400
  omega
theorem endsL_few {zs : List Str} {rs : List Row} {m : Int} {bl : Ls} {M : Md} {n : Nat} (hok : RowsOk zs rs) : ∀ a ∈ endsL m bl rs M n rs, a.2.length ≤ 400 := fun a ha => by
  obtain ⟨r, hr, e⟩ := List.mem_map.mp ha
  rw [← e]
  have := deep_6 hok r.name
  show (endsOf m bl rs M n r.name).length ≤ 400
  unfold endsOf
  rw [List.length_map, List.length_range]; omega
theorem iteEq {A B : Prop} (h : A) : if (if false = true then !true else true) = true then A else B := iteT h
def MeasOk (m : Int) : Prop := 2 ≤ m ∧ m ≤ 10 ^ 60
def tells (rs : List Row) : List Row := rs.filter isTell
theorem tells_mem {rs : List Row} : ∀ r ∈ tells rs, r ∈ rs := fun r hr => (List.mem_filter.mp hr).1
def spLaw (K : PySem.W.Frag) (ns : List Int) : Sp := fun vs H Q _ => ∃ a : Addr, vs = [.ref a] ∧ SqL K H a (ns.map V.int) ∧ ∀ H', Q (.bl true) H'
theorem ok_law {f : Addr} {fd : FuncData} (T : Txt K mg C CE) (F : Fun K "law" "law" st_law f fd) (Kb : K.In base) (G : base.Ns mainGlobals mg) {ns : List Int} (hl : ns.length ≤ 63) (hb : ∀ i ∈ ns, Builtin.Int.intBits i ≤ 1048576) : FnOk P w K mg base CX0 8 f fd ["_law_script"] (spLaw K ns) := by
  have D_law_cell_at : Df P w K mg base 1 "_law_cell_at" ["_law_script", "_law_k"] (spCell K) := d_cell T Kb G
  have D_law_mix : Df P w K mg base 1 "_law_mix" ["_law_cell", "_law_k"] spMix := d_mix T Kb G
  have D_law_rows : Df P w K mg base 3 "_law_rows" ["_law_script", "_law_many"] (spRows K) := d_rows T Kb G
  have D_law_measure : Df P w K mg base 2 "_law_measure" ["_law_script"] (spMeasure K) := d_measure T Kb G
  have D_law_feeds : Df P w K mg base 2 "_law_feeds" ["_law_script", "_law_rows_here", "_law_turns"] (spFeeds K) := d_feeds T Kb G
  have D_law_begin : Df P w K mg base 2 "_law_begin" ["_law_script", "_law_rows_here"] (spBegin K) := d_begin T Kb G
  have D_law_copy : Df P w K mg base 1 "_law_copy" ["_law_lists_here"] spCopyL := d_copyL T Kb G
  have D_law_shaped : Df P w K mg base 4 "_law_shaped" ["_law_found"] spShaped := d_shaped T Kb G
  have Doutcome : Df P w K mg base 6 "outcome" ["loop", "turns", "feeds", "begin"] (spOutcome (CE .Loop)) := d_outcome T Kb G
  have MLoop : MkI P w K mg base 5 (CE .Loop) ["self", "measure", "rows"] (spInit (CE .Loop)) := mk_loop T Kb G
  refine (F.ok sc_law (k := 7) (by rintro vs H Q E ⟨a, rfl, _⟩; rfl) (fun cdv A outer s H vs Q E hr h => ?_)).mono (by decide)
  obtain ⟨a, rfl, hS, q⟩ := h
  refine ⟨_, (pss_cons (ps_set (i := 1) sc_law.nd rfl (by first | exact Or.inl rfl | exact Or.inr rfl) (pe_callD D_law_mix (hr.mono (by decide)) rfl (pa_cons (pe_callD D_law_cell_at (hr.mono (by decide)) rfl (pa_cons (pv 0) (pa_cons pe_int pa_nil (se rfl)) (se rfl)) (he := se rfl) (hpl := nst rfl)) (pa_cons pe_int pa_nil (se rfl)) (se rfl)) (he := se rfl) (hpl := nst rfl)))
    (pss_cons (ps_set (i := 2) sc_law.nd rfl (by first | exact Or.inl rfl | exact Or.inr rfl) (pe_callD D_law_rows (hr.mono (by decide)) rfl (pa_cons (pv 0) (pa_cons (pe_op op_add pe_int (pe_op op_mod (pv 1) pe_int)) pa_nil (se rfl)) (se rfl)) (he := se rfl) (hpl := nst rfl)))
    (pss_cons (ps_set (i := 3) sc_law.nd rfl (by first | exact Or.inl rfl | exact Or.inr rfl) (pe_op op_mod (pe_op op_fdiv (pv 1) pe_int) pe_int))
    (pss_cons (ps_set (i := 4) sc_law.nd rfl (by first | exact Or.inl rfl | exact Or.inr rfl) (pe_op op_mod (pe_op op_fdiv (pv 1) pe_int) (pe_op op_add (pv 3) pe_int)))
    (pss_cons (ps_set (i := 5) sc_law.nd rfl (by first | exact Or.inl rfl | exact Or.inr rfl) (pe_callD D_law_feeds (hr.mono (by decide)) rfl (pa_cons (pv 0) (pa_cons (pv 2) (pa_cons (pv 3) pa_nil (se rfl)) (se rfl)) (se rfl)) (he := se rfl) (hpl := nst rfl)))
    (pss_cons (ps_set (i := 6) sc_law.nd rfl (by first | exact Or.inl rfl | exact Or.inr rfl) (pe_callD D_law_begin (hr.mono (by decide)) rfl (pa_cons (pv 0) (pa_cons (pv 2) pa_nil (se rfl)) (se rfl)) (he := se rfl) (hpl := nst rfl)))
    (pss_cons (ps_set (i := 7) sc_law.nd rfl (by first | exact Or.inl rfl | exact Or.inr rfl) (pe_makeI MLoop (hr.mono (by decide)) rfl T.mg_Loop (pa_cons (pe_callD D_law_measure (hr.mono (by decide)) rfl (pa_cons (pv 0) pa_nil (se rfl)) (he := se rfl) (hpl := nst rfl)) (pa_cons (pe_callTy call_listA rfl T.nlist PyProof.Rows.boot_list (pa_cons (pv 2) pa_nil (se rfl)) (he := se rfl) (hpl := nst rfl)) pa_nil (se rfl)) (se rfl)) (he := se rfl) (hpl := nst rfl)))
    (pss_cons (ps_set (i := 8) sc_law.nd rfl (by first | exact Or.inl rfl | exact Or.inr rfl) (pe_callD Doutcome (hr.mono (by decide)) rfl (pa_cons (pv 7) (pa_cons (pv 3) (pa_cons (pe_callD D_law_copy (hr.mono (by decide)) rfl (pa_cons (pv 5) pa_nil (se rfl)) (he := se rfl) (hpl := nst rfl)) (pa_cons (pe_callD D_law_copy (hr.mono (by decide)) rfl (pa_cons (pv 6) pa_nil (se rfl)) (he := se rfl) (hpl := nst rfl)) pa_nil (se rfl)) (se rfl)) (se rfl)) (se rfl)) (he := se rfl) (hpl := nst rfl)))
    (pss_cons (ps_set (i := 9) sc_law.nd rfl (by first | exact Or.inl rfl | exact Or.inr rfl) (pe_callD Doutcome (hr.mono (by decide)) rfl (pa_cons (pv 7) (pa_cons (pv 4) (pa_cons (pe_callD D_law_copy (hr.mono (by decide)) rfl (pa_cons (pv 5) pa_nil (se rfl)) (he := se rfl) (hpl := nst rfl)) (pa_cons (pe_callD D_law_copy (hr.mono (by decide)) rfl (pa_cons (pv 6) pa_nil (se rfl)) (he := se rfl) (hpl := nst rfl)) pa_nil (se rfl)) (se rfl)) (se rfl)) (se rfl)) (he := se rfl) (hpl := nst rfl)))
    (pss_cons (ps_if (PW.pt (pw_or (pt_not (pt_val (pe_callD D_law_shaped (hr.mono (by decide)) rfl (pa_cons (pv 8) pa_nil (se rfl)) (he := se rfl) (hpl := nst rfl)))) (pw_or1 (pt_not (pt_val (pe_callD D_law_shaped (hr.mono (by decide)) rfl (pa_cons (pv 9) pa_nil (se rfl)) (he := se rfl) (hpl := nst rfl))))))) (pss_one (ps_ret pe_bl)) pss_nil)
    (pss_cons (ps_set (i := 10) sc_law.nd rfl (by first | exact Or.inl rfl | exact Or.inr rfl) pe_dnewK)
    (pss_cons (ps_fz (ps_for PassesOwn.never rfl (pi_items (pv 5)) (pg_tup rfl (pgs_cons (pg_name (i := 11) sc_law.nd rfl (Or.inl rfl)) (pgs_cons (pg_name (i := 12) sc_law.nd rfl (Or.inl rfl)) pgs_nil)))
      (pss_one (ps_dput (hu_of hr) (pv 10) (pv 11) (pe_slice sl_listA (pv 12) (po_some (pv 4)) po_none) rfl))))
    (pss_cons (ps_set (i := 13) sc_law.nd rfl (by first | exact Or.inl rfl | exact Or.inr rfl) (pe_callD Doutcome (hr.mono (by decide)) rfl (pa_cons (pv 7) (pa_cons (pe_op op_sub (pv 3) (pv 4)) (pa_cons (pv 10) (pa_cons (pe_callTy (call_dictL rfl) rfl T.ndict PyProof.Rows.boot_dict (pa_cons (pe_ix ix_seq (pv 9) pe_int (fun _ _ => rfl)) pa_nil (se rfl)) (he := se rfl) (hpl := nst rfl)) pa_nil (se rfl)) (se rfl)) (se rfl)) (se rfl)) (he := se rfl) (hpl := nst rfl)))
    (pss_cons (ps_if (PW.pt (pw_or (pt_not (pt_val (pe_callD D_law_shaped (hr.mono (by decide)) rfl (pa_cons (pv 13) pa_nil (se rfl)) (he := se rfl) (hpl := nst rfl)))) (pw_or1 (pt_cmpR op_ne (pe_callB call_len_seq rfl T.nlen PySem.boot_len (pa_cons (pe_ix ix_seq (pv 9) pe_int (fun _ _ => rfl)) pa_nil (se rfl)) (he := se rfl) (hpl := nst rfl)) (pe_callB call_len_seq rfl T.nlen PySem.boot_len (pa_cons (pe_ix ix_seq (pv 13) pe_int (fun _ _ => rfl)) pa_nil (se rfl)) (he := se rfl) (hpl := nst rfl)) (nomark _))))) (pss_one (ps_ret pe_bl)) pss_nil)
    (pss_cons (ps_set (i := 14) sc_law.nd rfl (by first | exact Or.inl rfl | exact Or.inr rfl) (pe_lstA pa_nil))
    (pss_cons (ps_for PassesOwn.never rfl (pi_range1 rfl T.nrange (pa_cons (pe_callB call_len_seq rfl T.nlen PySem.boot_len (pa_cons (pe_ix ix_seq (pv 9) pe_int (fun _ _ => rfl)) pa_nil (se rfl)) (he := se rfl) (hpl := nst rfl)) pa_nil (se rfl))) (pg_name (i := 15) sc_law.nd rfl (Or.inl rfl))
      (pss_cons (ps_if (pt_cmpR op_ne (pe_ix ix_seq (pe_ix ix_seq (pe_ix ix_seq (pv 9) pe_int (fun _ _ => rfl)) (pv 15) (fun _ _ => rfl)) pe_int (fun _ _ => rfl)) (pe_ix ix_seq (pe_ix ix_seq (pe_ix ix_seq (pv 13) pe_int (fun _ _ => rfl)) (pv 15) (fun _ _ => rfl)) pe_int (fun _ _ => rfl)) (nomark _)) (pss_one (ps_ret pe_bl)) pss_nil)
    (pss_one (ps_expr (pe_bm PySem.F.plainAttrs_list PySem.F.slot_list_append PySem.F.type_list_append mt_append (pv 14) (pa_cons (pe_tupA (pa_cons (pe_ix ix_seq (pe_ix ix_seq (pe_ix ix_seq (pv 9) pe_int (fun _ _ => rfl)) (pv 15) (fun _ _ => rfl)) pe_int (fun _ _ => rfl)) (pa_cons (pe_op op_catA (pe_ix ix_seq (pe_ix ix_seq (pe_ix ix_seq (pv 9) pe_int (fun _ _ => rfl)) (pv 15) (fun _ _ => rfl)) pe_int (fun _ _ => rfl)) (pe_ix ix_seq (pe_ix ix_seq (pe_ix ix_seq (pv 13) pe_int (fun _ _ => rfl)) (pv 15) (fun _ _ => rfl)) pe_int (fun _ _ => rfl))) pa_nil (se rfl)) (se rfl))) pa_nil (se rfl)) (hs := se rfl) (hplain := nst rfl))))))
    (pss_cons (ps_lc (i := 16) sc_law.nd rfl rfl (by with_unfolding_all rfl) (Blk.of (caps := []) (ix := []) rfl) rfl (pi_list (pv 2)) (fun _ _ _ _ => (pf_one (pt_cmpR op_eq (pe_ix (ix_seqK (K := K) rfl) (pv 0) pe_int (fun _ _ => rfl)) pe_str (nomark _)))) (fun _ _ _ _ => (pe_ix (ix_seqK (K := K) rfl) (pv 0) pe_int (fun _ _ => rfl))))
    (pss_one (ps_ret (pe_and (pe_cmpR (op_eqD hr.units) (pe_ix ix_seq (pv 8) pe_int (fun _ _ => rfl)) (pv 14) (nomark _)) (pe_and (pe_cmpR (op_eqD hr.units) (pe_lc (Blk.of (caps := []) (ix := []) rfl) rfl (pi_list (pv 14)) (fun _ _ _ _ => pf_nil) (fun _ _ _ _ => (pe_ix (ix_seqK (K := K) rfl) (pv 0) pe_int (fun _ _ => rfl)))) (pv 16) (nomark _)) (pe_one (pe_cmpR (op_eqD hr.units) (pe_ix ix_seq (pv 8) pe_int (fun _ _ => rfl)) (pe_ix ix_seq (pv 13) pe_int (fun _ _ => rfl)) (nomark _)))))))))))))))))))))))), ?_⟩
  refine st_eq (σ' := [some (.ref a), none, none, none, none, none, none, none, none, none, none, none, none, none, none, none, none]) rfl ?_
  have lb := line_big
  clear hl hb
  walk_at "rd"
  refine ⟨a, ns, 0, rfl, hS, fun c => ?_⟩
  walk_at "rd"
  refine ⟨c, 0, rfl, by decide, fun hd => ?_⟩
  walk_at "rd"
  have b6 := mod_b (hd : Int) (show (0 : Int) < 6 by decide)
  obtain ⟨mn, hmn⟩ := Int.eq_ofNat_of_zero_le b6.1
  rw [hmn] at b6 ⊢
  refine ⟨a, ns, 1 + mn, rfl, hS, by omega, fun p H1 zs rs us s1 hp hu hok hrl => ?_⟩
  walk_at "rd"
  have b17 := mod_b ((hd : Int) / 6) (show (0 : Int) < 17 by decide)
  obtain ⟨n, hn'⟩ := Int.eq_ofNat_of_zero_le b17.1
  rw [hn'] at b17 ⊢
  have bpl := mod_b ((hd : Int) / 102) (show (0 : Int) < (n : Int) + 1 by omega)
  obtain ⟨pl, hpl'⟩ := Int.eq_ofNat_of_zero_le bpl.1
  rw [hpl'] at bpl ⊢
  have hn : n ≤ 16 := by omega
  have hpn : pl ≤ n := by omega
  have hrs1 : 1 ≤ rs.length := by omega
  clear b6 hmn b17 hn' bpl hpl' hrl
  have l1 := hu.len
  have l2 := hok.len
  have l12 := hok.names.1
  refine ⟨a, p, ns, us, zs, rs, n, rfl, s1.seq hS, hp, hu, hok, by omega, fun fd H2 fl s2 hfd0 hF => ?_⟩
  walk_at "rd"
  refine ⟨a, p, ns, us, zs, rs, rfl, (s1.trans s2).seq hS, s2 _ _ hp, hu.same s2, hok, fun bd H3 bl s3 hbd0 hB => ?_⟩
  have hfe := hF.feo
  have hbe := hB.beo
  have hfl := hF.len
  have hbl := hB.len
  have S3 := s2.trans s3
  walk_at "rd"
  refine i_makeI ?_
  walk_at "rd"
  refine ⟨a, ns, rfl, (s1.trans S3).seq hS, fun m m2' m60' => ?_⟩
  have hm : MeasOk m := ⟨m2', m60'⟩
  clear m60' m2'
  have m0 : 0 < m := by have := hm.1; omega
  walk_at "rd"
  refine i_listAL (sqL_inj_of (S3 _ _ hp)) fun hq HD hND => ?_
  walk_at "rd"
  intro x dx hx hdx hne
  have sE : Same HD (upd (upd HD dx (.own x)) x (.ins (CE .Loop) dx [])) := Same.upd (Same.new hdx) (by rw [upd_ne hne.symm]; exact hx)
  have xE : upd (upd HD dx (.own x)) x (.ins (CE .Loop) dx []) x = some (.ins (CE .Loop) dx []) := upd_same
  generalize upd (upd HD dx (.own x)) x (.ins (CE .Loop) dx []) = HE at *
  have tE : Same H1 HE := S3.trans (hND.same.trans sE)
  refine ⟨x, dx, hq, m, us, zs, rs, rfl, xE, hm.1, hm.2, sE _ _ hND.at, hu.same tE, hok, hrs1, fun k HF hk bF hL => ⟨rfl, ?_⟩⟩
  have sF : Same HD HF := fun b o e => bF b o (ne_of_none e hx) (sE _ _ e)
  have t3 : Same H3 HF := hND.same.trans sF
  have hfF : LsAt HF fd fl := (hF.at_.same s3).same t3
  have hbF : LsAt HF bd bl := hB.at_.same t3
  have hpF : HF p = some (.lst us) := t3 _ _ (S3 _ _ hp)
  have huF : RowsAt HF rs us := (hu.same S3).same t3
  clear hF hB S3 s2 s3 t3 sF bF xE sE tE hND hp hu hfd0 hbd0 hx hdx hne hk s1
  walk_at "rd"
  refine ⟨fd, fl, rfl, hfF, by omega, fun c1 HG sG _ hc1 => ?_⟩
  walk_at "rd"
  refine ⟨bd, bl, rfl, hbF.same sG, by omega, fun c2 HH sH _ hc2 => ?_⟩
  walk_at "rd"
  have sFH := sG.trans sH
  refine ⟨x, k, c1, c2, m, rs, zs, fl, bl, n, rfl, ⟨hL.same sFH, hok, hc1.same sH, hc2, hfe, hbe, by omega, hm.1, hm.2⟩, fun t1 p11 p12 u11 u12 HI sI ht1 hp11 hp12 g11 g12 => ?_⟩
  have O1 : OutAt HI t1 (pairL (runR m fl bl rs n) (tells rs)) (endsL m bl rs (runR m fl bl rs n) n rs) := ⟨p11, p12, u11, u12, ht1, hp11, hp12, g11, g12⟩
  have sFI := sFH.trans sI
  clear hc1 hc2 ht1 hp11 hp12 g11 g12 sG sH sI sFH
  walk_at "rd"
  refine ⟨fd, fl, rfl, hfF.same sFI, by omega, fun c3 HJ sJ _ hc3 => ?_⟩
  walk_at "rd"
  refine ⟨bd, bl, rfl, hbF.same (sFI.trans sJ), by omega, fun c4 HK sK _ hc4 => ?_⟩
  walk_at "rd"
  have sIK := sJ.trans sK
  refine ⟨x, k, c3, c4, m, rs, zs, fl, bl, pl, rfl, ⟨hL.same (sFI.trans sIK), hok, hc3.same sK, hc4, hfe.le hpn, hbe, by omega, hm.1, hm.2⟩, fun t2 p21 p22 u21 u22 HL sL ht2 hp21 hp22 g21 g22 => ?_⟩
  have O1' := O1.same (sIK.trans sL)
  have sFL := (sFI.trans sIK).trans sL
  have e2L : (endsL m bl rs (runR m fl bl rs pl) pl rs).length ≤ 12 := by
    unfold endsL
    rw [List.length_map]
    have := List.length_filter_le (isDeep rs) rs
    omega
  clear O1 hc3 hc4 sIK sJ sK sL sFI
  obtain ⟨q11, q12, w11, w12, ht1, hq11, hq12, h11, h12⟩ := O1'.ex
  walk_at "rd"
  refine ⟨t1, q11, q12, w11, w12, _, _, _, _, rfl, ht1, hq11, hq12, h11, h12, pairL_few hok m0 (by omega) tells_mem, endsL_few hok, ?_⟩
  walk_at "rd"
  refine ⟨t2, p21, p22, u21, u22, _, _, _, _, rfl, ht2, hp21, hp22, g21, g22, pairL_few hok m0 (by omega) tells_mem, endsL_few hok, ?_⟩
  walk_at "rd"
  refine i_dnew fun D hD => ?_
  have hs0 : Same HL (upd HL D (.dK [])) := Same.new hD
  have hD0 : upd HL D (.dK []) D = some (.dK []) := upd_same
  generalize upd HL D (.dK []) = H0 at *
  obtain ⟨kvs, hd', hnd, hpr⟩ := hfF.same sFL
  have hdD : D ≠ fd := fun z => by rw [z, hd'] at hD; cases hD
  have hlen := Paired.len' hpr
  walk_at "rd"
  dsimp only
  refine i_fz (hs0 _ _ hd') fun o => ?_
  refine i_for (i_items ?_)
  walk_at "rd"
  refine ⟨fd, o, kvs, rfl, upd_same, ?_⟩
  refine for_items (kvs := kvs) (fun i σ H' => SameB fd HL H' ∧ H' fd = some (.frz o (.dK kvs)) ∧ ∃ (x11 x12 : Option V), σ = [some (.ref a), some (.int (hd : Int)), some (.ref p), some (.int (n : Int)), some (.int (pl : Int)), some (.ref fd), some (.ref bd), some (.ref x), some (.ref t1), some (.ref t2), some (.ref D), x11, x12, none, none, none, none] ∧ LsAt H' D (dropL pl (fl.take i)))
    ⟨fun b u n e => by rw [upd_ne n]; exact hs0 _ _ e, upd_same, none, none, rfl, ⟨[], by rw [upd_ne hdD]; exact hD0, List.nodup_nil, .nil⟩⟩ (fun i σ H' _ h => h.2.1) ?_ ?_
  · rintro i kk y t σ H4 H5 hx' ⟨sb, hfz, x11, x12, rfl, hLs⟩ hN5
    obtain ⟨⟨z, l⟩, hzl, hkk, pp, hyp, hpp⟩ := paired_at hpr hx'
    have hk' : kk = Sum.inr z := hkk
    have hy' : y = .ref pp := hyp
    subst hk' hy'
    have hpd : pp ≠ fd := ne_of hpp hd' (by intro z; cases z)
    have hp2 := hN5.same _ _ (sb pp _ hpd hpp)
    refine i_gtup hN5.tup rfl ?_
    walk_at "rd"
    refine i_dput ?_
    walk_at "rd"
    refine i_slLA (sqL_inj_of hp2) fun lp H6 hN6 => ?_
    rw [cutV_drop] at hN6
    walk_at "rd"
    have hil : i < fl.length := (List.getElem?_eq_some_iff.mp hzl).1
    obtain ⟨H7, hput, sb7, hL7⟩ := ((hLs.same hN5.same).same hN6.same).add (z := z) (p := lp) (l := l.drop pl) (by rw [dropL_keys]; exact nd_at hnd hzl) hN6.at (by unfold dropL; rw [List.length_map, List.length_take]; omega)
    have s46 := hN5.same.trans hN6.same
    refine ⟨D, H7, rfl, hput, fun b u nn e => ?_, ?_, _, _, rfl, ?_⟩
    · exact sb7 b u (fun w => by rw [w, hD] at e; cases e) (s46 _ _ (sb b u nn e))
    · exact sb7 fd _ (Ne.symm hdD) (s46 _ _ hfz)
    · rw [dropL_next hzl]; exact hL7
  · rintro σ H4 ⟨sb, hfz, x11, x12, rfl, hLs⟩
    refine ⟨hfz, ?_⟩
    rw [← hlen, List.take_length] at hLs
    have sM : Same HL (upd H4 fd (.dK kvs)) := fun b u e => by
      by_cases hb : b = fd
      · rw [hb] at e ⊢
        rw [hd'] at e
        rw [upd_same]; exact e
      · rw [upd_ne hb]; exact sb b u hb e
    have hLM : LsAt (upd H4 fd (.dK kvs)) D (dropL pl fl) := hLs.upd hfz (by intro kvs z; cases z) (by intro xs z; cases z)
    generalize upd H4 fd (.dK kvs) = HM at *
    clear hLs hfz sb hpr hnd hdD hD hs0 hD0 hlen
    walk_at "rd"
    refine i_ixT (.inl (.inl (sM _ _ ht2))) (show atI _ 1 = some (.ref p22) from rfl) ?_
    walk_at "rd"
    obtain ⟨ks, hks1, hks2⟩ := (g22.same sM).pairs
    refine i_dictL (sM _ _ hp22) hks1 fun E HN hNN => ?_
    have hkm : mergeK [] ks = ks := by
      have e : ks.map (·.1) = (endsL m bl rs (runR m fl bl rs pl) pl rs).map fun a => (Sum.inr a.1 : Key) := by
        refine List.ext_getElem? fun i => ?_
        rw [List.getElem?_map, List.getElem?_map]
        cases hi : ks[i]? with
        | none => rw [List.getElem?_eq_none (by have := Paired.len' hks2; have := List.getElem?_eq_none_iff.mp hi; omega)]; rfl
        | some kv =>
          obtain ⟨aa, e1, e2⟩ := paired_at hks2 hi
          rw [e1]
          show some kv.1 = some _
          rw [e2.1]
      have h1 := merge_nd ks [] (by
        rw [List.map_nil, List.nil_append, e]
        have h2 := endsL_nd (m := m) (bl := bl) (M := runR m fl bl rs pl) (n := pl) hok
        have h3 : (endsL m bl rs (runR m fl bl rs pl) pl rs).map (fun a => (Sum.inr a.1 : Key)) = ((endsL m bl rs (runR m fl bl rs pl) pl rs).map (·.1)).map fun z => (Sum.inr z : Key) := by rw [List.map_map]; rfl
        rw [h3]
        exact List.Pairwise.map _ (fun a b hab he => hab (Sum.inr.inj he)) h2)
      rw [h1, List.nil_append]
    rw [hkm] at hNN
    have hEN : LsAt HN E (endsL m bl rs (runR m fl bl rs pl) pl rs) := ⟨ks, hNN.at, endsL_nd hok, Paired.mapP hks2 fun a b z => z.same hNN.same⟩
    have sLN := sM.trans hNN.same
    walk_at "rd"
    refine ⟨x, k, D, E, m, rs, zs, dropL pl fl, endsL m bl rs (runR m fl bl rs pl) pl rs, n - pl, by rw [show ((n : Int) - (pl : Int)) = ((n - pl : Nat) : Int) by omega]; rfl, ⟨hL.same (sFL.trans sLN), hok, hLM.same hNN.same, hEN, fe_on hfe, be_on, by omega, hm.1, hm.2⟩, fun t3 p31 p32 u31 u32 HO' sO ht3 hp31 hp32 g31 g32 => ?_⟩
    have sLO := sLN.trans sO
    have hlt : ∀ M : Md, (pairL M (tells rs)).length = (tells rs).length := fun M => List.length_map _
    have htl : (tells rs).length ≤ 12 := by have := List.length_filter_le isTell rs; unfold tells; omega
    have k21 : (tells rs).length = u21.length := by rw [← (g21.same sLO).len]; exact (hlt _).symm
    have k31 := g31.len
    have k31' : (tells rs).length = u31.length := by rw [← k31]; exact (hlt _).symm
    clear hks1 hks2 hkm hNN hEN hLM sM sLN
    walk_at "rd"
    refine ⟨t3, p31, p32, u31, u32, _, _, _, _, rfl, ht3, hp31, hp32, g31, g32, pairL_few hok m0 (by omega) tells_mem, endsL_few hok, ?_⟩
    walk_at "rd"
    refine i_ixT (.inl (.inl (sLO _ _ ht2))) (show atI _ 0 = some (.ref p21) from rfl) ?_
    walk_at "rd"
    refine ⟨_, _, rfl, .inl (sqL_inj_of (sLO _ _ hp21)), ?_⟩
    walk_at "rd"
    refine i_ixT (.inl (.inl ht3)) (show atI _ 0 = some (.ref p31) from rfl) ?_
    walk_at "rd"
    refine ⟨_, _, rfl, .inl (sqL_inj_of hp31), ?_⟩
    walk_at "rd"
    rw [decide_eq_true (show V.int (u21.length : Int) = V.int (u31.length : Int) by rw [← k21, k31'])]
    walk_at "rd"
    refine ⟨by show 0 ≤ sizeLine; exact Nat.zero_le _, fun W HP hNP => ?_⟩
    have hWn := hNP.free
    walk_at "rd"
    dsimp only
    refine i_for (i_rng1 ?_)
    walk_at "rd"
    refine i_ixT (.inl (.inl (hNP.same _ _ (sLO _ _ ht2)))) (show atI _ 0 = some (.ref p21) from rfl) ?_
    walk_at "rd"
    refine ⟨_, _, rfl, .inl (sqL_inj_of (hNP.same _ _ (sLO _ _ hp21))), ?_⟩
    refine ⟨_, rfl, by omega, by omega, ?_⟩
    rw [Int.toNat_natCast]
    refine for_range (lo := 0) (n := u21.length) (fun i σ H' => Same HO' H' ∧ ∃ (uw : List V) (x15 : Option V), σ = [some (.ref a), some (.int (hd : Int)), some (.ref p), some (.int (n : Int)), some (.int (pl : Int)), some (.ref fd), some (.ref bd), some (.ref x), some (.ref t1), some (.ref t2), some (.ref D), x11, x12, some (.ref t3), some (.ref W), x15, none] ∧ H' W = some (.lst uw) ∧ uw.length = i ∧
      PrAt (fun b => b ≠ W) H' (((tells rs).take i).map fun r => (r.name, runR m fl bl rs pl r.name ++ runR m (dropL pl fl) (endsL m bl rs (runR m fl bl rs pl) pl rs) rs (n - pl) r.name)) uw)
      ⟨hNP.same, [], none, rfl, hNP.at, rfl, rfl, fun i a u e => by simp at e⟩ ?_ ?_
    · rintro i σ HQ hi ⟨sQ, uw, x15, rfl, hW, hwl, hPw⟩
      have e0 : (0 : Int) + (i : Int) = (i : Int) := Int.zero_add _
      rw [e0]
      have hit : i < (tells rs).length := by omega
      have hri := List.getElem?_eq_getElem hit
      have hri' : (rs.filter isTell)[i]? = some (tells rs)[i] := hri
      have hrm := tells_mem _ (List.getElem_mem hit)
      have ht2Q := sQ _ _ (sLO _ _ ht2)
      have hp21Q := sQ _ _ (sLO _ _ hp21)
      have ht3Q := sQ _ _ ht3
      have hp31Q := sQ _ _ hp31
      have hi3 : i < u31.length := by omega
      obtain ⟨ta, ba, ea, ha1, ha2, _⟩ := (g21.same (sLO.trans sQ)).at_ i ((tells rs)[i].name, runR m fl bl rs pl (tells rs)[i].name) u21[i] (by show (List.map _ _)[i]? = _; rw [List.getElem?_map, hri']; rfl) (List.getElem?_eq_getElem hi)
      obtain ⟨tb, bb, eb, hb1, hb2, _⟩ := (g31.same sQ).at_ i ((tells rs)[i].name, runR m (dropL pl fl) (endsL m bl rs (runR m fl bl rs pl) pl rs) rs (n - pl) (tells rs)[i].name) u31[i] (by show (List.map _ _)[i]? = _; rw [List.getElem?_map, hri']; rfl) (List.getElem?_eq_getElem hi3)
      have a1 := at_v hi
      have a3 := at_v hi3
      rw [ea] at a1
      rw [eb] at a3
      have hla := run_len fl bl hok m0 pl (tells rs)[i].name (row_zs hok _ hrm)
      have hlb := run_len (dropL pl fl) (endsL m bl rs (runR m fl bl rs pl) pl rs) hok m0 (n - pl) (tells rs)[i].name (row_zs hok _ hrm)
      rw [map_next _ hri]
      generalize (tells rs)[i] = rw at *
      walk_at "rd"
      refine i_ixT (.inl (.inl ht2Q)) (show atI _ 0 = some (.ref p21) from rfl) ?_
      walk_at "rd"
      refine i_ixL (sqL_inj_of hp21Q) a1 ?_
      walk_at "rd"
      refine i_ixT (.inl (.inl ha1)) (show atI _ 0 = some (.str rw.name) from rfl) ?_
      walk_at "rd"
      refine i_ixT (.inl (.inl ht3Q)) (show atI _ 0 = some (.ref p31) from rfl) ?_
      walk_at "rd"
      refine i_ixL (sqL_inj_of hp31Q) a3 ?_
      walk_at "rd"
      refine i_ixT (.inl (.inl hb1)) (show atI _ 0 = some (.str rw.name) from rfl) ?_
      walk_at "rd"
      rw [decide_eq_true (rfl : V.str rw.name = V.str rw.name)]
      walk_at "rd"
      refine ⟨.inl ⟨rfl, _, sqL_inj_of hW⟩, ?_⟩
      walk_at "rd"
      refine i_ixT (.inl (.inl ht2Q)) (show atI _ 0 = some (.ref p21) from rfl) ?_
      walk_at "rd"
      refine i_ixL (sqL_inj_of hp21Q) a1 ?_
      walk_at "rd"
      refine i_ixT (.inl (.inl ha1)) (show atI _ 0 = some (.str rw.name) from rfl) ?_
      walk_at "rd"
      refine i_ixT (.inl (.inl ht2Q)) (show atI _ 0 = some (.ref p21) from rfl) ?_
      walk_at "rd"
      refine i_ixL (sqL_inj_of hp21Q) a1 ?_
      walk_at "rd"
      refine i_ixT (.inl (.inl ha1)) (show atI _ 1 = some (.ref ba) from rfl) ?_
      walk_at "rd"
      refine i_ixT (.inl (.inl ht3Q)) (show atI _ 0 = some (.ref p31) from rfl) ?_
      walk_at "rd"
      refine i_ixL (sqL_inj_of hp31Q) a3 ?_
      walk_at "rd"
      refine i_ixT (.inl (.inl hb1)) (show atI _ 1 = some (.ref bb) from rfl) ?_
      refine i_catA ha2 hb2 (by rw [List.length_map, List.length_map]; show (runR m fl bl rs pl rw.name).length + (runR m (dropL pl fl) (endsL m bl rs (runR m fl bl rs pl) pl rs) rs (n - pl) rw.name).length ≤ _; omega) fun cc HR hNR => ?_
      walk_at "rd"
      refine ⟨by show 2 ≤ sizeLine; omega, fun tt HS hNS => ?_⟩
      walk_at "rd"
      have sQS := hNR.same.trans hNS.same
      have hWS := sQS _ _ hW
      refine i_append hWS (by omega) ?_
      refine ⟨fun b oo e => ?_, uw ++ [.ref tt], _, rfl, upd_same, by rw [List.length_append, hwl]; rfl, ?_⟩
      · rw [upd_ne (ne_of_none e hWn)]; exact sQS _ _ (sQ _ _ e)
      · refine PrAt.upd (xs := uw) (PrAt.snoc (hPw.same sQS) ⟨tt, cc, rfl, hNS.at, ?_, fun z => ?_⟩) hWS fun b h => h
        · rw [hNS.same _ _ hNR.at, ← List.map_append]
        · have := hNR.free; rw [z, hW] at this; cases this
    · rintro σ HQ ⟨sQ, uw, x15, rfl, hW, hwl, hPw⟩
      rw [← k21, List.take_length, ← pair_on fl bl hok m0 pl (n - pl) (tells rs) tells_mem, show pl + (n - pl) = n by omega] at hPw
      have hpQ : HQ p = some (.lst us) := sQ _ _ (sLO _ _ (sFL _ _ hpF))
      have huQ : RowsAt HQ rs us := ((huF.same sFL).same sLO).same sQ
      have O1Q := (O1'.same sLO).same sQ
      have g32Q := g32.same sQ
      rw [← endsL_on fl bl hok m0 pl (n - pl), show pl + (n - pl) = n by omega] at g32Q
      have ht3Q := sQ _ _ ht3
      have hp32Q := sQ _ _ hp32
      clear g32 g31 g21 g22 sQ sLO sFL huF hpF O1' h11 h12 hq11 hq12 ht1
      walk_at "rd"
      refine i_setLc (i_lc (i_list ?_))
      walk_at "rd"
      refine ⟨p, rfl, ⟨us, sqL_inj_of hpQ⟩, ?_⟩
      have ev : ∀ i, i < us.length → ∃ r v, rs[i]? = some r ∧ us[i]? = some v ∧ us.getD i V.non = v := fun i hi => by
        have hir : i < rs.length := by omega
        exact ⟨rs[i], us[i], List.getElem?_eq_getElem hir, List.getElem?_eq_getElem hi, by rw [List.getD, List.getElem?_eq_getElem hi]; rfl⟩
      refine lcF (LcIt.lst (sqL_inj_of hpQ)) (pI isTell rs) (fun i => match rs[i]? with | some r => .str r.name | none => .non) (by omega) (fun i H' R hi s' rr => ?_) (fun i H' R hi hpi s' rr => ?_) (fun tp HR hNR => ?_)
      · obtain ⟨r, v, e1, e2, e3⟩ := ev i hi
        rw [e3]
        have ep : pI isTell rs i = isTell r := by unfold pI; rw [e1]
        rw [ep] at rr
        obtain ⟨p1, p2, vs, rfl, h1, h2, h3⟩ := (huQ.at_ i r v e1 e2).same s'
        walk_at "rd"
        refine i_ixT (.inl (.inl h1)) (show atI _ 1 = some (.str r.d.word) from rfl) ?_
        walk_at "rd"
        have ed : decide (V.str r.d.word = V.str (Str.ofString "tell")) = isTell r := by
          unfold isTell
          by_cases ht : r.d = .tell
          · rw [decide_eq_true ht, decide_eq_true (by rw [ht]; rfl)]
          · rw [decide_eq_false ht, decide_eq_false (show ¬ V.str r.d.word = V.str (Str.ofString "tell") from fun z => word_ne (e := .tell) ht (V.str.inj z))]
        rw [ed]; exact rr
      · obtain ⟨r, v, e1, e2, e3⟩ := ev i hi
        rw [e3]
        simp only [e1] at rr
        obtain ⟨p1, p2, vs, rfl, h1, h2, h3⟩ := (huQ.at_ i r v e1 e2).same s'
        walk_at "rd"
        refine i_ixT (.inl (.inl h1)) (show atI _ 0 = some (.str r.name) from rfl) ?_
        exact rr
      have hNR' : New HQ tp (.lst (List.map V.str ((tells rs).map (·.name)))) HR := by
        have e : ((List.range us.length).filter (pI isTell rs)).map (fun i => match rs[i]? with | some r => V.str r.name | none => V.non) = List.map V.str ((tells rs).map (·.name)) := by
          have e1 := congrArg (List.map fun o : Option Row => match o with | some r => V.str r.name | none => V.non) (idx_filter isTell rs)
          rw [List.map_map, List.map_map] at e1
          rw [← l1, List.map_map]; exact e1
        rw [← e]; exact hNR
      clear hNR ev
      have O1R := O1Q.same hNR'.same
      obtain ⟨q11, q12, w11, w12, ht1, hq11, hq12, h11, h12⟩ := O1R.ex
      have hPr := hPw.same hNR'.same
      have hWR := hNR'.same _ _ hW
      walk_at "rd"
      refine i_ixT (.inl (.inl ht1)) (show atI _ 0 = some (.ref q11) from rfl) ?_
      walk_at "rd"
      refine ⟨_, _, h11.drel hq11, hPr.drel hWR, (dep_prs _).1, (dep_prs _).2, (dep_prs _).2, ?_⟩
      rw [deq_self _ K HR _ (h11.drel hq11)]
      walk_at "rd"
      refine iteEq ?_
      walk_at "rd"
      refine i_lc (i_list ?_)
      walk_at "rd"
      refine lcNL uw (fun D' i y H' => ∃ r, (tells rs)[i]? = some r ∧ y = .str r.name) (sqL_inj_of hWR) (by omega) (fun D' i y H' H'' _ h => h) (fun D' i v H' R hv hD' hy s' rr => ?_) (fun D' ys HS hD' sS hHD' hyl hP => ?_)
      · have hit : i < (tells rs).length := by rw [k21, ← hwl]; exact (List.getElem?_eq_some_iff.mp hv).1
        have hri := List.getElem?_eq_getElem hit
        obtain ⟨ta, ba, ea, ha1, ha2, _⟩ := (hPr.same s').at_ i ((tells rs)[i].name, runR m fl bl rs n (tells rs)[i].name) v (by show (List.map _ _)[i]? = _; rw [List.getElem?_map, hri]; rfl) hv
        subst ea
        walk_at "rd"
        refine i_ixT (.inl (.inl ha1)) (show atI _ 0 = some (.str (tells rs)[i].name) from rfl) ?_
        exact rr _ _ (Same.refl _) ⟨_, hri, rfl⟩
      have hys : ys = List.map V.str ((tells rs).map (·.name)) := by
        refine List.ext_getElem? fun i => ?_
        rw [List.getElem?_map, List.getElem?_map]
        by_cases hi : i < ys.length
        · obtain ⟨r, hr1, hr2⟩ := hP i ys[i] (List.getElem?_eq_getElem hi)
          rw [List.getElem?_eq_getElem hi, hr2, hr1]; rfl
        · rw [List.getElem?_eq_none (by omega), List.getElem?_eq_none (by omega)]; rfl
      rw [hys] at hHD'
      walk_at "rd"
      refine i_eqFL (sqL_inj_of hHD') (sqL_inj_of (sS _ _ hNR'.at)) (flat_strs _) (flat_strs _) ?_
      rw [show eqVs (List.map V.str ((tells rs).map (·.name))) (List.map V.str ((tells rs).map (·.name))) = true from eqVs_self _ (flat_strs _)]
      walk_at "rd"
      refine i_ixT (.inl (.inl (sS _ _ ht1))) (show atI _ 1 = some (.ref q12) from rfl) ?_
      walk_at "rd"
      refine i_ixT (.inl (.inl (sS _ _ (hNR'.same _ _ ht3Q)))) (show atI _ 1 = some (.ref p32) from rfl) ?_
      have d1 := (h12.same sS).drel (K := K) (sS _ _ hq12)
      have d2 := ((g32Q.same hNR'.same).same sS).drel (K := K) (sS _ _ (hNR'.same _ _ hp32Q))
      refine ⟨_, _, d1, d2, (dep_prs _).1, (dep_prs _).2, (dep_prs _).2, ?_⟩
      rw [deq_self _ K HS _ d1]
      exact q _
def Cof (a1 a2 a3 a4 a5 a6 a7 a8 a9 : Addr) : Dk → Addr
  | .sum => a1
  | .less => a2
  | .times => a3
  | .least => a4
  | .most => a5
  | .pick => a6
  | .same => a7
  | .tell => a8
  | .take => a9
def Eof (b1 b2 : Addr) : Xk → Addr
  | .Loop => b1
  | .Run => b2
theorem tp0_mk {K : PySem.W.Frag} {a1 a2 a3 a4 a5 a6 a7 a8 a9 b1 b2 : Addr}
    (c_Sum : HasC K "Sum" a1)
    (c_Less : HasC K "Less" a2)
    (c_Times : HasC K "Times" a3)
    (c_Least : HasC K "Least" a4)
    (c_Most : HasC K "Most" a5)
    (c_Pick : HasC K "Pick" a6)
    (c_Same : HasC K "Same" a7)
    (c_Tell : HasC K "Tell" a8)
    (c_Take : HasC K "Take" a9)
    (g_Loop : PySem.W.nsIn K mainGlobals "Loop" = some (some (.ref b1)))
    (g_Run : PySem.W.nsIn K mainGlobals "Run" = some (some (.ref b2))) : Tp0 K (Cof a1 a2 a3 a4 a5 a6 a7 a8 a9) (Eof b1 b2) :=
  ⟨c_Sum, c_Less, c_Times, c_Least, c_Most, c_Pick, c_Same, c_Tell, c_Take, g_Loop, g_Run⟩
theorem tp1_mk {K : PySem.W.Frag} {a1 a2 a3 a4 a5 a6 a7 a8 a9 b1 b2 : Addr}
    (f_of_sum : HasM K a1 "of" "Sum.of" st_Sum_of)
    (f_of_less : HasM K a2 "of" "Less.of" st_Less_of)
    (f_of_times : HasM K a3 "of" "Times.of" st_Times_of)
    (f_of_least : HasM K a4 "of" "Least.of" st_Least_of)
    (f_of_most : HasM K a5 "of" "Most.of" st_Most_of)
    (f_of_pick : HasM K a6 "of" "Pick.of" st_Pick_of)
    (f_of_same : HasM K a7 "of" "Deed.of" st_Deed_of)
    (f_of_tell : HasM K a8 "of" "Deed.of" st_Deed_of)
    (f_of_take : HasM K a9 "of" "Deed.of" st_Deed_of)
    (f_wa_sum : HasM K a1 "wants" "Sum.wants" st_Sum_wants)
    (f_wa_less : HasM K a2 "wants" "Less.wants" st_Less_wants)
    (f_wa_times : HasM K a3 "wants" "Times.wants" st_Times_wants)
    (f_wa_least : HasM K a4 "wants" "Least.wants" st_Least_wants)
    (f_wa_most : HasM K a5 "wants" "Most.wants" st_Most_wants)
    (f_wa_pick : HasM K a6 "wants" "Pick.wants" st_Pick_wants)
    (f_wa_same : HasM K a7 "wants" "Deed.wants" st_Deed_wants)
    (f_wa_tell : HasM K a8 "wants" "Deed.wants" st_Deed_wants)
    (f_wa_take : HasM K a9 "wants" "Take.wants" st_Take_wants)
    (i_Loop : HasCI K "Loop" b1 "Loop.__init__" st_Loop___init__)
    (f_Loop_rows : HasM K b1 "rows" "Loop.rows" st_Loop_rows)
    (f_Loop_deepest : HasM K b1 "deepest" "Loop.deepest" st_Loop_deepest)
    (i_Run : HasCI K "Run" b2 "Run.__init__" st_Run___init__)
    (f_Run_made_at : HasM K b2 "made_at" "Run.made_at" st_Run_made_at)
    (f_Run_number_read : HasM K b2 "number_read" "Run.number_read" st_Run_number_read)
    (f_Run_numbers_for : HasM K b2 "numbers_for" "Run.numbers_for" st_Run_numbers_for)
    (f_Run_do_turn : HasM K b2 "do_turn" "Run.do_turn" st_Run_do_turn)
    (f_Run_last_made : HasM K b2 "last_made" "Run.last_made" st_Run_last_made)
    (w_LETTERS : HasV K "LETTERS" (.str (Str.ofString "abcdefghijklmnopqrstuvwxyz")))
    (w_MOST_LETTERS : HasV K "MOST_LETTERS" (.int 12))
    (w_MOST_ROWS : HasV K "MOST_ROWS" (.int 12))
    (w_MOST_BACK : HasV K "MOST_BACK" (.int 6))
    (w_MOST_TURNS : HasV K "MOST_TURNS" (.int 300))
    (f_outcome : HasF K "outcome" st_outcome)
    (f_run : HasF K "done_run" st_done_run)
    (f_crun : HasF K "check_run" st_check_run)
    (f_cturns : HasF K "check_turns" st_check_turns) : Tp1 K (Cof a1 a2 a3 a4 a5 a6 a7 a8 a9) (Eof b1 b2) :=
  ⟨f_of_sum, f_of_less, f_of_times, f_of_least, f_of_most, f_of_pick, f_of_same, f_of_tell, f_of_take, f_wa_sum, f_wa_less, f_wa_times, f_wa_least, f_wa_most, f_wa_pick, f_wa_same, f_wa_tell, f_wa_take, i_Loop, f_Loop_rows, f_Loop_deepest, i_Run, f_Run_made_at, f_Run_number_read, f_Run_numbers_for, f_Run_do_turn, f_Run_last_made, w_LETTERS, w_MOST_LETTERS, w_MOST_ROWS, w_MOST_BACK, w_MOST_TURNS, f_outcome, f_run, f_crun, f_cturns⟩
theorem tp2_mk {K : PySem.W.Frag} {a1 a2 a3 a4 a5 a6 a7 a8 a9 b1 b2 : Addr}
    (f_cfeeds : HasF K "check_feeds" st_check_feeds)
    (f_cbegin : HasF K "check_begin" st_check_begin)
    (f_deed : HasF K "deed_of" st_deed_of)
    (f_islet : HasF K "is_lettered" st_is_lettered)
    (f_isname : HasF K "is_name" st_is_name)
    (f_cmeas : HasF K "check_measure" st_check_measure)
    (f_crows : HasF K "check_rows" st_check_rows)
    (f_chead : HasF K "check_head" st_check_head)
    (f_cread : HasF K "check_read" st_check_read)
    (f_cnum : HasF K "check_number" st_check_number)
    (f_clook : HasF K "check_look_back" st_check_look_back)
    (f_copy : HasF K "copy_of_row" st_copy_of_row)
    (f_depths : HasF K "depths_of" st_depths_of)
    (f_cell : HasF K "_law_cell_at" st_law_cell_at)
    (f_whole : HasF K "_law_whole" st_law_whole)
    (f_mix : HasF K "_law_mix" st_law_mix)
    (f_letters : HasF K "_law_letters" st_law_letters)
    (f_names : HasF K "_law_names" st_law_names)
    (f_wants : HasF K "_law_wants" st_law_wants)
    (f_row : HasF K "_law_row" st_law_row)
    (f_rows : HasF K "_law_rows" st_law_rows)
    (f_measure : HasF K "_law_measure" st_law_measure)
    (f_deepest : HasF K "_law_deepest" st_law_deepest)
    (f_alike : HasF K "_law_alike" st_law_alike)
    (f_given : HasF K "_law_given" st_law_given)
    (f_feeds : HasF K "_law_feeds" st_law_feeds)
    (f_begin : HasF K "_law_begin" st_law_begin)
    (f_copyL : HasF K "_law_copy" st_law_copy)
    (f_lists : HasF K "_law_lists" st_law_lists)
    (f_shaped : HasF K "_law_shaped" st_law_shaped)
    (z_len : PySem.W.nsIn K mainGlobals "len" = some none)
    (z_isinstance : PySem.W.nsIn K mainGlobals "isinstance" = some none)
    (z_int : PySem.W.nsIn K mainGlobals "int" = some none)
    (z_bool : PySem.W.nsIn K mainGlobals "bool" = some none)
    (z_range : PySem.W.nsIn K mainGlobals "range" = some none)
    (z_min : PySem.W.nsIn K mainGlobals "min" = some none) : Tp2 K (Cof a1 a2 a3 a4 a5 a6 a7 a8 a9) (Eof b1 b2) :=
  ⟨f_cfeeds, f_cbegin, f_deed, f_islet, f_isname, f_cmeas, f_crows, f_chead, f_cread, f_cnum, f_clook, f_copy, f_depths, f_cell, f_whole, f_mix, f_letters, f_names, f_wants, f_row, f_rows, f_measure, f_deepest, f_alike, f_given, f_feeds, f_begin, f_copyL, f_lists, f_shaped, z_len, z_isinstance, z_int, z_bool, z_range, z_min⟩
theorem tp3_mk {K : PySem.W.Frag} {a1 a2 a3 a4 a5 a6 a7 a8 a9 b1 b2 : Addr}
    (z_max : PySem.W.nsIn K mainGlobals "max" = some none)
    (z_list : PySem.W.nsIn K mainGlobals "list" = some none)
    (z_tuple : PySem.W.nsIn K mainGlobals "tuple" = some none)
    (z_str : PySem.W.nsIn K mainGlobals "str" = some none)
    (z_all : PySem.W.nsIn K mainGlobals "all" = some none)
    (z_enumerate : PySem.W.nsIn K mainGlobals "enumerate" = some none)
    (z_dict : PySem.W.nsIn K mainGlobals "dict" = some none)
    (kII : PySem.W.kitOne K (.type "int") (.type "int") = some true)
    (kIB : PySem.W.kitOne K (.type "int") (.type "bool") = some false)
    (kTT : PySem.W.kitOne K (.type "tuple") (.type "tuple") = some true)
    (kTI : PySem.W.kitOne K (.type "tuple") (.type "int") = some false)
    (kIT : PySem.W.kitOne K (.type "int") (.type "tuple") = some false)
    (kLL : PySem.W.kitOne K (.type "list") (.type "list") = some true)
    (kSS : PySem.W.kitOne K (.type "str") (.type "str") = some true)
    (nM : NoAttr K b1 "measure")
    (nK : NoAttr K b1 "kept")
    (nD : NoAttr K b1 "depths")
    (nRL : NoAttr K b2 "loop")
    (nRF : NoAttr K b2 "feeds")
    (nRB : NoAttr K b2 "begin")
    (nRM : NoAttr K b2 "made") : Tp3 K (Cof a1 a2 a3 a4 a5 a6 a7 a8 a9) (Eof b1 b2) :=
  ⟨z_max, z_list, z_tuple, z_str, z_all, z_enumerate, z_dict, kII, kIB, kTT, kTI, kIT, kLL, kSS, nM, nK, nD, nRL, nRF, nRB, nRM⟩
theorem all_mk {l : PySem.W.OpenLaw} {w : World} {K : PySem.W.Frag} {h : Heap} {mg : Str → Option Value} {fa : Addr} {a1 a2 a3 a4 a5 a6 a7 a8 a9 b1 b2 : Addr} (X : K.In h) (G : h.Ns mainGlobals mg) (hfa : mg "law" = some (.ref fa)) (fl : HasF K "law" st_law)
    (t0 : Tp0 K (Cof a1 a2 a3 a4 a5 a6 a7 a8 a9) (Eof b1 b2)) (t1 : Tp1 K (Cof a1 a2 a3 a4 a5 a6 a7 a8 a9) (Eof b1 b2)) (t2 : Tp2 K (Cof a1 a2 a3 a4 a5 a6 a7 a8 a9) (Eof b1 b2)) (t3 : Tp3 K (Cof a1 a2 a3 a4 a5 a6 a7 a8 a9) (Eof b1 b2)) :
    ∃ fd : FuncData, (∀ (s : Shared) (v : Value), BindsTo s fd ⟨[v], []⟩ [("_law_script", v)]) ∧ ∀ (base : Heap) (ns : List Int), K.In base → base.Ns mainGlobals mg → ns.length ≤ 63 → (∀ i ∈ ns, Builtin.Int.intBits i ≤ 1048576) → FnOk l.prog w K mg base CX0 8 fa fd ["_law_script"] (spLaw K ns) := by
  obtain ⟨f, fdd, a, F⟩ := fl.ex
  have e := hfa.symm.trans (PySem.W.mg_of X G a)
  cases e
  have T := (Tp.mk t0 t1 t2 t3).txt X G
  refine ⟨fdd, fun s v => ?_, fun base ns kb nb hl hb => ok_law T F kb nb hl hb⟩
  obtain ⟨oc, od, kV, doc, pm, an, cdv, ct, osl, rfl, lk, hcd⟩ := F.ex
  exact .of_eq rfl
theorem walk {l : PySem.W.OpenLaw} {q : Program} {loose : List Str} {XP : (Str → Option Value) → Heap → Prop} {YP : World → Heap → Prop} {d : DefRec} {K : Params → PySem.W.Frag} (hn : l.most = some 63) (hdf : d.params.defaults = [])
    (hY : ∀ (w : World) (h : Heap), YP w h → (K w.params).In h)
    (F : ∀ (w : World) (mg : Str → Option Value) (fa : Addr) (h : Heap), (K w.params).In h → h.Ns mainGlobals mg → mg d.name = some (.ref fa) →
      ∃ fd : FuncData, (∀ (s : Shared) (u : Value), BindsTo s fd ⟨[u], []⟩ [("_law_script", u)]) ∧ ∀ (base : Heap) (ns : List Int), (K w.params).In base → base.Ns mainGlobals mg → ns.length ≤ 63 → (∀ i ∈ ns, Builtin.Int.intBits i ≤ 1048576) → FnOk l.prog w (K w.params) mg base CX0 8 fa fd ["_law_script"] (spLaw (K w.params) ns)) :
    PySem.W.WalkO q loose XP YP l.row.toRowW d [] (fun f vs => PySem.call f vs) :=
  L2.walk_bits (n := 63) (k := 8) (x := "_law_script") (CX := fun _ => CX0) (sp := fun w ns => spLaw (K w.params) ns) hn (by decide) hdf ⟨rfl, by decide, by decide⟩ hY F (fun _ _ a ns hl hb _ hS => ⟨a, rfl, hS, fun _ => rfl⟩) fun _ _ _ _ _ z => z
end
end Lap
local macro_rules | `(tactic| walk_at "lapC") => `(tactic| (refine' L2.hasC_mk ?a ?pg ?hd ?po ?sa ?mk ?i ?kc; (case a => k_is); (case pg => k_is); (case hd => k_is); (case po => k_is); (case sa => k_is); (case mk => k_is); (case i => k_is); (case kc => k_is)))
local macro_rules | `(tactic| walk_at "lapM") => `(tactic| (refine' L2.hasM_mk ?a ?i ?l ?c ?k; (case a => k_is); (case i => k_is); (case l => k_is); (case c => k_is); (case k => k_is)))
local macro_rules | `(tactic| walk_at "lapF") => `(tactic| (refine' L2.hasF_mk ?a ?l ?c ?k; (case a => k_is); (case l => k_is); (case c => k_is); (case k => k_is)))
local macro_rules | `(tactic| walk_at "lapX") => `(tactic| (refine' L2.HasX.mk ?a ?e (L2.XCls.mk ?x1 ?x2 ?x3 ?x4 ?x5 ?x6 ?x7); (case a => k_is); (case e => k_exc); (case x1 => k_is); (case x2 => k_is); (case x3 => k_is); (case x4 => k_is); (case x5 => k_is); (case x6 => k_is); (case x7 => k_is)))
local macro_rules | `(tactic| walk_at "lapI") => `(tactic| (refine' L2.hasCI_mk ?a ?pg ?hd ?po ?sa ?mk ?i ?fn ?kc ?l ?c ?k; (case a => k_is); (case pg => k_is); (case hd => k_is); (case po => k_is); (case sa => k_is); (case mk => k_is); (case i => k_is); (case fn => k_is); (case kc => k_is); (case l => k_is); (case c => k_is); (case k => k_is)))
local macro_rules | `(tactic| walk_at "lapV") => `(tactic| first | (refine' L2.hasV_int ?a; (case a => k_is)) | (refine' L2.hasV_str ?a; (case a => k_is)))
namespace PySem.W.Fast
def tw4416965110761232303:=()
def tw15891047730541998495:=()
def tw12583013393047439935:=()
def tw933646268219462309:=()
def tw2736723239823342205:=()
def tw1508582096642194238:=()
def tw11845220443882822015:=()
def tw7088014563139210396:=()
def tw16877769853023282103:=()
def tw456448228288232123:=()
def tw4814190364741289637:=()
def tw12251358436048642689:=()
def tw3595107989372616704:=()
def tw16514335468180068352:=()
def tw13390097438768627776:=()
def tw11846002919547791552:=()
def tw13509713871155303712:=()
def tw15343245278887239968:=()
def tw12074312651925054848:=()
def tw17378808048544035264:=()
def tw16279867705947061792:=()
def tw12842860244222047808:=()
def tw7388877647448216160:=()
def tw15204786966205833824:=()
def tw12845313642961795776:=()
def tw4225279383732202272:=()
def tw7035465450484191008:=()
def tw14068613894519400256:=()
def tw17432994698013669184:=()
def tw17675141711933931328:=()
def tw15150112088590068737:=()
def tw2775639716061776993:=()
def tw15229599060618581089:=()
def tw8889951779933480033:=()
def tw11007350577411719329:=()
def tw4412505674678537377:=()
def tw16064495611729597697:=()
def tw2875556156957242657:=()
def tw12632193359402367265:=()
def tw834000460632621441:=()
def tw1429164901252830657:=()
def tw6130806678760558049:=()
def tw4247059020013510113:=()
def tw17817163820571368961:=()
def tw9810029879754529345:=()
def tw1077211219045899873:=()
def tw15635323295592740449:=()
def tw17473169470265096897:=()
def tw530246874990011137:=()
def tw4700392263255103265:=()
def tw11011800861266627361:=()
def tw5766592083100318593:=()
def tw17690860654483512225:=()
def tw1834735829080637377:=()
def tw6707913917006762977:=()
def tw12143772246598615009:=()
def tw15353563258910355522:=()
def tw736744044848346178:=()
def tw9646313350073196642:=()
def tw15217394847084768418:=()
def tw15995359183100602562:=()
def tw5989149679431817442:=()
def tw1466152384174094594:=()
def tw3699357873130679714:=()
def tw17604540434360918434:=()
def tw14156498754770428322:=()
def tw15943684324027314658:=()
def tw11472495044209102338:=()
def tw18361664493736669858:=()
def tw3910798137733716706:=()
def tw15333306980568006370:=()
def tw9548858917408438018:=()
def tw16261354014412017474:=()
def tw13539314168913041218:=()
def tw14891189493609666466:=()
def tw1206488952198748130:=()
def tw12262071448529073155:=()
def tw6270369155379124259:=()
def tw12378614272214242403:=()
def tw14732508990471565411:=()
def tw12601498299079712899:=()
def tw4256710874957655203:=()
def tw11925834996599092451:=()
def tw15280162083291140355:=()
def tw8786501186794414371:=()
def tw15328407331779061347:=()
def tw4956219516325150307:=()
def tw16471034673629249219:=()
def tw7105606287041925859:=()
def tw2752151518920257251:=()
def tw11541696917969025891:=()
def tw1485828992337985540:=()
def tw16053039322027761700:=()
def tw2795872228737012804:=()
def tw17567449457134743652:=()
def tw18073011088734319780:=()
def tw17035834170764447972:=()
def tw11016138050423512292:=()
def tw4820998356027282692:=()
def tw8804339423126144260:=()
def tw10202065841139022084:=()
def tw4219618667003628836:=()
def tw5774468366072627556:=()
def tw99739184174327140:=()
def tw1810608892608909764:=()
def tw12044209334612370916:=()
def tw6667959550756059652:=()
def tw9352141950468233828:=()
def tw2797110303284692612:=()
def tw12223233218316760772:=()
def tw10571541119588734692:=()
def tw1497461692139226884:=()
def tw15954358987832911620:=()
def tw3625001936629825316:=()
def tw18120218967160650628:=()
def tw3271908974542697412:=()
def tw3526675975939109828:=()
def tw5006973897785102308:=()
def tw362571256783323108:=()
def tw3722401325248416773:=()
def tw8188832351607970821:=()
def tw17213978034982160453:=()
def tw4521324275503909989:=()
def tw8015102242296403205:=()
def tw2643471163651537157:=()
def tw14059058502728560965:=()
def tw10207459331407640901:=()
def tw11507536647333407077:=()
def tw3658925262652925317:=()
def tw8039148957939576229:=()
def tw297910805229085157:=()
def tw7435700760427942597:=()
def tw954144963088427749:=()
def tw3106583161641922341:=()
def tw13007875010788019013:=()
def tw5897677796069366661:=()
def tw6066611656007602085:=()
def tw5641649750638649253:=()
def tw9883952703349426117:=()
def tw16150112599512757221:=()
def tw14260821752431871014:=()
def tw10361861580484831270:=()
def tw3178823250158938182:=()
def tw11832691683855984742:=()
def tw5860900982630616198:=()
def tw9798665324383412390:=()
def tw15400223510164700326:=()
def tw11974878973074135238:=()
def tw7796778430804998374:=()
def tw5561785776800229670:=()
def tw10288991919560590726:=()
def tw8509964784401839494:=()
def tw5008439724440438246:=()
def tw17071205997295705670:=()
def tw9682470628150446758:=()
def tw8495381703256304294:=()
def tw3808843636361550534:=()
def tw16682234900943717094:=()
def tw16659297546068966150:=()
def tw4397401822802443046:=()
def tw10143148889136940870:=()
def tw16966880526799114054:=()
def tw3138643110579038054:=()
def tw9783418368131940262:=()
def tw7147536036674924486:=()
def tw16814553141817052134:=()
def tw4229626293969224711:=()
def tw12108723132792535047:=()
def tw10633683697366925351:=()
def tw12805922203309207591:=()
def tw12389700027948339271:=()
def tw10201778893475359943:=()
def tw13014606151633895655:=()
def tw17609569371059625191:=()
def tw3797945864916519175:=()
def tw10920864025148141863:=()
def tw5607495477794265415:=()
def tw5337392729216439687:=()
def tw4823823506094746023:=()
def tw15206949802293789127:=()
def tw11398012304809844199:=()
def tw6932542434192258599:=()
def tw1136891780819683911:=()
def tw12062850173969583687:=()
def tw3358866450148600423:=()
def tw14935571014181351111:=()
def tw1964399685274442535:=()
def tw18322270022564037511:=()
def tw8442417726154976167:=()
def tw10152294899471088583:=()
def tw7972023411590598631:=()
def tw9639406550502903816:=()
def tw13715578051614852104:=()
def tw16338908843919734792:=()
def tw11618882524953421960:=()
def tw12206248244551625864:=()
def tw13783246520195246216:=()
def tw4364556619762935976:=()
def tw14302461057563406504:=()
def tw15889867936845455528:=()
def tw9450224220438680776:=()
def tw8354109847029264616:=()
def tw14668438847647675624:=()
def tw9647254191900570984:=()
def tw7356916989314087272:=()
def tw2312150083099349352:=()
def tw6329465685019199880:=()
def tw10255231191288057224:=()
def tw3570323204666562952:=()
def tw5636955608156262856:=()
def tw8312081320863564296:=()
def tw13950706311698606600:=()
def tw15860473348818170440:=()
def tw16014790004371672712:=()
def tw15878021756249979560:=()
def tw4877369709067145960:=()
def tw7843777751780271848:=()
def tw12704993327945110248:=()
def tw13014994620328667912:=()
def tw6516574548073771976:=()
def tw596742120923922408:=()
def tw9359602166989825065:=()
def tw9688785594273898569:=()
def tw17307467899693913225:=()
def tw9651932548366443689:=()
def tw4194510178201551081:=()
def tw434634223557759209:=()
def tw16291271468542686473:=()
def tw2891704214387720553:=()
def tw7226714927315297641:=()
def tw3023257219580434825:=()
def tw5688573965639925129:=()
def tw6733134474432953769:=()
def tw7048777490907779497:=()
def tw11246323722911994281:=()
def tw11509746924982170057:=()
def tw14824376645838485001:=()
def tw10601635428982284841:=()
def tw1087656591108796969:=()
def tw11998871557875265097:=()
def tw4272746157867577961:=()
def tw9905387481652408937:=()
def tw9874284061579384521:=()
def tw9097387362241195721:=()
def tw10492447350064159593:=()
def tw11642337338103034729:=()
def tw16534699572893022057:=()
def tw11222810727684579209:=()
def tw16974978041537439689:=()
def tw16267102824969777129:=()
def tw17962648018123267146:=()
def tw12728215669379939402:=()
def tw12447836452192180298:=()
def tw7526374904083672138:=()
def tw16352372770780284042:=()
def tw6776023218430521514:=()
def tw17613266529238495434:=()
def tw7809364174983464202:=()
def tw8097749742355723530:=()
def tw6705053840413329706:=()
def tw16578015649116976426:=()
def tw14434535307475516810:=()
def tw10636482481011833258:=()
def tw6337313462345484714:=()
def tw7171898911047994794:=()
def tw16373530408833735082:=()
def tw1991359471221499338:=()
def tw3084865080161090154:=()
def tw17096251551274849898:=()
def tw10229340971339367050:=()
def tw4378833632188521098:=()
def tw6780948925373379242:=()
def tw3706060124708095722:=()
def tw13954780698721569546:=()
def tw5833070292604901130:=()
def tw17887077085286405930:=()
def tw18291850165778741034:=()
def tw5381294489528279914:=()
def tw3504555580513926058:=()
def tw5232454316395177930:=()
def tw1743026140154166218:=()
def tw4194616197668893674:=()
def tw8207474034503219178:=()
def tw6658315468966085643:=()
def tw10211973954105901131:=()
def tw10303594730848106571:=()
def tw9312351834717120619:=()
def tw16601501309268256875:=()
def tw16397796420576058507:=()
def tw3306402269377660075:=()
def tw11987560869100165323:=()
def tw13408684546145632459:=()
def tw7054390224633664747:=()
def tw9503741385867428107:=()
def tw5836187465303732491:=()
def tw3441801223807326507:=()
def tw13039334782545031499:=()
def tw8903895946054282603:=()
def tw11484069244336222571:=()
def tw11869499441073932747:=()
def tw3530709500850490923:=()
def tw5429674409836470059:=()
def tw2690676160973510475:=()
def tw12654769268275284875:=()
def tw2520959414808941451:=()
def tw17439372184151894923:=()
def tw8102229803625173931:=()
def tw13234624386144886763:=()
def tw10782791573553293356:=()
def tw9309639417083299916:=()
def tw8452373647484582988:=()
def tw3640475764595680396:=()
def tw16843661739611899052:=()
def tw9274997431387185356:=()
def tw10031815668003201260:=()
def tw1360399517997329644:=()
def tw5373915669516855628:=()
def tw9243725284548171084:=()
def tw12930977562155899244:=()
def tw1825277564139969964:=()
def tw14596435761465708972:=()
def tw5151527138291516876:=()
def tw10880838286510882284:=()
def tw9589117419741943308:=()
def tw9339407274082852460:=()
def tw4688172831949981324:=()
def tw17423695695460931212:=()
def tw17889293643430452876:=()
def tw16069041134032545516:=()
def tw5820838287748524812:=()
def tw9682757302334778156:=()
def tw9663891713155947372:=()
def tw12679846770194909068:=()
def tw7692576482261317580:=()
def tw14615578021903998956:=()
def tw8972920281823400973:=()
def tw11715321014608834605:=()
def tw13828759150124542061:=()
def tw14973960750508145805:=()
def tw5651675177443435693:=()
def tw18134208969366753453:=()
def tw5050307758271062253:=()
def tw3127290394766272749:=()
def tw14273849984197775661:=()
def tw3235951972438040909:=()
def tw13591711223008570733:=()
def tw11543510465766255981:=()
def tw7145066570617305549:=()
def tw2437681881897978317:=()
def tw15386412176813630957:=()
def tw13415617888215869997:=()
def tw13278578000640288333:=()
def tw13344091007851190893:=()
def tw12736468916618469005:=()
def tw5969730987812219597:=()
def tw5760018127115709133:=()
def tw2967964952845509357:=()
def tw10706501173094381293:=()
def tw9990415170131806989:=()
def tw422637300149952333:=()
def tw1930768754173016909:=()
def tw12149565459723229037:=()
def tw4047250771787828077:=()
def tw16442557336679465869:=()
def tw14703692099218366381:=()
def tw10871206704819154958:=()
def tw6163289049368553518:=()
def tw17496746783961770062:=()
def tw11650547113971853518:=()
def tw12338250495668990158:=()
def tw3033896803358807310:=()
def tw1838518859404569902:=()
def tw13312924239159521582:=()
def tw7028701652482191790:=()
def tw15581599179334818254:=()
def tw16495662678161699278:=()
def tw2352862639638912494:=()
def tw11519804413586199118:=()
def tw16614070014441039502:=()
def tw10271298442798677646:=()
def tw5259556299827324590:=()
def tw2006339348436865774:=()
def tw16026489075980203790:=()
def tw8912335207457196846:=()
def tw3359546073717949230:=()
def tw2569352657174955854:=()
def tw11498760636025568078:=()
def tw3506785820658923374:=()
def tw10839029052693113742:=()
def tw5102441583173641198:=()
def tw684471518280405007:=()
def tw2991529450631083119:=()
def tw16744813027278292111:=()
def tw13874412183279712463:=()
def tw18055501694868744399:=()
def tw9219904551932523791:=()
def tw2773851771342534991:=()
def tw14520499144281147727:=()
def tw10995925138546400623:=()
def tw13672719046665270639:=()
def tw9475190027812677039:=()
def tw13477025959217726927:=()
def tw5943795089501140431:=()
def tw18189297341142682127:=()
def tw15601022621831582223:=()
def tw10750236422335923759:=()
def tw10696405089579149871:=()
def tw435158166300245647:=()
def tw17430715803876412079:=()
def tw11573507269857270447:=()
def tw17742959097075631823:=()
def tw3140974028242328495:=()
def tw10612490893390060463:=()
def tw15074424421748909007:=()
def tw16618090498896661552:=()
def tw4114541008887580752:=()
def tw14286099769361839184:=()
def tw14745525768951438448:=()
def tw14475771083226477712:=()
def tw11843971395640326288:=()
def tw17946480719984722096:=()
def tw8393892475070524624:=()
def tw7760283925055952080:=()
def tw16744083425102684368:=()
def tw810906573886507344:=()
def tw9110083790492459344:=()
def tw15506580088421193072:=()
def tw2330735441032388976:=()
def tw9783378737042408816:=()
def tw129874785843203440:=()
def tw11878114459758136720:=()
def tw10229089933814938000:=()
def tw2451310232038821264:=()
def tw17103869957060626864:=()
def tw3966206092276748752:=()
def tw2910366323959070192:=()
def tw9293547474714348048:=()
def tw16841698086545871504:=()
def tw18353434290075194128:=()
def tw2454766523751924560:=()
def tw1068810306820814672:=()
def tw6587254802702627696:=()
def tw10218514420727132080:=()
def tw13932769172313364400:=()
def tw12525252746144586833:=()
def tw14158784648448393361:=()
def tw12043408277346959505:=()
def tw4944317636178930865:=()
def tw15463702960879731921:=()
def tw16189784106377742577:=()
def tw17977547327719047537:=()
def tw7942815219654784465:=()
def tw9259708678979977713:=()
def tw10680565346185380497:=()
def tw288325712552940177:=()
def tw15499918456929862321:=()
def tw9806618952666104497:=()
def tw3364449494193994481:=()
def tw17791488596846517009:=()
def tw1448826752092608337:=()
def tw10377363172043578193:=()
def tw2559392476118028209:=()
def tw5930167840485388241:=()
def tw11600745637899844561:=()
def tw9341375449125441489:=()
def tw17156416482576242706:=()
def tw9029113028728574034:=()
def tw4826501808836153458:=()
def tw15787099723480363122:=()
def tw7310143872636776594:=()
def tw6699015889846727826:=()
def tw6975823799046700210:=()
def tw8568588761848206578:=()
def tw14359226744297799026:=()
def tw17990709633336930674:=()
def tw12702681499815349650:=()
def tw10178043187908763026:=()
def tw8891111795831933426:=()
def tw5994279156974820850:=()
def tw4684670650027730450:=()
def tw9016383013826638450:=()
def tw14693798589389785714:=()
def tw16356274868392079026:=()
def tw18265894476914533074:=()
def tw2559189702906554098:=()
def tw10338112232629945138:=()
def tw7576776299116827634:=()
def tw2053109004803317746:=()
def tw14321301205055506451:=()
def tw6303471365075233875:=()
def tw12441206520289485939:=()
def tw7660098668297002163:=()
def tw6212974310308751539:=()
def tw4271087224139358419:=()
def tw1660140082035750131:=()
def tw534567519876465939:=()
def tw17037552575111295315:=()
def tw7924094276062253395:=()
def tw14165242624210292115:=()
def tw2377604196835252627:=()
def tw5064867663917689299:=()
def tw16424613104815920595:=()
def tw3069161110892406227:=()
def tw5661403818805492307:=()
def tw8933566624033986163:=()
def tw6047774270472557235:=()
def tw11356766798339963635:=()
def tw11782404310264129363:=()
def tw1513722758659027795:=()
def tw724648333626441555:=()
def tw12089187989768637299:=()
def tw15975976177493045107:=()
def tw15931373885939528595:=()
def tw1113306254889521075:=()
def tw9164444481925493747:=()
def tw17454699691201169428:=()
def tw2034002772498104340:=()
def tw15534725350440230964:=()
def tw6132894179783252020:=()
def tw1514098379897216052:=()
def tw2126230806948961364:=()
def tw10684448339616840820:=()
def tw12960285988105521300:=()
def tw4730890089744629940:=()
def tw13885734192279795892:=()
def tw7111409522595883220:=()
def tw7582143505734299892:=()
def tw8912752149357198644:=()
def tw8572480418520254836:=()
def tw13925826979006744980:=()
def tw14907249640069425588:=()
def tw2901502041107497428:=()
def tw16318401836678036948:=()
def tw5625358303961166356:=()
def tw11636298890092435028:=()
def tw3854070524165027636:=()
def tw14182863717392508820:=()
def tw16149061503385400212:=()
def tw10346419990641702804:=()
def tw14122418724105104308:=()
def tw5217754406701558772:=()
def tw9486013891986013237:=()
def tw17634182804523665461:=()
def tw16517582979528032341:=()
def tw3074843977357585557:=()
def tw10865093610840961205:=()
def tw126111983178765493:=()
def tw5318770897885914293:=()
def tw1639670949310397653:=()
def tw13426534254004897045:=()
def tw10415809210135697685:=()
def tw9606137864089902421:=()
def tw12694061675861742965:=()
def tw2593492942632510869:=()
def tw1072490993905999285:=()
def tw4279971036875413973:=()
def tw7703547231512860213:=()
def tw7964417099681123893:=()
def tw1507847380036525685:=()
def tw6589319794874727029:=()
def tw11368975540806162069:=()
def tw13110000648863891093:=()
def tw5673888419707528917:=()
def tw17293388574757312213:=()
def tw17053500946650389237:=()
def tw4818337845243691829:=()
def tw13894505743978757973:=()
def tw17345194481865890805:=()
def tw14726903514494093334:=()
def tw18104398498974230582:=()
def tw8352527105323803798:=()
def tw10932953779820210326:=()
def tw12712275120985231510:=()
def tw17195553039290023126:=()
def tw14407021177333431542:=()
def tw7898319047095222550:=()
def tw18182811547082832150:=()
def tw7555737253895489814:=()
def tw3616398559543830838:=()
def tw627721874364470614:=()
def tw10787453839008099702:=()
def tw14615278160962689622:=()
def tw15801026698684007062:=()
def tw9358073070141946518:=()
def tw12124417262692868854:=()
def tw18369377470007128822:=()
def tw2827203727000645398:=()
def tw2794102014677787542:=()
def tw11532933504203806614:=()
def tw17941943811610788790:=()
def tw8835558352215924662:=()
def tw12433239691036263414:=()
def tw13650530086875437046:=()
def tw9816501018348588055:=()
def tw156224706029963319:=()
def tw17941318144643090487:=()
def tw3457370360410343607:=()
def tw10835832104129091767:=()
def tw5204496420447697111:=()
def tw9129984364169811191:=()
def tw10918827642006557943:=()
def tw16721471477207548215:=()
def tw13417234185058615607:=()
def tw1512939580862488919:=()
def tw12370336951402937751:=()
def tw9050589851457825207:=()
def tw12723346848038478263:=()
def tw16935291291028702711:=()
def tw9150539028222340599:=()
def tw2878768190577541655:=()
def tw12277250580925815319:=()
def tw9206917000048427543:=()
def tw13394143248889114135:=()
def tw1088671935099809399:=()
def tw16839748733547768503:=()
def tw12371004300466907863:=()
def tw7556586786632695607:=()
def tw1768291224000651095:=()
def tw7356194262542523287:=()
def tw17277600313437244311:=()
def tw12581641145152426008:=()
def tw10042875026995085368:=()
def tw7587671799162094648:=()
def tw2117918126156378168:=()
def tw18186396638677394520:=()
def tw18101683651705204824:=()
def tw16263859651228968248:=()
def tw8057313937732712792:=()
def tw6803635188389950872:=()
def tw546546129916709272:=()
def tw8761388468762046872:=()
def tw6593894426241506840:=()
def tw6745327364826243640:=()
def tw13468731561908861528:=()
def tw15287680540179267160:=()
def tw2015056857759865464:=()
def tw8702814373120719512:=()
def tw15202386453363837592:=()
def tw3465975849041301176:=()
def tw8712775486140491512:=()
def tw14685944769645356824:=()
def tw5080044021015716696:=()
def tw16168851691803548536:=()
def tw1148783573409288056:=()
def tw6999697000905475992:=()
def tw3503148759241405336:=()
def tw7637023568810142648:=()
def tw16903288594822152152:=()
def tw2430048756559616025:=()
def tw9382164728480169017:=()
def tw9793651761361564793:=()
def tw7688625452957885561:=()
def tw17092268515659213049:=()
def tw537766499590921529:=()
def tw4276105461967124793:=()
def tw14818263635711151513:=()
def tw2474832113357011353:=()
def tw6420652208931701177:=()
def tw6103661444445653497:=()
def tw2090778643009287737:=()
def tw16602834385500367417:=()
def tw9955619068378619481:=()
def tw11789544645547831897:=()
def tw3157915000616064633:=()
def tw16662753850838921881:=()
def tw799897798989403801:=()
def tw16740721758152330937:=()
def tw12311366539570068153:=()
def tw5852425533970584313:=()
def tw13154920359844831001:=()
def tw15837524311803895641:=()
def tw11910785906857054041:=()
def tw14368791440109290361:=()
def tw14379931704629826489:=()
def tw17708431678434117625:=()
def tw5476168074054878201:=()
def tw10809549896121773049:=()
def tw9278038596637755418:=()
def tw12647036444170477594:=()
def tw17760418784577139930:=()
def tw11134689645838722330:=()
def tw6717974288866216250:=()
def tw1258864105530271066:=()
def tw2383266951559882074:=()
def tw6950536417246042458:=()
def tw6395837230630375802:=()
def tw14841249070835377562:=()
def tw13141473130274072986:=()
def tw14257401050839182746:=()
def tw15060277026315958682:=()
def tw17066049866392800890:=()
def tw4565290937536069274:=()
def tw16642444940396645018:=()
def tw3707799984046952090:=()
def tw8274321667696249530:=()
def tw2352906752844728058:=()
def tw15170647637502574362:=()
def tw18351393376039210810:=()
def tw14334102457814173562:=()
def tw3322632957744152474:=()
def tw7812378909972116410:=()
def tw813995930232149946:=()
def tw13556709854661624794:=()
def tw12914285828619836410:=()
def tw11946730630782664698:=()
def tw12126318608297446394:=()
def tw4457069626079180794:=()
def tw11554870353971465307:=()
def tw9803795845676671163:=()
def tw6721508034800361691:=()
def tw4021271585826225435:=()
def tw14919237120330465659:=()
def tw7136426476411884987:=()
def tw9830210153517633979:=()
def tw13938332276954420667:=()
def tw3203725764764506619:=()
def tw5305292137654831643:=()
def tw6158524899750654523:=()
def tw5438604505788962363:=()
def tw12966180626145796667:=()
def tw9871141327170922075:=()
def tw8059901390516291227:=()
def tw18392606593999203003:=()
def tw5754161488195566299:=()
def tw17658667273839300315:=()
def tw8061564891573838587:=()
def tw559427125086958395:=()
def tw5791177590912177979:=()
def tw7355655237066967931:=()
def tw3108557982233073659:=()
def tw2388598984034920476:=()
def tw14569876821164909596:=()
def tw10112597227061537948:=()
def tw17988763512026590460:=()
def tw4097511665800939836:=()
def tw17140420796291668284:=()
def tw12589175433687565692:=()
def tw9568787018120933820:=()
def tw15534502523523897820:=()
def tw2404162257685690876:=()
def tw1063323110387136060:=()
def tw15881811188268635740:=()
def tw3290117412504367836:=()
def tw14060661405159761660:=()
def tw10043471583947270908:=()
def tw13088059495209746428:=()
def tw17020303934887865533:=()
def tw13970201652703004957:=()
def tw8581001011408212349:=()
def tw7610874150978958749:=()
def tw3028097502760712637:=()
def tw8475240061677261277:=()
def tw273752873919213117:=()
def tw11423936068793659965:=()
def tw8461193362961417821:=()
def tw15276320348889422461:=()
def tw14440037282183888541:=()
def tw14140114483165840029:=()
def tw11128012817878898333:=()
def tw9147765469402155709:=()
def tw3357175927243936541:=()
def tw9961041174236653341:=()
def tw134261044065993533:=()
def tw9370304481266234173:=()
def tw11191746241018459965:=()
def tw3308494453216767965:=()
def tw10202032943560272958:=()
def tw2638353176071549022:=()
def tw7342614959205215390:=()
def tw4050360277520057566:=()
def tw9922272481408070878:=()
def tw10733790696104249598:=()
def tw11107448370924459262:=()
def tw1186549697262886206:=()
def tw18420298334569872702:=()
def tw2664299885814405502:=()
def tw3893927661378831774:=()
def tw25375149738594750:=()
def tw11050486296665688542:=()
def tw16949385680275726814:=()
def tw3077828145826743838:=()
def tw14434320400449159838:=()
def tw18129346367597072030:=()
def tw295079368418396894:=()
def tw5982109166459677438:=()
def tw6524434533045611326:=()
def tw14949039229580568414:=()
def tw10242069882469268350:=()
def tw11269966445304397694:=()
def tw14193645868864781278:=()
def tw2646009328667320286:=()
def tw6047379112889933790:=()
def tw1231907770399227870:=()
def tw13961228230537249790:=()
def tw402228273994473470:=()
def tw1539928799757207615:=()
def tw12729343249495202879:=()
def tw12502012365010571423:=()
def tw15369641128070138079:=()
def tw10351970944600413439:=()
def tw16948810193504750911:=()
def tw6866546132609506655:=()
def tw6272203741197450591:=()
def tw12458687316206000511:=()
def tw9870173842015928703:=()
def tw4818742140776240511:=()
def tw3243118106837349759:=()
def tw2236459393907408287:=()
def tw16388506641497588159:=()
def tw8083941117708301759:=()
def tw8470298151435663807:=()
def tw14092918614929130975:=()
def tw9116375148501930559:=()
def tw14030799335669930591:=()
def tw15981542305958937183:=()
def tw9306163595469117087:=()
def tw11684927809761766047:=()
def tw17903200741972311711:=()
def tw15919564791474749087:=()
def tw13838568624136131263:=()
def tw12869319418281072319:=()
def tw5048860665338733247:=()
def tw5565251217666236095:=()
def tw14694623833538451231:=()
def tw6807468193872613183:=()
def tw12688578989886517055:=()
def tw454490242234598207:=()
def tw16405641362123047743:=()
def tw15811246096809144223:=()
def tw9643527900487986111:=()
def tw8381311604964243391:=()
def tw6699390741722541023:=()
def tw1596983938309801951:=()
def tw5014772083544428543:=()
end PySem.W.Fast
open PySem PySem.W PyProof.Rows
set_option maxRecDepth 100000 in
set_option maxHeartbeats 0 in
theorem PySem.Challenge.cw_lapwork_k15_whole_run_on_holds : PySem.Challenge.rw_lapwork_k15_whole_run_on.Holds := by
  w_on; o_law; k_head; (case hw => w_witness2)
  k_fill
  refine Lap.walk (l := PySem.Challenge.rw_lapwork_k15_whole_run_on) rfl rfl (fun w h Y => PySem.W.kIn_of Y) ?F
  case F =>
    intro w mg fa h KX G hmg
    refine' Lap.all_mk KX G hmg ?fl ?t0 ?t1 ?t2 ?t3
    (case fl => walk_at "lapF")
    (case t0 =>
      refine' Lap.tp0_mk ?c_Sum ?c_Less ?c_Times ?c_Least ?c_Most ?c_Pick ?c_Same ?c_Tell ?c_Take ?g_Loop ?g_Run
      (case c_Sum => walk_at "lapC")
      (case c_Less => walk_at "lapC")
      (case c_Times => walk_at "lapC")
      (case c_Least => walk_at "lapC")
      (case c_Most => walk_at "lapC")
      (case c_Pick => walk_at "lapC")
      (case c_Same => walk_at "lapC")
      (case c_Tell => walk_at "lapC")
      (case c_Take => walk_at "lapC")
      (case g_Loop => k_is)
      (case g_Run => k_is))
    (case t1 =>
      refine' Lap.tp1_mk ?f_of_sum ?f_of_less ?f_of_times ?f_of_least ?f_of_most ?f_of_pick ?f_of_same ?f_of_tell ?f_of_take ?f_wa_sum ?f_wa_less ?f_wa_times ?f_wa_least ?f_wa_most ?f_wa_pick ?f_wa_same ?f_wa_tell ?f_wa_take ?i_Loop ?f_Loop_rows ?f_Loop_deepest ?i_Run ?f_Run_made_at ?f_Run_number_read ?f_Run_numbers_for ?f_Run_do_turn ?f_Run_last_made ?w_LETTERS ?w_MOST_LETTERS ?w_MOST_ROWS ?w_MOST_BACK ?w_MOST_TURNS ?f_outcome ?f_run ?f_crun ?f_cturns
      (case f_of_sum => walk_at "lapM")
      (case f_of_less => walk_at "lapM")
      (case f_of_times => walk_at "lapM")
      (case f_of_least => walk_at "lapM")
      (case f_of_most => walk_at "lapM")
      (case f_of_pick => walk_at "lapM")
      (case f_of_same => walk_at "lapM")
      (case f_of_tell => walk_at "lapM")
      (case f_of_take => walk_at "lapM")
      (case f_wa_sum => walk_at "lapM")
      (case f_wa_less => walk_at "lapM")
      (case f_wa_times => walk_at "lapM")
      (case f_wa_least => walk_at "lapM")
      (case f_wa_most => walk_at "lapM")
      (case f_wa_pick => walk_at "lapM")
      (case f_wa_same => walk_at "lapM")
      (case f_wa_tell => walk_at "lapM")
      (case f_wa_take => walk_at "lapM")
      (case i_Loop => walk_at "lapI")
      (case f_Loop_rows => walk_at "lapM")
      (case f_Loop_deepest => walk_at "lapM")
      (case i_Run => walk_at "lapI")
      (case f_Run_made_at => walk_at "lapM")
      (case f_Run_number_read => walk_at "lapM")
      (case f_Run_numbers_for => walk_at "lapM")
      (case f_Run_do_turn => walk_at "lapM")
      (case f_Run_last_made => walk_at "lapM")
      (case w_LETTERS => walk_at "lapV")
      (case w_MOST_LETTERS => walk_at "lapV")
      (case w_MOST_ROWS => walk_at "lapV")
      (case w_MOST_BACK => walk_at "lapV")
      (case w_MOST_TURNS => walk_at "lapV")
      (case f_outcome => walk_at "lapF")
      (case f_run => walk_at "lapF")
      (case f_crun => walk_at "lapF")
      (case f_cturns => walk_at "lapF"))
    (case t2 =>
      refine' Lap.tp2_mk ?f_cfeeds ?f_cbegin ?f_deed ?f_islet ?f_isname ?f_cmeas ?f_crows ?f_chead ?f_cread ?f_cnum ?f_clook ?f_copy ?f_depths ?f_cell ?f_whole ?f_mix ?f_letters ?f_names ?f_wants ?f_row ?f_rows ?f_measure ?f_deepest ?f_alike ?f_given ?f_feeds ?f_begin ?f_copyL ?f_lists ?f_shaped ?z_len ?z_isinstance ?z_int ?z_bool ?z_range ?z_min
      (case f_cfeeds => walk_at "lapF")
      (case f_cbegin => walk_at "lapF")
      (case f_deed => walk_at "lapF")
      (case f_islet => walk_at "lapF")
      (case f_isname => walk_at "lapF")
      (case f_cmeas => walk_at "lapF")
      (case f_crows => walk_at "lapF")
      (case f_chead => walk_at "lapF")
      (case f_cread => walk_at "lapF")
      (case f_cnum => walk_at "lapF")
      (case f_clook => walk_at "lapF")
      (case f_copy => walk_at "lapF")
      (case f_depths => walk_at "lapF")
      (case f_cell => walk_at "lapF")
      (case f_whole => walk_at "lapF")
      (case f_mix => walk_at "lapF")
      (case f_letters => walk_at "lapF")
      (case f_names => walk_at "lapF")
      (case f_wants => walk_at "lapF")
      (case f_row => walk_at "lapF")
      (case f_rows => walk_at "lapF")
      (case f_measure => walk_at "lapF")
      (case f_deepest => walk_at "lapF")
      (case f_alike => walk_at "lapF")
      (case f_given => walk_at "lapF")
      (case f_feeds => walk_at "lapF")
      (case f_begin => walk_at "lapF")
      (case f_copyL => walk_at "lapF")
      (case f_lists => walk_at "lapF")
      (case f_shaped => walk_at "lapF")
      (case z_len => k_is)
      (case z_isinstance => k_is)
      (case z_int => k_is)
      (case z_bool => k_is)
      (case z_range => k_is)
      (case z_min => k_is))
    (case t3 =>
      refine' Lap.tp3_mk ?z_max ?z_list ?z_tuple ?z_str ?z_all ?z_enumerate ?z_dict ?kII ?kIB ?kTT ?kTI ?kIT ?kLL ?kSS ?nM ?nK ?nD ?nRL ?nRF ?nRB ?nRM
      (case z_max => k_is)
      (case z_list => k_is)
      (case z_tuple => k_is)
      (case z_str => k_is)
      (case z_all => k_is)
      (case z_enumerate => k_is)
      (case z_dict => k_is)
      (case kII => kit_is)
      (case kIB => kit_is)
      (case kTT => kit_is)
      (case kTI => kit_is)
      (case kIT => kit_is)
      (case kLL => kit_is)
      (case kSS => kit_is)
      (case nM => (unfold L2.NoAttr; k_is))
      (case nK => (unfold L2.NoAttr; k_is))
      (case nD => (unfold L2.NoAttr; k_is))
      (case nRL => (unfold L2.NoAttr; k_is))
      (case nRF => (unfold L2.NoAttr; k_is))
      (case nRB => (unfold L2.NoAttr; k_is))
      (case nRM => (unfold L2.NoAttr; k_is)))
