import PyProof.Rows.All
import Wide.All
import OpenK.AllK
import Wide.FinOn
import Lean
import PyProof.EqAt
import PyProof.EqKinds
import PyProof.TupleCall
import PySem.Challenge.RW_lapwork_k71_loops_shown_and_read
-- CHANGE: your row's module here, as the last of these rows
set_option Elab.async false
set_option linter.all false
set_option maxRecDepth 100000
namespace L2
open PySem PySem.Spec PyProof.Rows
abbrev Key := Sum Int Str
def keyIs : Key → Value → Bool
  | .inl k, v => Value.isInt k v
  | .inr x, v => Value.isStrOf x v
def keyH (w : World) : Key → Int
  | .inl k => hashInt k
  | .inr x => hashStr w x
theorem keyIs_shape : ∀ {k : Key} {v : Value}, keyIs k v = true → (∃ i t, k = Sum.inl i ∧ v = Value.int i t) ∨ (∃ x t, k = Sum.inr x ∧ v = Value.str x t)
  | .inl i, v, h => by
    obtain ⟨t, e⟩ := Value.isInt_shape (k := i) (v := v) h
    exact .inl ⟨i, t, rfl, e⟩
  | .inr x, v, h => by
    obtain ⟨t, e⟩ := Value.isStrOf_shape (x := x) (v := v) h
    exact .inr ⟨x, t, rfl, e⟩
theorem keyIs_int (i : Int) (t : Tok) : keyIs (.inl i) (.int i t) = true := by simp [keyIs, Value.isInt]
theorem keyIs_str (x : Str) (t : Tok) : keyIs (.inr x) (.str x t) = true := by simp [keyIs, Value.isStrOf]
theorem key_ll (a b : Int) : decide ((Sum.inl a : Key) = Sum.inl b) = (a == b) := by
  by_cases e : a = b
  · subst e; simp
  · have h : ¬ (Sum.inl a : Key) = Sum.inl b := fun q => e (Sum.inl.inj q)
    rw [decide_eq_false h]
    exact (beq_eq_false_iff_ne.mpr e).symm
theorem key_rr (a b : Str) : decide ((Sum.inr a : Key) = Sum.inr b) = decide (a = b) := by
  by_cases e : a = b
  · subst e; simp
  · have h : ¬ (Sum.inr a : Key) = Sum.inr b := fun q => e (Sum.inr.inj q)
    rw [decide_eq_false h, decide_eq_false e]
theorem key_lr (a : Int) (b : Str) : decide ((Sum.inl a : Key) = Sum.inr b) = false := decide_eq_false (fun q => nomatch q)
theorem key_rl (a : Str) (b : Int) : decide ((Sum.inr a : Key) = Sum.inl b) = false := decide_eq_false (fun q => nomatch q)
def mixKind (prog : Program) (w : World) : PySem.KeyKind prog w Key where
  is := keyIs
  hash := keyH w
  inj := fun v a b ha hb => by
    rcases keyIs_shape ha with ⟨i, t, rfl, rfl⟩ | ⟨x, t, rfl, rfl⟩
    · rcases keyIs_shape hb with ⟨j, u, rfl, e⟩ | ⟨y, u, rfl, e⟩
      · injection e with e1 _; rw [e1]
      · exact nomatch e
    · rcases keyIs_shape hb with ⟨j, u, rfl, e⟩ | ⟨y, u, rfl, e⟩
      · exact nomatch e
      · injection e with e1 _; rw [e1]
  byValue := fun k v h => by
    rcases keyIs_shape h with ⟨i, t, rfl, rfl⟩ | ⟨x, t, rfl, rfl⟩ <;> rfl
  pyHash := fun hv h => by
    rcases keyIs_shape hv with ⟨i, t, rfl, rfl⟩ | ⟨x, t, rfl, rfl⟩
    · exact wpAny_pyHash_int h
    · exact wpAny_pyHash_str h
  eqBool := fun hu hv h => by
    rcases keyIs_shape hu with ⟨i, t, rfl, rfl⟩ | ⟨x, t, rfl, rfl⟩
    · rcases keyIs_shape hv with ⟨j, u, rfl, rfl⟩ | ⟨y, u, rfl, rfl⟩
      · rw [key_ll] at h; exact wpAny_eqBool_int h
      · rw [key_lr] at h; exact SeqAt.EqAt.int_str i t y u _ _ _ _ h
    · rcases keyIs_shape hv with ⟨j, u, rfl, rfl⟩ | ⟨y, u, rfl, rfl⟩
      · rw [key_rl] at h; exact SeqAt.EqAt.str_int x t j u _ _ _ _ h
      · rw [key_rr] at h; exact wpAny_eqBool_str h
  «strs» := fun k x t v h => by
    rcases keyIs_shape h with ⟨i, u, rfl, e⟩ | ⟨y, u, rfl, e⟩
    · exact nomatch e
    · injection e with e1 _
      subst e1
      cases v <;> rfl
theorem mixKind_int (prog : Program) (w : World) (i : Int) (t : Tok) : (mixKind prog w).is (.inl i) (.int i t) = true := keyIs_int i t
theorem mixKind_str (prog : Program) (w : World) (x : Str) (t : Tok) : (mixKind prog w).is (.inr x) (.str x t) = true := keyIs_str x t
end L2
namespace L2
open PySem PySem.Spec PyProof.Rows
inductive V where
  | non | bl (b : Bool) | int (i : Int) | str (x : Str) | byt (b : Array UInt8) | flt (b : UInt64) | ref (a : Addr) | ty (n : String)
  deriving DecidableEq
def RelV : V → Value → Prop
  | .non, u => u = Value.none
  | .bl b, u => u = Value.bool b
  | .int i, u => ∃ t, u = Value.int i t
  | .str x, u => ∃ t, u = Value.str x t
  | .byt b, u => ∃ t, u = Value.bytes b t
  | .flt b, u => ∃ t, u = Value.float b t
  | .ref a, u => u = Value.ref a
  | .ty n, u => u = Value.type n
abbrev Vals : List V → List Value → Prop := Paired RelV
theorem Vals.length {xs : List V} {us : List Value} (r : Vals xs us) : xs.length = us.length := Paired.length r
theorem Vals.get : ∀ {xs : List V} {us : List Value} {i : Nat} {x : V}, Vals xs us → xs[i]? = some x → ∃ u, us[i]? = some u ∧ RelV x u
  | _, _, _, _, .nil, e => by simp at e
  | _, _, 0, _, .cons r _, e => by simp at e; subst e; exact ⟨_, rfl, r⟩
  | _, _, i + 1, x, .cons _ t, e => by
    obtain ⟨u, h1, h2⟩ := Vals.get (i := i) (x := x) t (by simpa using e)
    exact ⟨u, by simpa using h1, h2⟩
theorem Vals.append : ∀ {xs ys : List V} {us ws : List Value}, Vals xs us → Vals ys ws → Vals (xs ++ ys) (us ++ ws)
  | _, _, _, _, .nil, s => s
  | _, _, _, _, .cons r t, s => .cons r (Vals.append t s)
theorem Vals.take : ∀ {xs : List V} {us : List Value} (n : Nat), Vals xs us → Vals (xs.take n) (us.take n)
  | _, _, 0, _ => .nil
  | _, _, _ + 1, .nil => .nil
  | _, _, n + 1, .cons r t => .cons r (Vals.take n t)
theorem Vals.drop : ∀ {xs : List V} {us : List Value} (n : Nat), Vals xs us → Vals (xs.drop n) (us.drop n)
  | _, _, 0, r => r
  | _, _, _ + 1, .nil => .nil
  | _, _, n + 1, .cons _ t => Vals.drop n t
def RelO : Option V → Option Value → Prop
  | some v, some u => RelV v u
  | none, none => True
  | _, _ => False
def KV {κ : Type} : List (κ × V) → List (κ × Value) → Prop := Paired fun (p : κ × V) (q : κ × Value) => p.1 = q.1 ∧ RelV p.2 q.2
def kV : Key → V
  | .inl i => .int i
  | .inr x => .str x
inductive HO where
  | lst (xs : List V)
  | tup (xs : List V)
  | dK (kvs : List (Key × V)) | dT (kvs : List (List Key × V))
  | set (S : Int → Bool) (n : Nat)
  | ins (C dx : Addr) (fs : List (Str × V))
  | own (x : Addr)
  | xd (fs : List (Str × V))
  | met (f x : Addr)
  | rng (lo hi : Int)
  | frz (o : Obj) (u : HO)
  | tbl (ps : Array Value)
  | ext (φ : Heap → Prop)
abbrev Hp := Addr → Option HO
def upd (H : Hp) (a : Addr) (o : HO) : Hp := fun b => if b = a then some o else H b
theorem upd_same {H : Hp} {a : Addr} {o : HO} : upd H a o a = some o := by unfold upd; rw [if_pos rfl]
theorem upd_ne {H : Hp} {a b : Addr} {o : HO} (h : b ≠ a) : upd H a o b = H b := by unfold upd; rw [if_neg h]
theorem upd_upd {H : Hp} {a : Addr} {o u : HO} : upd (upd H a o) a u = upd H a u := by
  funext b; unfold upd; split <;> rfl
theorem ne_of {H : Hp} {a b : Addr} {o u : HO} (h : H a = some o) (h' : H b = some u) (d : o ≠ u) : a ≠ b := by
  intro e; subst e; rw [h] at h'; exact d (Option.some.inj h')
theorem ne_of_none {H : Hp} {a b : Addr} {o : HO} (h : H a = some o) (h' : H b = none) : a ≠ b := by
  intro e; subst e; rw [h] at h'; cases h'
section
variable (P : Program) (w : World)
def ObjOk (H : Hp) (h : Heap) (a : Addr) : HO → Prop
  | .lst xs => xs.length ≤ sizeLine ∧ ∃ (its : List Value) (n : Nat), Vals xs its ∧ h.get? a = some { cls := .type "list", data := .seq its.toArray n }
  | .tup xs => xs.length ≤ sizeLine ∧ ∃ its : List Value, Vals xs its ∧ IsTup h a its.toArray
  | .dK kvs => kvs.length ≤ sizeLine ∧ (a == sysModules) = false ∧ ∃ vs, KV kvs vs ∧ h.DictOf (mixKind P w) a vs
  | .dT kvs => kvs.length ≤ sizeLine ∧ (a == sysModules) = false ∧ ∃ xs : List (List Key × Addr × Value),
      Paired (fun (p : List Key × V) (q : List Key × Addr × Value) => p.1 = q.1 ∧ H q.2.1 = some (.tup (p.1.map kV)) ∧ RelV p.2 q.2.2) kvs xs ∧
      ∃ o es ep, h.get? a = some o ∧ o.ExactDict ∧ o.data = .dict es ep ∧ es.toList = xs.map (entryOfKey (tupleKind (mixKind P w))) ∧ (xs.map (·.1)).Nodup
  | .set S n => h.SetOf (intKind P w) a S n
  | .ins C dx fs => H dx = some (.own a) ∧ fs.length ≤ 1000 ∧ dx ≠ a ∧ h.get? a = some (PySem.W.instObj C dx) ∧
      ∃ mA, h.Ns1 dx mA ∧ (∀ f, RelO (fs.lookup f) (mA f)) ∧ PySem.Within mA (fs.map (·.1))
  | .own _ => ∃ o, h.get? a = some o
  | .xd fs => ∃ mA, h.Ns1 a mA ∧ ∀ f, RelO (fs.lookup f) (mA f)
  | .rng lo hi => ∃ t u v, h.get? a = some { cls := .type "range", data := .fields #[.int lo t, .int hi u, .int 1 v] }
  | .frz o u => h.get? a = some o ∧ ObjOk H h a u
  | .tbl ps => h.get? a = some { cls := .none, data := .fields ps }
  | .met f x => h.get? a = some (PySem.W.methodObj (.ref f) (.ref x))
  | .ext φ => φ h ∧ (∃ o, h.get? a = some o) ∧ ∀ h1 h2 : Heap, φ h1 → (∀ o, h1.get? a = some o → h2.get? a = some o) → φ h2
def HOk (H : Hp) (h : Heap) : Prop := ∀ a o, H a = some o → ObjOk P w H h a o
end
section
variable {P : Program} {w : World} {H H' : Hp} {h h' : Heap} {a : Addr} {o : HO}
theorem ObjOk.lt (x : ObjOk P w H h a o) : a < h.objs.size := by
  cases o with
  | lst xs => obtain ⟨_, _, _, _, e⟩ := x; exact Heap.lt_size e
  | tup xs => obtain ⟨_, _, _, p⟩ := x; exact p.lt
  | dK kvs => obtain ⟨_, _, _, _, o, _, _, e, _⟩ := x; exact Heap.lt_size e
  | dT kvs => obtain ⟨_, _, _, _, o, _, _, e, _⟩ := x; exact Heap.lt_size e
  | set S n => obtain ⟨o, _, _, _, e, _⟩ := x; exact Heap.lt_size e
  | ins C dx fs => obtain ⟨_, _, _, e, _⟩ := x; exact Heap.lt_size e
  | own y => obtain ⟨_, e⟩ := x; exact Heap.lt_size e
  | xd fs => obtain ⟨_, ⟨_, _, _, e, _⟩, _⟩ := x; exact Heap.lt_size e
  | rng lo hi => obtain ⟨_, _, _, e⟩ := x; exact Heap.lt_size e
  | frz ob u => obtain ⟨e, _⟩ := x; exact Heap.lt_size e
  | tbl ps => exact Heap.lt_size (show h.get? a = some _ from x)
  | met f y => exact Heap.lt_size (show h.get? a = some _ from x)
  | ext φ => obtain ⟨_, ⟨_, e⟩, _⟩ := x; exact Heap.lt_size e
theorem Paired.mapP {α β : Type} {F G : α → β → Prop} : ∀ {l₁ : List α} {l₂ : List β}, Paired F l₁ l₂ → (∀ a b, F a b → G a b) → Paired G l₁ l₂
  | _, _, .nil, _ => .nil
  | _, _, .cons r t, f => .cons (f _ _ r) (Paired.mapP t f)
theorem ObjOk.stay (x : ObjOk P w H h a o) (k : ∀ b u, (b = a ∨ H b = some (.own a)) → h.get? b = some u → h'.get? b = some u)
    (ho : ∀ b, H b = some (.own a) → H' b = some (.own a)) (ht : ∀ b xs, H b = some (.tup xs) → H' b = some (.tup xs)) : ObjOk P w H' h' a o := by
  induction o with
  | lst xs => obtain ⟨z, its, n, r, e⟩ := x; exact ⟨z, its, n, r, k _ _ (.inl rfl) e⟩
  | tup xs => obtain ⟨z, its, r, ob, e, c⟩ := x; exact ⟨z, its, r, ob, k _ _ (.inl rfl) e, c⟩
  | dK kvs => obtain ⟨z, y, vs, r, ob, es, ep, e, c⟩ := x; exact ⟨z, y, vs, r, ob, es, ep, k _ _ (.inl rfl) e, c⟩
  | dT kvs =>
    obtain ⟨z, y, xs, r, ob, es, ep, e, c⟩ := x
    exact ⟨z, y, xs, Paired.mapP r fun p q z => ⟨z.1, ht _ _ z.2.1, z.2.2⟩, ob, es, ep, k _ _ (.inl rfl) e, c⟩
  | set S n => obtain ⟨ob, es, ep, t, e, c⟩ := x; exact ⟨ob, es, ep, t, k _ _ (.inl rfl) e, c⟩
  | ins C dx fs =>
    obtain ⟨d, z, ne, e, mA, ⟨od, es, ep, e2, c⟩, r⟩ := x
    exact ⟨ho _ d, z, ne, k _ _ (.inl rfl) e, mA, ⟨od, es, ep, k _ _ (.inr d) e2, c⟩, r⟩
  | own y => obtain ⟨ob, e⟩ := x; exact ⟨ob, k _ _ (.inl rfl) e⟩
  | xd fs => obtain ⟨mA, ⟨od, es, ep, e, c⟩, r⟩ := x; exact ⟨mA, ⟨od, es, ep, k _ _ (.inl rfl) e, c⟩, r⟩
  | rng lo hi => obtain ⟨t, u, v, e⟩ := x; exact ⟨t, u, v, k _ _ (.inl rfl) e⟩
  | frz ob u ih => obtain ⟨e, q⟩ := x; exact ⟨k _ _ (.inl rfl) e, ih q⟩
  | tbl ps =>
    have e : h.get? a = some { cls := .none, data := .fields ps } := x
    show h'.get? a = some { cls := .none, data := .fields ps }
    exact k a _ (.inl rfl) e
  | met f y =>
    have e : h.get? a = some (PySem.W.methodObj (.ref f) (.ref y)) := x
    show h'.get? a = some (PySem.W.methodObj (.ref f) (.ref y))
    exact k a _ (.inl rfl) e
  | ext φ => obtain ⟨p, ⟨o, e⟩, st⟩ := x; exact ⟨st _ _ p fun o q => k _ _ (.inl rfl) q, ⟨o, k _ _ (.inl rfl) e⟩, st⟩
theorem HOk.lt (x : HOk P w H h) (e : H a = some o) : a < h.objs.size := (x a o e).lt
theorem HOk.fresh (x : HOk P w H h) (e : h.objs.size ≤ a) : H a = none := by
  cases q : H a with
  | none => rfl
  | some u => exact absurd (Nat.lt_of_lt_of_le (x.lt q) e) (Nat.lt_irrefl _)
theorem HOk.kept (x : HOk P w H h) (k : ∀ b u, h.get? b = some u → h'.get? b = some u) : HOk P w H h' := fun a o e =>
  (x a o e).stay (fun b u _ q => k b u q) (fun _ q => q) fun _ _ q => q
theorem HOk.laid (x : HOk P w H h) (k : ∀ b u, h.get? b = some u → h'.get? b = some u) (hp : h.objs.size ≤ a) (new : ObjOk P w (upd H a o) h' a o) : HOk P w (upd H a o) h' := fun b u e => by
  have hn := x.fresh hp
  by_cases hb : b = a
  · subst hb; rw [upd_same] at e; cases e; exact new
  · rw [upd_ne hb] at e
    exact (x b u e).stay (fun c v _ q => k c v q) (fun c q => by rw [upd_ne (ne_of_none q hn)]; exact q) fun c xs q => by rw [upd_ne (ne_of_none q hn)]; exact q
end
def Rd (H : Hp) (a : Addr) (u : HO) : Prop := H a = some u ∨ ∃ o, H a = some (.frz o u)
theorem Rd.ok {P : Program} {w : World} {H : Hp} {h : Heap} {a : Addr} {u : HO} (r : Rd H a u) (x : HOk P w H h) : ObjOk P w H h a u := by
  rcases r with r | ⟨o, r⟩
  · exact x a u r
  · obtain ⟨_, q⟩ := x a _ r
    exact q
def Mut : Option HO → Prop
  | some (.lst _) => True
  | some (.dK _) => True
  | some (.dT _) => True
  | some (.set _ _) => True
  | some (.ins _ _ _) => True
  | some (.ext _) => True
  | _ => False
section
variable {P : Program} {w : World} {H : Hp} {h h' : Heap} {x e : Addr} {o' : HO}
theorem HOk.write (ok : HOk P w H h) (mu : Mut (H x)) (he : e = x ∨ H e = some (.own x)) (k : ∀ b u, b ≠ e → h.get? b = some u → h'.get? b = some u) (heo : ∃ u, h'.get? e = some u)
    (new : ObjOk P w (upd H x o') h' x o') : HOk P w (upd H x o') h' := fun b u q => by
  have nown : ∀ c y, H c = some (.own y) → c ≠ x := fun c y r z => by subst z; rw [r] at mu; exact mu
  have ntup : ∀ c xs, H c = some (.tup xs) → c ≠ x := fun c xs r z => by subst z; rw [r] at mu; exact mu
  by_cases hb : b = x
  · subst hb; rw [upd_same] at q; cases q; exact new
  · rw [upd_ne hb] at q
    by_cases hbe : b = e
    · have q' : H b = some (.own x) := by
        rcases he with z | z
        · exact absurd (hbe.trans z) hb
        · rw [hbe]; exact z
      rw [q] at q'; cases q'
      obtain ⟨v, hv⟩ := heo
      exact ⟨v, by rw [hbe]; exact hv⟩
    · refine (ok b u q).stay (fun c v hc r => k c v ?_ r) (fun c r => by rw [upd_ne (nown c b r)]; exact r) fun c xs r => by rw [upd_ne (ntup c xs r)]; exact r
      rcases hc with rfl | hc
      · exact hbe
      · rintro rfl
        rcases he with z | z
        · exact nown c b hc z
        · rw [hc] at z; cases z; exact hb rfl
end
structure Un (fs ex : List Addr) (H H' : Hp) (h h' : Heap) : Prop where
  keep : ∀ b o, h.get? b = some o → H b = none → b ∉ fs → b ∉ ex → h'.get? b = some o
  slot : ∀ b o, h.get? b = some o → H b = none → b ∈ fs → b ∉ ex → ∃ sl, h'.get? b = some { o with slots := sl }
  free : ∀ b o, h.get? b = some o → H b = none → b ∉ ex → H' b = none
  there : ∀ b o, h.get? b = some o → b ∉ ex → ∃ o', h'.get? b = some o'
  tups : ∀ b xs, H b = some (.tup xs) → H' b = some (.tup xs)
  frzs : ∀ b o u, H b = some (.frz o u) → H' b = some (.frz o u)
  tbls : ∀ b ps, H b = some (.tbl ps) → ∃ more, H' b = some (.tbl (ps ++ more))
section
variable {fs fs' ex ex' : List Addr} {H H1 H2 : Hp} {h h1 h2 h' : Heap} {a x e : Addr} {o : HO}
theorem Un.any (u : Un fs ex H H1 h h1) {b : Addr} {ob : Obj} (q : h.get? b = some ob) (n : H b = none) (hx : b ∉ ex) : ∃ sl, h1.get? b = some { ob with slots := sl } := by
  by_cases hb : b ∈ fs
  · exact u.slot b ob q n hb hx
  · exact ⟨ob.slots, u.keep b ob q n hb hx⟩
theorem Un.kept (k : ∀ b u, h.get? b = some u → h'.get? b = some u) : Un fs ex H H h h' :=
  ⟨fun b ob q _ _ _ => k b ob q, fun b ob q _ _ _ => ⟨ob.slots, k b ob q⟩, fun _ _ _ n _ => n, fun b ob q _ => ⟨ob, k b ob q⟩, fun _ _ q => q, fun _ _ _ q => q, fun _ ps q => ⟨#[], by rw [q]; simp⟩⟩
theorem Un.refl : Un fs ex H H h h := Un.kept fun _ _ q => q
theorem Un.laid (k : ∀ b u, h.get? b = some u → h'.get? b = some u) (hp : h.objs.size ≤ a) (hn : H a = none) : Un fs ex H (upd H a o) h h' where
  keep := fun b u q _ _ _ => k b u q
  slot := fun b u q _ _ _ => ⟨u.slots, k b u q⟩
  free := fun b u q n _ => by rw [upd_ne (Nat.ne_of_lt (Nat.lt_of_lt_of_le (Heap.lt_size q) hp))]; exact n
  there := fun b u q _ => ⟨u, k b u q⟩
  tups := fun b xs q => by rw [upd_ne (ne_of_none q hn)]; exact q
  frzs := fun b u xs q => by rw [upd_ne (ne_of_none q hn)]; exact q
  tbls := fun b ps q => ⟨#[], by rw [upd_ne (ne_of_none q hn), q]; simp⟩
theorem Un.write (mu : Mut (H x)) (he : e = x ∨ H e = some (.own x)) (k : ∀ b u, b ≠ e → h.get? b = some u → h'.get? b = some u) (heo : ∃ u, h'.get? e = some u) : Un fs ex H (upd H x o) h h' := by
  have hx : ∀ b, H b = none → b ≠ x := fun b n z => by subst z; rw [n] at mu; exact mu
  have hb : ∀ b, H b = none → b ≠ e := fun b n z => by
    subst z
    rcases he with r | r
    · exact hx b n r
    · rw [n] at r; cases r
  have hm : ∀ b u, H b = some u → ¬ Mut (some u) → b ≠ x := fun b u q nm z => by subst z; rw [q] at mu; exact nm mu
  refine ⟨fun b u q n _ _ => k b u (hb b n) q, fun b u q n _ _ => ⟨u.slots, k b u (hb b n) q⟩, fun b u q n _ => by rw [upd_ne (hx b n)]; exact n, fun b u q _ => ?_,
    fun b xs q => by rw [upd_ne (hm b _ q fun z => z)]; exact q, fun b u xs q => by rw [upd_ne (hm b _ q fun z => z)]; exact q, fun b ps q => ⟨#[], by rw [upd_ne (hm b _ q fun z => z), q]; simp⟩⟩
  by_cases hbe : b = e
  · subst hbe; exact heo
  · exact ⟨u, k b u hbe q⟩
end
def trk (h : Heap) (H : Hp) : List Addr := (List.range h.objs.size).filter fun a => (H a).isSome
def hidT (h : Heap) (H : Hp) : Heap := PySem.W.hideAll h (trk h H)
theorem hidT_size (h : Heap) (H : Hp) : (hidT h H).objs.size = h.objs.size := PySem.W.hideAll_size _ _
theorem hidT_get {h : Heap} {H : Hp} {b : Addr} {o : Obj} (e : h.get? b = some o) (n : H b = none) : (hidT h H).get? b = some o :=
  PySem.W.hideAll_get _ e fun hm => by
    have q : (H b).isSome = true := (List.mem_filter.mp hm).2
    rw [n] at q; simp at q
theorem of_hidT {h : Heap} {H : Hp} {b : Addr} {o : Obj} (e : (hidT h H).get? b = some o) : h.get? b = some o ∧ H b = none := by
  have e' : h.get? b = some o := PySem.W.of_hideAll (trk h H) e
  refine ⟨e', ?_⟩
  cases q : H b with
  | none => rfl
  | some x =>
    have hm : b ∈ trk h H := List.mem_filter.mpr ⟨List.mem_range.mpr (Heap.lt_size e'), by simp [q]⟩
    have z : (hidT h H).get? b = none := PySem.W.hideAll_none (trk h H) hm
    rw [z] at e; cases e
end L2
namespace L2
open PySem PySem.Spec PyProof.Rows
structure Mod (K : PySem.W.Frag) (mg : Str → Option Value) (base : Heap) : Prop where
  kin : K.In base
  glob : base.Ns mainGlobals mg
  blt : ∃ mb, base.Ns builtinsNs mb ∧ ∀ x : Str, x ≠ "__name__" → mb x = bootBuiltins x
  nolimit : base.NoLimit
structure Cx where
  prog : Program
  w : World
  K : PySem.W.Frag
  mg : Str → Option Value
  base : Heap
  A : Around
  N : List Str
  s₀ : Shared
  H₀ : Hp
  env : Env
  outer : List Env
  stack : List Env
  ex : List Addr
  fn : Str → Bool
  calm : Bool
  pn : List (Addr × Obj)
  xe : Value → Shared → Prop
def frs (l : List Env) : List Addr := l.filterMap (·.frame)
abbrev Cx.fs (X : Cx) : List Addr := frs X.outer
def Vis (sc : Scope) (x : Str) : Prop := sc.names.lookup x = some .local ∨ sc.names.lookup x = some .cell ∨ sc.names.lookup x = some .free
def Loc (sc : Scope) (x : Str) : Prop := sc.names.lookup x = some .local ∨ sc.names.lookup x = some .cell
def Look (env : Env) (h : Heap) (m : Str → Option Value) (x : Str) (u : Value) : Prop :=
  (env.kindOf x = some .local ∧ m x = some u) ∨ ((env.kindOf x = some .cell ∨ env.kindOf x = some .free) ∧ ∃ c, env.cells.lookup x = some c ∧ h.IsCell c (some u))
structure Cx.Ok (X : Cx) : Prop where
  mod : Mod X.K X.mg X.base
  kind : X.env.scope.kind = .function
  glob : X.env.globals = mainGlobals
  blt : X.env.builtins = builtinsNs
  above : X.s₀.heap.objs.size ≤ X.env.locals
  inj : ∀ x y c, X.env.cells.lookup x = some c → X.env.cells.lookup y = some c → x = y
  has : ∀ x, (X.env.kindOf x = some .cell ∨ X.env.kindOf x = some .free) → ∃ c, X.env.cells.lookup x = some c
  cab : ∀ x c, X.fn x = true → X.env.cells.lookup x = some c → X.s₀.heap.objs.size ≤ c
  hd : X.calm = true → X.A.handled = none
  frames : X.A.frames = some X.stack
  stk : X.stack = X.outer ∨ (X.stack = X.env :: X.outer ∧ X.env.frame = some X.env.locals)
  exf : ∀ b ∈ X.ex, b ≠ X.env.locals ∧ ∀ x c, X.env.cells.lookup x = some c → c ≠ b
  bs : ∀ b o, X.base.get? b = some o → X.s₀.heap.get? b = some o ∧ X.H₀ b = none
  bsz : X.base.objs.size ≤ X.s₀.heap.objs.size
  noex : ∀ b o, X.base.get? b = some o → b ∉ X.ex
  exfs : ∀ b ∈ X.ex, b ∉ X.fs
  funs : X.s₀.heap.FunFrames X.base X.outer
  frf : ∀ b ∈ X.fs, X.H₀ b = none
structure Inv (X : Cx) (pins : List (Addr × Obj)) (σ : List (Option V)) (H : Hp) (s : Shared) : Prop where
  ok : X.Ok
  os : s.os = X.s₀.os
  bare : AllBare s.gens
  base : Un X.fs X.ex X.H₀ H X.s₀.heap s.heap
  loc : ∃ m, s.heap.Ns X.env.locals m ∧ ∀ (i : Nat) (x : Str) (v : V), X.N[i]? = some x → σ[i]? = some (some v) → Vis X.env.scope x → ∃ u, RelV v u ∧ Look X.env s.heap m x u
  cell : ∀ x c, X.env.cells.lookup x = some c → ∃ v, s.heap.IsCell c v
  free : H X.env.locals = none
  freeC : ∀ x c, X.env.cells.lookup x = some c → H c = none
  pin : ∀ p ∈ X.pn ++ pins, s.heap.get? p.1 = some p.2 ∧ H p.1 = none ∧ p.1 ≠ X.env.locals ∧ p.1 ∉ X.fs ∧ ∀ v, p.2.data ≠ .cell v
  hok : HOk X.prog X.w H s.heap
  len : σ.length = X.N.length
section
variable {X : Cx} {pins : List (Addr × Obj)} {σ : List (Option V)} {H H' : Hp} {s : Shared} {h' : Heap}
theorem Cx.Ok.nofr (ok : X.Ok) {b : Addr} {o : Obj} (e : X.base.get? b = some o) : b ∉ X.fs := fun hb => by
  have := (ok.funs.mem hb).1
  rw [e] at this; cases this
theorem Inv.bs (I : Inv X pins σ H s) : ∀ b o, X.base.get? b = some o → s.heap.get? b = some o ∧ H b = none := fun b o e =>
  ⟨I.base.keep b o (I.ok.bs b o e).1 (I.ok.bs b o e).2 (I.ok.nofr e) (I.ok.noex b o e), I.base.free b o (I.ok.bs b o e).1 (I.ok.bs b o e).2 (I.ok.noex b o e)⟩
theorem Inv.bk (I : Inv X pins σ H s) : ∀ b o, X.base.get? b = some o → s.heap.get? b = some o := fun b o e => (I.bs b o e).1
theorem Inv.mod (I : Inv X pins σ H s) : Mod X.K X.mg X.base := I.ok.mod
theorem Inv.kIn (I : Inv X pins σ H s) : X.K.In s.heap := I.ok.mod.kin.keeps I.bk
theorem Inv.lt (I : Inv X pins σ H s) : X.env.locals < s.heap.objs.size := let ⟨_, hn, _⟩ := I.loc; hn.lt
theorem Inv.sz (I : Inv X pins σ H s) : X.s₀.heap.objs.size ≤ s.heap.objs.size := Nat.le_trans I.ok.above (Nat.le_of_lt I.lt)
theorem Inv.nofs (I : Inv X pins σ H s) {a : Addr} (h : s.heap.objs.size ≤ a) : a ∉ X.fs := fun hb => by
  obtain ⟨_, o, ho, _⟩ := I.ok.funs.mem hb
  exact absurd (Nat.lt_of_lt_of_le (Heap.lt_size ho) (Nat.le_trans I.sz h)) (Nat.lt_irrefl _)
theorem Inv.cne (I : Inv X pins σ H s) : ∀ x c, X.env.cells.lookup x = some c → c ≠ X.env.locals := fun x c e z => by
  obtain ⟨v, o, ho, hd⟩ := I.cell x c e
  obtain ⟨m, ⟨o', es, ep, ho', hd', _⟩, _⟩ := I.loc
  rw [z, ho'] at ho; cases ho; rw [hd'] at hd; cases hd
theorem Inv.funs (I : Inv X pins σ H s) : s.heap.FunFrames X.base X.outer := by
  have all : ∀ (l : List Env), (∀ b ∈ frs l, b ∈ X.fs) → X.s₀.heap.FunFrames X.base l → s.heap.FunFrames X.base l := by
    intro l
    induction l with
    | nil => intro _ _; trivial
    | cons env r ih =>
      intro hs hl
      obtain ⟨hk, ⟨L, o, hf, hn, ho, hd⟩, hr⟩ := hl
      have hL : L ∈ X.fs := hs L (by unfold frs; rw [List.filterMap_cons, hf]; exact List.mem_cons_self)
      obtain ⟨sl, e⟩ := I.base.slot L o ho (I.ok.frf L hL) hL fun z => I.ok.exfs L z hL
      exact ⟨hk, ⟨L, _, hf, hn, e, hd⟩, ih (fun b hb => hs b (by unfold frs; rw [List.filterMap_cons, hf]; exact List.mem_cons_of_mem _ hb)) hr⟩
  exact all X.outer (fun _ hb => hb) I.ok.funs
theorem Inv.stack (I : Inv X pins σ H s) : s.heap.FunFrames X.base X.stack := by
  rcases I.ok.stk with e | ⟨e, hf⟩
  · rw [e]; exact I.funs
  · rw [e]
    obtain ⟨m, hn, _⟩ := I.loc
    refine .cons (by rw [I.ok.kind]; decide) hf hn ?_ I.funs
    exact Heap.get?_none_of_le (Nat.le_trans I.ok.bsz I.ok.above)
theorem Inv.stkSub (I : Inv X pins σ H s) : ∀ b ∈ frs X.stack, b ∈ X.env.locals :: X.fs := fun b hb => by
  rcases I.ok.stk with e | ⟨e, hf⟩
  · rw [e] at hb; exact List.mem_cons_of_mem _ hb
  · rw [e] at hb
    unfold frs at hb
    rw [List.filterMap_cons, hf] at hb
    exact hb
theorem Inv.stkFree (I : Inv X pins σ H s) : ∀ b ∈ frs X.stack, H b = none := fun b hb => by
  rcases List.mem_cons.mp (I.stkSub b hb) with e | hb
  · rw [e]; exact I.free
  · obtain ⟨_, o, ho, _⟩ := I.ok.funs.mem hb
    exact I.base.free b o ho (I.ok.frf b hb) fun z => I.ok.exfs b z hb
theorem Inv.step {g' : Array GenState} {t' : Nat} {d' : Drawn} {ch : List Addr} (I : Inv X pins σ H s)
    (hch : ∀ b ∈ ch, (b ∈ X.ex ∨ X.s₀.heap.get? b = none) ∧ b ≠ X.env.locals ∧ (∀ x c, X.env.cells.lookup x = some c → c ≠ b) ∧ ∀ p ∈ X.pn ++ pins, p.1 ≠ b)
    (keep : ∀ b o, b ≠ X.env.locals → b ∉ X.fs → b ∉ ch → s.heap.get? b = some o → H b = none → h'.get? b = some o)
    (slot : ∀ b o, b ≠ X.env.locals → b ∈ X.fs → b ∉ ch → s.heap.get? b = some o → H b = none → ∃ sl, h'.get? b = some { o with slots := sl }) (free : ∀ b o, b ∉ ch → s.heap.get? b = some o → H b = none → H' b = none)
    (there : ∀ b o, b ∉ ch → s.heap.get? b = some o → ∃ o', h'.get? b = some o')
    (tups : ∀ b xs, H b = some (.tup xs) → H' b = some (.tup xs)) (frzs : ∀ b o u, H b = some (.frz o u) → H' b = some (.frz o u)) (tbls : ∀ b ps, H b = some (.tbl ps) → ∃ more, H' b = some (.tbl (ps ++ more)))
    (ns : ∀ m, s.heap.Ns X.env.locals m → h'.Ns X.env.locals m) (hok : HOk X.prog X.w H' h') (hg : AllBare g') :
    Inv X pins σ H' { s with heap := h', gens := g', drawn := d', toks := t' } := by
  have neL : ∀ b o, X.s₀.heap.get? b = some o → b ≠ X.env.locals := fun b o e => Nat.ne_of_lt (Nat.lt_of_lt_of_le (Heap.lt_size e) I.ok.above)
  have neC : ∀ b o, X.s₀.heap.get? b = some o → b ∉ X.ex → b ∉ ch := fun b o e hx hb => by
    rcases (hch b hb).1 with z | z
    · exact hx z
    · rw [z] at e; cases e
  have cellK : ∀ x c, X.env.cells.lookup x = some c → ∀ v, s.heap.IsCell c v → h'.IsCell c v := fun x c e v ⟨o, ho, hd⟩ => by
    have nch : c ∉ ch := fun z => (hch c z).2.2.1 x c e rfl
    by_cases hc : c ∈ X.fs
    · obtain ⟨sl, q⟩ := slot c o (I.cne x c e) hc nch ho (I.freeC x c e)
      exact ⟨_, q, hd⟩
    · exact ⟨o, keep c o (I.cne x c e) hc nch ho (I.freeC x c e), hd⟩
  refine ⟨I.ok, I.os, hg, ⟨fun b o e n hb hx => ?_, fun b o e n hb hx => ?_, fun b o e n hx => ?_, fun b o e hx => ?_, fun b xs e => tups b xs (I.base.tups b xs e), fun b o xs e => frzs b o xs (I.base.frzs b o xs e), fun b ps e => ?_⟩, ?_, fun x c e => ?_, ?_, fun x c e => ?_, fun p hp => ?_, hok, I.len⟩
  · exact keep b o (neL b o e) hb (neC b o e hx) (I.base.keep b o e n hb hx) (I.base.free b o e n hx)
  · obtain ⟨sl, e1⟩ := I.base.slot b o e n hb hx
    obtain ⟨sl', e2⟩ := slot b _ (neL b o e) hb (neC b o e hx) e1 (I.base.free b o e n hx)
    exact ⟨sl', e2⟩
  · obtain ⟨o', e1⟩ := I.base.there b o e hx
    exact free b o' (neC b o e hx) e1 (I.base.free b o e n hx)
  · obtain ⟨o', e1⟩ := I.base.there b o e hx
    exact there b o' (neC b o e hx) e1
  · obtain ⟨m1, e1⟩ := I.base.tbls b ps e
    obtain ⟨m2, e2⟩ := tbls b _ e1
    exact ⟨m1 ++ m2, by rw [e2, Array.append_assoc]⟩
  · obtain ⟨m, hn, hl⟩ := I.loc
    refine ⟨m, ns m hn, fun i x v e1 e2 e3 => ?_⟩
    obtain ⟨u, r, l⟩ := hl i x v e1 e2 e3
    refine ⟨u, r, ?_⟩
    rcases l with l | ⟨k, c, e, z⟩
    · exact .inl l
    · exact .inr ⟨k, c, e, cellK x c e _ z⟩
  · obtain ⟨v, z⟩ := I.cell x c e
    exact ⟨v, cellK x c e v z⟩
  · obtain ⟨m, ⟨o, _, _, ho, _⟩, _⟩ := I.loc
    exact free _ o (fun z => (hch _ z).2.1 rfl) ho I.free
  · obtain ⟨v, o, ho, hd⟩ := I.cell x c e
    exact free c o (fun z => (hch c z).2.2.1 x c e rfl) ho (I.freeC x c e)
  · obtain ⟨e, n, ne, nf, d⟩ := I.pin p hp
    have nch : p.1 ∉ ch := fun z => (hch p.1 z).2.2.2 p hp rfl
    exact ⟨keep p.1 p.2 ne nf nch e n, free p.1 p.2 nch e n, ne, nf, d⟩
theorem Inv.un {t' : Nat} (I : Inv X pins σ H s) (u : Un X.fs [] H H' s.heap h') (hok : HOk X.prog X.w H' h') : Inv X pins σ H' { s with heap := h', toks := t' } := by
  obtain ⟨m, ⟨o, es, ep, ho, r⟩, _⟩ := id I.loc
  obtain ⟨sl, hL⟩ := u.any ho I.free (by simp)
  exact I.step (g' := s.gens) (d' := s.drawn) (ch := []) (fun _ z => nomatch z) (fun b o _ hb _ e n => u.keep b o e n hb (by simp)) (fun b o _ hb _ e n => u.slot b o e n hb (by simp)) (fun b o _ e n => u.free b o e n (by simp)) (fun b o _ e => u.there b o e (by simp)) u.tups u.frzs u.tbls (fun m' hm => by
    obtain ⟨o', es', ep', ho', r'⟩ := hm
    rw [ho] at ho'; cases ho'
    exact ⟨_, es', ep', hL, r'⟩) hok I.bare
theorem Inv.call {g' : Array GenState} {t' : Nat} {d' : Drawn} {ch : List Addr} (I : Inv X pins σ H s) (u : Un (frs X.stack) ch H H' s.heap h') (hok : HOk X.prog X.w H' h') (hg : AllBare g')
    (hch : ∀ b ∈ ch, (b ∈ X.ex ∨ X.s₀.heap.get? b = none) ∧ b ≠ X.env.locals ∧ (∀ x c, X.env.cells.lookup x = some c → c ≠ b) ∧ ∀ p ∈ X.pn ++ pins, p.1 ≠ b) :
    Inv X pins σ H' { s with heap := h', gens := g', drawn := d', toks := t' } := by
  obtain ⟨m, ⟨o, es, ep, ho, r⟩, _⟩ := id I.loc
  obtain ⟨sl, hL⟩ := u.any ho I.free fun z => (hch _ z).2.1 rfl
  exact I.step (ch := ch) hch (fun b o hL hb hc e n => u.keep b o e n (fun z => (List.mem_cons.mp (I.stkSub b z)).elim hL hb) hc) (fun b o _ _ hc e n => u.any e n hc) (fun b o hc e n => u.free b o e n hc) (fun b o hc e => u.there b o e hc) u.tups u.frzs u.tbls (fun m' hm => by
    obtain ⟨o', es', ep', ho', r'⟩ := hm
    rw [ho] at ho'; cases ho'
    exact ⟨_, es', ep', hL, r'⟩) hok hg
theorem Inv.turned {t' : Nat} {it : Addr} (I : Inv X pins σ H s) (k : ∀ b o, b ≠ it → s.heap.get? b = some o → h'.get? b = some o) (hn : H it = none) (hL : it ≠ X.env.locals)
    (h1 : it ∈ X.ex ∨ X.s₀.heap.get? it = none) (h2 : ∀ x c, X.env.cells.lookup x = some c → c ≠ it) (h3 : ∀ p ∈ X.pn ++ pins, p.1 ≠ it) : Inv X pins σ H { s with heap := h', toks := t' } := by
  have nit : ∀ b u, H b = some u → b ≠ it := fun b u e z => by rw [z, hn] at e; cases e
  refine I.step (g' := s.gens) (d' := s.drawn) (ch := [it]) (fun b hb => ?_) (fun b o _ _ hc e _ => k b o (fun z => hc (by simp [z])) e) (fun b o _ _ hc e _ => ⟨o.slots, k b o (fun z => hc (by simp [z])) e⟩) (fun _ _ _ _ n => n)
    (fun b o hc e => ⟨o, k b o (fun z => hc (by simp [z])) e⟩) (fun _ _ e => e) (fun _ _ _ e => e) (fun b ps e => ⟨#[], by rw [e]; simp⟩) (fun m hm => ?_) (fun b u e => ?_) I.bare
  · have e : b = it := by simpa using hb
    subst e
    exact ⟨h1, hL, h2, h3⟩
  · obtain ⟨o, es, ep, ho, r⟩ := hm
    exact ⟨o, es, ep, k _ o (Ne.symm hL) ho, r⟩
  · refine (I.hok b u e).stay (fun c v hc q => k c v ?_ q) (fun _ q => q) fun _ _ q => q
    rcases hc with z | z
    · rw [z]; exact nit b u e
    · exact nit c _ z
theorem Inv.tok (I : Inv X pins σ H s) (t : Nat) : Inv X pins σ H { s with toks := t } := I.un (h' := s.heap) (t' := t) Un.refl I.hok
theorem Inv.kept {t' : Nat} (I : Inv X pins σ H s) (k : ∀ b u, s.heap.get? b = some u → h'.get? b = some u) : Inv X pins σ H { s with heap := h', toks := t' } := I.un (Un.kept k) (I.hok.kept k)
theorem Inv.laid {a : Addr} {o : HO} {t' : Nat} (I : Inv X pins σ H s) (k : ∀ b u, s.heap.get? b = some u → h'.get? b = some u) (hp : s.heap.objs.size ≤ a) (new : ObjOk X.prog X.w (upd H a o) h' a o) :
    Inv X pins σ (upd H a o) { s with heap := h', toks := t' } := I.un (Un.laid k hp (I.hok.fresh hp)) (I.hok.laid k hp new)
theorem Inv.write {x e : Addr} {o : HO} {t' : Nat} (I : Inv X pins σ H s) (mu : Mut (H x)) (he : e = x ∨ H e = some (.own x)) (k : ∀ b u, b ≠ e → s.heap.get? b = some u → h'.get? b = some u) (heo : ∃ u, h'.get? e = some u)
    (new : ObjOk X.prog X.w (upd H x o) h' x o) : Inv X pins σ (upd H x o) { s with heap := h', toks := t' } := I.un (Un.write mu he k heo) (I.hok.write mu he k heo new)
theorem Inv.pins_of {pins' : List (Addr × Obj)} (I : Inv X pins σ H s) (h : ∀ p ∈ pins', s.heap.get? p.1 = some p.2 ∧ H p.1 = none ∧ p.1 ≠ X.env.locals ∧ p.1 ∉ X.fs ∧ ∀ v, p.2.data ≠ .cell v) : Inv X pins' σ H s :=
  ⟨I.ok, I.os, I.bare, I.base, I.loc, I.cell, I.free, I.freeC, fun p hp => (List.mem_append.mp hp).elim (fun z => I.pin p (List.mem_append_left _ z)) (h p), I.hok, I.len⟩
theorem nodup_ix {N : List Str} (hN : N.Nodup) {i j : Nat} {x : Str} (a : N[i]? = some x) (b : N[j]? = some x) : i = j := by
  obtain ⟨h1, e1⟩ := List.getElem?_eq_some_iff.mp a
  obtain ⟨h2, e2⟩ := List.getElem?_eq_some_iff.mp b
  exact (List.getElem_inj hN).mp (e1.trans e2.symm)
theorem store_ok2 {M : Model} {A : Around} {E : Value → Shared → Prop} {i : Nat} {x : Str} {v : V} {u : Value} {Q : Unit → Shared → Prop} (I : Inv X pins σ H s) (hN : X.N.Nodup) (hi : X.N[i]? = some x) (hx : Loc X.env.scope x) (r : RelV v u)
    (h : ∀ s', Inv X pins (σ.set i (some v)) H s' → (∃ a, Heap.SameBut a s.heap s'.heap ∧ (a = X.env.locals ∨ X.env.cells.lookup x = some a)) → Q () s') (hf : X.fn x = true ∨ X.env.scope.names.lookup x = some .local := by first | exact .inl rfl | exact .inr rfl | assumption) : wpAny M A (storeName X.env x u) Q E s := by
  obtain ⟨m, hn, hl⟩ := id I.loc
  have hcls : (X.env.scope.kind == .class || (X.env.scope.kind == .module && X.env.locals != X.env.globals)) = false := by rw [I.ok.kind]; rfl
  have hiσ : i < σ.length := by rw [I.len]; exact (List.getElem?_eq_some_iff.mp hi).1
  have cne := I.cne
  have tracked : ∀ {a : Addr} {h' : Heap}, (∃ o, s.heap.get? a = some o ∧ H a = none) → Heap.SameBut a s.heap h' → HOk X.prog X.w H h' := fun {a h'} ha hs b ob e => by
    obtain ⟨_, _, hfree⟩ := ha
    refine (I.hok b ob e).stay (fun c w' hc q => (hs.2 c ?_).trans q) (fun _ q => q) fun _ _ q => q
    rintro rfl
    rcases hc with rfl | hc
    · rw [hfree] at e; cases e
    · rw [hfree] at hc; cases hc
  rcases hx with hk | hk
  · refine wpAny_storeName_local hk hn (fun h' hn' hs => ?_) hcls
    obtain ⟨oL, _, _, hoL, _⟩ := id hn
    refine h _ ⟨I.ok, I.os, I.bare, ⟨fun b o e n hb hx => ?_, fun b o e n hb hx => ?_, I.base.free, fun b o e hx => ?_, I.base.tups, I.base.frzs, I.base.tbls⟩, ⟨_, hn', fun j y v' e1 e2 e3 => ?_⟩, fun y c e => ?_, I.free, I.freeC, fun p hp => ?_, tracked ⟨oL, hoL, I.free⟩ hs, by simpa using I.len⟩ ⟨_, hs, .inl rfl⟩
    · exact (hs.2 b (Nat.ne_of_lt (Nat.lt_of_lt_of_le (Heap.lt_size e) I.ok.above))).trans (I.base.keep b o e n hb hx)
    · obtain ⟨sl, e1⟩ := I.base.slot b o e n hb hx
      exact ⟨sl, (hs.2 b (Nat.ne_of_lt (Nat.lt_of_lt_of_le (Heap.lt_size e) I.ok.above))).trans e1⟩
    · obtain ⟨o', e1⟩ := I.base.there b o e hx
      exact ⟨o', (hs.2 b (Nat.ne_of_lt (Nat.lt_of_lt_of_le (Heap.lt_size e) I.ok.above))).trans e1⟩
    · by_cases hj : j = i
      · subst hj
        rw [hi] at e1; cases e1
        rw [List.getElem?_set_self hiσ] at e2
        cases e2
        exact ⟨u, r, .inl ⟨hk, by simp⟩⟩
      · rw [List.getElem?_set_ne (Ne.symm hj)] at e2
        obtain ⟨u', r', q⟩ := hl j y v' e1 e2 e3
        refine ⟨u', r', ?_⟩
        rcases q with ⟨k, e⟩ | ⟨k, c, e, z⟩
        · refine .inl ⟨k, ?_⟩
          have : y ≠ x := fun e => hj (nodup_ix hN e1 (e ▸ hi))
          simp [this, e]
        · exact .inr ⟨k, c, e, z.sameBut hs (cne y c e)⟩
    · obtain ⟨w', z⟩ := I.cell y c e
      exact ⟨w', z.sameBut hs (cne y c e)⟩
    · obtain ⟨e, n, ne, nf, d⟩ := I.pin p hp
      exact ⟨(hs.2 p.1 ne).trans e, n, ne, nf, d⟩
  · have hfn : X.fn x = true := by
      rcases hf with z | z
      · exact z
      · rw [z] at hk; cases hk
    obtain ⟨c, hc⟩ := I.ok.has x (.inl hk)
    obtain ⟨w', z⟩ := I.cell x c hc
    refine wpAny_storeName_cell I.ok.kind hk hc z (fun h' hc' hs => ?_)
    obtain ⟨oc, hoc, hocd⟩ := id z
    refine h { s with heap := h' } ⟨I.ok, I.os, I.bare, ⟨fun b o e n hb hx => ?_, fun b o e n hb hx => ?_, I.base.free, fun b o e hx => ?_, I.base.tups, I.base.frzs, I.base.tbls⟩, ⟨m, hn.sameBut hs (Ne.symm (cne x c hc)), fun j y v' e1 e2 e3 => ?_⟩, fun y c' e => ?_, I.free, I.freeC, fun p hp => ?_, tracked ⟨oc, hoc, I.freeC x c hc⟩ hs, by simpa using I.len⟩ ⟨c, hs, .inr hc⟩
    · exact (hs.2 b (Nat.ne_of_lt (Nat.lt_of_lt_of_le (Heap.lt_size e) (I.ok.cab x c hfn hc)))).trans (I.base.keep b o e n hb hx)
    · obtain ⟨sl, e1⟩ := I.base.slot b o e n hb hx
      exact ⟨sl, (hs.2 b (Nat.ne_of_lt (Nat.lt_of_lt_of_le (Heap.lt_size e) (I.ok.cab x c hfn hc)))).trans e1⟩
    · obtain ⟨o', e1⟩ := I.base.there b o e hx
      exact ⟨o', (hs.2 b (Nat.ne_of_lt (Nat.lt_of_lt_of_le (Heap.lt_size e) (I.ok.cab x c hfn hc)))).trans e1⟩
    · by_cases hj : j = i
      · subst hj
        rw [hi] at e1; cases e1
        rw [List.getElem?_set_self hiσ] at e2
        cases e2
        exact ⟨u, r, .inr ⟨.inl hk, c, hc, hc'⟩⟩
      · rw [List.getElem?_set_ne (Ne.symm hj)] at e2
        obtain ⟨u', r', q⟩ := hl j y v' e1 e2 e3
        refine ⟨u', r', ?_⟩
        rcases q with q | ⟨k, c', e, z'⟩
        · exact .inl q
        · refine .inr ⟨k, c', e, z'.sameBut hs ?_⟩
          rintro rfl
          exact hj (nodup_ix hN e1 (I.ok.inj _ _ _ e hc ▸ hi))
    · by_cases hcc : c' = c
      · subst hcc; exact ⟨_, hc'⟩
      · obtain ⟨w2, z2⟩ := I.cell y c' e
        exact ⟨w2, z2.sameBut hs hcc⟩
    · obtain ⟨e, n, ne, nf, d⟩ := I.pin p hp
      refine ⟨(hs.2 p.1 ?_).trans e, n, ne, nf, d⟩
      intro q
      rw [q, hoc] at e
      have q' : oc = p.2 := Option.some.inj e
      exact d w' (by rw [← q']; exact hocd)
theorem store_ok {M : Model} {A : Around} {E : Value → Shared → Prop} {i : Nat} {x : Str} {v : V} {u : Value} {Q : Unit → Shared → Prop} (I : Inv X pins σ H s) (hN : X.N.Nodup) (hi : X.N[i]? = some x) (hx : Loc X.env.scope x) (r : RelV v u)
    (h : ∀ s', Inv X pins (σ.set i (some v)) H s' → Q () s') (hf : X.fn x = true ∨ X.env.scope.names.lookup x = some .local := by first | exact .inl rfl | exact .inr rfl | assumption) : wpAny M A (storeName X.env x u) Q E s :=
  store_ok2 I hN hi hx r (fun s' I' _ => h s' I') hf
theorem Inv.call' {s' : Shared} {ch : List Addr} (I : Inv X pins σ H s) (ho : s'.os = s.os) (u : Un (frs X.stack) ch H H' s.heap s'.heap) (hok : HOk X.prog X.w H' s'.heap) (hg : AllBare s'.gens)
    (hch : ∀ b ∈ ch, (b ∈ X.ex ∨ X.s₀.heap.get? b = none) ∧ b ≠ X.env.locals ∧ (∀ x c, X.env.cells.lookup x = some c → c ≠ b) ∧ ∀ p ∈ X.pn ++ pins, p.1 ≠ b) : Inv X pins σ H' s' := by
  obtain ⟨h', g', d', t', o'⟩ := s'
  have e : o' = s.os := ho
  subst e
  exact I.call (g' := g') (t' := t') (d' := d') u hok hg hch
end
abbrev XK := Value → Option Addr → Hp → Prop
abbrev St := List (Option V)
abbrev VK := V → Hp → Prop
abbrev TE := St → Hp → VK → Prop
abbrev TT := St → Hp → (Bool → Hp → Prop) → Prop
abbrev TA := St → Hp → (List V → Hp → Prop) → Prop
structure Ends where
  nx : St → Hp → Prop
  rt : VK
  bk : St → Hp → Prop := fun _ _ => False
  ct : St → Hp → Prop := fun _ _ => False
abbrev TS := Ends → St → Hp → Prop
def EP (X : Cx) (pins : List (Addr × Obj)) (σ : St) (Q : VK) (u : Value) (s' : Shared) : Prop := ∃ v H', Inv X pins σ H' s' ∧ RelV v u ∧ Q v H'
def TP (X : Cx) (pins : List (Addr × Obj)) (σ : St) (Q : Bool → Hp → Prop) (b : Bool) (s' : Shared) : Prop := ∃ H', Inv X pins σ H' s' ∧ Q b H'
def AP (X : Cx) (pins : List (Addr × Obj)) (σ : St) (Q : List V → Hp → Prop) (us : List Value) (s' : Shared) : Prop := ∃ vs H', Inv X pins σ H' s' ∧ Vals vs us ∧ Q vs H'
def SP (X : Cx) (pins : List (Addr × Obj)) (D : Ends) (f : Flow) (s' : Shared) : Prop :=
  match f with
  | .next => ∃ σ' H', Inv X pins σ' H' s' ∧ D.nx σ' H'
  | .brk => ∃ σ' H', Inv X pins σ' H' s' ∧ D.bk σ' H'
  | .cont => ∃ σ' H', Inv X pins σ' H' s' ∧ D.ct σ' H'
  | .ret u => ∃ v σ' H', Inv X pins σ' H' s' ∧ RelV v u ∧ D.rt v H'
def PE (X : Cx) (e : Expr) (t : TE) : Prop :=
  ∀ (pins : List (Addr × Obj)) (s : Shared) (σ : St) (H : Hp) (Q : VK), Inv X pins σ H s → t σ H Q → wpAny (model X.prog X.w) X.A (eval e X.env) (EP X pins σ Q) X.xe s
def PT (X : Cx) (e : Expr) (t : TT) : Prop :=
  ∀ (pins : List (Addr × Obj)) (s : Shared) (σ : St) (H : Hp) (Q : Bool → Hp → Prop), Inv X pins σ H s → t σ H Q → wpAny (model X.prog X.w) X.A (isTrue e X.env (eval e X.env)) (TP X pins σ Q) X.xe s
def PW (X : Cx) (e : Expr) (t : TT) : Prop :=
  ∀ (whole : Sem Value) (pins : List (Addr × Obj)) (s : Shared) (σ : St) (H : Hp) (Q : Bool → Hp → Prop), Inv X pins σ H s → t σ H Q → wpAny (model X.prog X.w) X.A (isTrue e X.env whole) (TP X pins σ Q) X.xe s
theorem PW.pt {X : Cx} {e : Expr} {t : TT} (h : PW X e t) : PT X e t := h _
def PA (X : Cx) (es : List Expr) (t : TA) : Prop :=
  ∀ (pos : Pos) (pins : List (Addr × Obj)) (s : Shared) (σ : St) (H : Hp) (Q : List V → Hp → Prop), Inv X pins σ H s → t σ H Q → wpAny (model X.prog X.w) X.A (spliced (backTo pos (starEach es X.env))) (AP X pins σ Q) X.xe s
def PS (X : Cx) (st : Stmt) (t : TS) : Prop :=
  ∀ (pins : List (Addr × Obj)) (s : Shared) (σ : St) (H : Hp) (D : Ends), Inv X pins σ H s → t D σ H → wpAny (model X.prog X.w) X.A (exec st X.env) (SP X pins D) X.xe s
def PSs (X : Cx) (st : List Stmt) (t : TS) : Prop :=
  ∀ (pins : List (Addr × Obj)) (s : Shared) (σ : St) (H : Hp) (D : Ends), Inv X pins σ H s → t D σ H → wpAny (model X.prog X.w) X.A (execs st X.env) (SP X pins D) X.xe s
theorem thn {α : Type} {t : Sem α} {Q Q' : α → Shared → Prop} {M : Model} {A : Around} {E : Value → Shared → Prop} {s : Shared} (h : wpAny M A t Q E s) (hQ : ∀ a s, Q a s → Q' a s) : wpAny M A t Q' E s := wpAny_mono h hQ fun _ _ x => x
end L2
namespace L2
open PySem PySem.Spec PyProof.Rows
section
variable {X : Cx}
theorem bin {a b : Expr} {ta tb : TE} (ha : PE X a ta) (hb : PE X b tb) {pins : List (Addr × Obj)} {s : Shared} {σ : St} {H : Hp} {R : V → V → Hp → Prop} (I : Inv X pins σ H s) (h : ta σ H fun x H1 => tb σ H1 fun y H2 => R x y H2)
    {α : Type} {Q : α → Shared → Prop} {f : Value → Value → Sem α}
    (hf : ∀ v u s2 x y H2, Inv X pins σ H2 s2 → RelV x v → RelV y u → R x y H2 → wpAny (model X.prog X.w) X.A (f v u) Q X.xe s2) :
    wpAny (model X.prog X.w) X.A (eval a X.env) (fun v s₁ => wpAny (model X.prog X.w) X.A (eval b X.env) (fun u s₂ => wpAny (model X.prog X.w) X.A (f v u) Q X.xe s₂) X.xe s₁) X.xe s := by
  refine thn (ha pins s σ H _ I h) fun v s1 ⟨x, H1, I1, r1, q1⟩ => ?_
  refine thn (hb pins s1 σ H1 _ I1 q1) fun u s2 ⟨y, H2, I2, r2, q2⟩ => ?_
  exact hf v u s2 x y H2 I2 r1 r2 q2
def tVar (i : Nat) : TE := fun σ H Q => ∃ v, σ[i]? = some (some v) ∧ Q v H
def tC (v : V) : TE := fun _ H Q => Q v H
theorem pe_var {i : Nat} {x : Str} {pos : Pos} (hN : X.N[i]? = some x) (hv : Vis X.env.scope x) (hd : (x == ("__debug__" : Str)) = false := by decide) (hcd : (x == ("__classdict__" : Str)) = false := by decide) : PE X (.Name x pos) (tVar i) := by
  intro pins s σ H Q I h
  obtain ⟨v, e, h⟩ := h
  obtain ⟨m, hn, hl⟩ := I.loc
  obtain ⟨u, r, l⟩ := hl i x v hN e hv
  have fin : EP X pins σ Q u s := ⟨v, H, I, r, h⟩
  rcases l with ⟨hk, hm⟩ | ⟨hk, c, hc, hcell⟩
  · exact wpAny_Name (wpAny_loadName_local I.ok.kind hk hn hm fin) hd
  · rcases hk with hk | hk
    · exact wpAny_Name (wpAny_loadName_cell I.ok.kind hk hc hcell fin) hd
    · exact wpAny_Name (wpAny_loadName_free I.ok.kind hk hc hcell fin hcd) hd
theorem pe_int {i j pos} : PE X (.Constant (.int i) j pos) (tC (.int i)) := fun _ _ _ H _ I h => wpAny_Constant_int ⟨.int i, H, I.tok _, ⟨_, rfl⟩, h⟩
theorem pe_bl {b j pos} : PE X (.Constant (.bool b) j pos) (tC (.bl b)) := fun _ _ _ H _ I h => Constant_bool ⟨.bl b, H, I, rfl, h⟩
theorem pe_str {x j pos} : PE X (.Constant (.str x) j pos) (tC (.str x)) := fun _ _ _ H _ I h => Calls.Constant_str ⟨.str x, H, I.tok _, ⟨_, rfl⟩, h⟩
def Gl (X : Cx) (x : Str) : Prop := X.env.kindOf x = some .globalImplicit
theorem ld_glob {E : Value → Shared → Prop} {pins : List (Addr × Obj)} {s : Shared} {σ : St} {H : Hp} {x : Str} {u : Value} {pos : Pos} {Q : Value → Shared → Prop} (I : Inv X pins σ H s) (hg : Gl X x) (hm : X.mg x = some u) (h : Q u s)
    (hd : (x == ("__debug__" : Str)) = false := by decide) : wpAny (model X.prog X.w) X.A (eval (.Name x pos) X.env) Q E s :=
  Calls.Name_function_global I.ok.kind hg (Calls.loadGlobal_global (by rw [I.ok.glob]; exact I.mod.glob.keeps I.bk) hm h) hd
theorem ld_blt {E : Value → Shared → Prop} {pins : List (Addr × Obj)} {s : Shared} {σ : St} {H : Hp} {x : Str} {u : Value} {pos : Pos} {Q : Value → Shared → Prop} (I : Inv X pins σ H s) (hg : Gl X x) (hm : X.mg x = none) (hv : bootBuiltins x = some u) (h : Q u s)
    (hn : x ≠ "__name__" := by decide) (hd : (x == ("__debug__" : Str)) = false := by decide) : wpAny (model X.prog X.w) X.A (eval (.Name x pos) X.env) Q E s := by
  obtain ⟨mb, h1, h2⟩ := I.mod.blt
  exact Calls.Name_function_global I.ok.kind hg (Calls.loadGlobal_builtin (by rw [I.ok.glob]; exact I.mod.glob.keeps I.bk) hm (by rw [I.ok.blt]; exact h1.keeps I.bk) ((h2 x hn).trans hv) h) hd
theorem pe_glob {x : Str} {v : V} {u : Value} {pos : Pos} (hg : Gl X x) (hm : X.mg x = some u) (r : RelV v u) (hd : (x == ("__debug__" : Str)) = false := by decide) : PE X (.Name x pos) (tC v) :=
  fun _ _ _ H _ I h => ld_glob I hg hm ⟨v, H, I, r, h⟩ hd
theorem pe_bltn {x : Str} {v : V} {u : Value} {pos : Pos} (hg : Gl X x) (hm : X.mg x = none) (hv : bootBuiltins x = some u) (r : RelV v u) (hn : x ≠ "__name__" := by decide) (hd : (x == ("__debug__" : Str)) = false := by decide) : PE X (.Name x pos) (tC v) :=
  fun _ _ _ H _ I h => ld_blt I hg hm hv ⟨v, H, I, r, h⟩ hn hd
variable {a b : Expr} {ta tb : TE} {pos : Pos}
def PC (X : Cx) (op : CmpOp) (a b : Expr) (t : TE) : Prop :=
  ∀ (pins : List (Addr × Obj)) (s : Shared) (σ : St) (H : Hp) (Q : VK), Inv X pins σ H s → t σ H Q →
    wpAny (model X.prog X.w) X.A (eval a X.env) (fun v s₁ => wpAny (model X.prog X.w) X.A (eval b X.env) (fun u s₂ => wpAny (model X.prog X.w) X.A (compareOp op v u) (EP X pins σ Q) X.xe s₂) X.xe s₁) X.xe s
def tB (t : TE) : TT := fun σ H Q => t σ H fun x H1 => ∃ c, x = .bl c ∧ Q c H1
theorem pt_cmp {op : CmpOp} {t : TE} (h : PC X op a b t) (h1 : behindInMarks op b = false := by first | exact nobehind _ (by decide) (by decide) | rfl) : PT X (.Compare a [op] [b] pos) (tB t) := by
  intro pins s σ H Q I hw
  refine wpAny_isTrue_Compare1 (thn (h pins s σ H _ I hw) fun v s1 h1 => thn h1 fun u s2 h2 => thn h2 fun c s3 ⟨x, H1, I1, r1, q1⟩ => ?_) h1
  obtain ⟨d, rfl, q⟩ := q1
  cases r1
  exact wpAny_truthy_bool ⟨H1, I1, q⟩
theorem pt_val {e : Expr} {t : TE} (h : PE X e t) (he : ∀ whole, isTrue e X.env whole = (do let v ← whole; standAt e.pos; holding [v] (truthy v)) := by intro _; rfl) : PT X e (tB t) := by
  intro pins s σ H Q I hw
  refine isTrue_plain (thn (h pins s σ H _ I hw) fun v s1 ⟨x, H1, I1, r1, q1⟩ => ?_) (he _)
  obtain ⟨d, rfl, q⟩ := q1
  cases r1
  exact wpAny_truthy_bool ⟨H1, I1, q⟩
variable {tA tB' : TT} {rest : List Expr}
def tAnd (t u : TT) : TT := fun σ H Q => t σ H fun c H1 => if c = true then u σ H1 Q else Q false H1
def tOr (t u : TT) : TT := fun σ H Q => t σ H fun c H1 => if c = true then Q true H1 else u σ H1 Q
def tNot (t : TT) : TT := fun σ H Q => t σ H fun c H1 => Q (!c) H1
theorem pw_and1 (ha : PT X a tA) : PW X (.BoolOp .And [a] pos) tA := by
  intro wh pins s σ H Q I h
  refine isTrue_and (thn (ha pins s σ H Q I h) fun c s1 e => ?_)
  cases c with
  | true => exact isTrue_and_nil e
  | false => exact e
theorem pw_or1 (ha : PT X a tA) : PW X (.BoolOp .Or [a] pos) tA := by
  intro wh pins s σ H Q I h
  refine isTrue_or (thn (ha pins s σ H Q I h) fun c s1 e => ?_)
  cases c with
  | false => exact isTrue_or_nil e
  | true => exact e
theorem pw_and (ha : PT X a tA) (hb : PW X (.BoolOp .And (b :: rest) pos) tB') : PW X (.BoolOp .And (a :: b :: rest) pos) (tAnd tA tB') := by
  intro wh pins s σ H Q I h
  refine isTrue_and (thn (ha pins s σ H _ I h) fun c s1 ⟨H1, I1, q1⟩ => ?_)
  cases c with
  | true => exact hb wh pins s1 σ H1 Q I1 q1
  | false => exact ⟨H1, I1, q1⟩
theorem pw_or (ha : PT X a tA) (hb : PW X (.BoolOp .Or (b :: rest) pos) tB') : PW X (.BoolOp .Or (a :: b :: rest) pos) (tOr tA tB') := by
  intro wh pins s σ H Q I h
  refine isTrue_or (thn (ha pins s σ H _ I h) fun c s1 ⟨H1, I1, q1⟩ => ?_)
  cases c with
  | true => exact ⟨H1, I1, q1⟩
  | false => exact hb wh pins s1 σ H1 Q I1 q1
theorem pt_not (ha : PT X a tA) : PT X (.UnaryOp .Not a pos) (tNot tA) := by
  intro pins s σ H Q I h
  exact isTrue_not (ha pins s σ H (fun c H1 => Q (!c) H1) I h)
def tAndV (ta tb : TE) : TE := fun σ H Q => ta σ H fun x H1 => ∃ c, x = .bl c ∧ if c = true then tb σ H1 Q else Q (.bl false) H1
def tOrV (ta tb : TE) : TE := fun σ H Q => ta σ H fun x H1 => ∃ c, x = .bl c ∧ if c = true then Q (.bl true) H1 else tb σ H1 Q
def tNotV (ta : TE) : TE := fun σ H Q => ta σ H fun x H1 => ∃ c, x = .bl c ∧ Q (.bl (!c)) H1
theorem pe_one {op} {t : TE} (h : PE X a t) : PE X (.BoolOp op [a] pos) t := fun pins s σ H Q I hw => BoolOp_one (h pins s σ H Q I hw)
theorem pe_and (ha : PE X a ta) (hb : PE X (.BoolOp .And (b :: rest) pos) tb) : PE X (.BoolOp .And (a :: b :: rest) pos) (tAndV ta tb) := by
  intro pins s σ H Q I h
  refine BoolOp_and (thn (ha pins s σ H _ I h) fun v s1 ⟨x, H1, I1, r1, q1⟩ => ?_)
  obtain ⟨c, rfl, q1⟩ := q1
  cases r1
  refine wpAny_truthy_bool ?_
  cases c with
  | true => exact hb pins s1 σ H1 Q I1 q1
  | false => exact ⟨.bl false, H1, I1, rfl, q1⟩
theorem pe_or (ha : PE X a ta) (hb : PE X (.BoolOp .Or (b :: rest) pos) tb) : PE X (.BoolOp .Or (a :: b :: rest) pos) (tOrV ta tb) := by
  intro pins s σ H Q I h
  refine BoolOp_or (thn (ha pins s σ H _ I h) fun v s1 ⟨x, H1, I1, r1, q1⟩ => ?_)
  obtain ⟨c, rfl, q1⟩ := q1
  cases r1
  refine wpAny_truthy_bool ?_
  cases c with
  | false => exact hb pins s1 σ H1 Q I1 q1
  | true => exact ⟨.bl true, H1, I1, rfl, q1⟩
theorem pe_not (ha : PE X a ta) : PE X (.UnaryOp .Not a pos) (tNotV ta) := by
  intro pins s σ H Q I h
  refine UnaryOp_ (thn (ha pins s σ H _ I h) fun v s1 ⟨x, H1, I1, r1, q1⟩ => ?_)
  obtain ⟨c, rfl, q1⟩ := q1
  cases r1
  exact not_of (wpAny_truthy_bool ⟨.bl (!c), H1, I1, rfl, q1⟩)
def tIf (t : TT) (ta tb : TE) : TE := fun σ H Q => t σ H fun c H1 => if c = true then ta σ H1 Q else tb σ H1 Q
theorem pe_ifExp {c : Expr} (hc : PT X c tA) (ha : PE X a ta) (hb : PE X b tb) : PE X (.IfExp c a b pos) (tIf tA ta tb) := by
  intro pins s σ H Q I h
  refine wpAny_IfExp (thn (hc pins s σ H _ I h) fun d s1 ⟨H1, I1, q1⟩ => ?_)
  cases d with
  | true => exact ha pins s1 σ H1 Q I1 q1
  | false => exact hb pins s1 σ H1 Q I1 q1
end
end L2
namespace L2
open PySem PySem.Spec PyProof.Rows
def SqL (K : PySem.W.Frag) (H : Hp) (a : Addr) (xs : List V) : Prop :=
  Rd H a (.lst xs) ∨
    ∃ (o : Obj) (its : Array Value) (n : Nat), K.lookup a = some o ∧ o.cls = .type "list" ∧ o.dict = none ∧ o.data = .seq its n ∧ its.size ≤ sizeLine ∧ Vals xs its.toList
def SqT (K : PySem.W.Frag) (H : Hp) (a : Addr) (xs : List V) : Prop :=
  Rd H a (.tup xs) ∨
    ∃ (o : Obj) (its : Array Value) (n : Nat), K.lookup a = some o ∧ o.cls = .type "tuple" ∧ o.data = .seq its n ∧ its.size ≤ sizeLine ∧ Vals xs its.toList
def absV : Value → Option V
  | .none => some .non
  | .bool b => some (.bl b)
  | .int i _ => some (.int i)
  | .str x _ => some (.str x)
  | .bytes b _ => some (.byt b)
  | .float b _ => some (.flt b)
  | .ref a => some (.ref a)
  | .type n => some (.ty n)
  | _ => none
theorem RelV.abs {x : V} {u : Value} (r : RelV x u) : absV u = some x := by
  cases x with
  | non => cases r; rfl
  | bl _ => cases r; rfl
  | int _ => obtain ⟨t, rfl⟩ := r; rfl
  | str _ => obtain ⟨t, rfl⟩ := r; rfl
  | byt _ => obtain ⟨t, rfl⟩ := r; rfl
  | flt _ => obtain ⟨t, rfl⟩ := r; rfl
  | ref _ => cases r; rfl
  | ty _ => cases r; rfl
theorem RelV.inj {x y : V} {u : Value} (r : RelV x u) (q : RelV y u) : x = y := Option.some.inj (r.abs.symm.trans q.abs)
theorem Vals.inj : ∀ {xs ys : List V} {us : List Value}, Vals xs us → Vals ys us → xs = ys
  | _, _, _, .nil, .nil => rfl
  | _, _, _, .cons r t, .cons r' t' => by rw [r.inj r', Vals.inj t t']
section
variable {X : Cx} {pins : List (Addr × Obj)} {σ : St} {H : Hp} {s : Shared} {a : Addr} {xs ys : List V}
theorem Inv.list (I : Inv X pins σ H s) (h : SqL X.K H a xs) : ∃ its : List Value, Vals xs its ∧ PlainL s.heap a its.toArray ∧ xs.length ≤ sizeLine := by
  rcases h with h | ⟨o, its, n, hk, hc, hd, hs, hz, r⟩
  · obtain ⟨z, its, n, r, e⟩ := h.ok I.hok
    exact ⟨its, r, ⟨_, n, e, rfl, rfl, rfl⟩, z⟩
  · refine ⟨its.toList, r, ⟨o, n, I.kIn a o hk, hc, hd, by simpa using hs⟩, ?_⟩
    have e := r.length
    simp only [Array.length_toList] at e
    omega
theorem Inv.tuple (I : Inv X pins σ H s) (h : SqT X.K H a xs) : ∃ its : List Value, Vals xs its ∧ IsTup s.heap a its.toArray ∧ xs.length ≤ sizeLine := by
  rcases h with h | ⟨o, its, n, hk, hc, hs, hz, r⟩
  · obtain ⟨z, its, r, p⟩ := h.ok I.hok
    exact ⟨its, r, p, z⟩
  · refine ⟨its.toList, r, ⟨o, I.kIn a o hk, hc, n, by simpa using hs⟩, ?_⟩
    have e := r.length
    simp only [Array.length_toList] at e
    omega
theorem Inv.list_inj (I : Inv X pins σ H s) (h : SqL X.K H a xs) (h' : SqL X.K H a ys) : xs = ys := by
  obtain ⟨its, r, ⟨o, n, e, _, _, d⟩, _⟩ := I.list h
  obtain ⟨its', r', ⟨o', n', e', _, _, d'⟩, _⟩ := I.list h'
  rw [e] at e'; cases e'
  rw [d] at d'
  injection d' with d1 _
  have : its = its' := by simpa using congrArg Array.toList d1
  subst this
  exact r.inj r'
theorem Inv.tuple_inj (I : Inv X pins σ H s) (h : SqT X.K H a xs) (h' : SqT X.K H a ys) : xs = ys := by
  obtain ⟨its, r, ⟨o, e, _, n, d⟩, _⟩ := I.tuple h
  obtain ⟨its', r', ⟨o', e', _, n', d'⟩, _⟩ := I.tuple h'
  rw [e] at e'; cases e'
  rw [d] at d'
  injection d' with d1 _
  have : its = its' := by simpa using congrArg Array.toList d1
  subst this
  exact r.inj r'
end
abbrev Cx.wish (X : Cx) (E : Value → Shared → Prop) : Cx := { X with xe := E }
abbrev Cx.nox (X : Cx) : Cx := X.wish fun _ _ => False
theorem Cx.Ok.wish {X : Cx} (ok : X.Ok) (E : Value → Shared → Prop) : (X.wish E).Ok :=
  ⟨ok.mod, ok.kind, ok.glob, ok.blt, ok.above, ok.inj, ok.has, ok.cab, ok.hd, ok.frames, ok.stk, ok.exf, ok.bs, ok.bsz, ok.noex, ok.exfs, ok.funs, ok.frf⟩
theorem Cx.Ok.unwish {X : Cx} {E : Value → Shared → Prop} (ok : (X.wish E).Ok) : X.Ok :=
  ⟨ok.mod, ok.kind, ok.glob, ok.blt, ok.above, ok.inj, ok.has, ok.cab, ok.hd, ok.frames, ok.stk, ok.exf, ok.bs, ok.bsz, ok.noex, ok.exfs, ok.funs, ok.frf⟩
section
variable {X : Cx} {pins : List (Addr × Obj)} {σ : St} {H : Hp} {s : Shared} {E : Value → Shared → Prop}
theorem Inv.wish (I : Inv X pins σ H s) (E : Value → Shared → Prop) : Inv (X.wish E) pins σ H s := ⟨I.ok.wish E, I.os, I.bare, I.base, I.loc, I.cell, I.free, I.freeC, I.pin, I.hok, I.len⟩
theorem Inv.unwish (I : Inv (X.wish E) pins σ H s) : Inv X pins σ H s := ⟨I.ok.unwish, I.os, I.bare, I.base, I.loc, I.cell, I.free, I.freeC, I.pin, I.hok, I.len⟩
theorem SP.unwish {D : Ends} {f : Flow} {s' : Shared} (h : SP (X.wish E) pins D f s') : SP X pins D f s' := by
  cases f with
  | next => obtain ⟨σ', H', I, q⟩ := h; exact ⟨σ', H', I.unwish, q⟩
  | brk => obtain ⟨σ', H', I, q⟩ := h; exact ⟨σ', H', I.unwish, q⟩
  | cont => obtain ⟨σ', H', I, q⟩ := h; exact ⟨σ', H', I.unwish, q⟩
  | ret u => obtain ⟨v, σ', H', I, r, q⟩ := h; exact ⟨v, σ', H', I.unwish, r, q⟩
theorem PSs.nox {st : List Stmt} {t : TS} (h : PSs X.nox st t) : PSs X st t := fun pins s σ H D I hw =>
  wpAny_mono (h pins s σ H D (I.wish _) hw) (fun _ _ q => q.unwish) fun _ _ z => False.elim z
end
section
variable {X : Cx} {st : Stmt} {rest : List Stmt} {t u : TS} {e : Expr} {te : TE} {pos : Pos}
def tNext : TS := fun D σ H => D.nx σ H
def tSeq (t u : TS) : TS := fun D σ H => t { D with nx := u D } σ H
theorem pss_nil : PSs X [] tNext := fun _ _ σ H _ I h => wpAny_execs_nil ⟨σ, H, I, h⟩
theorem pss_cons (h1 : PS X st t) (h2 : PSs X rest u) : PSs X (st :: rest) (tSeq t u) := by
  intro pins s σ H D I h
  refine wpAny_execs_cons (thn (h1 pins s σ H { D with nx := u D } I h) fun f s1 q => ?_)
  cases f with
  | next =>
    obtain ⟨σ', H', I', q⟩ := q
    exact h2 pins s1 σ' H' D I' q
  | ret v => exact q
  | brk => exact q
  | cont => exact q
theorem pss_one (h1 : PS X st t) : PSs X [st] t := by
  intro pins s σ H D I h
  refine wpAny_execs_cons (thn (h1 pins s σ H D I h) fun f s1 q => ?_)
  cases f with
  | next => exact wpAny_execs_nil q
  | ret v => exact q
  | brk => exact q
  | cont => exact q
theorem Inv.quiet {pins : List (Addr × Obj)} {σ : St} {H : Hp} {s : Shared} (I : Inv X pins σ H s) : interactive X.env = false := by simp [interactive, I.ok.kind]
def tDrop (te : TE) : TS := fun D σ H => te σ H fun _ H1 => D.nx σ H1
theorem ps_expr (he : PE X e te) (hs : swapsWith e none pos.line X.env = pure false := by rfl) : PS X (.Expr e pos) (tDrop te) := by
  intro pins s σ H D I h
  exact wpAny_Expr_any (thn (he pins s σ H _ I h) fun v s1 ⟨x, H1, I1, r1, q1⟩ => ⟨σ, H1, I1, q1⟩) I.quiet hs
def tRet (te : TE) : TS := fun D σ H => te σ H D.rt
theorem ps_ret (he : PE X e te) : PS X (.Return (some e) pos) (tRet te) := by
  intro pins s σ H D I h
  exact wpAny_Return_some (thn (he pins s σ H _ I h) fun v s1 ⟨x, H1, I1, r1, q1⟩ => ⟨x, σ, H1, I1, r1, q1⟩)
def tIfS (c : TT) (t u : TS) : TS := fun D σ H => c σ H fun b H1 => if b = true then t D σ H1 else u D σ H1
theorem ps_if {c : Expr} {a b : List Stmt} {tc : TT} (hc : PT X c tc) (ha : PSs X a t) (hb : PSs X b u) : PS X (.If c a b pos) (tIfS tc t u) := by
  intro pins s σ H D I h
  refine wpAny_If (thn (hc pins s σ H _ I h) fun d s1 ⟨H1, I1, q1⟩ => ?_)
  cases d with
  | true => exact ha pins s1 σ H1 D I1 q1
  | false => exact hb pins s1 σ H1 D I1 q1
def tNever : TS := fun _ _ _ => False
theorem ps_never : PS X st tNever := fun _ _ _ _ _ _ h => h.elim
end
abbrev TG := V → St → Hp → (St → Hp → Prop) → Prop
abbrev TGs := List V → St → Hp → (St → Hp → Prop) → Prop
def PG (X : Cx) (target : Expr) (t : TG) : Prop :=
  ∀ (pins : List (Addr × Obj)) (s : Shared) (σ : St) (H : Hp) (v : V) (u : Value) (Q : St → Hp → Prop), Inv X pins σ H s → RelV v u → t v σ H Q →
    wpAny (model X.prog X.w) X.A (assign target X.env u) (fun _ s' => ∃ σ' H', Inv X pins σ' H' s' ∧ Q σ' H') X.xe s
def PGs (X : Cx) (ts : List Expr) (t : TGs) : Prop :=
  ∀ (pins : List (Addr × Obj)) (s : Shared) (σ : St) (H : Hp) (vs : List V) (us : List Value) (Q : St → Hp → Prop), Inv X pins σ H s → Vals vs us → t vs σ H Q →
    wpAny (model X.prog X.w) X.A (assignInOrder ((assignEach ts X.env).map (·.2)) us) (fun _ s' => ∃ σ' H', Inv X pins σ' H' s' ∧ Q σ' H') X.xe s
section
variable {X : Cx} {pos : Pos}
def gName (i : Nat) : TG := fun v σ H Q => Q (σ.set i (some v)) H
theorem pg_name {i : Nat} {x : Str} (hN : X.N.Nodup) (hi : X.N[i]? = some x) (hx : Loc X.env.scope x) (hf : X.fn x = true ∨ X.env.scope.names.lookup x = some .local := by first | exact .inl rfl | exact .inr rfl | assumption) : PG X (.Name x pos) (gName i) := by
  intro pins s σ H v u Q I r h
  exact wpAny_assign_Name (store_ok I hN hi hx r (fun s' I' => ⟨_, H, I', h⟩) hf)
def gNil : TGs := fun vs σ H Q => vs = [] ∧ Q σ H
def gCons (t : TG) (u : TGs) : TGs := fun vs σ H Q => ∃ v r, vs = v :: r ∧ t v σ H fun σ' H' => u r σ' H' Q
theorem pgs_nil : PGs X [] gNil := by
  intro pins s σ H vs us Q I r h
  obtain ⟨e, h⟩ := h
  subst e
  cases r
  exact assignInOrder_nil ⟨σ, H, I, h⟩
theorem pgs_cons {e : Expr} {es : List Expr} {t : TG} {u : TGs} (h1 : PG X e t) (h2 : PGs X es u)
    (hs : (assignEach (e :: es) X.env).map (·.2) = assign e X.env :: (assignEach es X.env).map (·.2) := by rfl) : PGs X (e :: es) (gCons t u) := by
  intro pins s σ H vs us Q I r h
  obtain ⟨v, vr, e1, h⟩ := h
  subst e1
  cases r with
  | cons r rr =>
    rw [hs]
    refine assignInOrder_cons (thn (h1 pins s σ H _ _ _ I r h) fun _ s1 ⟨σ1, H1, I1, q1⟩ => ?_)
    exact h2 pins s1 σ1 H1 _ _ Q I1 rr q1
def gTup (K : PySem.W.Frag) (n : Nat) (t : TGs) : TG := fun v σ H Q => ∃ a xs, v = .ref a ∧ SqT K H a xs ∧ xs.length = n ∧ t xs σ H Q
theorem pg_tup {es : List Expr} {k : Nat} {t : TGs} {n : Nat} (hc : X.calm = true) (h : PGs X es t)
    (hn : (assignEach es X.env).length = n := by rfl) (hst : (assignEach es X.env).findIdx? (·.1) = none := by rfl) : PG X (.Tuple es k pos) (gTup X.K n t) := by
  intro pins s σ H v u Q I r hw
  obtain ⟨a, xs, e1, hq, hl, hw⟩ := hw
  subst e1
  cases r
  obtain ⟨its, rv, ht, hz⟩ := I.tuple hq
  refine assign_Tuple_tuple (I.ok.hd hc) ht (by simp [hn, ← hl, rv.length]) hst fun h' hx => ?_
  have I1 : Inv X pins σ H { s with heap := h' } := I.kept (t' := s.toks) fun b o e => hx b o (Nat.ne_of_lt (Heap.lt_size e)) e
  exact h pins _ σ H xs _ Q I1 (by simpa using rv) hw
def tAsg (te : TE) (g : TG) : TS := fun D σ H => te σ H fun x H1 => g x σ H1 D.nx
theorem ps_set {i : Nat} {x : Str} {e : Expr} {te : TE} {pos' : Pos} (hN : X.N.Nodup) (hi : X.N[i]? = some x) (hx : Loc X.env.scope x) (he : PE X e te) (hs : swapsWith e (some (.Name x pos')) pos.line X.env = pure false := by rfl) (hf : X.fn x = true ∨ X.env.scope.names.lookup x = some .local := by first | exact .inl rfl | exact .inr rfl | assumption) :
    PS X (.Assign [.Name x pos'] e pos) (tAsg te (gName i)) := by
  intro pins s σ H D I h
  refine wpAny_Assign_Name (thn (he pins s σ H _ I h) fun v s1 ⟨y, H1, I1, r1, q1⟩ => ?_) hs
  exact store_ok I1 hN hi hx r1 (fun s2 I2 => ⟨_, H1, I2, q1⟩) hf
end
section
variable {X : Cx} {pos : Pos}
end
structure It where
  go : Nat → Hp → Prop
  yld : Nat → Hp → V → Hp → Prop
  stop : Nat → Hp → Prop
def FpOk (X : Cx) (pins : List (Addr × Obj)) (H : Hp) (b : Addr) : Prop :=
  H b = none ∧ b ≠ X.env.locals ∧ b ∉ X.fs ∧ (b ∈ X.ex ∨ X.s₀.heap.get? b = none) ∧ (∀ x c, X.env.cells.lookup x = some c → c ≠ b) ∧ ∀ p ∈ X.pn ++ pins, p.1 ≠ b
theorem Inv.fpOk {X : Cx} {pins : List (Addr × Obj)} {σ : St} {H H' : Hp} {s : Shared} {b : Addr} (I : Inv X pins σ H s) (hb : s.heap.objs.size ≤ b) (hn : H' b = none) : FpOk X pins H' b := by
  refine ⟨hn, Nat.ne_of_gt (Nat.lt_of_lt_of_le I.lt hb), I.nofs hb, .inr (Heap.get?_none_of_le (Nat.le_trans I.sz hb)), fun x c e z => ?_, fun p hp z => ?_⟩
  · obtain ⟨v, q⟩ := I.cell x c e
    exact absurd (Nat.lt_of_lt_of_le q.lt (by rw [z]; exact hb)) (Nat.lt_irrefl _)
  · exact absurd (Nat.lt_of_lt_of_le (Heap.lt_size (I.pin p hp).1) (by rw [z]; exact hb)) (Nat.lt_irrefl _)
structure Turn (P : Program) (w : World) (K : PySem.W.Frag) (tg : Expr) (J : It) (fp : List Addr) (it : Addr) (tn : Nat → Heap → Prop) : Prop where
  mem : it ∈ fp
  obj : ∀ i h, tn i h → ∀ b ∈ fp, ∃ o, h.get? b = some o ∧ ∀ v, o.data ≠ .cell v
  keep : ∀ i h h', tn i h → (∀ b ∈ fp, ∀ o, h.get? b = some o → h'.get? b = some o) → tn i h'
  item : ∀ (X : Cx), X.prog = P → X.w = w → X.K = K → X.calm = true → ∀ (i : Nat) (pins : List (Addr × Obj)) (s : Shared) (σ : St) (H : Hp) (E : Value → Shared → Prop), Inv X pins σ H s → (∀ b ∈ fp, FpOk X pins H b) → tn i s.heap → J.go i H →
    wpAny (model P w) X.A (pyNext (.ref it)) (fun r s1 => ∃ u, r = some u ∧
      wpAny (model P w) X.A (letOwnedTupleGo tg (.ref it) u) (fun _ s2 => ∃ x H', Inv X pins σ H' s2 ∧ RelV x u ∧ J.yld i H x H' ∧ tn (i + 1) s2.heap ∧ ∀ b ∈ fp, H' b = none) E s1) E s
  done : ∀ (X : Cx), X.prog = P → X.w = w → X.K = K → X.calm = true → ∀ (i : Nat) (pins : List (Addr × Obj)) (s : Shared) (σ : St) (H : Hp) (E : Value → Shared → Prop), Inv X pins σ H s → (∀ b ∈ fp, FpOk X pins H b) → tn i s.heap → J.stop i H →
    wpAny (model P w) X.A (pyNext (.ref it)) (fun r s1 => r = none ∧ Inv X pins σ H s1) E s
  self : ∀ (A : Around) (i : Nat) (s : Shared) (Q : Value → Shared → Prop) (E : Value → Shared → Prop), tn i s.heap → Q (.ref it) s → wpAny (model P w) A (pyIter (.ref it)) Q E s
abbrev TI := St → Hp → (It → Hp → Prop) → Prop
def PIE (X : Cx) (pins : List (Addr × Obj)) (σ : St) (tg : Expr) (R : It → Hp → Prop) (itv : Value) (s2 : Shared) : Prop :=
  ∃ (it : Addr) (fp : List Addr) (tn : Nat → Heap → Prop) (J : It) (H' : Hp), itv = .ref it ∧ Inv X pins σ H' s2 ∧ Turn X.prog X.w X.K tg J fp it tn ∧ tn 0 s2.heap ∧ (∀ b ∈ fp, FpOk X pins H' b) ∧ R J H'
def PI (X : Cx) (tg iter : Expr) (wi : TI) : Prop :=
  ∀ (pins : List (Addr × Obj)) (s : Shared) (σ : St) (H : Hp) (R : It → Hp → Prop), Inv X pins σ H s → wi σ H R →
    wpAny (model X.prog X.w) X.A (eval iter X.env) (fun v s1 => wpAny (model X.prog X.w) X.A (pyIter v) (PIE X pins σ tg R) X.xe s1) X.xe s
theorem go_of {M : Model} {A : Around} {E : Value → Shared → Prop} {s : Shared} {tg : Expr} {it : Addr} {u : Value} {o : Obj} {n : String} {vs : Array Value} {Q : Unit → Shared → Prop} (ho : s.heap.get? it = some o) (hc : o.cls = .type n) (hd : o.data = .fields vs)
    (hn : ["enumerate", "zip", "dict_itemiterator", "dict_reverseitemiterator", "odict_iterator", "itertools.zip_longest", "itertools.pairwise"].contains n = false) (hQ : Q () s) : wpAny M A (letOwnedTupleGo tg (.ref it) u) Q E s := by
  unfold letOwnedTupleGo
  cases tg <;> first
    | exact wpAny_pure hQ
    | (cases u <;> first
        | exact wpAny_pure hQ
        | (refine wpAny_bind (wpAny_load ho ?_)
           rw [hc, hd]
           show wpAny M A (if (["enumerate", "zip", "dict_itemiterator", "dict_reverseitemiterator", "odict_iterator", "itertools.zip_longest", "itertools.pairwise"].contains n && vs[0]? == some (rawInt _)) = true then _ else _) Q E s
           rw [if_neg (by intro h; rw [hn, Bool.false_and] at h; cases h)]
           exact wpAny_pure hQ))
def Itl (K : PySem.W.Frag) (a : Addr) : It :=
  ⟨fun i H => ∃ xs x, SqL K H a xs ∧ xs[i]? = some x, fun i H x H' => H' = H ∧ ∀ xs, SqL K H a xs → xs[i]? = some x, fun i H => ∃ xs, SqL K H a xs ∧ xs.length ≤ i⟩
def Itt (K : PySem.W.Frag) (a : Addr) : It :=
  ⟨fun i H => ∃ xs x, SqT K H a xs ∧ xs[i]? = some x, fun i H x H' => H' = H ∧ ∀ xs, SqT K H a xs → xs[i]? = some x, fun i H => ∃ xs, SqT K H a xs ∧ xs.length ≤ i⟩
def Itr (lo : Int) (n : Nat) : It := ⟨fun i _ => i < n, fun i H x H' => H' = H ∧ x = .int (lo + i), fun i _ => n ≤ i⟩
theorem turn_list {P : Program} {w : World} {K : PySem.W.Frag} {tg : Expr} (a it : Addr) : Turn P w K tg (Itl K a) [it] it (fun i h => h.IsListIter it a i) where
  mem := by simp
  obj := fun i h st b hb => by
    have e : b = it := by simpa using hb
    subst e
    obtain ⟨o, e, c, d⟩ := st
    exact ⟨o, e, fun v z => by rw [d] at z; cases z⟩
  keep := fun i h h' st k => st.at fun o e => k it (by simp) o e
  item := by
    intro X hP hw hK hc i pins s σ H E I hf st hg
    subst hP hw hK
    obtain ⟨xs, x, hq, hx⟩ := hg
    obtain ⟨its, rv, p, hz⟩ := I.list hq
    obtain ⟨u, hu, ru⟩ := rv.get hx
    obtain ⟨f0, f1, f2, f3, f4, f5⟩ := hf it (by simp)
    refine wpAny_pyNext_list_item st p.isList (x := u) (by simpa using hu) fun h' st' sb => ?_
    have I1 : Inv X pins σ H { s with heap := h' } := I.turned (t' := s.toks) (fun b o hb e => (sb.2 b hb).trans e) f0 f1 f3 f4 f5
    obtain ⟨o, e, c, d⟩ := id st'
    exact ⟨u, rfl, go_of (s := { s with heap := h' }) e c d (by decide) ⟨x, H, I1, ru, ⟨rfl, fun ys hy => by rw [I.list_inj hy hq]; exact hx⟩, st', fun b hb => (hf b hb).1⟩⟩
  done := by
    intro X hP hw hK hc i pins s σ H E I hf st hg
    subst hP hw hK
    obtain ⟨xs, hq, hx⟩ := hg
    obtain ⟨its, rv, p, hz⟩ := I.list hq
    obtain ⟨f0, f1, f2, f3, f4, f5⟩ := hf it (by simp)
    have hl := rv.length
    exact wpAny_pyNext_list_end (I.ok.hd hc) st p.isList (by simp; omega) fun h' eb => ⟨rfl, I.turned (t' := s.toks) (fun b o hb e => eb b o hb e) f0 f1 f3 f4 f5⟩
  self := fun _ _ _ _ _ st h => wpAny_pyIter_listiter st h
theorem turn_tuple {P : Program} {w : World} {K : PySem.W.Frag} {tg : Expr} (a it : Addr) : Turn P w K tg (Itt K a) [it] it (fun i h => h.IsTupleIter it a i) where
  mem := by simp
  obj := fun i h st b hb => by
    have e : b = it := by simpa using hb
    subst e
    obtain ⟨o, e, c, d⟩ := st
    exact ⟨o, e, fun v z => by rw [d] at z; cases z⟩
  keep := fun i h h' st k => st.at fun o e => k it (by simp) o e
  item := by
    intro X hP hw hK hc i pins s σ H E I hf st hg
    subst hP hw hK
    obtain ⟨xs, x, hq, hx⟩ := hg
    obtain ⟨its, rv, p, hz⟩ := I.tuple hq
    obtain ⟨u, hu, ru⟩ := rv.get hx
    obtain ⟨f0, f1, f2, f3, f4, f5⟩ := hf it (by simp)
    refine wpAny_pyNext_tuple_item st (show s.heap.IsTuple a its.toArray from p) (x := u) (by simpa using hu) fun h' st' sb => ?_
    have I1 : Inv X pins σ H { s with heap := h' } := I.turned (t' := s.toks) (fun b o hb e => (sb.2 b hb).trans e) f0 f1 f3 f4 f5
    obtain ⟨o, e, c, d⟩ := id st'
    exact ⟨u, rfl, go_of (s := { s with heap := h' }) e c d (by decide) ⟨x, H, I1, ru, ⟨rfl, fun ys hy => by rw [I.tuple_inj hy hq]; exact hx⟩, st', fun b hb => (hf b hb).1⟩⟩
  done := by
    intro X hP hw hK hc i pins s σ H E I hf st hg
    subst hP hw hK
    obtain ⟨xs, hq, hx⟩ := hg
    obtain ⟨its, rv, p, hz⟩ := I.tuple hq
    obtain ⟨f0, f1, f2, f3, f4, f5⟩ := hf it (by simp)
    have hl := rv.length
    exact wpAny_pyNext_tuple_end (I.ok.hd hc) st (show s.heap.IsTuple a its.toArray from p) (by simp; omega) fun h' eb => ⟨rfl, I.turned (t' := s.toks) (fun b o hb e => eb b o hb e) f0 f1 f3 f4 f5⟩
  self := fun _ _ _ _ _ st h => wpAny_pyIter_tupleiter st h
theorem turn_range {P : Program} {w : World} {K : PySem.W.Frag} {tg : Expr} (it : Addr) (lo : Int) (n : Nat) : Turn P w K tg (Itr lo n) [it] it (fun i h => IsRangeIter h it (lo + (i : Nat) * 1) ((n : Int) - (i : Nat)) 1) where
  mem := by simp
  obj := fun i h st b hb => by
    have e : b = it := by simpa using hb
    subst e
    exact ⟨_, st, fun v z => by
      have z' : Data.fields _ = Data.cell v := z
      cases z'⟩
  keep := fun i h h' st k => k it (by simp) _ st
  item := by
    intro X hP hw hK hc i pins s σ H E I hf st hg
    subst hP hw hK
    obtain ⟨f0, f1, f2, f3, f4, f5⟩ := hf it (by simp)
    have W := Walks.range (prog := X.prog) (w := X.w) (I.ok.hd hc) it lo 1 n
    refine W.item i s _ _ hg st fun v h' tk hv st' kk => ?_
    obtain ⟨t, rfl⟩ := hv
    have I1 : Inv X pins σ H { s with heap := h', toks := tk } := I.turned (fun b o hb e => kk b o (by simpa using hb) e) f0 f1 f3 f4 f5
    refine ⟨_, rfl, go_of (s := { s with heap := h', toks := tk }) (n := "range_iterator") st' rfl rfl (by decide) ⟨.int (lo + i), H, I1, ⟨t, ?_⟩, ⟨rfl, rfl⟩, st', fun b hb => (hf b hb).1⟩⟩
    rw [Int.mul_one]
  done := by
    intro X hP hw hK hc i pins s σ H E I hf st hg
    subst hP hw hK
    obtain ⟨f0, f1, f2, f3, f4, f5⟩ := hf it (by simp)
    exact wpAny_pyNext_range_end (I.ok.hd hc) st (by have : n ≤ i := hg; omega) fun h' eb => ⟨rfl, I.turned (t' := s.toks) (fun b o hb e => eb b o hb e) f0 f1 f3 f4 f5⟩
  self := fun _ _ _ _ _ st h => wpAny_pyIter_rangeiter st h
end L2
namespace L2
open PySem PySem.Spec PyProof.Rows
section
variable {X : Cx} {tg : Expr}
def iList (K : PySem.W.Frag) (tl : TE) : TI := fun σ H R => tl σ H fun x H1 => ∃ a, x = .ref a ∧ (∃ xs, SqL K H1 a xs) ∧ R (Itl K a) H1
def iTup (K : PySem.W.Frag) (tl : TE) : TI := fun σ H R => tl σ H fun x H1 => ∃ a, x = .ref a ∧ (∃ xs, SqT K H1 a xs) ∧ R (Itt K a) H1
theorem pi_list {l : Expr} {tl : TE} (hl : PE X l tl) : PI X tg l (iList X.K tl) := by
  intro pins s σ H R I h
  refine thn (hl pins s σ H _ I h) fun v s1 ⟨x, H1, I1, r1, q1⟩ => ?_
  obtain ⟨a, e, ⟨xs, hq⟩, q⟩ := q1
  subst e
  cases r1
  obtain ⟨its, rv, p, hz⟩ := I1.list hq
  refine wpAny_pyIter_list p.isList ?_
  refine ⟨s1.heap.objs.size, [s1.heap.objs.size], _, _, H1, rfl, I1.kept (t' := s1.toks) fun b o e => Heap.get?_push_of_some _ e, turn_list a _, ⟨_, Heap.get?_push_size _ rfl, rfl, rfl⟩, fun b hb => ?_, q⟩
  have e : b = s1.heap.objs.size := by simpa using hb
  subst e
  exact I1.fpOk (Nat.le_refl _) (I1.hok.fresh (Nat.le_refl _))
theorem pi_tup {l : Expr} {tl : TE} (hl : PE X l tl) : PI X tg l (iTup X.K tl) := by
  intro pins s σ H R I h
  refine thn (hl pins s σ H _ I h) fun v s1 ⟨x, H1, I1, r1, q1⟩ => ?_
  obtain ⟨a, e, ⟨xs, hq⟩, q⟩ := q1
  subst e
  cases r1
  obtain ⟨its, rv, p, hz⟩ := I1.tuple hq
  refine wpAny_pyIter_tuple (show s1.heap.IsTuple a its.toArray from p) ?_
  refine ⟨s1.heap.objs.size, [s1.heap.objs.size], _, _, H1, rfl, I1.kept (t' := s1.toks) fun b o e => Heap.get?_push_of_some _ e, turn_tuple a _, ⟨_, Heap.get?_push_size _ rfl, rfl, rfl⟩, fun b hb => ?_, q⟩
  have e : b = s1.heap.objs.size := by simpa using hb
  subst e
  exact I1.fpOk (Nat.le_refl _) (I1.hok.fresh (Nat.le_refl _))
theorem range_it {pins : List (Addr × Obj)} {σ : St} {H : Hp} {s : Shared} {R : It → Hp → Prop} {E : Value → Shared → Prop} {lo hi : Int} {t u v : Tok} {tk : Nat} (I : Inv X pins σ H s) (h1 : -(2 ^ 62) ≤ lo) (h2 : lo < 2 ^ 62) (h3 : -(2 ^ 62) ≤ hi) (h4 : hi < 2 ^ 62)
    (q : R (Itr lo (hi - lo).toNat) H) : wpAny (model X.prog X.w) X.A (pyIter (.ref s.heap.objs.size)) (PIE X pins σ tg R) E { s with heap := s.heap.push { cls := .type "range", data := .fields #[.int lo t, .int hi u, .int 1 v] }, toks := tk } := by
  refine wpAny_pyIter_range (IsRange.new ..) (small_one h1 h2 h3 h4) ?_
  have I1 : Inv X pins σ H { s with heap := s.heap.push { cls := .type "range", data := .fields #[.int lo t, .int hi u, .int 1 v] }, toks := tk } := I.kept fun b o e => Heap.get?_push_of_some _ e
  refine ⟨(s.heap.push { cls := .type "range", data := .fields #[.int lo t, .int hi u, .int 1 v] }).objs.size, [(s.heap.push { cls := .type "range", data := .fields #[.int lo t, .int hi u, .int 1 v] }).objs.size], _, _, H, rfl,
    I1.kept (t' := tk) fun b o e => Heap.get?_push_of_some _ e, turn_range _ lo (hi - lo).toNat, ?_, fun b hb => ?_, q⟩
  · have e1 : lo + ((0 : Nat) : Int) * 1 = lo := by simp
    have e2 : (((hi - lo).toNat : Nat) : Int) - ((0 : Nat) : Int) = Builtin.Range.rangeSize lo hi 1 := by rw [rangeSize_one]; split <;> omega
    show IsRangeIter _ _ (lo + ((0 : Nat) : Int) * 1) ((((hi - lo).toNat : Nat) : Int) - ((0 : Nat) : Int)) 1
    rw [e1, e2]
    exact Heap.get?_push_size _ rfl
  · have e : b = (s.heap.push { cls := .type "range", data := .fields #[.int lo t, .int hi u, .int 1 v] }).objs.size := by simpa using hb
    subst e
    exact I1.fpOk (Nat.le_refl _) (I1.hok.fresh (Nat.le_refl _))
def iRng1 (ta : TA) : TI := fun σ H R => ta σ H fun vs H1 => ∃ j : Int, vs = [.int j] ∧ -(2 ^ 62) ≤ j ∧ j < 2 ^ 62 ∧ R (Itr 0 j.toNat) H1
theorem pi_range1 {a : Expr} {ta : TA} {p pos : Pos} (hg : Gl X "range") (hm : X.mg "range" = none) (ha : PA X [a] ta) (hs : starEach [a] X.env = [(false, eval a X.env)] := by rfl) : PI X tg (.Call (.Name "range" p) [a] [] pos) (iRng1 ta) := by
  intro pins s σ H R I h
  refine Call_ (ld_blt I hg hm boot_range (PyProof.Rows.callWith_type1 (thn (ha pos pins s σ H _ I h) fun us s1 ⟨vs, H1, I1, r1, q1⟩ => ?_) hs rfl))
  obtain ⟨j, e, q1, q2, q⟩ := q1
  subst e
  cases r1 with
  | cons r rr =>
    cases rr
    obtain ⟨t, rfl⟩ := r
    exact call_range_1 (range_it I1 (by omega) (by omega) q1 q2 (by simpa using q))
def tFor (wi : TI) (g : TG) (tb : TS) : TS := fun D σ H => wi σ H fun J H1 => ∃ W : Nat → Nat → St → Hp → Prop, (∃ m, W 0 m σ H1) ∧ ∀ i m σ H, W i m σ H →
  (J.stop i H ∧ D.nx σ H) ∨ (J.go i H ∧ ∃ N : St → Hp → Prop, (∀ σ' H', N σ' H' → ∃ m', m' < m ∧ W (i + 1) m' σ' H') ∧ ∀ x H', J.yld i H x H' → g x σ H' fun σ2 H2 => tb { D with nx := N, ct := N, bk := D.nx } σ2 H2)
def pinsAt (fp : List Addr) (h : Heap) : List (Addr × Obj) := fp.filterMap fun b => (h.get? b).map fun o => (b, o)
theorem mem_pinsAt {fp : List Addr} {h : Heap} {b : Addr} {o : Obj} (hb : b ∈ fp) (e : h.get? b = some o) : (b, o) ∈ pinsAt fp h := List.mem_filterMap.mpr ⟨b, hb, by rw [e]; rfl⟩
theorem of_pinsAt {fp : List Addr} {h : Heap} {p : Addr × Obj} (hp : p ∈ pinsAt fp h) : p.1 ∈ fp ∧ h.get? p.1 = some p.2 := by
  obtain ⟨b, hb, e⟩ := List.mem_filterMap.mp hp
  cases q : h.get? b with
  | none => rw [q] at e; cases e
  | some o =>
    rw [q] at e
    have e' : (b, o) = p := Option.some.inj e
    subst e'
    exact ⟨hb, q⟩
theorem Inv.pinned {pins : List (Addr × Obj)} {σ : St} {H : Hp} {s : Shared} {fp : List Addr} (I : Inv X pins σ H s) (hf : ∀ b ∈ fp, FpOk X pins H b) (ho : ∀ b ∈ fp, ∃ o, s.heap.get? b = some o ∧ ∀ v, o.data ≠ .cell v) : Inv X (pins ++ pinsAt fp s.heap) σ H s :=
  I.pins_of fun p hp => (List.mem_append.mp hp).elim (fun z => I.pin p (List.mem_append_right _ z)) fun z => by
    obtain ⟨hb, e⟩ := of_pinsAt z
    obtain ⟨f0, f1, f2, _⟩ := hf p.1 hb
    obtain ⟨o, e', d⟩ := ho p.1 hb
    rw [e] at e'; cases e'
    exact ⟨e, f0, f1, f2, d⟩
theorem Inv.unpinned {pins pl : List (Addr × Obj)} {σ : St} {H : Hp} {s : Shared} (I : Inv X (pins ++ pl) σ H s) : Inv X pins σ H s := I.pins_of fun p hp => I.pin p (List.mem_append_right _ (List.mem_append_left _ hp))
theorem ps_for {iter : Expr} {body : List Stmt} {wi : TI} {g : TG} {tb : TS} {pos : Pos} (hp : PassesOwn (model X.prog X.w) X.A X.env X.xe) (hc : X.calm = true) (hi : PI X tg iter wi) (hg : PG X tg g) (hb : PSs X body tb)
    (hs : ∀ x, foldedSetIterable iter X.env x = pure x := by intro _; rfl) : PS X (.For tg iter body [] pos) (tFor wi g tb) := by
  intro pins s σ H D I h
  refine wpAny_For (thn (hi pins s σ H _ I h) fun v s1 h1 => thn h1 fun itv s2 h2 => ?_) hs
  obtain ⟨it, fp, tn, J, H2, e, I2, T, st2, f2, W, ⟨m0, w0⟩, turn⟩ := h2
  subst e
  -- what stays true of the iterator's objects through the loop
  have stat : ∀ {H' : Hp}, (∀ b ∈ fp, H' b = none) → ∀ b ∈ fp, FpOk X pins H' b := fun hn b hb => ⟨hn b hb, (f2 b hb).2⟩
  refine codeAny_forLoop_any (fun n s' => ∃ i σ' H', Inv X pins σ' H' s' ∧ tn i s'.heap ∧ (∀ b ∈ fp, H' b = none) ∧ W i n σ' H') ?_ m0 ⟨0, σ, H2, I2, st2, fun b hb => (f2 b hb).1, w0⟩
  rintro n s3 ⟨i, σ3, H3, I3, st3, fr3, w3⟩
  rcases turn i n σ3 H3 w3 with ⟨stop, qn⟩ | ⟨go, N, hN, step⟩
  · refine wpAny_passesOwn hp (thn (T.done X rfl rfl rfl hc i pins s3 σ3 H3 X.xe I3 (stat fr3) st3 stop) fun r s4 ⟨hr, I4⟩ => ?_)
    subst hr
    exact wpAny_execs_nil ⟨σ3, H3, I4, qn⟩
  · refine wpAny_passesOwn hp (thn (T.item X rfl rfl rfl hc i pins s3 σ3 H3 X.xe I3 (stat fr3) st3 go) fun r s4 ⟨u, hr, h4⟩ => ?_)
    subst hr
    refine wpAny_passesOwn hp (thn h4 fun _ s5 ⟨x, H5, I5, r5, y5, st5, fr5⟩ => ?_)
    have I5' := I5.pinned (stat fr5) (T.obj _ _ st5)
    refine wpAny_passesOwn hp (thn (hg _ s5 σ3 H5 x u _ I5' r5 (step x H5 y5)) fun _ s6 ⟨σ6, H6, I6, q6⟩ => ?_)
    refine wpAny_passesOwn hp (thn (hb _ s6 σ6 H6 _ I6 q6) fun f s7 q7 => ?_)
    have again : ∀ {σ7 : St} {H7 : Hp}, Inv X (pins ++ pinsAt fp s5.heap) σ7 H7 s7 → N σ7 H7 → ∃ m, m < n ∧ ∃ i σ' H', Inv X pins σ' H' s7 ∧ tn i s7.heap ∧ (∀ b ∈ fp, H' b = none) ∧ W i m σ' H' := fun {σ7 H7} I7 n7 => by
      obtain ⟨m', hm, w7⟩ := hN σ7 H7 n7
      refine ⟨m', hm, i + 1, σ7, H7, I7.unpinned, T.keep _ _ _ st5 fun b hb o e => (I7.pin (b, o) (List.mem_append_right _ (List.mem_append_right _ (mem_pinsAt hb e)))).1, fun b hb => ?_, w7⟩
      obtain ⟨o, e, d⟩ := T.obj _ _ st5 b hb
      exact (I7.pin (b, o) (List.mem_append_right _ (List.mem_append_right _ (mem_pinsAt hb e)))).2.1
    cases f with
    | next => obtain ⟨σ7, H7, I7, n7⟩ := q7; exact again I7 n7
    | cont => obtain ⟨σ7, H7, I7, n7⟩ := q7; exact again I7 n7
    | brk => obtain ⟨σ7, H7, I7, q7⟩ := q7; exact ⟨σ7, H7, I7.unpinned, q7⟩
    | ret v => obtain ⟨x7, σ7, H7, I7, r7, q7⟩ := q7; exact ⟨x7, σ7, H7, I7.unpinned, r7, q7⟩
end
theorem for_list {K : PySem.W.Frag} {a : Addr} {xs : List V} {g : TG} {tb : TS} {D : Ends} {σ : St} {H : Hp} (Pv : Nat → St → Hp → Prop) (h0 : Pv 0 σ H) (hl : ∀ i σ H, i ≤ xs.length → Pv i σ H → SqL K H a xs)
    (hs : ∀ i x σ H, xs[i]? = some x → Pv i σ H → g x σ H fun σ2 H2 => tb { D with nx := Pv (i + 1), ct := Pv (i + 1), bk := D.nx } σ2 H2) (hd : ∀ σ H, Pv xs.length σ H → D.nx σ H) :
    ∃ W : Nat → Nat → St → Hp → Prop, (∃ m, W 0 m σ H) ∧ ∀ i m σ H, W i m σ H →
      ((Itl K a).stop i H ∧ D.nx σ H) ∨ ((Itl K a).go i H ∧ ∃ N : St → Hp → Prop, (∀ σ' H', N σ' H' → ∃ m', m' < m ∧ W (i + 1) m' σ' H') ∧ ∀ x H', (Itl K a).yld i H x H' → g x σ H' fun σ2 H2 => tb { D with nx := N, ct := N, bk := D.nx } σ2 H2) := by
  refine ⟨fun i m σ H => m = xs.length - i ∧ i ≤ xs.length ∧ Pv i σ H, ⟨xs.length, by simp, Nat.zero_le _, h0⟩, ?_⟩
  rintro i m σ H ⟨rfl, hi, p⟩
  have q := hl i σ H hi p
  by_cases hlt : i < xs.length
  · refine .inr ⟨⟨xs, xs[i], q, by simp [hlt]⟩, Pv (i + 1), fun σ' H' p' => ⟨xs.length - (i + 1), by omega, rfl, hlt, p'⟩, fun x H' y => ?_⟩
    obtain ⟨e, y⟩ := y
    subst e
    exact hs i x σ _ (y xs q) p
  · have e : i = xs.length := by omega
    subst e
    exact .inl ⟨⟨xs, q, Nat.le_refl _⟩, hd σ H p⟩
theorem for_tup {K : PySem.W.Frag} {a : Addr} {xs : List V} {g : TG} {tb : TS} {D : Ends} {σ : St} {H : Hp} (Pv : Nat → St → Hp → Prop) (h0 : Pv 0 σ H) (hl : ∀ i σ H, i ≤ xs.length → Pv i σ H → SqT K H a xs)
    (hs : ∀ i x σ H, xs[i]? = some x → Pv i σ H → g x σ H fun σ2 H2 => tb { D with nx := Pv (i + 1), ct := Pv (i + 1), bk := D.nx } σ2 H2) (hd : ∀ σ H, Pv xs.length σ H → D.nx σ H) :
    ∃ W : Nat → Nat → St → Hp → Prop, (∃ m, W 0 m σ H) ∧ ∀ i m σ H, W i m σ H →
      ((Itt K a).stop i H ∧ D.nx σ H) ∨ ((Itt K a).go i H ∧ ∃ N : St → Hp → Prop, (∀ σ' H', N σ' H' → ∃ m', m' < m ∧ W (i + 1) m' σ' H') ∧ ∀ x H', (Itt K a).yld i H x H' → g x σ H' fun σ2 H2 => tb { D with nx := N, ct := N, bk := D.nx } σ2 H2) := by
  refine ⟨fun i m σ H => m = xs.length - i ∧ i ≤ xs.length ∧ Pv i σ H, ⟨xs.length, by simp, Nat.zero_le _, h0⟩, ?_⟩
  rintro i m σ H ⟨rfl, hi, p⟩
  have q := hl i σ H hi p
  by_cases hlt : i < xs.length
  · refine .inr ⟨⟨xs, xs[i], q, by simp [hlt]⟩, Pv (i + 1), fun σ' H' p' => ⟨xs.length - (i + 1), by omega, rfl, hlt, p'⟩, fun x H' y => ?_⟩
    obtain ⟨e, y⟩ := y
    subst e
    exact hs i x σ _ (y xs q) p
  · have e : i = xs.length := by omega
    subst e
    exact .inl ⟨⟨xs, q, Nat.le_refl _⟩, hd σ H p⟩
theorem for_range {lo : Int} {n : Nat} {g : TG} {tb : TS} {D : Ends} {σ : St} {H : Hp} (Pv : Nat → St → Hp → Prop) (h0 : Pv 0 σ H)
    (hs : ∀ i σ H, i < n → Pv i σ H → g (.int (lo + i)) σ H fun σ2 H2 => tb { D with nx := Pv (i + 1), ct := Pv (i + 1), bk := D.nx } σ2 H2) (hd : ∀ σ H, Pv n σ H → D.nx σ H) :
    ∃ W : Nat → Nat → St → Hp → Prop, (∃ m, W 0 m σ H) ∧ ∀ i m σ H, W i m σ H →
      ((Itr lo n).stop i H ∧ D.nx σ H) ∨ ((Itr lo n).go i H ∧ ∃ N : St → Hp → Prop, (∀ σ' H', N σ' H' → ∃ m', m' < m ∧ W (i + 1) m' σ' H') ∧ ∀ x H', (Itr lo n).yld i H x H' → g x σ H' fun σ2 H2 => tb { D with nx := N, ct := N, bk := D.nx } σ2 H2) := by
  refine ⟨fun i m σ H => m = n - i ∧ i ≤ n ∧ Pv i σ H, ⟨n, by simp, Nat.zero_le _, h0⟩, ?_⟩
  rintro i m σ H ⟨rfl, hi, p⟩
  by_cases hlt : i < n
  · refine .inr ⟨hlt, Pv (i + 1), fun σ' H' p' => ⟨n - (i + 1), by omega, rfl, hlt, p'⟩, fun x H' y => ?_⟩
    obtain ⟨e, y⟩ := y
    subst e y
    exact hs i σ _ hlt p
  · have e : i = n := by omega
    subst e
    exact .inl ⟨Nat.le_refl _, hd σ H p⟩
end L2
namespace L2
open PySem PySem.Spec PyProof.Rows
abbrev R2 := V → V → Hp → VK → Prop
def OpR (X : Cx) (f : Value → Value → Sem Value) (r : R2) : Prop :=
  ∀ (pins : List (Addr × Obj)) (s : Shared) (σ : St) (H : Hp) (x y : V) (v u : Value) (Q : VK), Inv X pins σ H s → RelV x v → RelV y u → r x y H Q →
    wpAny (model X.prog X.w) X.A (f v u) (EP X pins σ Q) X.xe s
def CallR (X : Cx) (f : Value) (r : List V → Hp → VK → Prop) : Prop :=
  ∀ (pins : List (Addr × Obj)) (s : Shared) (σ : St) (H : Hp) (xs : List V) (us : List Value) (Q : VK), Inv X pins σ H s → Vals xs us → r xs H Q →
    wpAny (model X.prog X.w) X.A (call f us) (EP X pins σ Q) X.xe s
def tOp (r : R2) (ta tb : TE) : TE := fun σ H Q => ta σ H fun x H1 => tb σ H1 fun y H2 => r x y H2 Q
def rI (C : Int → Int → Prop) (g : Int → Int → V) : R2 := fun x y H Q => ∃ i j, x = .int i ∧ y = .int j ∧ C i j ∧ Q (g i j) H
def rI0 (g : Int → Int → V) : R2 := fun x y H Q => ∃ i j, x = .int i ∧ y = .int j ∧ Q (g i j) H
section
variable {X : Cx} {a b c : Expr} {ta tb tc : TE} {pos : Pos}
theorem binT (ha : PE X a ta) (hb : PE X b tb) {pins : List (Addr × Obj)} {s : Shared} {σ : St} {H : Hp} {R : V → V → Hp → Prop} (I : Inv X pins σ H s)
    (h : ta σ H fun x H1 => tb σ H1 fun y H2 => R x y H2) {Q : Value → Shared → Prop} {f : Value → Value → Sem Value}
    (hf : ∀ v u s2 x y H2, Inv X pins σ H2 s2 → RelV x v → RelV y u → R x y H2 → wpAny (model X.prog X.w) X.A (f v u) Q X.xe s2) :
    wpAny (model X.prog X.w) X.A (eval a X.env) (fun v s₁ => wpAny (model X.prog X.w) X.A (eval b X.env) (fun u s₂ => wpAny (model X.prog X.w) X.A (f v u) Q X.xe s₂) X.xe s₁) X.xe s := by
  refine thn (ha pins s σ H _ I h) fun v s1 ⟨x, H1, I1, r1, q1⟩ => ?_
  refine thn (hb pins s1 σ H1 _ I1 q1) fun u s2 ⟨y, H2, I2, r2, q2⟩ => ?_
  exact hf v u s2 x y H2 I2 r1 r2 q2
theorem pe_op {op : Operator} {r : R2} (ho : OpR X (binaryOp op) r) (ha : PE X a ta) (hb : PE X b tb) : PE X (.BinOp a op b pos) (tOp r ta tb) := by
  intro pins s σ H Q I h
  exact wpAny_BinOp (binT ha hb I h fun v u s2 x y H2 I2 rx ry q => ho pins s2 σ H2 x y v u Q I2 rx ry q)
theorem opI {f : Value → Value → Sem Value} {C : Int → Int → Prop} {g : Int → Int → Int}
    (rule : ∀ (i j : Int) (t u : Tok) (s : Shared) (Q : Value → Shared → Prop) (E : Value → Shared → Prop), C i j → Q (.int (g i j) s.toks) { s with toks := s.toks + 1 } → wpAny (model X.prog X.w) X.A (f (.int i t) (.int j u)) Q E s) :
    OpR X f (rI C fun i j => .int (g i j)) := by
  intro pins s σ H x y v u Q I rx ry h
  obtain ⟨i, j, rfl, rfl, hc, q⟩ := h
  obtain ⟨t, rfl⟩ := rx
  obtain ⟨t', rfl⟩ := ry
  exact rule i j t t' s _ _ hc ⟨.int (g i j), H, I.tok _, ⟨_, rfl⟩, q⟩
theorem opI0 {f : Value → Value → Sem Value} {g : Int → Int → Int}
    (rule : ∀ (i j : Int) (t u : Tok) (s : Shared) (Q : Value → Shared → Prop) (E : Value → Shared → Prop), Q (.int (g i j) s.toks) { s with toks := s.toks + 1 } → wpAny (model X.prog X.w) X.A (f (.int i t) (.int j u)) Q E s) :
    OpR X f (rI0 fun i j => .int (g i j)) := by
  intro pins s σ H x y v u Q I rx ry h
  obtain ⟨i, j, rfl, rfl, q⟩ := h
  obtain ⟨t, rfl⟩ := rx
  obtain ⟨t', rfl⟩ := ry
  exact rule i j t t' s _ _ ⟨.int (g i j), H, I.tok _, ⟨_, rfl⟩, q⟩
theorem opB0 {f : Value → Value → Sem Value} {g : Int → Int → Bool}
    (rule : ∀ (i j : Int) (t u : Tok) (s : Shared) (Q : Value → Shared → Prop) (E : Value → Shared → Prop), Q (.bool (g i j)) s → wpAny (model X.prog X.w) X.A (f (.int i t) (.int j u)) Q E s) :
    OpR X f (rI0 fun i j => .bl (g i j)) := by
  intro pins s σ H x y v u Q I rx ry h
  obtain ⟨i, j, rfl, rfl, q⟩ := h
  obtain ⟨t, rfl⟩ := rx
  obtain ⟨t', rfl⟩ := ry
  exact rule i j t t' s _ _ ⟨.bl (g i j), H, I, rfl, q⟩
def CDiv (i j : Int) : Prop := 0 < j ∧ j < 1073741824
def CPow (i j : Int) : Prop := 0 ≤ j ∧ j ≤ 1000000 ∧ i.natAbs < 2 ^ 64
theorem op_add : OpR X (binaryOp .Add) (rI0 fun i j => .int (i + j)) := opI0 fun _ _ _ _ _ _ _ q => add_int q
theorem op_sub : OpR X (binaryOp .Sub) (rI0 fun i j => .int (i - j)) := opI0 fun _ _ _ _ _ _ _ q => sub_int q
theorem op_fdiv : OpR X (binaryOp .FloorDiv) (rI CDiv fun i j => .int (i / j)) := opI fun i j _ _ _ _ _ hc q => by
  have h1 : (0 : Int) < j := hc.1
  have h2 : j < 1073741824 := hc.2
  exact floordiv_int (by omega) (by rw [Int.fdiv_eq_ediv_of_nonneg i (by omega)]; exact q) (.inl (PyProof.noPylong_small (by omega)))
theorem op_mod : OpR X (binaryOp .Mod) (rI (fun _ j => 0 < j) fun i j => .int (i % j)) := opI fun i j _ _ _ _ _ hc q => by
  have h1 : (0 : Int) < j := hc
  exact mod_int' (by omega) (by rw [Int.fmod_eq_emod_of_nonneg i (by omega)]; exact q)
theorem op_pow : OpR X (binaryOp .Pow) (rI CPow fun i j => .int (i ^ j.toNat)) := opI fun _ _ _ _ _ _ _ hc q => pow_int_small hc.1 hc.2.1 hc.2.2 q
end
def scal : V → V → Bool
  | .non, .non => true | .non, .int _ => true | .int _, .non => true | .non, .bl _ => true | .bl _, .non => true | .non, .str _ => true | .str _, .non => true
  | .int _, .int _ => true | .bl _, .bl _ => true | .str _, .str _ => true | .byt _, .byt _ => true
  | .int _, .str _ => true | .str _, .int _ => true | .bl _, .str _ => true | .str _, .bl _ => true
  | _, _ => false
def rEq : R2 := fun x y H Q => scal x y = true ∧ Q (.bl (decide (x = y))) H
def rNe : R2 := fun x y H Q => scal x y = true ∧ Q (.bl (!decide (x = y))) H
theorem dec_int {i j : Int} : decide (V.int i = V.int j) = (i == j) := by
  rw [Bool.eq_iff_iff]
  simp
theorem dec_bl {i j : Bool} : decide (V.bl i = V.bl j) = (i == j) := by
  rw [Bool.eq_iff_iff]
  simp
theorem dec_str {i j : Str} : decide (V.str i = V.str j) = (i == j) := by
  rw [Bool.eq_iff_iff]
  simp
theorem dec_byt {i j : Array UInt8} : decide (V.byt i = V.byt j) = (i.toList == j.toList) := by
  rw [Bool.eq_iff_iff]
  cases i
  cases j
  simp
section
variable {X : Cx} {a b c : Expr} {ta tb tc : TE} {pos : Pos}
theorem fin_bl {pins : List (Addr × Obj)} {σ : St} {H : Hp} {s : Shared} {Q : VK} {k k' : Bool} (I : Inv X pins σ H s) (q : Q (.bl k) H) (e : k = k') : EP X pins σ Q (.bool k') s := by
  subst e
  exact ⟨.bl k, H, I, rfl, q⟩
theorem op_eq : OpR X (compareOp .Eq) rEq := by
  intro pins s σ H x y v u Q I rx ry h
  obtain ⟨hs, q⟩ := h
  cases x with
  | non =>
    cases rx
    cases y with
    | non => cases ry; exact PySem.EqNone.eq_none_none (fin_bl I q (by simp))
    | bl j => cases ry; exact PySem.EqNone.eq_none_bool (fin_bl I q (by simp))
    | int j => obtain ⟨t', rfl⟩ := ry; exact PySem.EqNone.eq_none_int (fin_bl I q (by simp))
    | str j => obtain ⟨t', rfl⟩ := ry; exact PySem.EqNone.eq_none_str (fin_bl I q (by simp))
    | _ => exact absurd (show false = true from hs) Bool.false_ne_true
  | bl i =>
    cases rx
    cases y with
    | non => cases ry; exact PySem.EqNone.eq_bool_none (fin_bl I q (by simp))
    | bl j => cases ry; exact eq_bool (fin_bl I q dec_bl)
    | str j => obtain ⟨t', rfl⟩ := ry; exact PySem.EqMixed.eq_bool_str (fin_bl I q (by simp))
    | _ => exact absurd (show false = true from hs) Bool.false_ne_true
  | int i =>
    obtain ⟨t, rfl⟩ := rx
    cases y with
    | non => cases ry; exact PySem.EqNone.eq_int_none (fin_bl I q (by simp))
    | int j => obtain ⟨t', rfl⟩ := ry; exact eq_int (fin_bl I q dec_int)
    | str j => obtain ⟨t', rfl⟩ := ry; exact PySem.EqMixed.eq_int_str (fin_bl I q (by simp))
    | _ => exact absurd (show false = true from hs) Bool.false_ne_true
  | str i =>
    obtain ⟨t, rfl⟩ := rx
    cases y with
    | non => cases ry; exact PySem.EqNone.eq_str_none (fin_bl I q (by simp))
    | bl j => cases ry; exact PySem.EqMixed.eq_str_bool (fin_bl I q (by simp))
    | int j => obtain ⟨t', rfl⟩ := ry; exact PySem.EqMixed.eq_str_int (fin_bl I q (by simp))
    | str j => obtain ⟨t', rfl⟩ := ry; exact eq_str (fin_bl I q dec_str)
    | _ => exact absurd (show false = true from hs) Bool.false_ne_true
  | byt i =>
    obtain ⟨t, rfl⟩ := rx
    cases y with
    | byt j => obtain ⟨t', rfl⟩ := ry; exact PySem.W.eq_bytes (fin_bl I q dec_byt)
    | _ => exact absurd (show false = true from hs) Bool.false_ne_true
  | _ => cases y <;> exact absurd (show false = true from hs) Bool.false_ne_true
theorem op_ne : OpR X (compareOp .NotEq) rNe := by
  intro pins s σ H x y v u Q I rx ry h
  obtain ⟨hs, q⟩ := h
  cases x with
  | non =>
    cases rx
    cases y with
    | non => cases ry; exact PySem.EqNone.ne_none_none (fin_bl I q (by simp))
    | bl j => cases ry; exact PySem.EqNone.ne_none_bool (fin_bl I q (by simp))
    | int j => obtain ⟨t', rfl⟩ := ry; exact PySem.EqNone.ne_none_int (fin_bl I q (by simp))
    | str j => obtain ⟨t', rfl⟩ := ry; exact PySem.EqNone.ne_none_str (fin_bl I q (by simp))
    | _ => exact absurd (show false = true from hs) Bool.false_ne_true
  | bl i =>
    cases rx
    cases y with
    | non => cases ry; exact PySem.EqNone.ne_bool_none (fin_bl I q (by simp))
    | bl j => cases ry; exact ne_bool (fin_bl I q (congrArg not dec_bl))
    | str j => obtain ⟨t', rfl⟩ := ry; exact PySem.EqMixed.ne_bool_str (fin_bl I q (by simp))
    | _ => exact absurd (show false = true from hs) Bool.false_ne_true
  | int i =>
    obtain ⟨t, rfl⟩ := rx
    cases y with
    | non => cases ry; exact PySem.EqNone.ne_int_none (fin_bl I q (by simp))
    | int j => obtain ⟨t', rfl⟩ := ry; exact ne_int (fin_bl I q (congrArg not dec_int))
    | str j => obtain ⟨t', rfl⟩ := ry; exact PySem.EqMixed.ne_int_str (fin_bl I q (by simp))
    | _ => exact absurd (show false = true from hs) Bool.false_ne_true
  | str i =>
    obtain ⟨t, rfl⟩ := rx
    cases y with
    | non => cases ry; exact PySem.EqNone.ne_str_none (fin_bl I q (by simp))
    | bl j => cases ry; exact PySem.EqMixed.ne_str_bool (fin_bl I q (by simp))
    | int j => obtain ⟨t', rfl⟩ := ry; exact PySem.EqMixed.ne_str_int (fin_bl I q (by simp))
    | str j => obtain ⟨t', rfl⟩ := ry; exact ne_str (fin_bl I q (congrArg not dec_str))
    | _ => exact absurd (show false = true from hs) Bool.false_ne_true
  | byt i =>
    obtain ⟨t, rfl⟩ := rx
    cases y with
    | byt j => obtain ⟨t', rfl⟩ := ry; exact PySem.W.ne_bytes (fin_bl I q (congrArg not dec_byt))
    | _ => exact absurd (show false = true from hs) Bool.false_ne_true
  | _ => cases y <;> exact absurd (show false = true from hs) Bool.false_ne_true
theorem op_lt : OpR X (compareOp .Lt) (rI0 fun i j => .bl (decide (i < j))) := opB0 fun _ _ _ _ _ _ _ q => lt_int q
theorem op_le : OpR X (compareOp .LtE) (rI0 fun i j => .bl (decide (i ≤ j))) := opB0 fun _ _ _ _ _ _ _ q => le_int q
theorem op_gt : OpR X (compareOp .Gt) (rI0 fun i j => .bl (decide (j < i))) := opB0 fun _ _ _ _ _ _ _ q => gt_int q
theorem op_ge : OpR X (compareOp .GtE) (rI0 fun i j => .bl (decide (j ≤ i))) := opB0 fun _ _ _ _ _ _ _ q => ge_int q
theorem op_in_str : OpR X (compareOp .In) (fun x y H Q => ∃ i j, x = .str i ∧ y = .str j ∧ Q (.bl (!(Builtin.Str.occurrences j i 0 j.length 1).isEmpty)) H) := by
  intro pins s σ H x y v u Q I rx ry h
  obtain ⟨i, j, rfl, rfl, q⟩ := h
  obtain ⟨t, rfl⟩ := rx
  obtain ⟨t', rfl⟩ := ry
  exact in_str (fin_bl I q rfl)
theorem nomark (b : Expr) {op : CmpOp} (h : op ≠ .In := by decide) (h2 : op ≠ .NotIn := by decide) : behindInMarks op b = false := by
  have e1 : (op == CmpOp.In) = false := by cases op <;> first | rfl | exact absurd rfl h
  have e2 : (op == CmpOp.NotIn) = false := by cases op <;> first | rfl | exact absurd rfl h2
  cases b <;> simp [behindInMarks, e1, e2]
theorem pe_cmpR {op : CmpOp} {r : R2} (ho : OpR X (compareOp op) r) (ha : PE X a ta) (hb : PE X b tb) (hm : behindInMarks op b = false) : PE X (.Compare a [op] [b] pos) (tOp r ta tb) := by
  intro pins s σ H Q I h
  exact wpAny_Compare1 (binT ha hb I h fun v u s2 x y H2 I2 rx ry q => ho pins s2 σ H2 x y v u Q I2 rx ry q) hm
def tTest (t : TE) : TT := fun σ H Q => t σ H fun x H' => ∃ k, x = .bl k ∧ Q k H'
theorem pt_cmpR {op : CmpOp} {r : R2} (ho : OpR X (compareOp op) r) (ha : PE X a ta) (hb : PE X b tb) (hm : behindInMarks op b = false) : PT X (.Compare a [op] [b] pos) (tTest (tOp r ta tb)) := by
  intro pins s σ H Q I h
  refine wpAny_isTrue_Compare1 (thn (ha pins s σ H _ I h) fun v s1 ⟨x, H1, I1, r1, q1⟩ => thn (hb pins s1 σ H1 _ I1 q1) fun u s2 ⟨y, H2, I2, r2, q2⟩ =>
    thn (ho pins s2 σ H2 x y v u _ I2 r1 r2 q2) fun c s3 ⟨z, H3, I3, r3, k, e, q3⟩ => ?_) hm
  subst e
  cases r3
  exact wpAny_truthy_bool ⟨H3, I3, q3⟩
def tChain (r r' : R2) (ta tb tc : TE) : TE := fun σ H Q => ta σ H fun x H1 => tb σ H1 fun y H2 => r x y H2 fun z H3 => ∃ k, z = .bl k ∧
  (if k = true then tc σ H3 fun w' H4 => r' y w' H4 Q else Q (.bl false) H3)
theorem pt_chain {op op' : CmpOp} {r r' : R2} (ho : OpR X (compareOp op) r) (ho' : OpR X (compareOp op') r') (ha : PE X a ta) (hb : PE X b tb) (hc : PE X c tc)
    (hm : lastMarks [op, op'] [b, c] = false := by with_unfolding_all rfl) : PT X (.Compare a [op, op'] [b, c] pos) (tTest (tChain r r' ta tb tc)) := by
  intro pins s σ H Q I h
  refine isTrue_chain (thn (ha pins s σ H _ I h) fun v s1 ⟨x, H1, I1, r1, q1⟩ => test_link (thn (hb pins s1 σ H1 _ I1 q1) fun u s2 ⟨y, H2, I2, r2, q2⟩ =>
    thn (ho pins s2 σ H2 x y v u _ I2 r1 r2 q2) fun d s3 ⟨z, H3, I3, r3, k, e, q3⟩ => ?_)) hm
  subst e
  cases r3
  refine wpAny_truthy_bool ?_
  cases k with
  | false =>
    obtain ⟨k', e', q'⟩ := q3
    cases e'
    exact ite_ff ⟨H3, I3, q'⟩
  | true =>
    refine ite_tt (test_last (thn (hc pins s3 σ H3 _ I3 q3) fun w' s4 ⟨z', H4, I4, r4, q4⟩ => thn (ho' pins s4 σ H4 y z' u w' _ I4 r2 r4 q4) fun d' s5 ⟨z2, H5, I5, r5, k2, e2, q5⟩ => ?_))
    subst e2
    cases r5
    exact wpAny_truthy_bool ⟨H5, I5, q5⟩
theorem line63 : (sizeLine : Nat) < 2 ^ 63 := by rw [sizeLine_eq]; decide
theorem op_add_str : OpR X (binaryOp .Add) (fun x y H Q => ∃ i j, x = .str i ∧ y = .str j ∧ i.length + j.length ≤ sizeLine ∧ Q (.str (i ++ j)) H) := by
  intro pins s σ H x y v u Q I rx ry h
  obtain ⟨i, j, rfl, rfl, hz, q⟩ := h
  obtain ⟨t, rfl⟩ := rx
  obtain ⟨t', rfl⟩ := ry
  exact add_str (fun t' tk => ⟨.str (i ++ j), H, I.tok _, ⟨_, rfl⟩, q⟩) hz
theorem vals1 {x : V} {us : List Value} (r : Vals [x] us) : ∃ u, us = [u] ∧ RelV x u := by
  cases r with
  | cons r1 r2 => cases r2; exact ⟨_, rfl, r1⟩
theorem vals2 {x y : V} {us : List Value} (r : Vals [x, y] us) : ∃ u w', us = [u, w'] ∧ RelV x u ∧ RelV y w' := by
  cases r with
  | cons r1 r2 =>
    cases r2 with
    | cons r3 r4 => cases r4; exact ⟨_, _, rfl, r1, r3⟩
theorem call_max2 (hc : X.calm = true) : CallR X (.builtin "max") (fun xs H Q => ∃ i j, xs = [.int i, .int j] ∧ Q (.int (if j > i then j else i)) H) := by
  intro pins s σ H xs us Q I r h
  obtain ⟨i, j, rfl, q⟩ := h
  obtain ⟨u, w', rfl, ⟨t, rfl⟩, ⟨t', rfl⟩⟩ := vals2 r
  refine max_two_ints (I.ok.hd hc) fun h' tk k => ⟨_, H, I.kept k, ?_, q⟩
  by_cases hj : j > i
  · rw [if_pos hj, if_pos hj]; exact ⟨_, rfl⟩
  · rw [if_neg hj, if_neg hj]; exact ⟨_, rfl⟩
theorem call_min2 (hc : X.calm = true) : CallR X (.builtin "min") (fun xs H Q => ∃ i j, xs = [.int i, .int j] ∧ Q (.int (if j < i then j else i)) H) := by
  intro pins s σ H xs us Q I r h
  obtain ⟨i, j, rfl, q⟩ := h
  obtain ⟨u, w', rfl, ⟨t, rfl⟩, ⟨t', rfl⟩⟩ := vals2 r
  refine min_two_ints (I.ok.hd hc) fun h' tk k => ⟨_, H, I.kept k, ?_, q⟩
  by_cases hj : j < i
  · rw [if_pos hj, if_pos hj]; exact ⟨_, rfl⟩
  · rw [if_neg hj, if_neg hj]; exact ⟨_, rfl⟩
theorem call_int1 : CallR X (.type "int") (fun xs H Q => (∃ i, xs = [.int i] ∧ Q (.int i) H) ∨ ∃ k, xs = [.bl k] ∧ Q (.int (if k then 1 else 0)) H) := by
  intro pins s σ H xs us Q I r h
  rcases h with ⟨i, rfl, q⟩ | ⟨k, rfl, q⟩
  · obtain ⟨u, rfl, t, rfl⟩ := vals1 r
    exact call_int_int ⟨.int i, H, I, ⟨_, rfl⟩, q⟩
  · obtain ⟨u, rfl, r1⟩ := vals1 r
    cases r1
    exact call_int_bool ⟨.int (if k then 1 else 0), H, I.tok _, ⟨_, rfl⟩, q⟩
end
end L2
namespace L2
open PySem PySem.Spec PyProof.Rows
structure ObjM (h : Heap) (x dx C : Addr) (mA : Str → Option Value) : Prop where
  obj : h.get? x = some (PySem.W.instObj C dx)
  ns : h.Ns1 dx mA
  ne : dx ≠ x
theorem lookIn_ns {h : Heap} {dx : Addr} {mA : Str → Option Value} (n : h.Ns1 dx mA) : ∃ od, h.get? dx = some od ∧ ∀ name, PySem.W.lookIn name od = some (mA name) := by
  obtain ⟨o, es, ep, ho, hd, hk, _, hm⟩ := n
  refine ⟨o, ho, fun name => ?_⟩
  have e := hm name
  unfold nsFind findBy at e
  rw [← Array.find?_toList] at e
  unfold PySem.W.lookIn
  rw [hd]
  dsimp only
  split
  · rename_i y q
    rw [q] at e
    exact congrArg some e
  · rename_i q
    rw [q] at e
    have a : es.toList.any (·.refKey) = false := by
      rw [List.any_eq_false]
      intro y hy
      obtain ⟨z, t, hkey⟩ := hk y (Array.mem_toList_iff.mp hy)
      simp [DictEntry.refKey, hkey]
    have a' : ¬ es.toList.any (·.refKey) = true := by rw [a]; exact Bool.false_ne_true
    rw [if_neg a']
    exact congrArg some e
theorem ObjM.look {h : Heap} {x dx C : Addr} {mA : Str → Option Value} (I : ObjM h x dx C mA) : ∃ od, PySem.W.InstAt h x (PySem.W.instObj C dx) C (some od) ∧ ∀ name, PySem.W.lookIn name od = some (mA name) :=
  let ⟨od, ho, hl⟩ := lookIn_ns I.ns
  ⟨od, ⟨I.obj, rfl, rfl, ho⟩, hl⟩
section
variable {prog : Program} {w : World} {A : Around} {E : Value → Shared → Prop} {s : Shared} {K : PySem.W.Frag} {x dx C f : Addr} {mA : Str → Option Value} {name : Str} {v : Value}
theorem get_map {expr : Bool} {Q : Value → Shared → Prop} (X : K.In s.heap) (I : ObjM s.heap x dx C mA) (hg : PySem.W.plainGet K C name = true) (hh : PySem.W.hasDictIn K C = true)
    (ha : PySem.W.findIn K (.ref C) name = some none) (hv : mA name = some v) (hv' : PySem.W.handedIn v = true) (h : Q v { s with toks := s.toks + 1 }) :
    wpAny (model prog w) A (getAttr (.ref x) name expr) Q E s := by
  obtain ⟨od, J, hl⟩ := I.look
  exact PySem.W.get_value X J (PySem.W.plainGet_of hg).1 (PySem.W.findObj_own hh ha rfl (by rw [hl, hv])) hv' h
theorem get_meth {pl : Sem Bool} {Q : Value × List Value → Shared → Prop} (X : K.In s.heap) (I : ObjM s.heap x dx C mA) (hg : PySem.W.plainGet K C name = true)
    (hf : PySem.W.findIn K (.ref C) name = some (some (.ref f))) (ht : PySem.W.isFn K (.ref f) = true) (hv : mA name = none) (h : Q (.ref f, [.ref x]) s) :
    wpAny (model prog w) A (getMethod (.ref x) name pl) Q E s := by
  obtain ⟨od, J, hl⟩ := I.look
  exact PySem.W.method_fn X J (PySem.W.plainGet_of hg).1 (PySem.W.plainGet_of hg).2 hf (beq_iff_eq.mp ht) (by show (PySem.W.lookIn name od).map (·.isSome) = some false; rw [hl, hv]; rfl) h
theorem set_map {ns : List Str} {Q : Unit → Shared → Prop} (X : K.In s.heap) (I : ObjM s.heap x dx C mA)
    (hs : PySem.W.findIn K (.ref C) "__setattr__" = some (some (.builtin "object.__setattr__"))) (hp : PySem.W.plainOver K C = true) (ht : PySem.W.takerIn K C name = some none) (hh : PySem.W.hasDictIn K C = true)
    (hw : PySem.Within mA ns) (hsz : ns.length ≤ sizeLine)
    (h : ∀ h', ObjM h' x dx C (fun y => if y = name then some v else mA y) → Heap.SameBut dx s.heap h' → Q () { s with heap := h', toks := s.toks + 2 }) :
    wpAny (model prog w) A (setAttr (.ref x) name v) Q E s := by
  obtain ⟨od, J, hl⟩ := I.look
  refine PySem.W.set_plain X J hs (PySem.W.osa_open (s := { s with toks := s.toks + 1 }) (r := none) X J hp ht fun b => ?_)
  obtain ⟨cd, hc, hd'⟩ := PySem.W.any_some hh
  have hx : s.heap.get? x = some ⟨.ref C, some dx, .plain, #[]⟩ := I.obj
  refine wpAny_bind (wpAny_pure (wpAny_bind (wpAny_bind (wpAny_loadPart hx (wpAny_bind (PySem.W.Looks.here (s := { s with toks := s.toks + 1 }) (PySem.W.looks_clsIn X hc) ?_))))))
  rw [hd']
  refine wpAny_pure (a := some dx) (wpAny_bind (wpAny_pure (wpAny_bind ?_)))
  refine wpAny_nsSet1 (s := { s with toks := s.toks + 1 }) I.ns fun h' hn2 hs2 => ?_
  obtain ⟨oD, esD, epD, hoD, hdD, hcD⟩ := hn2.count (PySem.Within.cons name v hw)
  refine wpAny_bind (wpAny_lookBehind hoD (by rw [hdD]; exact pastItsLine_dict (Nat.le_trans hcD (by rw [List.length_cons]; omega))) ?_)
  exact wpAny_pure (h _ ⟨(hs2.2 _ (Ne.symm I.ne)).trans I.obj, hn2, I.ne⟩ hs2)
theorem make_map {R : Result → Shared → Prop} {vs : List Value} {kw : List (Str × Value)} (X : K.In s.heap) (hm : PySem.W.makesIn K C = true)
    (hi : PySem.W.findIn K (.ref C) "__init__" = some (some (.ref f))) (hf : PySem.W.typeIn K (.ref f) = some (.type "function"))
    (h : codeAny (model prog w) (A.under (.builtin "type.__call__" ⟨.ref C :: vs, kw⟩)) (.call (.ref f) ⟨.ref (s.heap.objs.size + 1) :: vs, kw⟩) (PySem.W.InitBack (s.heap.objs.size + 1) R)
      { s with heap := (s.heap.push PySem.W.emptyDict).push (PySem.W.instObj C s.heap.objs.size) }) :
    codeAny (model prog w) A (.call (.ref C) ⟨vs, kw⟩) R s := by
  obtain ⟨hh, g, d, t, os⟩ := s
  exact PySem.W.make_core (PySem.W.makes_of X hm) (PySem.W.looks_findIn X hi) (fun self => PySem.W.bind_fn X self hf) (.inl rfl) h
end
def putF (f : Str) (v : V) : List (Str × V) → List (Str × V)
  | [] => [(f, v)]
  | (g, x) :: r => if g = f then (g, v) :: r else (g, x) :: putF f v r
theorem lookup_putF (f g : Str) (v : V) : ∀ fs : List (Str × V), (putF f v fs).lookup g = if g = f then some v else fs.lookup g
  | [] => by
    show List.lookup g [(f, v)] = _
    by_cases h : g = f
    · have hb : (g == f) = true := beq_iff_eq.mpr h
      simp only [List.lookup, hb, if_pos h]
    · have hb : (g == f) = false := beq_eq_false_iff_ne.mpr h
      simp only [List.lookup, hb, if_neg h]
  | (k, x) :: r => by
    have ih := lookup_putF f g v r
    rw [show putF f v ((k, x) :: r) = (if k = f then (k, v) :: r else (k, x) :: putF f v r) from rfl]
    by_cases hk : k = f
    · rw [if_pos hk]
      by_cases h : g = k
      · have hb : (g == k) = true := beq_iff_eq.mpr h
        simp only [List.lookup, hb, if_pos (h.trans hk)]
      · have hb : (g == k) = false := beq_eq_false_iff_ne.mpr h
        simp only [List.lookup, hb, if_neg (fun e : g = f => h (e.trans hk.symm))]
    · rw [if_neg hk]
      by_cases h : g = k
      · have hb : (g == k) = true := beq_iff_eq.mpr h
        simp only [List.lookup, hb, if_neg (fun e : g = f => hk (h.symm.trans e))]
      · have hb : (g == k) = false := beq_eq_false_iff_ne.mpr h
        simp only [List.lookup, hb]
        exact ih
theorem keys_putF (f : Str) (v : V) : ∀ fs : List (Str × V), f ∈ (putF f v fs).map (·.1) ∧ ∀ g, g ∈ fs.map (·.1) → g ∈ (putF f v fs).map (·.1)
  | [] => ⟨by simp [putF], fun g h => by simp at h⟩
  | (k, x) :: r => by
    obtain ⟨i1, i2⟩ := keys_putF f v r
    rw [show putF f v ((k, x) :: r) = (if k = f then (k, v) :: r else (k, x) :: putF f v r) from rfl]
    by_cases hk : k = f
    · rw [if_pos hk]
      subst hk
      exact ⟨by simp, fun g h => by simpa using h⟩
    · rw [if_neg hk]
      refine ⟨?_, fun g h => ?_⟩
      · rw [List.map_cons]
        exact List.mem_cons_of_mem _ i1
      · rw [List.map_cons] at h ⊢
        rcases List.mem_cons.mp h with e | e
        · exact List.mem_cons.mpr (.inl e)
        · exact List.mem_cons_of_mem _ (i2 g e)
theorem length_putF (f : Str) (v : V) : ∀ fs : List (Str × V), (putF f v fs).length ≤ fs.length + 1
  | [] => by simp [putF]
  | (k, x) :: r => by
    have ih := length_putF f v r
    rw [show putF f v ((k, x) :: r) = (if k = f then (k, v) :: r else (k, x) :: putF f v r) from rfl]
    by_cases hk : k = f
    · rw [if_pos hk, List.length_cons, List.length_cons]; omega
    · rw [if_neg hk, List.length_cons, List.length_cons]; omega
theorem RelO.some_of {v : V} {o : Option Value} (r : RelO (some v) o) : ∃ u, o = some u ∧ RelV v u := by
  cases o with
  | none => exact (show False from r).elim
  | some u => exact ⟨u, rfl, r⟩
theorem RelO.none_of {o : Option Value} (r : RelO none o) : o = none := by
  cases o with
  | none => rfl
  | some u => exact (show False from r).elim
theorem handed_of {v : V} {u : Value} (r : RelV v u) : PySem.W.handedIn u = true := by
  cases v with
  | non => cases (show u = Value.none from r); rfl
  | bl b => cases (show u = Value.bool b from r); rfl
  | int i => obtain ⟨t, e⟩ := (show ∃ t, u = Value.int i t from r); cases e; rfl
  | str x => obtain ⟨t, e⟩ := (show ∃ t, u = Value.str x t from r); cases e; rfl
  | byt b => obtain ⟨t, e⟩ := (show ∃ t, u = Value.bytes b t from r); cases e; rfl
  | flt b => obtain ⟨t, e⟩ := (show ∃ t, u = Value.float b t from r); cases e; rfl
  | ref a => cases (show u = Value.ref a from r); rfl
  | ty n => cases (show u = Value.type n from r); rfl
section
variable {P : Program} {w : World} {H H' : Hp} {h h' : Heap} {a C dx : Addr} {fs fs' : List (Str × V)}
theorem ins_get (hok : HOk P w H h) (e : H a = some (.ins C dx fs)) : ∃ mA, ObjM h a dx C mA ∧ (∀ f, RelO (fs.lookup f) (mA f)) ∧ PySem.Within mA (fs.map (·.1)) ∧ fs.length ≤ 1000 ∧ H dx = some (.own a) := by
  obtain ⟨d, z, ne, ob, mA, n, r, q⟩ := (show ObjOk P w H h a (.ins C dx fs) from hok a _ e)
  exact ⟨mA, ⟨ob, n, ne⟩, r, q, z, d⟩
end
structure Cls (K : PySem.W.Frag) (C : Addr) : Prop where
  pg : PySem.W.plainGet K C Str.empty = true
  hd : PySem.W.hasDictIn K C = true
  po : PySem.W.plainOver K C = true
  sa : PySem.W.findIn K (.ref C) "__setattr__" = some (some (.builtin "object.__setattr__"))
theorem Cls.get {K : PySem.W.Frag} {C : Addr} (c : Cls K C) (f : Str) : PySem.W.plainGet K C f = true := c.pg
def NoAttr (K : PySem.W.Frag) (C : Addr) (f : Str) : Prop := PySem.W.findIn K (.ref C) f = some none
theorem NoAttr.taker {K : PySem.W.Frag} {C : Addr} {f : Str} (n : NoAttr K C f) : PySem.W.takerIn K C f = some none := by
  unfold PySem.W.takerIn
  rw [show PySem.W.findIn K (.ref C) f = some none from n]
  rfl
structure Meth (K : PySem.W.Frag) (C : Addr) (m : Str) (f : Addr) : Prop where
  at_ : PySem.W.findIn K (.ref C) m = some (some (.ref f))
  fn : PySem.W.isFn K (.ref f) = true
  kp : PySem.W.keepIn K (.ref f) = true
section
variable {X : Cx} {pins : List (Addr × Obj)} {σ : St} {H : Hp} {s : Shared} {a C dx : Addr} {fs : List (Str × V)} {f : Str} {v : V} {A : Around} {E : Value → Shared → Prop}
theorem getattr_ok {b : Bool} {Q : Value → Shared → Prop} (I : Inv X pins σ H s) (e : H a = some (.ins C dx fs)) (c : Cls X.K C) (n : NoAttr X.K C f) (l : fs.lookup f = some v)
    (h : ∀ u s', Inv X pins σ H s' → RelV v u → Q u s') : wpAny (model X.prog X.w) A (getAttr (.ref a) f b) Q E s := by
  obtain ⟨mA, O, r, _, _, _⟩ := ins_get I.hok e
  obtain ⟨u, hu, ru⟩ := RelO.some_of (v := v) (o := mA f) (by rw [← l]; exact r f)
  exact get_map I.kIn O (c.get f) c.hd n hu (handed_of ru) (h u _ (I.tok _) ru)
theorem getmeth_ok {m : Str} {g : Addr} {pl : Sem Bool} {Q : Value × List Value → Shared → Prop} (I : Inv X pins σ H s) (e : H a = some (.ins C dx fs)) (c : Cls X.K C) (k : Meth X.K C m g) (l : fs.lookup m = none)
    (h : Q (.ref g, [.ref a]) s) : wpAny (model X.prog X.w) A (getMethod (.ref a) m pl) Q E s := by
  obtain ⟨mA, O, r, _, _, _⟩ := ins_get I.hok e
  have hn : mA m = none := RelO.none_of (by rw [← l]; exact r m)
  exact get_meth I.kIn O (c.get m) k.at_ k.fn hn h
theorem setattr_ok {y : V} {u : Value} {Q : Unit → Shared → Prop} (I : Inv X pins σ H s) (e : H a = some (.ins C dx fs)) (c : Cls X.K C) (n : NoAttr X.K C f) (hl : fs.length < 1000) (ry : RelV y u)
    (h : ∀ s', Inv X pins σ (upd H a (.ins C dx (putF f y fs))) s' → Q () s') : wpAny (model X.prog X.w) A (setAttr (.ref a) f u) Q E s := by
  obtain ⟨mA, O, r, wi, _, ho⟩ := ins_get I.hok e
  have hz : (fs.map (·.1)).length ≤ sizeLine := by rw [List.length_map, sizeLine_eq]; omega
  refine set_map I.kIn O c.sa c.po n.taker c.hd wi hz fun h' O' sb => h _ ?_
  have hd : ∃ o, h'.get? dx = some o := let ⟨o, _, _, e', _⟩ := O'.ns; ⟨o, e'⟩
  refine I.write (x := a) (e := dx) (by rw [e]; exact True.intro) (.inr ho) (fun b q hb z => (sb.2 b hb).trans z) hd ?_
  refine ⟨by rw [upd_ne O.ne]; exact ho, ?_, O.ne, O'.obj, _, O'.ns, fun g => ?_, fun g hg => ?_⟩
  · have := length_putF f y fs; omega
  · show RelO ((putF f y fs).lookup g) (if g = f then some u else mA g)
    rw [lookup_putF]
    by_cases q : g = f
    · rw [if_pos q, if_pos q]; exact ry
    · rw [if_neg q, if_neg q]; exact r g
  · by_cases q : g = f
    · rw [q]; exact (keys_putF f y fs).1
    · refine (keys_putF f y fs).2 g (wi g fun z => hg ?_)
      show (if g = f then some u else mA g) = none
      rw [if_neg q]; exact z
theorem Inv.made (I : Inv X pins σ H s) : Inv X pins σ (upd (upd H s.heap.objs.size (.own (s.heap.objs.size + 1))) (s.heap.objs.size + 1) (.ins C s.heap.objs.size []))
    { s with heap := (s.heap.push PySem.W.emptyDict).push (PySem.W.instObj C s.heap.objs.size) } := by
  have e1 : (s.heap.push PySem.W.emptyDict).get? s.heap.objs.size = some PySem.W.emptyDict := Heap.get?_push_size s.heap rfl
  have e2 : ((s.heap.push PySem.W.emptyDict).push (PySem.W.instObj C s.heap.objs.size)).get? (s.heap.objs.size + 1) = some (PySem.W.instObj C s.heap.objs.size) := by
    have := Heap.get?_push_size (s.heap.push PySem.W.emptyDict) (o := PySem.W.instObj C s.heap.objs.size) rfl
    rwa [Heap.size_push] at this
  have e3 : (s.heap.push PySem.W.emptyDict).Ns s.heap.objs.size (fun _ => none) := ⟨PySem.W.emptyDict, #[], _, e1, rfl, (fun e he => absurd he (by simp)), fun _ => rfl⟩
  have I1 := I.laid (a := s.heap.objs.size) (o := .own (s.heap.objs.size + 1)) (h' := s.heap.push PySem.W.emptyDict) (t' := s.toks) (fun b u q => Heap.get?_push_of_some _ q) (Nat.le_refl _) ⟨_, e1⟩
  refine I1.laid (a := s.heap.objs.size + 1) (o := .ins C s.heap.objs.size []) (t' := s.toks) (fun b u q => Heap.get?_push_of_some _ q) (Nat.le_of_eq (Heap.size_push _ _)) ?_
  have ne : s.heap.objs.size ≠ s.heap.objs.size + 1 := Nat.ne_of_lt (Nat.lt_succ_self _)
  refine ⟨by rw [upd_ne ne, upd_same], Nat.zero_le _, ne, e2, fun _ => none, (Heap.Ns1.of_empty e3).at fun o q => Heap.get?_push_of_some _ q, fun _ => True.intro, fun y hy => absurd rfl hy⟩
theorem attr_of {prog : Program} {w : World} {env : Env} {e : Expr} {f : Str} {pos : Pos} {s : Shared} {Q : Value → Shared → Prop} (hb : attributeBase e f env (eval e env) = eval e env)
    (h : wpAny (model prog w) A (eval e env) (fun o s₁ => wpAny (model prog w) A (getAttr o f true) Q E s₁) E s) : wpAny (model prog w) A (eval (.Attribute e f pos) env) Q E s :=
  Attribute_any_ h (by rw [arm_eval_Attribute, hb])
end
def tFld (K : PySem.W.Frag) (ta : TE) (f : Str) : TE := fun σ H Q => ta σ H fun x H1 => ∃ a C dx fs v, x = .ref a ∧ H1 a = some (.ins C dx fs) ∧ Cls K C ∧ NoAttr K C f ∧ fs.lookup f = some v ∧ Q v H1
def sFld (K : PySem.W.Frag) (ta tv : TE) (f : Str) : TS := fun D σ H => tv σ H fun y H1 => ta σ H1 fun x H2 => ∃ a C dx fs, x = .ref a ∧ H2 a = some (.ins C dx fs) ∧ Cls K C ∧ NoAttr K C f ∧ fs.length < 1000 ∧
  D.nx σ (upd H2 a (.ins C dx (putF f y fs)))
section
variable {X : Cx} {o e value : Expr} {f : Str} {pos pos' tpos : Pos} {ta tv : TE}
theorem pe_fld (he : PE X e ta) (hb : attributeBase e f X.env (eval e X.env) = eval e X.env) : PE X (.Attribute e f pos) (tFld X.K ta f) := by
  intro pins s σ H Q I h
  refine attr_of hb (thn (he pins s σ H _ I h) fun u s1 ⟨x, H1, I1, rx, a, C, dx, fs, v, ex, ea, c, n, l, q⟩ => ?_)
  subst ex
  obtain rfl : u = Value.ref a := rx
  exact getattr_ok I1 ea c n l fun u' s2 I2 ru => ⟨v, H1, I2, ru, q⟩
theorem ps_fld (ha : PE X o ta) (hv : PE X value tv) (hs : swapsWith value (some (.Attribute o f pos')) pos.line X.env = pure false) : PS X (.Assign [.Attribute o f pos'] value pos) (sFld X.K ta tv f) := by
  intro pins s σ H D I h
  refine plainObj_wpAny_Assign_Attribute (thn (hv pins s σ H _ I h) fun u s1 ⟨y, H1, I1, ry, q⟩ => thn (ha pins s1 σ H1 _ I1 q) fun ov s2 ⟨x, H2, I2, rx, a, C, dx, fs, ex, ea, c, n, l, q2⟩ => ?_) hs
  subst ex
  obtain rfl : ov = Value.ref a := rx
  exact setattr_ok I2 ea c n l ry fun s3 I3 => ⟨σ, _, I3, q2⟩
end
section
variable {X : Cx} {pins : List (Addr × Obj)} {σ : St} {H : Hp} {s : Shared} {A : Around} {E : Value → Shared → Prop} {Q : Value → Shared → Prop} {c : Value} {b : Bool}
inductive TyOf (K : PySem.W.Frag) (H : Hp) : V → Value → Prop where
  | non : TyOf K H .non (.type "NoneType")
  | bl (x : Bool) : TyOf K H (.bl x) (.type "bool")
  | int (i : Int) : TyOf K H (.int i) (.type "int")
  | str (x : Str) : TyOf K H (.str x) (.type "str")
  | flt (x : UInt64) : TyOf K H (.flt x) (.type "float")
  | lst {a : Addr} {xs : List V} (e : H a = some (.lst xs)) : TyOf K H (.ref a) (.type "list")
  | frz {a : Addr} {o : Obj} {xs : List V} (e : H a = some (.frz o (.lst xs))) : TyOf K H (.ref a) (.type "list")
  | tup {a : Addr} {xs : List V} (e : H a = some (.tup xs)) : TyOf K H (.ref a) (.type "tuple")
  | dK {a : Addr} {kvs : List (Key × V)} (e : H a = some (.dK kvs)) : TyOf K H (.ref a) (.type "dict")
  | dT {a : Addr} {kvs : List (List Key × V)} (e : H a = some (.dT kvs)) : TyOf K H (.ref a) (.type "dict")
  | ins {a C dx : Addr} {fs : List (Str × V)} (e : H a = some (.ins C dx fs)) (cl : Cls K C) (ha : PySem.W.findIn K (.ref C) "__class__" = some (some (.builtin "object.__class__")))
      (hn : PySem.W.specialIn K (.builtin "object.__class__") "__get__" = some (some (.builtin "getset_descriptor.__get__"))) (htk : PySem.W.takesIn K (.builtin "object.__class__") = some true)
      (hm : PySem.W.mroIn K C (.type "object") = some true) : TyOf K H (.ref a) (.ref C)
theorem isinst_ok {x : V} {u t : Value} (I : Inv X pins σ H s) (rx : RelV x u) (ty : TyOf X.K H x t) (e : PySem.W.kitOne X.K t c = some b) (h : ∀ tk, Q (.bool b) { s with toks := tk }) :
    wpAny (model X.prog X.w) A (call (.builtin "isinstance") [u, c]) Q E s := by
  cases ty with
  | non => cases (show u = Value.none from rx); exact PySem.W.kia_one PySem.W.kitx_none I.kIn True.intro e (fun z => nomatch z) h
  | bl y => cases (show u = Value.bool y from rx); exact PySem.W.kia_one PySem.W.kitx_bool I.kIn True.intro e (fun z => nomatch z) h
  | int i => obtain ⟨t, q⟩ := (show ∃ t, u = Value.int i t from rx); cases q; exact PySem.W.kia_one PySem.W.kitx_int I.kIn True.intro e (fun z => nomatch z) h
  | str y => obtain ⟨t, q⟩ := (show ∃ t, u = Value.str y t from rx); cases q; exact PySem.W.kia_one PySem.W.kitx_str I.kIn True.intro e (fun z => nomatch z) h
  | flt y => obtain ⟨t, q⟩ := (show ∃ t, u = Value.float y t from rx); cases q; exact PySem.W.kia_one PySem.W.kitx_float I.kIn True.intro e (fun z => nomatch z) h
  | @lst a xs ea =>
    cases (show u = Value.ref a from rx)
    obtain ⟨_, _, n, _, h1⟩ := (show ObjOk X.prog X.w H s.heap a (.lst xs) from I.hok a _ ea)
    exact PySem.W.kia_one PySem.W.kitx_list I.kIn ⟨_, h1, rfl⟩ e (fun z => nomatch z) h
  | @frz a ob xs ea =>
    cases (show u = Value.ref a from rx)
    obtain ⟨_, _, _, n, _, h1⟩ := (show ObjOk X.prog X.w H s.heap a (.frz ob (.lst xs)) from I.hok a _ ea)
    exact PySem.W.kia_one PySem.W.kitx_list I.kIn ⟨_, h1, rfl⟩ e (fun z => nomatch z) h
  | @tup a xs ea =>
    cases (show u = Value.ref a from rx)
    obtain ⟨_, _, _, p⟩ := (show ObjOk X.prog X.w H s.heap a (.tup xs) from I.hok a _ ea)
    obtain ⟨o, h1, h2, _⟩ := p
    exact PySem.W.kia_one PySem.W.kitx_tuple I.kIn ⟨o, h1, h2⟩ e (fun z => nomatch z) h
  | @dK a kvs ea =>
    cases (show u = Value.ref a from rx)
    obtain ⟨_, _, vs, _, p⟩ := (show ObjOk X.prog X.w H s.heap a (.dK kvs) from I.hok a _ ea)
    obtain ⟨o, es, ep, h1, h2, _⟩ := p
    exact PySem.W.kia_one PySem.W.kitx_dict I.kIn ⟨o, h1, h2.1⟩ e (fun z => nomatch z) h
  | @dT a kvs ea =>
    cases (show u = Value.ref a from rx)
    obtain ⟨_, _, xs, _, o, es, ep, h1, h2, _⟩ := (show ObjOk X.prog X.w H s.heap a (.dT kvs) from I.hok a _ ea)
    exact PySem.W.kia_one PySem.W.kitx_dict I.kIn ⟨o, h1, h2.1⟩ e (fun z => nomatch z) h
  | @ins a C dx fs ea cl ha hn htk hm =>
    cases (show u = Value.ref a from rx)
    obtain ⟨mA, O, _⟩ := ins_get I.hok ea
    obtain ⟨od, J, _⟩ := O.look
    exact PySem.W.kia_one (PySem.W.kitx_own (cl.get _) cl.hd ha hn htk hm) I.kIn J e (fun z => nomatch z) h
end
end L2
namespace L2
open PySem PySem.Spec PyProof.Rows
structure Room (k : Nat) (A : Around) : Prop where
  hd : A.handled = none
  dp : A.depth + 3 * k + 5 < recursionLimit
  un : A.units + 16 * k + 200 < cLine
theorem Room.mono {j k : Nat} {A : Around} (r : Room k A) (h : j ≤ k) : Room j A := ⟨r.hd, by have := r.dp; omega, by have := r.un; omega⟩
theorem Room.deeper {k : Nat} {A : Around} (r : Room (k + 1) A) (env : Env) : Room k (A.deeper env) :=
  ⟨r.hd, by have := r.dp; show A.depth + 1 + 3 * k + 5 < _; omega, by have := r.un; show A.units + 3 + 16 * k + 200 < _; omega⟩
theorem make_depth {A : Around} {C : Addr} {us : List Value} {kw : List (Str × Value)} : (A.under (.builtin "type.__call__" ⟨.ref C :: us, kw⟩)).depth = A.depth + 1 := by
  first | rfl | simp [Around.under, Code.weight, Code.isCreation, Code.isGuard, Code.isCaller, Code.frames, Code.isFrame, guardIds]
theorem make_units {A : Around} {C : Addr} {us : List Value} {kw : List (Str × Value)} : (A.under (.builtin "type.__call__" ⟨.ref C :: us, kw⟩)).units = A.units + 1 := by
  first | rfl | simp [Around.under, Code.cUnits, Code.frames, Code.isFrame]
theorem Room.make {k : Nat} {A : Around} (r : Room (k + 1) A) (C : Addr) (us : List Value) (kw : List (Str × Value)) : Room k (A.under (.builtin "type.__call__" ⟨.ref C :: us, kw⟩)) :=
  ⟨r.hd, by have := r.dp; rw [make_depth]; omega, by have := r.un; rw [make_units]; omega⟩
theorem Room.depth {k : Nat} {A : Around} (r : Room k A) : A.depth < recursionLimit := by have := r.dp; omega
theorem Room.units {k : Nat} {A : Around} (r : Room k A) : A.units + 64 < cLine := by have := r.un; omega
def tNil : TA := fun _ H Q => Q [] H
def tCons (ta : TE) (tr : TA) : TA := fun σ H Q => ta σ H fun x H1 => tr σ H1 fun xs H2 => Q (x :: xs) H2
section
variable {X : Cx} {e : Expr} {es : List Expr} {te : TE} {t : TA} {pos : Pos}
theorem pa_nil : PA X [] tNil := fun _ _ _ _ H Q I h => Calls.spliced_nil ⟨[], H, I, .nil, h⟩
theorem pa_cons (ha : PE X e te) (hr : PA X es t) (hs : starEach (e :: es) X.env = (false, eval e X.env) :: starEach es X.env := by rfl) : PA X (e :: es) (tCons te t) := by
  intro pos pins s σ H Q I h
  rw [hs]
  show wpAny _ _ (spliced ((false, eval e X.env) :: backTo pos (starEach es X.env))) _ _ s
  refine Calls.spliced_cons (thn (ha pins s σ H _ I h) fun u s1 ⟨x, H1, I1, r1, q1⟩ => ?_)
  exact thn (hr pos pins s1 σ H1 _ I1 q1) fun us s2 ⟨xs, H2, I2, r2, q2⟩ => ⟨x :: xs, H2, I2, .cons r1 r2, q2⟩
end
abbrev Sp := List V → Hp → VK → XK → Prop
abbrev CXT := List Env → Hp → Shared → XK → Value → Shared → Prop
structure Env0 (P : Program) (w : World) (K : PySem.W.Frag) (mg : Str → Option Value) (base : Heap) (A : Around) (outer : List Env) (s : Shared) (H : Hp) : Prop where
  frames : A.frames = some outer
  mod : Mod K mg base
  bs : ∀ b o, base.get? b = some o → s.heap.get? b = some o ∧ H b = none
  bsz : base.objs.size ≤ s.heap.objs.size
  funs : s.heap.FunFrames base outer
  frf : ∀ b ∈ frs outer, H b = none
  hok : HOk P w H s.heap
  bare : AllBare s.gens
def CE (outer : List Env) (P : Program) (w : World) (H : Hp) (s : Shared) (Q : VK) (u : Value) (s' : Shared) : Prop :=
  ∃ v H', s'.os = s.os ∧ AllBare s'.gens ∧ Un (frs outer) [] H H' s.heap s'.heap ∧ HOk P w H' s'.heap ∧ RelV v u ∧ Q v H'
def CR (CX : CXT) (outer : List Env) (P : Program) (w : World) (H : Hp) (s : Shared) (Q : VK) (E : XK) (r : Result) (s' : Shared) : Prop :=
  match r with
  | .ok (.ret u) => CE outer P w H s Q u s'
  | .ok _ => False
  | .error e => CX outer H s E e s'
structure FnOk (P : Program) (w : World) (K : PySem.W.Frag) (mg : Str → Option Value) (base : Heap) (CX : CXT) (k : Nat) (f : Addr) (fd : FuncData) (ps : List Str) (sp : Sp) : Prop where
  len : ∀ vs H Q E, sp vs H Q E → vs.length = ps.length
  run : ∀ (A : Around) (outer : List Env) (s : Shared) (H : Hp) (args : Args) (us : List Value) (vs : List V) (Q : VK) (E : XK), Room k A → Env0 P w K mg base A outer s H → BindsTo s fd args (ps.zip us) → Vals vs us → sp vs H Q E →
    codeAny (model P w) A (.call (.ref f) args) (CR CX outer P w H s Q E) s
theorem FnOk.mono {P : Program} {w : World} {K : PySem.W.Frag} {mg : Str → Option Value} {base : Heap} {CX : CXT} {j k : Nat} {f : Addr} {fd : FuncData} {ps : List Str} {sp : Sp} (F : FnOk P w K mg base CX j f fd ps sp) (h : j ≤ k) :
    FnOk P w K mg base CX k f fd ps sp := ⟨F.len, fun A outer s H args us vs Q E hr => F.run A outer s H args us vs Q E (hr.mono h)⟩
theorem Env0.make {P : Program} {w : World} {K : PySem.W.Frag} {mg : Str → Option Value} {base : Heap} {A : Around} {outer : List Env} {s : Shared} {H : Hp} (e : Env0 P w K mg base A outer s H) (C : Addr) (us : List Value) (kw : List (Str × Value)) :
    Env0 P w K mg base (A.under (.builtin "type.__call__" ⟨.ref C :: us, kw⟩)) outer s H := ⟨by first | exact e.frames | (simpa [Around.under, Code.envs, Code.isFrame, pushEnvs] using e.frames), e.mod, e.bs, e.bsz, e.funs, e.frf, e.hok, e.bare⟩
section
variable {X : Cx} {pins : List (Addr × Obj)} {σ : St} {H : Hp} {s s' : Shared}
theorem Inv.env0 (I : Inv X pins σ H s) : Env0 X.prog X.w X.K X.mg X.base X.A X.stack s H :=
  ⟨I.ok.frames, I.ok.mod, I.bs, Nat.le_trans I.ok.bsz I.sz, I.stack, I.stkFree, I.hok, I.bare⟩
theorem Inv.after {Q : VK} {u : Value} (I : Inv X pins σ H s) (h : CE X.stack X.prog X.w H s Q u s') : EP X pins σ Q u s' := by
  obtain ⟨v, H', os, bare, un, hok, r, q⟩ := h
  obtain ⟨hh, g, d, t, os'⟩ := s'
  obtain rfl : os' = s.os := os
  exact ⟨v, H', I.call (h' := hh) (g' := g) (d' := d) (t' := t) (ch := []) un hok bare (fun b z => absurd z (by simp)), r, q⟩
end
def tCall (sp : Sp) (dvs : List V) (E : XK) (t : TA) : TE := fun σ H Q => t σ H fun vs H1 => sp (vs ++ dvs) H1 Q E
def tMake (C : Addr) (sp : Sp) (dvs : List V) (E : XK) (t : TA) : TE := fun σ H Q => t σ H fun vs H1 => ∀ x dx, H1 x = none → H1 dx = none → dx ≠ x →
  sp (.ref x :: (vs ++ dvs)) (upd (upd H1 dx (.own x)) x (.ins C dx [])) (fun v H2 => v = .non ∧ Q (.ref x) H2) E
def Binds (K : PySem.W.Frag) (fd : FuncData) (ps : List Str) (ds : List Value) : Prop :=
  ∀ (s : Shared) (us : List Value), K.In s.heap → (us ++ ds).length = ps.length → BindsTo s fd ⟨us, []⟩ (ps.zip (us ++ ds))
theorem Binds.all {K : PySem.W.Frag} {fd : FuncData} {ps : List Str} (h : ∀ us : List Value, us.length = ps.length → bindArgs fd ⟨us, []⟩ = pure (ps.zip us)) : Binds K fd ps [] := fun s us _ hl => by
  rw [List.append_nil] at hl ⊢
  exact .of_eq (h us hl)
def Passes (CX : CXT) (X : Cx) (E : XK) : Prop := ∀ (pins : List (Addr × Obj)) (σ : St) (H : Hp) (s : Shared) (e : Value) (s' : Shared), Inv X pins σ H s → CX X.stack H s E e s' → X.xe e s'
section
variable {X : Cx} {CX : CXT} {k : Nat} {f C : Addr} {fd : FuncData} {ps : List Str} {sp : Sp} {dvs : List V} {ds : List Value} {E : XK} {x m : Str} {p pos apos : Pos} {e o : Expr} {es : List Expr} {ta : TE} {t : TA}
theorem run_fn {pins : List (Addr × Obj)} {σ : St} {H : Hp} {s : Shared} {Q : VK} {us : List Value} {vs : List V} (F : FnOk X.prog X.w X.K X.mg X.base CX k f fd ps sp) (hr : Room k X.A) (hb : Binds X.K fd ps ds) (hd : Vals dvs ds) (hx : Passes CX X E)
    (I : Inv X pins σ H s) (r : Vals vs us) (h : sp (vs ++ dvs) H Q E) : wpAny (model X.prog X.w) X.A (call (.ref f) us) (EP X pins σ Q) X.xe s := by
  have r2 : Vals (vs ++ dvs) (us ++ ds) := r.append hd
  have hl : (us ++ ds).length = ps.length := by rw [← r2.length]; exact F.len _ _ _ _ h
  refine wpAny_call (codeAny_mono (F.run X.A X.stack s H ⟨us, []⟩ (us ++ ds) (vs ++ dvs) Q E hr I.env0 (hb s us I.kIn hl) r2 h) fun r s' hq => ?_)
  cases r with
  | error e => exact hx pins σ H s e s' I hq
  | ok fl =>
    cases fl with
    | ret u => exact I.after hq
    | next => exact False.elim hq
    | brk => exact False.elim hq
    | cont => exact False.elim hq
theorem pe_call (F : FnOk X.prog X.w X.K X.mg X.base CX k f fd ps sp) (hr : Room k X.A) (hg : Gl X x) (hm : X.mg x = some (.ref f)) (hk : PySem.W.keepIn X.K (.ref f) = true) (hb : Binds X.K fd ps ds) (hd : Vals dvs ds) (hx : Passes CX X E)
    (ha : PA X (e :: es) t) (hdb : (x == ("__debug__" : Str)) = false := by decide) (he : starEach (e :: es) X.env = (false, eval e X.env) :: starEach es X.env := by rfl) (hpl : (backTo pos (starEach es X.env)).any (·.1) = false := by rfl) :
    PE X (.Call (.Name x p) (e :: es) [] pos) (tCall sp dvs E t) := by
  intro pins s σ H Q I h
  refine wpAny_Call_Name_kw (ld_glob I hg hm ?_ hdb)
  refine PySem.W.callWith_K (h₀ := X.base) I.ok.mod.kin hk (thn (ha pos pins s σ H _ I h) fun us s1 ⟨vs, H1, I1, r, q⟩ => ⟨I1.kIn, ?_⟩) he hpl
  exact run_fn F hr hb hd hx I1 r q
theorem pe_call0 (F : FnOk X.prog X.w X.K X.mg X.base CX k f fd ps sp) (hr : Room k X.A) (hg : Gl X x) (hm : X.mg x = some (.ref f)) (hk : PySem.W.keepIn X.K (.ref f) = true) (hb : Binds X.K fd ps ds) (hd : Vals dvs ds) (hx : Passes CX X E)
    (hdb : (x == ("__debug__" : Str)) = false := by decide) : PE X (.Call (.Name x p) [] [] pos) (tCall sp dvs E tNil) := by
  intro pins s σ H Q I h
  refine wpAny_Call_Name_kw (ld_glob I hg hm ?_ hdb)
  exact PySem.W.callWith_K0 I.kIn hk (run_fn (us := []) F hr hb hd hx I .nil h)
structure Mk (K : PySem.W.Frag) (C f : Addr) : Prop where
  makes : PySem.W.makesIn K C = true
  init : PySem.W.findIn K (.ref C) "__init__" = some (some (.ref f))
  fn : PySem.W.isFn K (.ref f) = true
  kp : PySem.W.keepIn K (.ref C) = true
theorem run_make {pins : List (Addr × Obj)} {σ : St} {H : Hp} {s : Shared} {Q : VK} {us : List Value} {vs : List V} (M : Mk X.K C f) (F : FnOk X.prog X.w X.K X.mg X.base CX k f fd ps sp) (hr : Room (k + 1) X.A) (hb : Binds X.K fd ps ds) (hd : Vals dvs ds)
    (hx : Passes CX X E) (I : Inv X pins σ H s) (r : Vals vs us)
    (h : ∀ x dx, H x = none → H dx = none → dx ≠ x → sp (.ref x :: (vs ++ dvs)) (upd (upd H dx (.own x)) x (.ins C dx [])) (fun v H2 => v = .non ∧ Q (.ref x) H2) E) :
    wpAny (model X.prog X.w) X.A (call (.ref C) us) (EP X pins σ Q) X.xe s := by
  have hq := h (s.heap.objs.size + 1) s.heap.objs.size (I.hok.fresh (Nat.le_succ _)) (I.hok.fresh (Nat.le_refl _)) (Nat.ne_of_lt (Nat.lt_succ_self _))
  have I2 := Inv.made (C := C) I
  have r2 : Vals (V.ref (s.heap.objs.size + 1) :: (vs ++ dvs)) (Value.ref (s.heap.objs.size + 1) :: (us ++ ds)) := .cons rfl (r.append hd)
  have hl : (Value.ref (s.heap.objs.size + 1) :: us ++ ds).length = ps.length := by
    have e := r2.length
    rw [F.len _ _ _ _ hq] at e
    exact e.symm
  refine wpAny_call (make_map (f := f) I.kIn M.makes M.init (beq_iff_eq.mp M.fn) (codeAny_mono (F.run _ X.stack _ _ ⟨Value.ref (s.heap.objs.size + 1) :: us, []⟩ (Value.ref (s.heap.objs.size + 1) :: (us ++ ds)) _ _ E (hr.make C us [])
    (I2.env0.make C us []) (hb _ (Value.ref (s.heap.objs.size + 1) :: us) I2.kIn hl) r2 hq) fun r s' hq' => ?_))
  cases r with
  | error e => exact hx pins σ _ _ e s' I2 hq'
  | ok fl =>
    cases fl with
    | ret u =>
      obtain ⟨v, H', I3, rv, ev, q3⟩ := I2.after hq'
      subst ev
      exact ⟨rv, ⟨V.ref (s.heap.objs.size + 1), H', I3, rfl, q3⟩⟩
    | next => exact False.elim hq'
    | brk => exact False.elim hq'
    | cont => exact False.elim hq'
theorem pe_make (M : Mk X.K C f) (F : FnOk X.prog X.w X.K X.mg X.base CX k f fd ps sp) (hr : Room (k + 1) X.A) (hg : Gl X x) (hm : X.mg x = some (.ref C)) (hb : Binds X.K fd ps ds) (hd : Vals dvs ds) (hx : Passes CX X E)
    (ha : PA X (e :: es) t) (hdb : (x == ("__debug__" : Str)) = false := by decide) (he : starEach (e :: es) X.env = (false, eval e X.env) :: starEach es X.env := by rfl) (hpl : (backTo pos (starEach es X.env)).any (·.1) = false := by rfl) :
    PE X (.Call (.Name x p) (e :: es) [] pos) (tMake C sp dvs E t) := by
  intro pins s σ H Q I h
  refine wpAny_Call_Name_kw (ld_glob I hg hm ?_ hdb)
  refine PySem.W.callWith_K (h₀ := X.base) I.ok.mod.kin M.kp (thn (ha pos pins s σ H _ I h) fun us s1 ⟨vs, H1, I1, r, q⟩ => ⟨I1.kIn, ?_⟩) he hpl
  exact run_make M F hr hb hd hx I1 r q
end
section
variable {X : Cx} {CX : CXT} {k : Nat} {f C : Addr} {fd : FuncData} {ps ks : List Str} {sp : Sp} {E : XK} {x m : Str} {p pos apos kpos : Pos} {e o : Expr} {es : List Expr} {kws : List Keyword} {te ta : TE} {t tk : TA} {nm : Option Str}
variable {g : List Value → List Value → List Value} {gV : List V → List V → List V}
end
structure FnScope (N P : List Str) (sc : Scope) : Prop where
  kind : sc.kind = .function
  co : sc.isCoroutine = false
  gen : sc.isGenerator = false
  nd : N.Nodup
  pre : N.take P.length = P
  par : ∀ x ∈ P, sc.names.lookup x = some .local ∨ sc.names.lookup x = some .cell
  nofree : ∀ y ∈ sc.names, y.2 ≠ .free
theorem bindL_out {kindOf : Str → Option NameKind} {x : Str} : ∀ {binds : List (Str × Value)} {m : Str → Option Value}, (∀ v, (x, v) ∉ binds) → bindL kindOf binds m x = m x
  | [], _, _ => rfl
  | (n, v) :: r, m, h => by
    unfold bindL
    rw [bindL_out fun w hw => h w (List.mem_cons_of_mem _ hw)]
    split
    · have : x ≠ n := by rintro rfl; exact h v List.mem_cons_self
      simp [this]
    · rfl
theorem bindC_out {kindOf : Str → Option NameKind} {x : Str} : ∀ {binds : List (Str × Value)} {m : Str → Option Value}, (∀ v, (x, v) ∉ binds) → bindC kindOf binds m x = m x
  | [], _, _ => rfl
  | (n, v) :: r, m, h => by
    unfold bindC
    rw [bindC_out fun w hw => h w (List.mem_cons_of_mem _ hw)]
    split
    · rfl
    · have : x ≠ n := by rintro rfl; exact h v List.mem_cons_self
      simp [this]
theorem bindL_get {kindOf : Str → Option NameKind} {x : Str} {v : Value} : ∀ {P : List Str} {vs : List Value} {i : Nat} {m : Str → Option Value}, P.Nodup → P[i]? = some x → vs[i]? = some v → kindOf x = some .local →
    bindL kindOf (P.zip vs) m x = some v
  | [], _, _, _, _, h, _, _ => by simp at h
  | _ :: _, [], _, _, _, _, h, _ => by simp at h
  | p :: P, w :: vs, 0, m, nd, h1, h2, hk => by
    simp at h1 h2; subst h1; subst h2
    show bindL kindOf ((p, w) :: P.zip vs) m p = _
    unfold bindL
    rw [bindL_out fun v hv => (List.nodup_cons.mp nd).1 (List.of_mem_zip hv).1, if_pos hk]
    simp
  | p :: P, w :: vs, i + 1, m, nd, h1, h2, hk => by
    show bindL kindOf ((p, w) :: P.zip vs) m x = _
    unfold bindL
    exact bindL_get (i := i) (List.nodup_cons.mp nd).2 (by simpa using h1) (by simpa using h2) hk
theorem bindC_get {kindOf : Str → Option NameKind} {x : Str} {v : Value} : ∀ {P : List Str} {vs : List Value} {i : Nat} {m : Str → Option Value}, P.Nodup → P[i]? = some x → vs[i]? = some v → kindOf x ≠ some .local →
    bindC kindOf (P.zip vs) m x = some v
  | [], _, _, _, _, h, _, _ => by simp at h
  | _ :: _, [], _, _, _, _, h, _ => by simp at h
  | p :: P, w :: vs, 0, m, nd, h1, h2, hk => by
    simp at h1 h2; subst h1; subst h2
    show bindC kindOf ((p, w) :: P.zip vs) m p = _
    unfold bindC
    rw [bindC_out fun v hv => (List.nodup_cons.mp nd).1 (List.of_mem_zip hv).1, if_neg hk]
    simp
  | p :: P, w :: vs, i + 1, m, nd, h1, h2, hk => by
    show bindC kindOf ((p, w) :: P.zip vs) m x = _
    unfold bindC
    exact bindC_get (i := i) (List.nodup_cons.mp nd).2 (by simpa using h1) (by simpa using h2) hk
def start (N : List Str) (vs : List V) : St := vs.map some ++ List.replicate (N.length - vs.length) none
def cxOf (CX : CXT) (P : Program) (w : World) (K : PySem.W.Frag) (mg : Str → Option Value) (base : Heap) (N : List Str) (qual : Str) (scope : Scope) (f : Addr) (cd : Value) (A : Around) (outer : List Env) (s : Shared) (H : Hp) (E : XK) : Cx where
  prog := P
  w := w
  K := K
  mg := mg
  base := base
  A := A.deeper (envOfC qual scope s.heap.objs.size f cd)
  N := N
  s₀ := s
  H₀ := H
  env := envOfC qual scope s.heap.objs.size f cd
  outer := outer
  stack := envOfC qual scope s.heap.objs.size f cd :: outer
  ex := []
  calm := true
  fn := fun _ => true
  pn := []
  xe := fun e s' => wpAny (model P w) (A.deeper (envOfC qual scope s.heap.objs.size f cd)) (leaving (envOfC qual scope s.heap.objs.size f cd) e) (fun _ s'' => CX outer H s E e s'') (fun e' s'' => CX outer H s E e' s'') s'
theorem cell_has {sc : Scope} {n : Nat} {x : Str} (h : sc.names.lookup x = some .cell) : ∃ c, (cellsFrom n sc.names []).lookup x = some c := by
  have q := PySem.W.cellsFrom_some sc.names n [] (.inl h)
  exact Option.isSome_iff_exists.mp q
theorem inv_start {CX : CXT} {P : Program} {w : World} {K : PySem.W.Frag} {mg : Str → Option Value} {base : Heap} {N ps : List Str} {qual : Str} {scope : Scope} {f : Addr} {cd : Value} {A : Around} {outer : List Env} {s s1 : Shared} {H : Hp} {E : XK} {us : List Value} {vs : List V}
    (S : FnScope N ps scope) (hd : A.handled = none) (e0 : Env0 P w K mg base A outer s H) (hl : vs.length = ps.length) (r : Vals vs us)
    (x : InCallC s s.heap.objs.size (bindL (envOfC qual scope s.heap.objs.size f cd).kindOf (ps.zip us) fun _ => none) (cellsFrom (s.heap.objs.size + 1) scope.names []) (bindC (envOfC qual scope s.heap.objs.size f cd).kindOf (ps.zip us) fun _ => none) s1) :
    Inv (cxOf CX P w K mg base N qual scope f cd A outer s H E) [] (start N vs) H s1 := by
  have hpl : ps.length ≤ N.length := by have := congrArg List.length S.pre; rw [List.length_take] at this; omega
  obtain ⟨h1, tk, rfl, hk⟩ := x.done
  have noA : ∀ b : Addr, b ∉ (cxOf CX P w K mg base N qual scope f cd A outer s H E).ex := fun b z => absurd (show b ∈ ([] : List Addr) from z) (by simp)
  refine ⟨⟨e0.mod, S.kind, rfl, rfl, Nat.le_refl _, fun y z c h1 h2 => ?_, fun y hy => ?_, fun y c _ h => ?_, fun _ => hd, Around.frames_deeper e0.frames, .inr ⟨rfl, rfl⟩, fun b z => absurd z (noA b), e0.bs, e0.bsz, fun b _ _ => noA b, fun b z => absurd z (noA b), e0.funs, e0.frf⟩,
    rfl, e0.bare, Un.kept hk, ⟨_, x.toInCall.ns, fun i y v h1 h2 h3 => ?_⟩, fun y c h => ⟨_, x.cell y c h⟩, e0.hok.fresh (Nat.le_refl _), fun y c h => ?_, fun p hp => absurd (show p ∈ ([] : List (Addr × Obj)) from hp) (by simp), e0.hok.kept hk, ?_⟩
  · exact name_of_addr x.apart (PySem.mem_of_lookup h1) (PySem.mem_of_lookup h2)
  · have hy : scope.names.lookup y = some .cell ∨ scope.names.lookup y = some .free := hy
    rcases hy with hy | hy
    · exact cell_has hy
    · exact absurd rfl (S.nofree _ (PySem.mem_of_lookup hy))
  · exact Nat.le_of_lt (x.above y c (PySem.mem_of_lookup h))
  · have hi : i < vs.length := by
      unfold start at h2
      by_cases hi : i < vs.length
      · exact hi
      · rw [List.getElem?_append_right (by simpa using hi)] at h2
        rw [List.getElem?_replicate] at h2
        split at h2 <;> cases h2
    have ha : vs[i]? = some v := by
      unfold start at h2
      rw [List.getElem?_append_left (by simpa using hi), List.getElem?_map] at h2
      cases e : vs[i]? with
      | none => rw [e] at h2; cases h2
      | some a => rw [e] at h2; cases h2; rfl
    obtain ⟨u, hu, rv⟩ := r.get ha
    have hp : ps[i]? = some y := by
      rw [← S.pre, List.getElem?_take_of_lt (by omega)]; exact h1
    have ndP : ps.Nodup := by rw [← S.pre]; exact S.nd.sublist (List.take_sublist _ _)
    refine ⟨u, rv, ?_⟩
    rcases S.par y (List.mem_of_getElem? hp) with k | k
    · exact .inl ⟨k, bindL_get ndP hp hu k⟩
    · obtain ⟨c, e⟩ := cell_has (n := s.heap.objs.size + 1) k
      refine .inr ⟨.inl k, c, e, ?_⟩
      have q := x.cell y c e
      rw [bindC_get ndP hp hu (by show scope.names.lookup y ≠ _; rw [k]; decide)] at q
      exact q
  · exact e0.hok.fresh (Nat.le_of_lt (x.above y c (PySem.mem_of_lookup h)))
  · unfold start
    show _ = N.length
    rw [List.length_append, List.length_map, List.length_replicate]
    omega
theorem fn_of {CX : CXT} {P : Program} {w : World} {K : PySem.W.Frag} {mg : Str → Option Value} {base : Heap} {k : Nat} {f : Addr} {name qual : Str} {params : Arguments} {body : List Stmt} {scope : Scope} {dV kV doc pm cdv ct oc : Value} {an od : Option Addr}
    {osl : Array (Option Value)} {N ps : List Str} {sp : Sp} (lk : K.lookup f = some ⟨oc, od, .func (PySem.W.fnOf name qual params body scope dV kV doc pm an cdv ct), osl⟩) (hcd : PySem.W.codeIn K cdv qual = true) (S : FnScope N ps scope)
    (len : ∀ vs H Q E, sp vs H Q E → vs.length = ps.length)
    (hbody : ∀ (A : Around) (outer : List Env) (s : Shared) (H : Hp) (vs : List V) (Q : VK) (E : XK), Room k (A.deeper (envOfC qual scope s.heap.objs.size f cdv)) → sp vs H Q E →
      ∃ t, PSs (cxOf CX P w K mg base N qual scope f cdv A outer s H E) body t ∧ t { nx := fun _ H' => Q .non H', rt := Q } (start N vs) H) :
    FnOk P w K mg base CX (k + 1) f (PySem.W.fnOf name qual params body scope dV kV doc pm an cdv ct) ps sp := by
  refine ⟨len, fun A outer s H args us vs Q E hr e0 hb r hsp => ?_⟩
  have hl := len _ _ _ _ hsp
  have KX : K.In s.heap := e0.mod.kin.keeps fun b o e => (e0.bs b o e).1
  have lim : s.heap.NoLimit := e0.mod.nolimit.keeps fun b o e => (e0.bs b o e).1
  have hkind : ∀ y ∈ ps.zip us, scope.names.lookup y.1 = some .local ∨ (scope.names.lookup y.1 = some .cell ∧ ((cellsFrom (s.heap.objs.size + 1) scope.names []).lookup y.1).isSome = true) := fun ⟨n, v⟩ hy => by
    rcases S.par n (List.of_mem_zip hy).1 with q | q
    · exact .inl q
    · exact .inr ⟨q, PySem.W.cellsFrom_some _ _ _ (.inl q)⟩
  refine codeAny_call_function hr.depth (KX _ _ lk) rfl S.co S.gen rfl (PySem.W.codeRec_of KX hcd) (hb _ _ _ _ ?_)
  refine wpAny_newFunctionEnv_cells S.kind hkind fun env he s1 x => ?_
  subst he
  refine ⟨lim.keeps x.toInCall.keep, codeAny_func ?_⟩
  obtain ⟨t, ht, hq⟩ := hbody A outer s H vs Q E (hr.deeper _) hsp
  have I : Inv (cxOf CX P w K mg base N qual scope f cdv A outer s H E) [] (start N vs) H s1 := inv_start S hr.hd e0 hl r x
  refine wpAny_mono (ht [] s1 (start N vs) H _ I hq) (fun fl s' hs => ?_) fun e s' hs => hs
  have fin : ∀ {σ' : St} {H' : Hp} {v : V} {u : Value}, Inv (cxOf CX P w K mg base N qual scope f cdv A outer s H E) [] σ' H' s' → RelV v u → Q v H' → CE outer P w H s Q u s' :=
    fun {σ' H' v u} J rv q => ⟨v, H', J.os, J.bare, J.base, J.hok, rv, q⟩
  cases fl with
  | ret u =>
    obtain ⟨v, σ', H', J, rv, q⟩ := hs
    exact fin J rv q
  | next =>
    obtain ⟨σ', H', J, q⟩ := hs
    exact fin (v := V.non) (u := Value.none) J rfl q
  | brk =>
    obtain ⟨_, _, _, q⟩ := hs
    exact False.elim q
  | cont =>
    obtain ⟨_, _, _, q⟩ := hs
    exact False.elim q
end L2
namespace L2
open PySem PySem.Spec PyProof.Rows
section
variable {X : Cx} {x : Str} {p pos : Pos} {e : Expr} {es : List Expr} {t : TA} {id T : String} {r : List V → Hp → VK → Prop}
def tCB (r : List V → Hp → VK → Prop) (t : TA) : TE := fun σ H Q => t σ H fun vs H1 => r vs H1 Q
theorem pe_callB (hc : CallR X (.builtin id) r) (hg : Gl X x) (hm : X.mg x = none) (hv : bootBuiltins x = some (.builtin id)) (ha : PA X (e :: es) t) (hn : x ≠ "__name__" := by decide) (hdb : (x == ("__debug__" : Str)) = false := by decide)
    (he : starEach (e :: es) X.env = (false, eval e X.env) :: starEach es X.env := by rfl) (hpl : (backTo pos (starEach es X.env)).any (·.1) = false := by rfl) : PE X (.Call (.Name x p) (e :: es) [] pos) (tCB r t) := by
  intro pins s σ H Q I h
  refine wpAny_Call_Name_kw (ld_blt I hg hm hv ?_ hn hdb)
  exact PyProof.Rows.callWith_builtin1 (thn (ha pos pins s σ H _ I h) fun us s1 ⟨vs, H1, I1, r1, q1⟩ => hc pins s1 σ H1 vs us Q I1 r1 q1) he hpl
theorem pe_callTy (hc : CallR X (.type T) r) (hg : Gl X x) (hm : X.mg x = none) (hv : bootBuiltins x = some (.type T)) (ha : PA X (e :: es) t) (hn : x ≠ "__name__" := by decide) (hdb : (x == ("__debug__" : Str)) = false := by decide)
    (he : starEach (e :: es) X.env = (false, eval e X.env) :: starEach es X.env := by rfl) (hpl : (backTo pos (starEach es X.env)).any (·.1) = false := by rfl) : PE X (.Call (.Name x p) (e :: es) [] pos) (tCB r t) := by
  intro pins s σ H Q I h
  refine wpAny_Call_Name_kw (ld_blt I hg hm hv ?_ hn hdb)
  exact PyProof.Rows.callWith_type1 (thn (ha pos pins s σ H _ I h) fun us s1 ⟨vs, H1, I1, r1, q1⟩ => hc pins s1 σ H1 vs us Q I1 r1 q1) he hpl
end
end L2
namespace HT
open PySem PyProof.Rows
section
open PySem.SeqAt
open PySem.AutoSeq1 (wpAny_loadPart')
open PySem.MeetsSeq PySem.MeetsSeq2 PySem.MeetsSeq3
end
section
variable {prog : Program} {w : World} {A : Around} {E : Value → Shared → Prop} {s : Shared}
def sIx (n d : Nat) : Option Int → Nat
  | none => d
  | some v => if v < 0 then (v + (n : Int)).toNat else min v.toNat n
end
end HT
namespace L2
open PySem PySem.Spec PyProof.Rows
abbrev TO := St → Hp → (Option Int → Hp → Prop) → Prop
def PO (X : Cx) (e : Option Expr) (t : TO) : Prop :=
  ∀ (pins : List (Addr × Obj)) (s : Shared) (σ : St) (H : Hp) (Q : Option Int → Hp → Prop), Inv X pins σ H s → t σ H Q →
    wpAny (model X.prog X.w) X.A (evalPart e X.env) (fun u s' => ∃ o H', Inv X pins σ H' s' ∧ IsPart u o ∧ Q o H') X.xe s
def tNoPart : TO := fun _ H Q => Q none H
def tPart (t : TE) : TO := fun σ H Q => t σ H fun x H1 => ∃ i, x = .int i ∧ Q (some i) H1
theorem intsAre_of {ns : List Int} : ∀ {us : List Value}, Vals (ns.map V.int) us → IntsAre us ns := by
  induction ns with
  | nil => intro us r; rw [List.map_nil] at r; cases r; exact .nil
  | cons n ns ih =>
    intro us r
    rw [List.map_cons] at r
    cases r with
    | cons r1 r2 =>
      obtain ⟨t, e⟩ := r1
      subst e
      exact .cons n t (ih r2)
section
variable {X : Cx} {e : Expr} {te : TE} {lo hi : Option Expr} {tl th : TO} {pos p2 : Pos}
theorem po_none : PO X none tNoPart := by
  intro pins s σ H Q I h
  rw [evalPart_none]
  exact wpAny_pure ⟨none, H, I, .none, h⟩
theorem po_some (h : PE X e te) : PO X (some e) (tPart te) := by
  intro pins s σ H Q I hw
  rw [evalPart_some]
  refine thn (h pins s σ H _ I hw) fun u s1 ⟨x, H1, I1, r1, q1⟩ => ?_
  obtain ⟨i, rfl, q⟩ := q1
  obtain ⟨t, rfl⟩ := r1
  exact ⟨some i, H1, I1, .int i t, q⟩
def SlR (X : Cx) (r : V → Option Int → Option Int → Hp → VK → Prop) : Prop :=
  ∀ (pins : List (Addr × Obj)) (s : Shared) (σ : St) (H : Hp) (x : V) (v vl vu : Value) (lo hi : Option Int) (sl : Addr) (Q : VK), Inv X pins σ H s → RelV x v → s.heap.IsSliceOf sl vl vu .none → IsPart vl lo → IsPart vu hi → r x lo hi H Q →
    ∃ T id, typeLookup (.type T) "__getitem__" = pure (some (.builtin id)) ∧ s.TypeIs v T ∧ wpAny (model X.prog X.w) X.A (getItem v (.ref sl)) (EP X pins σ Q) X.xe s
def tSl (r : V → Option Int → Option Int → Hp → VK → Prop) (te : TE) (tl th : TO) : TE := fun σ H Q => te σ H fun x H1 => tl σ H1 fun l H2 => th σ H2 fun u H3 => r x l u H3 Q
theorem pe_slice {r : V → Option Int → Option Int → Hp → VK → Prop} (hr : SlR X r) (he : PE X e te) (hl : PO X lo tl) (hu : PO X hi th) : PE X (.Subscript e (.Slice lo hi none p2) pos) (tSl r te tl th) := by
  intro pins s σ H Q I h
  refine Subscript_ (thn (he pins s σ H _ I h) fun v s1 ⟨x, H1, I1, r1, q1⟩ => ?_)
  refine wpAny_Slice (thn (hl pins s1 σ H1 _ I1 q1) fun vl s2 ⟨l, H2, I2, pl, q2⟩ => thn (hu pins s2 σ H2 _ I2 q2) fun vu s3 ⟨u, H3, I3, pu, q3⟩ => ?_)
  rw [evalPart_none]
  refine wpAny_pure ?_
  have I4 : Inv X pins σ H3 { s3 with heap := s3.heap.push { cls := .type "slice", data := .fields #[vl, vu, .none] } } := I3.kept (t' := s3.toks) fun b ob q => Heap.get?_push_of_some _ q
  obtain ⟨T, id, hT, ht, hg⟩ := hr pins { s3 with heap := s3.heap.push { cls := .type "slice", data := .fields #[vl, vu, .none] } } σ H3 x v vl vu l u s3.heap.objs.size Q I4 r1 (Heap.IsSliceOf.new ..) pl pu q3
  show wpAny (model X.prog X.w) X.A (subscriptTail e (.Slice lo hi none p2) v (.ref s3.heap.objs.size)) (EP X pins σ Q) X.xe { s3 with heap := s3.heap.push { cls := .type "slice", data := .fields #[vl, vu, .none] } }
  exact tail_any (ops := [.ref s3.heap.objs.size, v]) ht hT hg (by with_unfolding_all rfl)
def cutV (xs : List V) (lo hi : Option Int) : List V := (xs.drop (HT.sIx xs.length 0 lo)).take (HT.sIx xs.length xs.length hi - HT.sIx xs.length 0 lo)
theorem cutV_length (xs : List V) (lo hi : Option Int) : (cutV xs lo hi).length ≤ xs.length := by
  unfold cutV
  rw [List.length_take, List.length_drop]
  omega
end
end L2
namespace L2
open PySem PySem.Spec PyProof.Rows
def ixN (n : Nat) (i : Int) : Option Nat := if 0 ≤ i then (if i < n then some i.toNat else none) else if -(n : Int) ≤ i then some (i + n).toNat else none
def atI {α : Type} (xs : List α) (i : Int) : Option α := (ixN xs.length i).bind fun j => xs[j]?
theorem ixN_seq {n : Nat} {i : Int} {j : Nat} (h : ixN n i = some j) : seqIndex? i n = some j ∧ j < n ∧ -(n : Int) ≤ i ∧ i < n := by
  unfold ixN at h
  by_cases h0 : 0 ≤ i
  · rw [if_pos h0] at h
    by_cases h1 : i < n
    · rw [if_pos h1] at h
      have e : i.toNat = j := Option.some.inj h
      exact ⟨by rw [seqIndex_of h0 h1, e], by omega, by omega, h1⟩
    · rw [if_neg h1] at h; cases h
  · rw [if_neg h0] at h
    by_cases h1 : -(n : Int) ≤ i
    · rw [if_pos h1] at h
      have e : (i + n).toNat = j := Option.some.inj h
      exact ⟨by rw [seqIndex_neg (by omega) h1, e], by omega, h1, by omega⟩
    · rw [if_neg h1] at h; cases h
theorem atI_get {α : Type} {xs : List α} {i : Int} {v : α} (h : atI xs i = some v) : ∃ j, seqIndex? i xs.length = some j ∧ xs[j]? = some v ∧ j < xs.length ∧ -(xs.length : Int) ≤ i ∧ i < xs.length := by
  unfold atI at h
  cases e : ixN xs.length i with
  | none => rw [e] at h; cases h
  | some j =>
    rw [e] at h
    obtain ⟨h1, h2, h3, h4⟩ := ixN_seq e
    exact ⟨j, h1, h, h2, h3, h4⟩
theorem atI_nat {α : Type} {xs : List α} {j : Nat} {v : α} (h : xs[j]? = some v) : atI xs (j : Int) = some v := by
  have hj : j < xs.length := (List.getElem?_eq_some_iff.mp h).1
  have e : ixN xs.length (j : Int) = some j := by
    unfold ixN
    rw [if_pos (by omega), if_pos (by omega)]; simp
  unfold atI; rw [e]; exact h
def PlainIx (b : Expr) : Prop := ∀ o i, subscripted b false o i = operate [o, i] (getItem o i)
def IxR (X : Cx) (r : R2) : Prop :=
  ∀ (value slice : Expr) (pins : List (Addr × Obj)) (s : Shared) (σ : St) (H : Hp) (x y : V) (v u : Value) (Q : VK), Inv X pins σ H s → RelV x v → RelV y u → r x y H Q →
    subscripted slice false v u = operate [v, u] (getItem v u) → wpAny (model X.prog X.w) X.A (subscriptTail value slice v u) (EP X pins σ Q) X.xe s
def MtR (X : Cx) (id : String) (r : V → List V → Hp → VK → Prop) : Prop :=
  ∀ (pins : List (Addr × Obj)) (s : Shared) (σ : St) (H : Hp) (x : V) (xs : List V) (v : Value) (us : List Value) (Q : VK), Inv X pins σ H s → RelV x v → Vals xs us → r x xs H Q →
    wpAny (model X.prog X.w) X.A (call (.builtin id) (v :: us)) (EP X pins σ Q) X.xe s
section
variable {X : Cx} {a b : Expr} {ta tb : TE} {pos : Pos}
theorem IxR.or {r r' : R2} (h : IxR X r) (h' : IxR X r') : IxR X (fun x y H Q => r x y H Q ∨ r' x y H Q) := by
  intro value slice pins s σ H x y v u Q I rx ry q hs
  rcases q with q | q
  · exact h value slice pins s σ H x y v u Q I rx ry q hs
  · exact h' value slice pins s σ H x y v u Q I rx ry q hs
theorem pe_ix {r : R2} (hr : IxR X r) (ha : PE X a ta) (hb : PE X b tb) (hs : PlainIx b) : PE X (.Subscript a b pos) (tOp r ta tb) := by
  intro pins s σ H Q I h
  exact Subscript_ (binT ha hb I h fun v u s2 x y H2 I2 rx ry q => hr a b pins s2 σ H2 x y v u Q I2 rx ry q (hs _ _))
def rIxL (K : PySem.W.Frag) : R2 := fun x y H Q => ∃ p xs i v, x = .ref p ∧ y = .int i ∧ SqL K H p xs ∧ atI xs i = some v ∧ Q v H
def rIxT (K : PySem.W.Frag) : R2 := fun x y H Q => ∃ p xs i v, x = .ref p ∧ y = .int i ∧ SqT K H p xs ∧ atI xs i = some v ∧ Q v H
def rIxS : R2 := fun x y H Q => ∃ z i c, x = .str z ∧ y = .int i ∧ z.length ≤ sizeLine ∧ atI z.cps.toList i = some c ∧ Q (.str ⟨#[c]⟩) H
theorem ix_list : IxR X (rIxL X.K) := by
  intro value slice pins s σ H x y v u Q I rx ry h hs
  obtain ⟨p, xs, i, z, rfl, rfl, hq, he, q⟩ := h
  cases rx
  obtain ⟨t, rfl⟩ := ry
  obtain ⟨its, r, pl, hz⟩ := I.list hq
  obtain ⟨j, h1, h2, h3, h4, h5⟩ := atI_get he
  obtain ⟨w, ew, rw'⟩ := r.get h2
  have hl := r.length
  have hn := line63
  have fin : EP X pins σ Q w s := ⟨z, H, I, rw', q⟩
  by_cases h0 : 0 ≤ i
  · have hj : i.toNat = j := by
      rw [seqIndex_of h0 h5] at h1
      exact Option.some.inj h1
    exact item_listR pl.isList h0 (by omega) (by rw [hj]; simpa using ew) fin hs
  · have hj : (i + (its.toArray.size : Int)).toNat = j := by
      rw [seqIndex_neg (by omega) h4] at h1
      rw [List.size_toArray, ← hl]
      exact Option.some.inj h1
    exact subscriptTail_builtinR (x := w) pl.isList.typeIs slot_list_getitem.lookup
      (wpAny_getItem_list_neg (Q := fun r s' => r = w ∧ EP X pins σ Q r s') pl.isList (by omega) (by rw [List.size_toArray] <;> omega) (by omega) (by rw [hj]; simpa using ew) ⟨rfl, fin⟩) hs
theorem ix_tup : IxR X (rIxT X.K) := by
  intro value slice pins s σ H x y v u Q I rx ry h hs
  obtain ⟨p, xs, i, z, rfl, rfl, hq, he, q⟩ := h
  cases rx
  obtain ⟨t, rfl⟩ := ry
  obtain ⟨its, r, pl, hz⟩ := I.tuple hq
  obtain ⟨j, h1, h2, h3, h4, h5⟩ := atI_get he
  obtain ⟨w, ew, rw'⟩ := r.get h2
  have hl := r.length
  have hn := line63
  have fin : EP X pins σ Q w s := ⟨z, H, I, rw', q⟩
  exact subscriptTail_builtinR (x := w) pl.typeIs slot_tuple_getitem.lookup
    (getItem_tuple (j := j) (Q := fun r s' => r = w ∧ EP X pins σ Q r s') pl (by omega) (by omega) (by rw [List.size_toArray, ← hl]; exact h1) (by simpa using ew) ⟨rfl, fin⟩) hs
theorem ix_str : IxR X rIxS := by
  intro value slice pins s σ H x y v u Q I rx ry h hs
  obtain ⟨z, i, c, rfl, rfl, hz, he, q⟩ := h
  obtain ⟨t, rfl⟩ := rx
  obtain ⟨t', rfl⟩ := ry
  obtain ⟨j, h1, h2, h3, h4, h5⟩ := atI_get he
  have hl : z.cps.toList.length = z.length := by simp [Str.length]
  rw [hl] at h1 h4 h5
  have hn := line63
  exact tail_any (typeIs_str s z t) slot_str_getitem.lookup (getItem_str (c := c) (by
    have e1 : decide (i < -(2 ^ 63 : Int)) = false := decide_eq_false (by omega)
    have e2 : decide (i ≥ 2 ^ 63) = false := decide_eq_false (by omega)
    rw [e1, e2, Bool.or_false]) (by rw [h1]; simpa using h2) ⟨.str ⟨#[c]⟩, H, I.tok _, ⟨_, rfl⟩, q⟩) hs
def rIx (K : PySem.W.Frag) : R2 := fun x y H Q => rIxL K x y H Q ∨ rIxT K x y H Q ∨ rIxS x y H Q
theorem ix_seq : IxR X (rIx X.K) := ix_list.or (ix_tup.or ix_str)
theorem slice_bounds (lo hi : Option Int) (n : Nat) : (sliceBounds lo hi none n).1 = ((HT.sIx n 0 lo : Nat) : Int) ∧ (sliceBounds lo hi none n).2.1 = ((HT.sIx n n hi : Nat) : Int) ∧ (sliceBounds lo hi none n).2.2 = 1 := by
  refine ⟨?_, ?_, rfl⟩
  · cases lo with
    | none => simp [sliceBounds, HT.sIx]
    | some i =>
      simp only [sliceBounds, HT.sIx, Option.getD_none, show (1 : Int) > 0 by decide, if_true]
      by_cases h : i < 0
      · simp only [h, if_true] <;> omega
      · simp only [h, if_false] <;> omega
  · cases hi with
    | none => simp [sliceBounds, HT.sIx]
    | some i =>
      simp only [sliceBounds, HT.sIx, Option.getD_none, show (1 : Int) > 0 by decide, if_true]
      by_cases h : i < 0
      · simp only [h, if_true] <;> omega
      · simp only [h, if_false] <;> omega
theorem slicePick_cut (its : List Value) (lo hi : Option Int) : slicePick its.toArray lo hi none = ((its.drop (HT.sIx its.length 0 lo)).take (HT.sIx its.length its.length hi - HT.sIx its.length 0 lo)).toArray := by
  obtain ⟨h1, h2, h3⟩ := slice_bounds lo hi its.toArray.size
  unfold slicePick
  rw [h1, h2, h3]
  simp only [sliceRange_one, pick_run, List.size_toArray] <;> rfl
def rSlL (K : PySem.W.Frag) : V → Option Int → Option Int → Hp → VK → Prop := fun x lo hi H Q => ∃ a xs, x = .ref a ∧ SqL K H a xs ∧ ∀ p, H p = none → Q (.ref p) (upd H p (.lst (cutV xs lo hi)))
theorem sl_list : SlR X (rSlL X.K) := by
  intro pins s σ H x v vl vu lo hi sl Q I rx hs pl pu h
  obtain ⟨a, xs, rfl, hx, q⟩ := h
  cases rx
  obtain ⟨its, r, ht, hz⟩ := I.list hx
  have hlen := r.length
  refine ⟨"list", _, slot_list_getitem.lookup, ht.isList.typeIs, ?_⟩
  refine wpAny_getItem_list_slice ht.isList hs pl pu .none (by simp) ?_ (by rw [List.size_toArray] <;> omega)
  rw [slicePick_cut, ← hlen]
  refine ⟨.ref s.heap.objs.size, _, I.laid (t' := s.toks) (o := .lst (cutV xs lo hi)) (fun b ob q => Heap.get?_push_of_some _ q) (Nat.le_refl _) ?_, rfl, q _ (I.hok.fresh (Nat.le_refl _))⟩
  exact ⟨Nat.le_trans (cutV_length xs lo hi) hz, _, 0, (r.drop (HT.sIx xs.length 0 lo)).take (HT.sIx xs.length xs.length hi - HT.sIx xs.length 0 lo), Heap.get?_push_size _ rfl⟩
def flatV : V → Bool
  | .non => true
  | .bl _ => true
  | .int _ => true
  | .str _ => true
  | _ => false
def eqV : V → V → Bool
  | .non, .non => true
  | .bl a, .bl b => a == b
  | .bl a, .int b => (if a then 1 else 0) == b
  | .int a, .bl b => a == (if b then 1 else 0)
  | .int a, .int b => a == b
  | .str a, .str b => a == b
  | _, _ => false
theorem eqAt_V {A : Around} {s : Shared} {y x : V} {u v : Value} (ry : RelV y u) (rx : RelV x v) (fy : flatV y = true) (fx : flatV x = true) : SeqAt.EqAt A s u v (eqV y x) := by
  cases y with
  | non =>
    cases ry
    cases x with
    | non => cases rx; exact SeqAt.EqAt.same _
    | bl b => cases rx; exact SeqAt.EqAt.none_bool b
    | int b => obtain ⟨t, rfl⟩ := rx; exact SeqAt.EqAt.none_int b t
    | str b => obtain ⟨t, rfl⟩ := rx; exact SeqAt.EqAt.none_str b t
    | _ => exact absurd (show false = true from fx) Bool.false_ne_true
  | bl a =>
    cases ry
    cases x with
    | non => cases rx; exact SeqAt.EqAt.bool_none a
    | bl b => cases rx; exact SeqAt.EqAt.bool_bool a b
    | int b => obtain ⟨t, rfl⟩ := rx; exact SeqAt.EqAt.bool_int a b t
    | str b => obtain ⟨t, rfl⟩ := rx; exact SeqAt.EqAt.bool_str a b t
    | _ => exact absurd (show false = true from fx) Bool.false_ne_true
  | int a =>
    obtain ⟨t', rfl⟩ := ry
    cases x with
    | non => cases rx; exact SeqAt.EqAt.int_none a t'
    | bl b => cases rx; exact SeqAt.EqAt.int_bool a t' b
    | int b => obtain ⟨t, rfl⟩ := rx; exact SeqAt.EqAt.int_int a t' b t
    | str b => obtain ⟨t, rfl⟩ := rx; exact SeqAt.EqAt.int_str a t' b t
    | _ => exact absurd (show false = true from fx) Bool.false_ne_true
  | str a =>
    obtain ⟨t', rfl⟩ := ry
    cases x with
    | non => cases rx; exact SeqAt.EqAt.str_none a t'
    | bl b => cases rx; exact SeqAt.EqAt.str_bool a t' b
    | int b => obtain ⟨t, rfl⟩ := rx; exact SeqAt.EqAt.str_int a t' b t
    | str b => obtain ⟨t, rfl⟩ := rx; exact SeqAt.EqAt.str_str a t' b t
    | _ => exact absurd (show false = true from fx) Bool.false_ne_true
  | _ => exact absurd (show false = true from fy) Bool.false_ne_true
def eqU (x : V) (u : Value) : Bool := match u with
  | .none => eqV .non x
  | .bool b => eqV (.bl b) x
  | .int i _ => eqV (.int i) x
  | .str z _ => eqV (.str z) x
  | _ => false
theorem eqU_of {x y : V} {u : Value} (r : RelV y u) (f : flatV y = true) : eqU x u = eqV y x := by
  cases y with
  | non => cases r; rfl
  | bl b => cases r; rfl
  | int i => obtain ⟨t, rfl⟩ := r; rfl
  | str z => obtain ⟨t, rfl⟩ := r; rfl
  | _ => exact absurd (show false = true from f) Bool.false_ne_true
theorem any_eqU {x : V} : ∀ {xs : List V} {us : List Value}, Vals xs us → xs.all flatV = true → us.any (eqU x) = xs.any fun y => eqV y x
  | _, _, .nil, _ => rfl
  | y :: xs, u :: us, .cons r t, f => by
    rw [List.all_cons, Bool.and_eq_true] at f
    rw [List.any_cons, List.any_cons, eqU_of r f.1, any_eqU t f.2]
theorem mem_eqAt {A : Around} {s : Shared} {x : V} {v : Value} (rx : RelV x v) (fx : flatV x = true) : ∀ {xs : List V} {us : List Value}, Vals xs us → xs.all flatV = true → ∀ u ∈ us, SeqAt.EqAt A s u v (eqU x u)
  | _, _, .nil, _ => fun u hu => by cases hu
  | y :: xs, u :: us, .cons r t, f => fun u' hu => by
    rw [List.all_cons, Bool.and_eq_true] at f
    rcases List.mem_cons.mp hu with rfl | hu
    · rw [eqU_of r f.1]; exact eqAt_V r rx f.1 fx
    · exact mem_eqAt rx fx t f.2 u' hu
def inV (x : V) (xs : List V) : Bool := xs.any fun y => eqV y x
def rIn (K : PySem.W.Frag) (neg : Bool) : R2 := fun x y H Q => ∃ p xs, y = .ref p ∧ (SqL K H p xs ∨ SqT K H p xs) ∧ flatV x = true ∧ xs.all flatV = true ∧ Q (.bl (if neg then !inV x xs else inV x xs)) H
theorem op_in_seq : OpR X (compareOp .In) (rIn X.K false) := by
  intro pins s σ H x y v u Q I rx ry h
  obtain ⟨p, xs, rfl, hq, fx, fs, q⟩ := h
  cases ry
  rcases hq with hq | hq
  · obtain ⟨its, r, pl, hz⟩ := I.list hq
    refine SeqAt.in_listAt (eqU x) pl.isList (fun w hw => mem_eqAt rx fx r fs w (by simpa using hw)) ⟨.bl _, H, I, rfl, ?_⟩
    rw [show its.toArray.any (eqU x) = its.any (eqU x) by simp, any_eqU r fs]
    exact q
  · obtain ⟨its, r, pl, hz⟩ := I.tuple hq
    refine SeqAt.in_tupleAt (eqU x) pl (fun w hw => mem_eqAt rx fx r fs w (by simpa using hw)) ⟨.bl _, H, I, rfl, ?_⟩
    rw [show its.toArray.any (eqU x) = its.any (eqU x) by simp, any_eqU r fs]
    exact q
theorem op_notIn_seq : OpR X (compareOp .NotIn) (rIn X.K true) := by
  intro pins s σ H x y v u Q I rx ry h
  obtain ⟨p, xs, rfl, hq, fx, fs, q⟩ := h
  cases ry
  rcases hq with hq | hq
  · obtain ⟨its, r, pl, hz⟩ := I.list hq
    refine SeqAt.notIn_listAt (eqU x) pl.isList (fun w hw => mem_eqAt rx fx r fs w (by simpa using hw)) ⟨.bl _, H, I, rfl, ?_⟩
    rw [show its.toArray.any (eqU x) = its.any (eqU x) by simp, any_eqU r fs]
    exact q
  · obtain ⟨its, r, pl, hz⟩ := I.tuple hq
    refine SeqAt.notIn_tupleAt (eqU x) pl (fun w hw => mem_eqAt rx fx r fs w (by simpa using hw)) ⟨.bl _, H, I, rfl, ?_⟩
    rw [show its.toArray.any (eqU x) = its.any (eqU x) by simp, any_eqU r fs]
    exact q
theorem call_len_seq : CallR X (.builtin "len") (fun xs H Q => ∃ p ys, xs = [.ref p] ∧ (SqL X.K H p ys ∨ SqT X.K H p ys) ∧ Q (.int ys.length) H) := by
  intro pins s σ H xs us Q I r h
  obtain ⟨p, ys, rfl, hq, q⟩ := h
  obtain ⟨u, rfl, rx⟩ := vals1 r
  cases rx
  have hn := line63
  rcases hq with hq | hq
  · obtain ⟨its, r', pl, hz⟩ := I.list hq
    have hlen := r'.length
    exact Calls.call_len_list pl.isList (by simp only [List.size_toArray] <;> omega) ⟨.int ys.length, H, I.tok _, ⟨s.toks + 1, by rw [List.size_toArray, hlen]⟩, q⟩
  · obtain ⟨its, r', pl, hz⟩ := I.tuple hq
    have hlen := r'.length
    exact len_tuple pl (by simp only [List.size_toArray] <;> omega) ⟨.int ys.length, H, I.tok _, ⟨s.toks + 1, by rw [List.size_toArray, hlen]⟩, q⟩
theorem call_len_str : CallR X (.builtin "len") (fun xs H Q => ∃ z, xs = [.str z] ∧ z.length ≤ sizeLine ∧ Q (.int z.length) H) := by
  intro pins s σ H xs us Q I r h
  obtain ⟨z, rfl, hz, q⟩ := h
  obtain ⟨u, rfl, t, rfl⟩ := vals1 r
  have hn := line63
  exact len_str (by omega) ⟨.int z.length, H, I.tok _, ⟨_, rfl⟩, q⟩
theorem call_list_of : CallR X (.type "list") (fun xs H Q => ∃ p ys, xs = [.ref p] ∧ (SqL X.K H p ys ∨ SqT X.K H p ys) ∧ ∀ l, H l = none → Q (.ref l) (upd H l (.lst ys))) := by
  intro pins s σ H xs us Q I r h
  obtain ⟨p, ys, rfl, hq, q⟩ := h
  obtain ⟨u, rfl, rx⟩ := vals1 r
  cases rx
  have fin : ∀ (its : List Value), Vals ys its → ys.length ≤ sizeLine → ∀ (h' : Heap) (c' : Nat), (∀ b o', s.heap.get? b = some o' → h'.get? b = some o') →
      h'.get? s.heap.objs.size = some { cls := .type "list", dict := none, data := .seq its.toArray c', slots := #[] } → EP X pins σ Q (.ref s.heap.objs.size) { s with heap := h' } := fun its r' hz h' c' kp e =>
    ⟨.ref s.heap.objs.size, _, I.laid (t' := s.toks) kp (Nat.le_refl _) (show ObjOk X.prog X.w _ h' _ (.lst ys) from ⟨hz, its, c', r', e⟩), rfl, q _ (I.hok.fresh (Nat.le_refl _))⟩
  rcases hq with hq | hq
  · obtain ⟨its, r', pl, hz⟩ := I.list hq
    have hlen := r'.length
    obtain ⟨o, ho, hc, n, hd⟩ := pl.isList
    exact call_list_seq p (.inl rfl) ho hc hd (fun h' c' kp e => fin its r' hz h' c' kp e) (by simp only [List.size_toArray] <;> omega)
  · obtain ⟨its, r', pl, hz⟩ := I.tuple hq
    have hlen := r'.length
    obtain ⟨o, ho, hc, n, hd⟩ := pl
    exact call_list_seq p (.inr rfl) ho hc hd (fun h' c' kp e => fin its r' hz h' c' kp e) (by simp only [List.size_toArray] <;> omega)
theorem call_tuple_of : CallR X (.type "tuple") (fun xs H Q => ∃ p ys, xs = [.ref p] ∧ ((SqL X.K H p ys ∧ ∀ l, H l = none → Q (.ref l) (upd H l (.tup ys))) ∨ (SqT X.K H p ys ∧ Q (.ref p) H))) := by
  intro pins s σ H xs us Q I r h
  obtain ⟨p, ys, rfl, h⟩ := h
  obtain ⟨u, rfl, rx⟩ := vals1 r
  cases rx
  rcases h with ⟨hq, q⟩ | ⟨hq, q⟩
  · obtain ⟨its, r', pl, hz⟩ := I.list hq
    have hlen := r'.length
    refine call_tuple_list pl.isList (fun h' kp => ?_) (by simp only [List.size_toArray] <;> omega)
    have I1 : Inv X pins σ H { s with heap := h' } := I.kept (t' := s.toks) kp
    have I2 : Inv X pins σ (upd H h'.objs.size (.tup ys)) { s with heap := h'.push { cls := .type "tuple", data := .seq its.toArray } } :=
      I1.laid (t' := s.toks) (fun b o e => Heap.get?_push_of_some _ e) (Nat.le_refl _) (show ObjOk X.prog X.w _ _ _ (.tup ys) from ⟨hz, its, r', IsTup.new _ _⟩)
    exact ⟨.ref h'.objs.size, _, I2, rfl, q _ (I1.hok.fresh (Nat.le_refl _))⟩
  · obtain ⟨its, r', pl, hz⟩ := I.tuple hq
    exact call_tuple_same pl ⟨.ref p, H, I, rfl, q⟩
def tyV (K : PySem.W.Frag) (T : String) (x : V) (H : Hp) : Prop := match x with
  | .str _ => T = "str"
  | .int _ => T = "int"
  | .ref p => (T = "list" ∧ ∃ xs, SqL K H p xs) ∨ (T = "tuple" ∧ ∃ o, K.lookup p = some o ∧ o.cls = .type "tuple" ∧ o.dict = none) ∨
      (T = "dict" ∧ ((∃ kvs, H p = some (.dK kvs)) ∨ ∃ kvs, H p = some (.dT kvs))) ∨ (T = "set" ∧ ∃ S n, H p = some (.set S n))
  | _ => False
theorem tyV_is {pins : List (Addr × Obj)} {σ : St} {H : Hp} {s : Shared} {T : String} {x : V} {v : Value} (I : Inv X pins σ H s) (r : RelV x v) (ty : tyV X.K T x H) :
    s.TypeIs v T ∧ ∀ a, v = .ref a → ∃ ob, s.heap.get? a = some ob ∧ ob.dict = none := by
  cases x with
  | str z =>
    obtain ⟨t, rfl⟩ := r
    cases (show T = "str" from ty)
    exact ⟨typeIs_str s z t, fun _ e => nomatch e⟩
  | int i =>
    obtain ⟨t, rfl⟩ := r
    cases (show T = "int" from ty)
    exact ⟨typeIs_int s i t, fun _ e => nomatch e⟩
  | ref p =>
    cases r
    rcases ty with ⟨rfl, xs, hq⟩ | ⟨rfl, o, hk, hc, hd⟩ | ⟨rfl, hk⟩ | ⟨rfl, S, n, hk⟩
    · obtain ⟨its, _, pl, _⟩ := I.list hq
      refine ⟨pl.isList.typeIs, fun a e => ?_⟩
      cases e
      obtain ⟨o, n, e, c, hd, _⟩ := pl
      exact ⟨o, e, hd⟩
    · refine ⟨⟨o, I.kIn p o hk, hc⟩, fun a e => ?_⟩
      cases e
      exact ⟨o, I.kIn _ o hk, hd⟩
    · have z : ∃ o, s.heap.get? p = some o ∧ o.ExactDict := by
        rcases hk with ⟨kvs, hk⟩ | ⟨kvs, hk⟩
        · obtain ⟨_, _, _, _, o, _, _, e, ex, _⟩ := I.hok p _ hk
          exact ⟨o, e, ex⟩
        · obtain ⟨_, _, _, _, o, _, _, e, ex, _⟩ := I.hok p _ hk
          exact ⟨o, e, ex⟩
      obtain ⟨o, e, ex⟩ := z
      refine ⟨⟨o, e, ex.1⟩, fun a e2 => ?_⟩
      cases e2
      exact ⟨o, e, ex.2.1⟩
    · obtain ⟨o, _, _, _, e, ex, _⟩ := I.hok p _ hk
      refine ⟨⟨o, e, ex.1⟩, fun a e2 => ?_⟩
      cases e2
      exact ⟨o, e, ex.2.1⟩
  | _ => exact False.elim ty
def tBM (K : PySem.W.Frag) (T : String) (r : V → List V → Hp → VK → Prop) (to : TE) (t : TA) : TE := fun σ H Q => to σ H fun x H1 => tyV K T x H1 ∧ t σ H1 fun xs H2 => r x xs H2 Q
variable {o e : Expr} {es : List Expr} {to : TE} {t : TA} {name : Str} {apos cpos : Pos} {T id : String} {r : V → List V → Hp → VK → Prop}
theorem pe_bm (pa : PlainAttrs T) (slot : Slot T name id) (hty : typeOf (.builtin id) = pure (.type "method_descriptor")) (hm : MtR X id r) (ho : PE X o to) (ha : PA X (e :: es) t)
    (hbase : attributeBase o name X.env (eval o X.env) = eval o X.env := by rfl)
    (hfew : ((backTo cpos (starEach (e :: es) X.env)).all (fun x => !x.1) && (backToKw cpos (keywordEach [] X.env)).all (fun x => x.1.isSome)
      && decide ((e :: es).length + ([] : List Keyword).length + (if ([] : List Keyword).isEmpty then 0 else 1) < 30)) = true := by rfl)
    (hline : (apos.endLine == cpos.line) = true := by rfl) (hs : starEach (e :: es) X.env = (false, eval e X.env) :: starEach es X.env := by rfl) (hplain : (backTo cpos (starEach es X.env)).any (·.1) = false := by rfl) :
    PE X (.Call (.Attribute o name apos) (e :: es) [] cpos) (tBM X.K T r to t) := by
  intro pins s σ H Q I h
  refine wpAny_Call_method_late hbase hfew hline rfl (thn (ho pins s σ H _ I h) fun v s1 ⟨x, H1, I1, r1, ty, q1⟩ => ?_)
  obtain ⟨h1, h2⟩ := tyV_is I1 r1 ty
  refine ⟨T, id, pa, slot, hty, h1, h2, ?_⟩
  have hA := ha cpos pins s1 σ H1 _ I1 q1
  rw [hs] at hA ⊢
  refine Calls.callWith_builtin (by show (false || (backTo cpos (starEach es X.env)).any (·.1)) = false; rw [hplain] <;> rfl) (Calls.evalArgs_plain ?_)
  exact thn hA fun us s2 ⟨vs, H2, I2, r2, q2⟩ => hm pins s2 σ H2 x vs v us Q I2 r1 r2 q2
end
end L2
namespace L2
open PySem PySem.Spec PyProof.Rows
def MtM (X : Cx) (id : String) (r : V → List V → Hp → VK → Prop) : Prop :=
  ∀ (pins : List (Addr × Obj)) (s : Shared) (σ : St) (H : Hp) (x : V) (xs : List V) (v : Value) (us : List Value) (Q : VK), Inv X pins σ H s → RelV x v → Vals xs us → r x xs H Q →
    wpAny (model X.prog X.w) X.A (call (.builtin id) (v :: us)) (EP X pins σ Q) X.xe s
theorem Vals.one : ∀ {x : V} {us : List Value}, Vals [x] us → ∃ u, us = [u] ∧ RelV x u
  | _, _, .cons r .nil => ⟨_, rfl, r⟩
section
variable {X : Cx} {pins : List (Addr × Obj)} {σ : St} {H : Hp} {s : Shared} {l b : Addr} {xs ys zs : List V}
theorem Inv.lset {its its' : List Value} {n : Nat} {f : Array Value → Array Value} {t' : Nat} (I : Inv X pins σ H s) (hH : H l = some (.lst xs))
    (e : s.heap.get? l = some { cls := .type "list", data := .seq its.toArray n }) (hf : f its.toArray = its'.toArray) (hv : Vals ys its') (hz : ys.length ≤ sizeLine) :
    Inv X pins σ (upd H l (.lst ys)) { s with heap := s.heap.update l (Obj.mapSeq f), toks := t' } := by
  have q := PySem.IsL.update e f
  rw [hf] at q
  refine I.write (x := l) (e := l) (by rw [hH]; exact trivial) (.inl rfl) (fun b' u hb hu => (Heap.get?_update_other s.heap (Obj.mapSeq f) (Ne.symm hb)).trans hu) ⟨_, q⟩ ?_
  exact ⟨hz, its', _, hv, q⟩
theorem Inv.lnew {its : List Value} {t' : Nat} (I : Inv X pins σ H s) (hv : Vals ys its) (hz : ys.length ≤ sizeLine) :
    Inv X pins σ (upd H s.heap.objs.size (.lst ys)) { s with heap := s.heap.push { cls := .type "list", data := .seq its.toArray }, toks := t' } :=
  I.laid (fun _ _ q => Heap.get?_push_of_some _ q) (Nat.le_refl _) ⟨hz, its, 0, hv, Heap.get?_push_size _ rfl⟩
theorem Inv.fresh (I : Inv X pins σ H s) : H s.heap.objs.size = none := I.hok.fresh (Nat.le_refl _)
theorem Inv.lstM (I : Inv X pins σ H s) (hH : H l = some (.lst xs)) : xs.length ≤ sizeLine ∧ ∃ (its : List Value) (n : Nat), Vals xs its ∧ xs.length = its.length ∧ s.heap.get? l = some { cls := .type "list", data := .seq its.toArray n } := by
  obtain ⟨z, its, n, r, e⟩ := I.hok l _ hH
  exact ⟨z, its, n, r, r.length, e⟩
theorem notLongL {n : Nat} (h : n ≤ sizeLine) : Builtin.List.listTooLong n = false := by
  unfold Builtin.List.listTooLong
  exact decide_eq_false (by omega)
end
section
variable {X : Cx}
def rAppend : V → List V → Hp → VK → Prop := fun x vs H Q => ∃ l xs y, x = .ref l ∧ vs = [y] ∧ H l = some (.lst xs) ∧ xs.length < sizeLine ∧ Q .non (upd H l (.lst (xs ++ [y])))
theorem mt_append : MtM X "list.append" rAppend := by
  intro pins s σ H x vs v us Q I rx rv h
  obtain ⟨l, xs, y, rfl, rfl, hH, hz, q⟩ := h
  cases rx
  obtain ⟨u, rfl, ru⟩ := rv.one
  obtain ⟨z, its, n, r, hl, e⟩ := I.lstM hH
  refine call_meets F.slot_list_append ⟨_, e, rfl⟩ F.entry_list_append (F.args_list_append_2 _ _) (PySem.list_append l its.toArray n u (by rw [List.size_toArray]; omega)) ⟨e, ?_⟩
  refine ⟨.non, _, I.lset (its' := its ++ [u]) hH e (by simp) (r.append (.cons ru .nil)) ?_, rfl, q⟩
  rw [List.length_append, List.length_singleton]
  omega
def rExtend : V → List V → Hp → VK → Prop := fun x vs H Q => ∃ l b xs zs, x = .ref l ∧ vs = [.ref b] ∧ H l = some (.lst xs) ∧ H b = some (.lst zs) ∧ xs.length + zs.length ≤ sizeLine ∧ Q .non (upd H l (.lst (xs ++ zs)))
theorem mt_extend : MtM X "list.extend" rExtend := by
  intro pins s σ H x vs v us Q I rx rv h
  obtain ⟨l, b, xs, zs, rfl, rfl, hH, hB, hz, q⟩ := h
  cases rx
  obtain ⟨u, rfl, ru⟩ := rv.one
  cases ru
  obtain ⟨z, its, n, r, hl, e⟩ := I.lstM hH
  obtain ⟨z2, its2, n2, r2, hl2, e2⟩ := I.lstM hB
  have hsz : its.toArray.size + its2.toArray.size ≤ sizeLine := by rw [List.size_toArray, List.size_toArray]; omega
  have hlong : ¬ (!its.toArray.isEmpty && Builtin.List.listTooLong (its.toArray.size + its2.toArray.size)) = true := by
    rw [notLongL hsz, Bool.and_false]
    exact Bool.false_ne_true
  refine call_meets F.slot_list_extend ⟨_, e, rfl⟩ F.entry_list_extend (F.args_list_extend_2 _ _)
    (AutoSeq1.list_extend_list_list_0 l its.toArray n b its2.toArray n2 hlong (by rw [List.size_toArray]; omega) (by omega)) ⟨e, e2, ?_⟩
  refine ⟨.non, _, I.lset (its' := its ++ its2) hH e (by simp) (r.append r2) ?_, rfl, q⟩
  rw [List.length_append]
  omega
def rCat : R2 := fun x y H Q => ∃ l b xs zs, x = .ref l ∧ y = .ref b ∧ H l = some (.lst xs) ∧ H b = some (.lst zs) ∧ xs.length + zs.length ≤ sizeLine ∧ ∀ p, H p = none → Q (.ref p) (upd H p (.lst (xs ++ zs)))
theorem op_cat : OpR X (binaryOp .Add) rCat := by
  intro pins s σ H x y v u Q I rx ry h
  obtain ⟨l, b, xs, zs, rfl, rfl, hH, hB, hz, q⟩ := h
  cases rx
  cases ry
  obtain ⟨z, its, n, r, hl, e⟩ := I.lstM hH
  obtain ⟨z2, its2, n2, r2, hl2, e2⟩ := I.lstM hB
  refine PySem.P.add_list e e2 ?_ (by rw [List.size_toArray, List.size_toArray]; omega)
  have ea : its.toArray ++ its2.toArray = (its ++ its2).toArray := by simp
  rw [ea]
  exact ⟨.ref _, _, I.lnew (t' := s.toks) (r.append r2) (by rw [List.length_append]; omega), rfl, q _ I.fresh⟩
end
section
variable {prog : Program} {w : World} {A : Around} {E : Value → Shared → Prop} {s : Shared}
set_option maxRecDepth 100000 in
end
section
variable {X : Cx}
end
end L2
namespace Att
open PySem PySem.W PySem.Calls PyProof.Rows
theorem ints_of_wellAll {P : Params} {h : Heap} : ∀ (ns : List Int) (vs : List Value), WellAll P h vs (ns.map WData.int) → IntsAre vs ns := by
  intro ns
  induction ns with
  | nil =>
    intro vs w
    rw [List.map_nil] at w
    cases w
    exact .nil
  | cons n ns ih =>
    intro vs w
    rw [List.map_cons] at w
    cases w with
    | cons a b =>
      cases a
      exact .cons _ _ (ih _ b)
theorem script_of {l : OpenLaw} {n : Nat} (hn : l.most = some n) {P : Params} {h : Heap} {args : List WData} {vals : List Value}
    (hpre : l.row.toRowW.claim.pre args = true) (hwl : WellAll P h vals args) :
    ∃ a vs ns, vals = [Value.ref a] ∧ args = [WData.list (ns.map WData.int)] ∧ h.get? a = some { cls := .type "list", data := .seq vs.toArray } ∧ IntsAre vs ns ∧ ns.length ≤ n := by
  have hsh : WShape.hasAll [] args [.list .int] = true := (pre_splitW hpre).1
  have hc : l.pre.holds [] { args := args } = true := (pre_splitW hpre).2
  obtain ⟨d, r, rfl, h1, h2⟩ := hasAllW_cons hsh
  obtain rfl := hasAllW_nil h2
  obtain ⟨xs, rfl, h3⟩ := hasW_list h1
  obtain ⟨ns, rfl⟩ := items_int h3
  have hlen : ns.length ≤ n := by
    unfold OpenLaw.pre at hc
    have h4 : (WTm.not (.lt (.lit (.int (n : Int))) (.len (.arg 0)))).holds [] { args := [.list (ns.map .int)] } = true := by
      have h4 := (holds_andW hc).1
      rw [hn] at h4
      exact h4
    have h5 := condW_of h4 (w_not (w_lt w_lit (w_len_list (w_arg rfl))))
    rw [List.length_map] at h5
    refine Nat.le_of_not_lt fun q => ?_
    have q' : (n : Int) < ((ns.length : Nat) : Int) := by omega
    first
      | (rw [decide_eq_true q'] at h5; exact absurd h5 (by decide))
      | (simp at h5; omega)
  cases hwl with
  | cons w1 w2 =>
    cases w2
    cases w1 with
    | list ho hall => exact ⟨_, _, ns, rfl, rfl, ho, ints_of_wellAll ns _ hall, hlen⟩
theorem post_true (l : OpenLaw) (args : List WData) : l.row.toRowW.claim.post args (.bool true) args = true :=
  postW_of (r := l.row.toRowW) (X := (true == true))
    (show WShape.has [] (.bool true) .bool = true by first | rfl | decide | simp [WShape.has, WShape.arms, WShape.armsAll])
    (show (WTm.eq .res (.lit (.bool true))).value [] { args := args, res := some (.bool true), after := args } = some (.bool (true == true)) from w_eq_bool (w_res rfl) w_lit) rfl
section
variable {prog : Program} {w : World} {A : Around} {E : Value → Shared → Prop} {s : Shared} {K : Frag}
end
end Att
namespace L2
open PySem PySem.Spec PyProof.Rows
theorem vals_ints : ∀ {vs : List Value} {ns : List Int}, IntsAre vs ns → Vals (ns.map V.int) vs
  | _, _, .nil => .nil
  | _, _, .cons n t h => .cons ⟨t, rfl⟩ (vals_ints h)
def Only (H : Hp) : Prop := ∀ b, H b = none ∨ ∃ o xs, H b = some (.frz o (.lst xs))
theorem law_call {P : Program} {w : World} {K : PySem.W.Frag} {mg mb : Str → Option Value} {CX : CXT} {k : Nat} {fa a : Addr} {fd : FuncData} {x : Str} {sp : Sp} {s₁ : Shared} {vs : List Value} {ns : List Int}
    (KX : K.In s₁.heap) (hns : s₁.heap.Ns mainGlobals mg) (hb : s₁.heap.Ns builtinsNs mb) (hbb : ∀ x : Str, x ≠ "__name__" → mb x = bootBuiltins x) (hlim : s₁.heap.NoLimit) (hg : s₁.gens = #[])
    (ha : s₁.heap.get? a = some { cls := .type "list", data := .seq vs.toArray }) (hi : IntsAre vs ns) (hl : ns.length ≤ sizeLine) (hr : Room k callerA)
    (F : ∀ base : Heap, K.In base → base.Ns mainGlobals mg → FnOk P w K mg base CX k fa fd [x] sp) (hbind : ∀ (s : Shared) (u : Value), BindsTo s fd ⟨[u], []⟩ [(x, u)])
    (hsp : ∀ H : Hp, Only H → SqL K H a (ns.map V.int) → sp [.ref a] H (fun v _ => v = .bl true) fun _ _ _ => False)
    (hCX : ∀ H e s', CX [] H s₁ (fun _ _ _ => False) e s' → False) :
    codeAny (model P w) callerA (.call (.ref fa) ⟨[.ref a], []⟩) (fun r s' => r = .ok (.ret (.bool true)) ∧ OldK s₁.heap s'.heap ∧ s'.os = s₁.os ∧ AllBare s'.gens) s₁ := by
  have rv := vals_ints hi
  have lenV := hi.length
  -- from an abstract heap in which nothing but the script may be tracked
  have core : ∀ H : Hp, Only H → SqL K H a (ns.map V.int) → HOk P w H s₁.heap → (∀ b, H b ≠ none → b = a) → (H a ≠ none → K.lookup a = none) →
      codeAny (model P w) callerA (.call (.ref fa) ⟨[.ref a], []⟩) (fun r s' => r = .ok (.ret (.bool true)) ∧ OldK s₁.heap s'.heap ∧ s'.os = s₁.os ∧ AllBare s'.gens) s₁ := by
    intro H hO hS hok hA hK
    have base_of : ∀ {b : Addr} {o : Obj}, s₁.heap.get? b = some o → H b = none → (hidT s₁.heap H).get? b = some o := fun e n => hidT_get e n
    have noA : ∀ {b : Addr} {o : Obj} {es : Array DictEntry} {ep : Nat}, s₁.heap.get? b = some o → o.data = .dict es ep → H b = none := fun {b o es ep} e d => by
      cases q : H b with
      | none => rfl
      | some u =>
        have e' : b = a := hA b (by rw [q]; simp)
        subst e'
        rw [ha] at e; cases e
        have d' : Data.seq vs.toArray _ = Data.dict es ep := d
        cases d'
    have nsK : ∀ {b : Addr} {m : Str → Option Value}, s₁.heap.Ns b m → (hidT s₁.heap H).Ns b m := fun {b m} ⟨o, es, ep, e, d, r⟩ => ⟨o, es, ep, base_of e (noA e d), d, r⟩
    have hKb : K.In (hidT s₁.heap H) := fun b o e => base_of (KX b o e) (by
      cases q : H b with
      | none => rfl
      | some u =>
        have e' : b = a := hA b (by rw [q]; simp)
        subst e'
        rw [hK (by rw [q]; simp)] at e; cases e)
    have hM : Mod K mg (hidT s₁.heap H) := ⟨hKb, nsK hns, ⟨mb, nsK hb, hbb⟩, let ⟨mc, h1, h2⟩ := hlim; ⟨mc, nsK h1, h2⟩⟩
    have e0 : Env0 P w K mg (hidT s₁.heap H) callerA [] s₁ H := ⟨rfl, hM, fun b o e => of_hidT e, Nat.le_of_eq (hidT_size _ _), trivial, fun b hb => absurd (show b ∈ ([] : List Addr) from hb) (by simp), hok, .of_eq hg⟩
    refine codeAny_mono ((F _ hKb (nsK hns)).run callerA [] s₁ H ⟨[.ref a], []⟩ [.ref a] [.ref a] _ _ hr e0 (hbind s₁ (.ref a)) (.cons rfl .nil) (hsp H hO hS)) fun r s' h => ?_
    cases r with
    | error e => exact (hCX H e s' h).elim
    | ok fl =>
      cases fl with
      | next => exact False.elim h
      | brk => exact False.elim h
      | cont => exact False.elim h
      | ret u =>
        obtain ⟨v, H', os, bare, un, hok', r', q⟩ := h
        have q' : v = .bl true := q
        subst q'
        obtain rfl : u = Value.bool true := r'
        refine ⟨rfl, OldK.of_keep fun b o e => ?_, os, bare⟩
        cases q : H b with
        | none => exact un.keep b o e q (by intro z; exact absurd (show b ∈ ([] : List Addr) from z) (by simp)) (by simp)
        | some u =>
          rcases hO b with z | ⟨ob, xs, z⟩
          · rw [q] at z; cases z
          · have z2 := un.frzs b ob _ z
            obtain ⟨e1, _⟩ := hok b _ z
            obtain ⟨e2, _⟩ := hok' b _ z2
            rw [e] at e1; cases e1
            exact e2
  cases hk : K.lookup a with
  | some o =>
    -- the script is one of the module's own objects
    have e := KX a o hk
    rw [ha] at e
    cases e
    refine core (fun _ => none) (fun _ => .inl rfl) (.inr ⟨_, vs.toArray, _, hk, rfl, rfl, rfl, by rw [List.size_toArray, lenV]; exact hl, by simpa using rv⟩) (fun b u z => by have z' : (none : Option HO) = some u := z; cases z') (fun b z => absurd rfl z) fun z => absurd rfl z
  | none =>
    refine core (fun b => if b = a then some (.frz { cls := .type "list", data := .seq vs.toArray } (.lst (ns.map V.int))) else none) (fun b => ?_) (.inl (.inr ⟨{ cls := .type "list", data := .seq vs.toArray }, if_pos rfl⟩)) (fun b u z => ?_) (fun b z => ?_) fun _ => hk
    · by_cases hb : b = a
      · exact .inr ⟨_, _, if_pos hb⟩
      · exact .inl (if_neg hb)
    · by_cases hb : b = a
      · have z' := (if_pos hb).symm.trans z
        cases z'
        subst hb
        exact ⟨ha, by rw [List.length_map]; exact hl, vs, _, rv, ha⟩
      · have z' := (if_neg hb).symm.trans z
        cases z'
    · by_cases hb : b = a
      · exact hb
      · exact absurd (if_neg hb) z
end L2
namespace L2
open PySem PySem.Spec PyProof.Rows
end L2
namespace L2
open PySem PySem.Spec PyProof.Rows
def inClass (s : Stmt) (j : Nat) : Stmt := match s with
  | .ClassDef _ _ _ body _ _ _ _ _ _ _ => body.getD j (.Pass ⟨0, 0, 0, 0⟩)
  | _ => .Pass ⟨0, 0, 0, 0⟩
def defArgs (s : Stmt) : Arguments := match s with
  | .FunctionDef _ a _ _ _ _ _ _ _ _ => a
  | _ => { posonlyargs := [], args := [], vararg := none, kwonlyargs := [], kw_defaults := [], kwarg := none, defaults := [] }
def defBody (s : Stmt) : List Stmt := match s with
  | .FunctionDef _ _ b _ _ _ _ _ _ _ => b
  | _ => []
def defScope (s : Stmt) : Scope := match s with
  | .FunctionDef _ _ _ _ _ _ sc _ _ _ => sc
  | _ => { kind := .function, names := [], isGenerator := false, isCoroutine := false }
abbrev CX0 : CXT := fun _ _ _ _ _ _ => False
abbrev E0 : XK := fun _ _ _ => False
theorem pass0 {X : Cx} : Passes CX0 X E0 := fun _ _ _ _ _ _ _ h => h.elim
structure Fun (K : PySem.W.Frag) (x qual : Str) (st : Stmt) (f : Addr) (fd : FuncData) : Prop where
  ex : ∃ (oc : Value) (od : Option Addr) (kV doc pm : Value) (an : Option Addr) (cdv ct : Value) (osl : Array (Option Value)),
    fd = PySem.W.fnOf x qual (defArgs st) (defBody st) (defScope st) .none kV doc pm an cdv ct ∧ K.lookup f = some ⟨oc, od, .func fd, osl⟩ ∧ PySem.W.codeIn K cdv qual = true
  kp : PySem.W.keepIn K (.ref f) = true
section
variable {P : Program} {w : World} {K : PySem.W.Frag} {mg : Str → Option Value} {base : Heap}
theorem Fun.ok {x qual : Str} {st : Stmt} {f : Addr} {fd : FuncData} {N ps : List Str} {k : Nat} {sp : Sp} (F : Fun K x qual st f fd) (S : FnScope N ps (defScope st)) (len : ∀ vs H Q E, sp vs H Q E → vs.length = ps.length)
    (hbody : ∀ (cdv : Value) (A : Around) (outer : List Env) (s : Shared) (H : Hp) (vs : List V) (Q : VK) (E : XK), Room k (A.deeper (envOfC qual (defScope st) s.heap.objs.size f cdv)) → sp vs H Q E →
      ∃ t, PSs (cxOf CX0 P w K mg base N qual (defScope st) f cdv A outer s H E).nox (defBody st) t ∧ t { nx := fun _ H' => Q .non H', rt := Q } (start N vs) H) : FnOk P w K mg base CX0 (k + 1) f fd ps sp := by
  obtain ⟨oc, od, kV, doc, pm, an, cdv, ct, osl, rfl, lk, hcd⟩ := F.ex
  refine fn_of lk hcd S len fun A outer s H vs Q E hr hsp => ?_
  obtain ⟨t, h, q⟩ := hbody cdv A outer s H vs Q E hr hsp
  exact ⟨t, h.nox, q⟩
theorem Fun.binds {x qual : Str} {st : Stmt} {f : Addr} {fd : FuncData} {ps : List Str} (F : Fun K x qual st f fd)
    (h : ∀ (kV doc pm : Value) (an : Option Addr) (cdv ct : Value) (us : List Value), us.length = ps.length → bindArgs (PySem.W.fnOf x qual (defArgs st) (defBody st) (defScope st) .none kV doc pm an cdv ct) ⟨us, []⟩ = pure (ps.zip us)) : Binds K fd ps [] := by
  obtain ⟨oc, od, kV, doc, pm, an, cdv, ct, osl, rfl, lk, hcd⟩ := F.ex
  exact .all (h kV doc pm an cdv ct)
theorem fun_mk {x qual : Str} {st : Stmt} {f : Addr} {oc : Value} {od an : Option Addr} {osl : Array (Option Value)} {kV doc pm cdv ct : Value} (l : K.lookup f = some ⟨oc, od, .func (PySem.W.fnOf x qual (defArgs st) (defBody st) (defScope st) .none kV doc pm an cdv ct), osl⟩)
    (c : PySem.W.codeIn K cdv qual = true) (k : PySem.W.keepIn K (.ref f) = true) : Fun K x qual st f (PySem.W.fnOf x qual (defArgs st) (defBody st) (defScope st) .none kV doc pm an cdv ct) := ⟨⟨oc, od, kV, doc, pm, an, cdv, ct, osl, rfl, l, c⟩, k⟩
end
theorem hu_of {A : Around} {k : Nat} (hr : Room k A) : A.units + 1 < cLine := Nat.lt_of_le_of_lt (Nat.add_le_add_left (by decide : 1 ≤ 64) _) hr.units
section
variable {X : Cx}
theorem pv (i : Nat) {x : Str} {pos : Pos} (hN : X.N[i]? = some x := by rfl) (hv : Vis X.env.scope x := by first | exact Or.inl rfl | exact Or.inr (Or.inl rfl) | exact Or.inr (Or.inr rfl)) (hd : (x == ("__debug__" : Str)) = false := by decide)
    (hcd : (x == ("__classdict__" : Str)) = false := by decide) : PE X (.Name x pos) (tVar i) := pe_var hN hv hd hcd
end
theorem iteF {A B : Prop} (h : B) : if false = true then A else B := by
  rw [if_neg Bool.false_ne_true]
  exact h
theorem iteT {A B : Prop} (h : A) : if true = true then A else B := by
  rw [if_pos rfl]
  exact h
theorem ite2 {c A B : Prop} [Decidable c] (h1 : c → A) (h2 : ¬ c → B) : if c then A else B := by
  by_cases h : c
  · rw [if_pos h]
    exact h1 h
  · rw [if_neg h]
    exact h2 h
def Same (H H' : Hp) : Prop := ∀ b o, H b = some o → H' b = some o
theorem Same.refl (H : Hp) : Same H H := fun _ _ h => h
theorem Same.trans {H H1 H2 : Hp} (a : Same H H1) (b : Same H1 H2) : Same H H2 := fun c o h => b c o (a c o h)
theorem Same.seq {K : PySem.W.Frag} {H H' : Hp} {a : Addr} {xs : List V} (e : Same H H') (h : SqL K H a xs) : SqL K H' a xs := by
  rcases h with (h | ⟨o, h⟩) | h
  · exact .inl (.inl (e _ _ h))
  · exact .inl (.inr ⟨o, e _ _ h⟩)
  · exact .inr h
end L2
set_option Elab.async false
set_option linter.all false
set_option maxRecDepth 100000
namespace L2
open PySem PySem.Spec PyProof.Rows
section
variable {X : Cx}
theorem op_mulO : OpR X (binaryOp .Mult) (rI IntMulOk fun i j => .int (i * j)) := opI fun _ _ _ _ _ _ _ hc q => mul_int q hc
def clsV : V → Value
  | .ty n => .type n
  | .ref a => .ref a
  | _ => .none
def isC : V → Bool
  | .ty _ => true
  | .ref _ => true
  | _ => false
theorem clsV_of {c : V} {u : Value} (h : isC c = true) (r : RelV c u) : u = clsV c := by
  cases c with
  | ty n => exact r
  | ref a => exact r
  | _ => cases h
def rIsi (K : PySem.W.Frag) : List V → Hp → VK → Prop := fun xs H Q => ∃ x c t b, xs = [x, c] ∧ isC c = true ∧ TyOf K H x t ∧ PySem.W.kitOne K t (clsV c) = some b ∧ Q (.bl b) H
theorem call_isi : CallR X (.builtin "isinstance") (rIsi X.K) := by
  intro pins s σ H xs us Q I r h
  obtain ⟨x, c, t, b, rfl, hc, ty, e, q⟩ := h
  obtain ⟨v, u, rfl, r1, r2⟩ := vals2 r
  rw [clsV_of hc r2]
  exact isinst_ok I r1 ty e fun tk => ⟨.bl b, H, I.tok _, rfl, q⟩
theorem eqV_self : ∀ {x : V}, flatV x = true → eqV x x = true := by
  intro x h
  cases x <;> first | rfl | (simp [eqV]; done) | (cases h)
structure MkN (K : PySem.W.Frag) (C : Addr) : Prop where
  makes : PySem.W.makesIn K C = true
  init : PySem.W.findIn K (.ref C) "__init__" = some (some (.builtin "object.__init__"))
  kp : PySem.W.keepIn K (.ref C) = true
theorem make_n {prog : Program} {w : World} {A : Around} {s : Shared} {K : PySem.W.Frag} {C : Addr} {R : Result → Shared → Prop} (X : K.In s.heap) (hm : PySem.W.makesIn K C = true)
    (hi : PySem.W.findIn K (.ref C) "__init__" = some (some (.builtin "object.__init__")))
    (h : R (.ok (.ret (.ref (s.heap.objs.size + 1)))) { s with heap := (s.heap.push PySem.W.emptyDict).push (PySem.W.instObj C s.heap.objs.size) }) :
    codeAny (model prog w) A (.call (.ref C) ⟨[], []⟩) R s := by
  obtain ⟨hh, g, d, t, os⟩ := s
  have Y := PySem.W.makes_of (M := model prog w) X hm
  refine PySem.W.make_core Y (PySem.W.looks_findIn X hi) (fun self => PySem.W.Looks.of_pure (PySem.W.oi_bind self)) (.inr ⟨rfl, rfl⟩) ?_
  have e2 : ((hh.push PySem.W.emptyDict).push (PySem.W.instObj C hh.objs.size)).get? (hh.objs.size + 1) = some (PySem.W.instObj C hh.objs.size) := by
    have := Heap.get?_push_size (hh.push PySem.W.emptyDict) (o := PySem.W.instObj C hh.objs.size) rfl
    rwa [Heap.size_push] at this
  have t1 : PySem.W.Looks (model prog w) ((hh.push PySem.W.emptyDict).push (PySem.W.instObj C hh.objs.size)) (typeOf (.ref (hh.objs.size + 1))) (.ref C) := (PySem.W.Looks.ld e2).andThen .now
  have t2 : PySem.W.Looks (model prog w) ((hh.push PySem.W.emptyDict).push (PySem.W.instObj C hh.objs.size)) (isInstance (.ref (hh.objs.size + 1)) (.type "object")) true := t1.andThen (Y.top.keeps fun b o e => Heap.get?_push_of_some _ (Heap.get?_push_of_some _ e))
  refine codeAny_call_builtin PySem.W.oi_plain PySem.W.entry_oi (@PySem.W.check_slot (model prog w) _ _ _ "object.__init__" "object" "__init__" (.ref (hh.objs.size + 1)) [] [] _ PySem.W.oi_kind PySem.W.oi_split t2 (PySem.W.oi_args (.ref (hh.objs.size + 1))) ?_)
  rw [PySem.W.oi_run]
  exact wpAny_pure (And.intro rfl h)
def tMakeN (C : Addr) : TE := fun _ H Q => ∀ x dx, H x = none → H dx = none → dx ≠ x → Q (.ref x) (upd (upd H dx (.own x)) x (.ins C dx []))
theorem pe_makeN {C : Addr} {x : Str} {p pos : Pos} (M : MkN X.K C) (hg : Gl X x) (hm : X.mg x = some (.ref C)) (hdb : (x == ("__debug__" : Str)) = false := by decide) : PE X (.Call (.Name x p) [] [] pos) (tMakeN C) := by
  intro pins s σ H Q I h
  refine wpAny_Call_Name_kw (ld_glob I hg hm ?_ hdb)
  refine PySem.W.callWith_K0 I.kIn M.kp (wpAny_call (make_n I.kIn M.makes M.init ?_))
  exact ⟨.ref (s.heap.objs.size + 1), _, Inv.made (C := C) I, rfl, h _ _ (I.hok.fresh (Nat.le_succ _)) (I.hok.fresh (Nat.le_refl _)) (Nat.ne_of_lt (Nat.lt_succ_self _))⟩
structure MethI {ι : Type} (P : Program) (w : World) (K : PySem.W.Frag) (mg : Str → Option Value) (base : Heap) (k : Nat) (m : Str) (ps : List Str) (C : ι → Addr) (sp : ι → Sp) : Prop where
  ex : ∀ i, Cls K (C i) ∧ ∃ f fd, Meth K (C i) m f ∧ FnOk P w K mg base CX0 k f fd ps (sp i) ∧ Binds K fd ps []
def tMethI {ι : Type} (m : Str) (C : ι → Addr) (sp : ι → Sp) (ta : TE) (t : TA) : TE := fun σ H Q => ta σ H fun x H1 => ∃ i a dx fs, x = .ref a ∧ H1 a = some (.ins (C i) dx fs) ∧ fs.lookup m = none ∧
  t σ H1 fun vs H2 => sp i (x :: (vs ++ [])) H2 Q E0
theorem pe_methI {ι : Type} {C : ι → Addr} {sp : ι → Sp} {k : Nat} {m : Str} {ps : List Str} {o e : Expr} {es : List Expr} {ta : TE} {t : TA} {apos pos : Pos} {pl : Sem Bool} (M : MethI X.prog X.w X.K X.mg X.base k m ps C sp) (he : PE X o ta) (hr : Room k X.A) (ha : PA X (e :: es) t)
    (hst : starEach (e :: es) X.env = (false, eval e X.env) :: starEach es X.env := by rfl) (hpl : (backTo pos (starEach es X.env)).any (·.1) = false := by rfl)
    (ht : eval (.Call (.Attribute o m apos) (e :: es) [] pos) X.env = (do
      let ov ← eval o X.env
      standAt apos.atName
      let (f, first) ← holding [ov] (getMethod ov m pl)
      callWith pos f first (backTo pos (starEach (e :: es) X.env)) (backToKw pos (keywordEach [] X.env))) := by rfl) :
    PE X (.Call (.Attribute o m apos) (e :: es) [] pos) (tMethI m C sp ta t) := by
  intro pins s σ H Q I h
  refine PySem.W.methodCall_KW (pl := pl) (thn (he pins s σ H _ I h) fun u s1 ⟨x, H1, I1, rx, i, a, dx, fs, ex, ea, l, q⟩ => ?_) ht
  subst ex
  obtain rfl : u = Value.ref a := rx
  obtain ⟨c, f, fd, hm, F, hb⟩ := M.ex i
  refine getmeth_ok I1 ea c hm l ?_
  refine PySem.W.callWith_K (first := [.ref a]) (h₀ := X.base) I.ok.mod.kin hm.kp (thn (ha pos pins s1 σ H1 _ I1 q) fun us s2 ⟨vs, H2, I2, r, q2⟩ => ⟨I2.kIn, ?_⟩) hst hpl
  exact run_fn (us := .ref a :: us) (vs := .ref a :: vs) F hr hb .nil pass0 I2 (.cons rfl r) q2
theorem pe_methI0 {ι : Type} {C : ι → Addr} {sp : ι → Sp} {k : Nat} {m : Str} {ps : List Str} {o : Expr} {ta : TE} {apos pos : Pos} {pl : Sem Bool} (M : MethI X.prog X.w X.K X.mg X.base k m ps C sp) (he : PE X o ta) (hr : Room k X.A)
    (ht : eval (.Call (.Attribute o m apos) [] [] pos) X.env = (do
      let ov ← eval o X.env
      standAt apos.atName
      let (f, first) ← holding [ov] (getMethod ov m pl)
      callWith pos f first (backTo pos (starEach [] X.env)) (backToKw pos (keywordEach [] X.env))) := by rfl) :
    PE X (.Call (.Attribute o m apos) [] [] pos) (tMethI m C sp ta tNil) := by
  intro pins s σ H Q I h
  refine PySem.W.methodCall_KW (pl := pl) (thn (he pins s σ H _ I h) fun u s1 ⟨x, H1, I1, rx, i, a, dx, fs, ex, ea, l, q⟩ => ?_) ht
  subst ex
  obtain rfl : u = Value.ref a := rx
  obtain ⟨c, f, fd, hm, F, hb⟩ := M.ex i
  refine getmeth_ok I1 ea c hm l ?_
  exact PySem.W.callWith_K0 (first := [.ref a]) I1.kIn hm.kp (run_fn (us := [.ref a]) (vs := [.ref a]) F hr hb .nil pass0 I1 (.cons rfl .nil) q)
structure Df (P : Program) (w : World) (K : PySem.W.Frag) (mg : Str → Option Value) (base : Heap) (k : Nat) (x : Str) (ps : List Str) (sp : Sp) : Prop where
  ex : ∃ f fd, mg x = some (.ref f) ∧ PySem.W.keepIn K (.ref f) = true ∧ Binds K fd ps [] ∧ FnOk P w K mg base CX0 k f fd ps sp
theorem pe_callD {k : Nat} {x : Str} {ps : List Str} {sp : Sp} {e : Expr} {es : List Expr} {t : TA} {p pos : Pos} (D : Df X.prog X.w X.K X.mg X.base k x ps sp) (hr : Room k X.A) (hg : Gl X x) (ha : PA X (e :: es) t)
    (hdb : (x == ("__debug__" : Str)) = false := by decide) (he : starEach (e :: es) X.env = (false, eval e X.env) :: starEach es X.env := by rfl) (hpl : (backTo pos (starEach es X.env)).any (·.1) = false := by rfl) :
    PE X (.Call (.Name x p) (e :: es) [] pos) (tCall sp [] E0 t) := by
  obtain ⟨f, fd, hm, hk, hb, F⟩ := D.ex
  exact pe_call F hr hg hm hk hb .nil pass0 ha hdb he hpl
theorem pe_callD0 {k : Nat} {x : Str} {ps : List Str} {sp : Sp} {p pos : Pos} (D : Df X.prog X.w X.K X.mg X.base k x ps sp) (hr : Room k X.A) (hg : Gl X x)
    (hdb : (x == ("__debug__" : Str)) = false := by decide) : PE X (.Call (.Name x p) [] [] pos) (tCall sp [] E0 tNil) := by
  obtain ⟨f, fd, hm, hk, hb, F⟩ := D.ex
  exact pe_call0 F hr hg hm hk hb .nil pass0 hdb
end
structure HasF (K : PySem.W.Frag) (x : Str) (st : Stmt) : Prop where
  ex : ∃ (f : Addr) (fd : FuncData), PySem.W.nsIn K mainGlobals x = some (some (.ref f)) ∧ Fun K x x st f fd
theorem hasF_mk {K : PySem.W.Frag} {x : Str} {st : Stmt} {f : Addr} {oc : Value} {od an : Option Addr} {osl : Array (Option Value)} {kV doc pm cdv ct : Value} (a : PySem.W.nsIn K mainGlobals x = some (some (.ref f)))
    (l : K.lookup f = some ⟨oc, od, .func (PySem.W.fnOf x x (defArgs st) (defBody st) (defScope st) .none kV doc pm an cdv ct), osl⟩)
    (c : PySem.W.codeIn K cdv x = true) (k : PySem.W.keepIn K (.ref f) = true) : HasF K x st := ⟨f, _, a, fun_mk l c k⟩
structure HasC (K : PySem.W.Frag) (x : Str) (C : Addr) : Prop where
  ns : PySem.W.nsIn K mainGlobals x = some (some (.ref C))
  cl : Cls K C
  mkn : MkN K C
theorem hasC_mk {K : PySem.W.Frag} {x : Str} {C : Addr} (a : PySem.W.nsIn K mainGlobals x = some (some (.ref C))) (pg : PySem.W.plainGet K C Str.empty = true) (hd : PySem.W.hasDictIn K C = true) (po : PySem.W.plainOver K C = true)
    (sa : PySem.W.findIn K (.ref C) "__setattr__" = some (some (.builtin "object.__setattr__"))) (mk : PySem.W.makesIn K C = true) (i : PySem.W.findIn K (.ref C) "__init__" = some (some (.builtin "object.__init__"))) (kc : PySem.W.keepIn K (.ref C) = true) : HasC K x C :=
  ⟨a, ⟨pg, hd, po, sa⟩, ⟨mk, i, kc⟩⟩
structure HasM (K : PySem.W.Frag) (C : Addr) (m qual : Str) (st : Stmt) : Prop where
  ex : ∃ (f : Addr) (fd : FuncData), Meth K C m f ∧ Fun K m qual st f fd
theorem hasM_mk {K : PySem.W.Frag} {C : Addr} {m qual : Str} {st : Stmt} {f : Addr} {oc : Value} {od an : Option Addr} {osl : Array (Option Value)} {kV doc pm cdv ct : Value} (a : PySem.W.findIn K (.ref C) m = some (some (.ref f))) (i : PySem.W.isFn K (.ref f) = true)
    (l : K.lookup f = some ⟨oc, od, .func (PySem.W.fnOf m qual (defArgs st) (defBody st) (defScope st) .none kV doc pm an cdv ct), osl⟩)
    (c : PySem.W.codeIn K cdv qual = true) (k : PySem.W.keepIn K (.ref f) = true) : HasM K C m qual st := ⟨f, _, ⟨a, i, k⟩, fun_mk l c k⟩
theorem HasF.df {P : Program} {w : World} {K : PySem.W.Frag} {mg : Str → Option Value} {base : Heap} {k : Nat} {x : Str} {st : Stmt} {N ps : List Str} {sp : Sp} (F : HasF K x st) (Kb : K.In base) (G : base.Ns mainGlobals mg) (S : FnScope N ps (defScope st))
    (hbi : ∀ (kV doc pm : Value) (an : Option Addr) (cdv ct : Value) (us : List Value), us.length = ps.length → bindArgs (PySem.W.fnOf x x (defArgs st) (defBody st) (defScope st) .none kV doc pm an cdv ct) ⟨us, []⟩ = pure (ps.zip us))
    (len : ∀ vs H Q E, sp vs H Q E → vs.length = ps.length)
    (hbody : ∀ (f : Addr) (cdv : Value) (A : Around) (outer : List Env) (s : Shared) (H : Hp) (vs : List V) (Q : VK) (E : XK), Room k (A.deeper (envOfC x (defScope st) s.heap.objs.size f cdv)) → sp vs H Q E →
      ∃ t, PSs (cxOf CX0 P w K mg base N x (defScope st) f cdv A outer s H E).nox (defBody st) t ∧ t { nx := fun _ H' => Q .non H', rt := Q } (start N vs) H) : Df P w K mg base (k + 1) x ps sp := by
  obtain ⟨f, fd, a, F⟩ := F.ex
  exact ⟨f, fd, PySem.W.mg_of Kb G a, F.kp, F.binds hbi, F.ok S len (hbody f)⟩
theorem HasM.fn {P : Program} {w : World} {K : PySem.W.Frag} {mg : Str → Option Value} {base : Heap} {k : Nat} {C : Addr} {m qual : Str} {st : Stmt} {N ps : List Str} {sp : Sp} (F : HasM K C m qual st) (S : FnScope N ps (defScope st))
    (hbi : ∀ (kV doc pm : Value) (an : Option Addr) (cdv ct : Value) (us : List Value), us.length = ps.length → bindArgs (PySem.W.fnOf m qual (defArgs st) (defBody st) (defScope st) .none kV doc pm an cdv ct) ⟨us, []⟩ = pure (ps.zip us))
    (len : ∀ vs H Q E, sp vs H Q E → vs.length = ps.length)
    (hbody : ∀ (f : Addr) (cdv : Value) (A : Around) (outer : List Env) (s : Shared) (H : Hp) (vs : List V) (Q : VK) (E : XK), Room k (A.deeper (envOfC qual (defScope st) s.heap.objs.size f cdv)) → sp vs H Q E →
      ∃ t, PSs (cxOf CX0 P w K mg base N qual (defScope st) f cdv A outer s H E).nox (defBody st) t ∧ t { nx := fun _ H' => Q .non H', rt := Q } (start N vs) H) :
    ∃ f fd, Meth K C m f ∧ FnOk P w K mg base CX0 (k + 1) f fd ps sp ∧ Binds K fd ps [] := by
  obtain ⟨f, fd, a, F⟩ := F.ex
  exact ⟨f, fd, a, F.ok S len (hbody f), F.binds hbi⟩
theorem walk_bits {l : PySem.W.OpenLaw} {n k : Nat} {q : Program} {loose : List Str} {XP : (Str → Option Value) → Heap → Prop} {YP : World → Heap → Prop} {d : DefRec} {K : Params → PySem.W.Frag} {CX : World → CXT} {sp : World → List Int → Sp} {x : Str}
    (hn : l.most = some n) (hn2 : n ≤ sizeLine) (hdf : d.params.defaults = []) (hr : Room k callerA)
    (hY : ∀ (w : World) (h : Heap), YP w h → (K w.params).In h)
    (F : ∀ (w : World) (mg : Str → Option Value) (fa : Addr) (h : Heap), (K w.params).In h → h.Ns mainGlobals mg → mg d.name = some (.ref fa) →
      ∃ fd : FuncData, (∀ (s : Shared) (u : Value), BindsTo s fd ⟨[u], []⟩ [(x, u)]) ∧
        ∀ (base : Heap) (ns : List Int), (K w.params).In base → base.Ns mainGlobals mg → ns.length ≤ n → (∀ i ∈ ns, Builtin.Int.intBits i ≤ 1048576) → FnOk l.prog w (K w.params) mg base (CX w) k fa fd [x] (sp w ns))
    (hsp : ∀ (w : World) (H : Hp) (a : Addr) (ns : List Int), ns.length ≤ n → (∀ i ∈ ns, Builtin.Int.intBits i ≤ 1048576) → Only H → SqL (K w.params) H a (ns.map V.int) → sp w ns [.ref a] H (fun v _ => v = .bl true) fun _ _ _ => False)
    (hCX : ∀ (w : World) (H : Hp) (s : Shared) (e : Value) (s' : Shared), CX w [] H s (fun _ _ _ => False) e s' → False) :
    PySem.W.WalkO q loose XP YP l.row.toRowW d [] (fun f vs => PySem.call f vs) := by
  intro w s₀ s₁ mg mb G Y fa o pm cd doc dV kV ho hd hcd hD hmg hg args vals as hpre hlay hrd hwl hlo
  obtain rfl : dV = .none := PySem.W.Dflts.none hD hdf
  obtain rfl : kV = .none := PySem.W.Dflts.noKw hD
  obtain ⟨a, vs, ns, rfl, rfl, hobj, hints, hlen⟩ := Att.script_of hn hpre hwl
  have hbits : ∀ i ∈ ns, Builtin.Int.intBits i ≤ 1048576 := fun i hi => by
    have h1 := PySem.W.layableW_arg hlay _ (List.mem_singleton.mpr rfl)
    have h2 := PySem.W.layableW_item h1 (.int i) (List.mem_map.mpr ⟨i, hi, rfl⟩)
    have h3 : PyData.layableAll0 [.int i] = true := PySem.W.lay0_int h2
    have h4 : PyData.layable0 (.int i) = true := PySem.W.layable0_of_all h3
    exact intBits_le_of_layable h4
  have KX := hY w _ Y
  obtain ⟨fd, hb, hF⟩ := F w mg fa _ KX G.T.g hmg
  refine PySem.W.enter_call (codeAny_mono (law_call KX G.T.g G.T.b G.T.builtins G.T.nolimit hg hobj hints (Nat.le_trans hlen hn2) hr (fun base kb nb => hF base ns kb nb hlen hbits) hb (fun H hO hS => hsp w H a ns hlen hbits hO hS) fun H e s' => hCX w H s₁ e s') fun r s' hq => ?_)
  obtain ⟨rfl, h2, h3, h4⟩ := hq
  exact ⟨.inl ⟨.bool true, .bool true, [], rfl, fun _ => rfl, .bool true, Att.post_true l _, fun _ => ⟨List.Pairwise.nil, fun _ hm => (nomatch hm)⟩⟩, h2, h3, h4⟩
end L2
namespace L2
open PySem PySem.Spec PyProof.Rows
section
variable {σ : St} {H : Hp} {Q : VK} {D : Ends} {ta tb : TE} {v : V} {i j : Int}
theorem i_C (q : Q v H) : tC v σ H Q := q
theorem i_op {r : R2} (q : ta σ H fun x H1 => tb σ H1 fun y H2 => r x y H2 Q) : tOp r ta tb σ H Q := q
theorem i_I0 {g : Int → Int → V} (q : Q (g i j) H) : rI0 g (.int i) (.int j) H Q := ⟨i, j, rfl, rfl, q⟩
theorem i_mod {g : Int → Int → V} (c : 0 < j) (q : Q (g i j) H) : rI (fun _ j => 0 < j) g (.int i) (.int j) H Q := ⟨i, j, rfl, rfl, c, q⟩
theorem i_div {g : Int → Int → V} (c : 0 < j ∧ j < 1073741824) (q : Q (g i j) H) : rI CDiv g (.int i) (.int j) H Q := ⟨i, j, rfl, rfl, c, q⟩
theorem i_pow {g : Int → Int → V} (c : 0 ≤ j ∧ j ≤ 1000000 ∧ i.natAbs < 2 ^ 64) (q : Q (g i j) H) : rI CPow g (.int i) (.int j) H Q := ⟨i, j, rfl, rfl, c, q⟩
theorem i_mul {g : Int → Int → V} (c : IntMulOk i j) (q : Q (g i j) H) : rI IntMulOk g (.int i) (.int j) H Q := ⟨i, j, rfl, rfl, c, q⟩
theorem i_test {t : TE} {Q : Bool → Hp → Prop} (q : t σ H fun x H' => ∃ k, x = .bl k ∧ Q k H') : tTest t σ H Q := q
theorem i_B {t : TE} {Q : Bool → Hp → Prop} (q : t σ H fun x H' => ∃ k, x = .bl k ∧ Q k H') : tB t σ H Q := q
theorem i_bl {b : Bool} {P : Bool → Prop} (q : P b) : ∃ k, V.bl b = V.bl k ∧ P k := ⟨b, rfl, q⟩
theorem i_and {t u : TT} {Q : Bool → Hp → Prop} (q : t σ H fun c H1 => if c = true then u σ H1 Q else Q false H1) : tAnd t u σ H Q := q
theorem i_or {t u : TT} {Q : Bool → Hp → Prop} (q : t σ H fun c H1 => if c = true then Q true H1 else u σ H1 Q) : tOr t u σ H Q := q
theorem i_not {t : TT} {Q : Bool → Hp → Prop} (q : t σ H fun c H1 => Q (!c) H1) : tNot t σ H Q := q
theorem i_andV (q : ta σ H fun x H1 => ∃ c, x = .bl c ∧ if c = true then tb σ H1 Q else Q (.bl false) H1) : tAndV ta tb σ H Q := q
theorem i_orV (q : ta σ H fun x H1 => ∃ c, x = .bl c ∧ if c = true then Q (.bl true) H1 else tb σ H1 Q) : tOrV ta tb σ H Q := q
theorem i_notV (q : ta σ H fun x H1 => ∃ c, x = .bl c ∧ Q (.bl (!c)) H1) : tNotV ta σ H Q := q
theorem i_ifS {c : TT} {t u : TS} (q : c σ H fun b H1 => if b = true then t D σ H1 else u D σ H1) : tIfS c t u D σ H := q
theorem i_if {c : TT} (q : c σ H fun b H1 => if b = true then ta σ H1 Q else tb σ H1 Q) : tIf c ta tb σ H Q := q
theorem i_seq {t u : TS} (q : t { D with nx := u D } σ H) : tSeq t u D σ H := q
theorem i_ret (q : ta σ H D.rt) : tRet ta D σ H := q
theorem i_next (q : D.nx σ H) : tNext D σ H := q
theorem i_asg {g : TG} (q : ta σ H fun x H1 => g x σ H1 D.nx) : tAsg ta g D σ H := q
theorem i_name {n : Nat} {Q : St → Hp → Prop} (q : Q (σ.set n (some v)) H) : gName n v σ H Q := q
theorem i_drop (q : ta σ H fun _ H1 => D.nx σ H1) : tDrop ta D σ H := q
theorem i_call {sp : Sp} {dvs : List V} {E : XK} {t : TA} (q : t σ H fun vs H1 => sp (vs ++ dvs) H1 Q E) : tCall sp dvs E t σ H Q := q
theorem i_CB {r : List V → Hp → VK → Prop} {t : TA} (q : t σ H fun vs H1 => r vs H1 Q) : tCB r t σ H Q := q
theorem i_nil {Q : List V → Hp → Prop} (q : Q [] H) : tNil σ H Q := q
theorem i_cons {t : TA} {Q : List V → Hp → Prop} (q : ta σ H fun x H1 => t σ H1 fun xs H2 => Q (x :: xs) H2) : tCons ta t σ H Q := q
theorem i_ixL {K : PySem.W.Frag} {p : Addr} {xs : List V} (h : SqL K H p xs) (a : atI xs i = some v) (q : Q v H) : rIx K (.ref p) (.int i) H Q := .inl ⟨p, xs, i, v, rfl, rfl, h, a, q⟩
theorem i_ixT {K : PySem.W.Frag} {p : Addr} {xs : List V} (h : SqT K H p xs) (a : atI xs i = some v) (q : Q v H) : rIx K (.ref p) (.int i) H Q := .inr (.inl ⟨p, xs, i, v, rfl, rfl, h, a, q⟩)
theorem i_iteI {A B : Prop} (h1 : i = j → A) (h2 : ¬ i = j → B) : if decide (V.int i = V.int j) = true then A else B :=
  ite2 (fun h => h1 (V.int.inj (of_decide_eq_true h))) fun h => h2 fun e => h (decide_eq_true (congrArg V.int e))
theorem i_iteD {c A B : Prop} [Decidable c] (h1 : c → A) (h2 : ¬ c → B) : if decide c = true then A else B :=
  ite2 (fun h => h1 (of_decide_eq_true h)) fun h => h2 fun e => h (decide_eq_true e)
theorem i_iteSf {x y : Str} {A B : Prop} (n : ¬ x = y) (q : B) : if decide (V.str x = V.str y) = true then A else B := by
  rw [decide_eq_false fun e => n (V.str.inj e)]; exact iteF q
theorem Same.upd {H' : Hp} {p : Addr} {o : HO} (s : Same H H') (n : H' p = none) : Same H (L2.upd H' p o) := fun b u e => by
  rw [upd_ne (ne_of_none (s b u e) n)]; exact s b u e
theorem Same.new (n : H p = none) : Same H (L2.upd H p o) := Same.upd (Same.refl H) n
end
end L2
namespace L2
open PySem PySem.Spec PyProof.Rows
section
variable {H : Hp} {Q : VK} {i j : Int} {x y : Str}
theorem i_eqI (q : Q (.bl (decide (V.int i = V.int j))) H) : rEq (.int i) (.int j) H Q := ⟨rfl, q⟩
theorem i_eqS (q : Q (.bl (decide (V.str x = V.str y))) H) : rEq (.str x) (.str y) H Q := ⟨rfl, q⟩
theorem i_neI (q : Q (.bl (!decide (V.int i = V.int j))) H) : rNe (.int i) (.int j) H Q := ⟨rfl, q⟩
theorem i_neS (q : Q (.bl (!decide (V.str x = V.str y))) H) : rNe (.str x) (.str y) H Q := ⟨rfl, q⟩
theorem at_ints {ns : List Int} (k : Nat) (h : k < ns.length) : atI (ns.map V.int) (k : Int) = some (.int (ns.getD k 0)) := by
  refine atI_nat ?_
  rw [List.getElem?_map, List.getElem?_eq_getElem h]
  simp [List.getD, h]
end
end L2
namespace Lap
open PySem L2
inductive Dk where
  | sum | less | times | least | most | pick | same | tell | take
  deriving DecidableEq
def Dk.word : Dk → Str
  | .sum => "sum" | .less => "less" | .times => "times" | .least => "least" | .most => "most" | .pick => "pick" | .same => "same" | .tell => "tell" | .take => "take"
end Lap
namespace L2
open PySem PySem.Spec PyProof.Rows
section
variable {σ : St} {H : Hp} {Q : VK} {D : Ends}
theorem i_methI {ι : Type} {m : Str} {C : ι → Addr} {sp : ι → Sp} {ta : TE} {t : TA} (q : ta σ H fun x H1 => ∃ i a dx fs, x = .ref a ∧ H1 a = some (.ins (C i) dx fs) ∧ fs.lookup m = none ∧ t σ H1 fun vs H2 => sp i (x :: (vs ++ [])) H2 Q E0) : tMethI m C sp ta t σ H Q := q
theorem i_for {wi : TI} {g : TG} {tb : TS} (q : wi σ H fun J H1 => ∃ W : Nat → Nat → St → Hp → Prop, (∃ m, W 0 m σ H1) ∧ ∀ i m σ H, W i m σ H →
  (J.stop i H ∧ D.nx σ H) ∨ (J.go i H ∧ ∃ N : St → Hp → Prop, (∀ σ' H', N σ' H' → ∃ m', m' < m ∧ W (i + 1) m' σ' H') ∧ ∀ x H', J.yld i H x H' → g x σ H' fun σ2 H2 => tb { D with nx := N, ct := N, bk := D.nx } σ2 H2)) : tFor wi g tb D σ H := q
theorem i_rng1 {ta : TA} {R : It → Hp → Prop} (q : ta σ H fun vs H1 => ∃ j : Int, vs = [.int j] ∧ -(2 ^ 62) ≤ j ∧ j < 2 ^ 62 ∧ R (Itr 0 j.toNat) H1) : iRng1 ta σ H R := q
theorem i_list {K : PySem.W.Frag} {tl : TE} {R : It → Hp → Prop} (q : tl σ H fun x H1 => ∃ a, x = .ref a ∧ (∃ xs, SqL K H1 a xs) ∧ R (Itl K a) H1) : iList K tl σ H R := q
end
end L2
namespace L2
theorem iteNT {A B : Prop} (h : B) : if (!true) = true then A else B := iteF h
theorem iteNF {A B : Prop} (h : A) : if (!false) = true then A else B := iteT h
end L2
namespace L2
open PySem PySem.Spec PyProof.Rows
def noStar : Expr → Bool
  | .Starred _ _ => false
  | _ => true
theorem se {e : Expr} {es : List Expr} {env : Env} (h : noStar e = true) : starEach (e :: es) env = (false, eval e env) :: starEach es env := by
  cases e <;> first | rfl | cases h
theorem nst {es : List Expr} {env : Env} {pos : Pos} (h : es.all noStar = true) : (backTo pos (starEach es env)).any (·.1) = false := by
  induction es with
  | nil => rfl
  | cons e es ih =>
    rw [List.all_cons, Bool.and_eq_true] at h
    rw [se h.1]
    show (false || (backTo pos (starEach es env)).any (·.1)) = false
    rw [ih h.2]
    rfl
end L2
set_option Elab.async false
set_option linter.all false
set_option maxRecDepth 100000
namespace L2
open PySem PySem.Spec PyProof.Rows
def capL (env : Env) : List (Str × NameKind) → List (Str × Addr) → List (Str × Addr)
  | [], cs => cs
  | (n, k) :: r, cs => if k == .free then capL env r ((n, (env.cells.lookup n).getD 0) :: cs) else capL env r cs
theorem closure_run {env : Env} : ∀ (names : List (Str × NameKind)) (cs : List (Str × Addr)), (∀ y ∈ names, y.2 = .free → ∃ c, env.cells.lookup y.1 = some c) →
    (forIn names cs fun (x : Str × NameKind) (r : List (Str × Addr)) => (do
      if x.2 == .free then
        let a ← cellOf env x.1
        pure (ForInStep.yield ((x.1, a) :: r))
      else pure (ForInStep.yield r) : Sem (ForInStep (List (Str × Addr))))) = pure (capL env names cs)
  | [], cs, _ => rfl
  | (n, k) :: r, cs, h => by
    have ih := fun cs => closure_run (env := env) r cs fun y hy => h y (List.mem_cons_of_mem _ hy)
    rw [List.forIn_cons]
    by_cases hk : (k == NameKind.free) = true
    · have hk' : k = .free := by simpa using hk
      obtain ⟨c, hc⟩ := h (n, k) List.mem_cons_self hk'
      have hc' : env.cells.lookup n = some c := hc
      simp only [capL, hk, if_true, cellOf, hc', Option.getD_some, pure_bind]
      exact ih _
    · simp only [capL, hk, if_false, pure_bind, Bool.false_eq_true]
      exact ih _
theorem closure_eq {scope : Scope} {env : Env} (h : ∀ y ∈ scope.names, y.2 = .free → ∃ c, env.cells.lookup y.1 = some c) : closureFor scope env = pure (capL env scope.names []) := by
  have e := closure_run scope.names [] h
  unfold closureFor
  simp only [← e, bind_pure]
theorem capL_sub {env : Env} {y : Str} {c : Addr} : ∀ (names : List (Str × NameKind)) (cs : List (Str × Addr)), (∀ y ∈ names, y.2 = .free → ∃ c, env.cells.lookup y.1 = some c) →
    (∀ y c, cs.lookup y = some c → env.cells.lookup y = some c) → (capL env names cs).lookup y = some c → env.cells.lookup y = some c
  | [], cs, _, hs, e => hs y c e
  | (n, k) :: r, cs, h, hs, e => by
    have h' : ∀ y ∈ r, y.2 = .free → ∃ c, env.cells.lookup y.1 = some c := fun y hy => h y (List.mem_cons_of_mem _ hy)
    by_cases hk : (k == NameKind.free) = true
    · have hk' : k = .free := by simpa using hk
      obtain ⟨d, hd⟩ := h (n, k) List.mem_cons_self hk'
      simp only [capL, hk, if_true] at e
      refine capL_sub r _ h' (fun z c' q => ?_) e
      rw [List.lookup_cons] at q
      cases hz : z == n with
      | true =>
        rw [hz] at q
        have hz' : z = n := by simpa using hz
        subst hz'
        have hd' : env.cells.lookup z = some d := hd
        rw [hd', Option.getD_some] at q
        rw [hd']; exact q
      | false => rw [hz] at q; exact hs z c' q
    · simp only [capL, hk, if_false, Bool.false_eq_true] at e
      exact capL_sub r cs h' hs e
theorem capL_keep {env : Env} {y : Str} : ∀ (names : List (Str × NameKind)) (cs : List (Str × Addr)), (∃ c, cs.lookup y = some c) → ∃ c, (capL env names cs).lookup y = some c
  | [], cs, h => h
  | (n, k) :: r, cs, h => by
    by_cases hk : (k == NameKind.free) = true
    · simp only [capL, hk, if_true]
      refine capL_keep r _ ?_
      rw [List.lookup_cons]
      cases y == n with
      | true => exact ⟨_, rfl⟩
      | false => exact h
    · simp only [capL, hk, if_false, Bool.false_eq_true]
      exact capL_keep r cs h
theorem capL_has {env : Env} {y : Str} : ∀ (names : List (Str × NameKind)) (cs : List (Str × Addr)), (y, NameKind.free) ∈ names → ∃ c, (capL env names cs).lookup y = some c
  | (n, k) :: r, cs, h => by
    rcases List.mem_cons.mp h with e | h
    · cases e
      exact capL_keep r _ ⟨(env.cells.lookup y).getD 0, by rw [List.lookup_cons, beq_self_eq_true]⟩
    · by_cases hk : (k == NameKind.free) = true
      · simp only [capL, hk, if_true]; exact capL_has r _ h
      · simp only [capL, hk, if_false, Bool.false_eq_true]; exact capL_has r cs h
theorem lookup_mem {α : Type} {x : Str} {k : α} : ∀ {l : List (Str × α)}, l.lookup x = some k → (x, k) ∈ l
  | [], h => by simp at h
  | (n, k') :: r, h => by
    rw [List.lookup_cons] at h
    cases hx : x == n with
    | true =>
      rw [hx] at h
      have : x = n := by simpa using hx
      subst this; cases h; exact List.mem_cons_self
    | false => rw [hx] at h; exact List.mem_cons_of_mem _ (lookup_mem h)
theorem relabel_look {env : Env} {y : Str} {k : NameKind} : ∀ {names : List (Str × NameKind)}, (∀ z ∈ names, z.2 ≠ .cell) →
    (names.map fun (n, k) => if (k == NameKind.free && env.scope.kind == .function && env.kindOf n == some .cell) then (n, NameKind.cell) else (n, k)).lookup y = some k →
    names.lookup y = some k ∨ (k = .cell ∧ names.lookup y = some .free)
  | [], _, h => by simp at h
  | (n, k') :: r, hc, h => by
    have ih := @relabel_look env y k r fun z hz => hc z (List.mem_cons_of_mem _ hz)
    rw [List.map_cons, List.lookup_cons] at h
    rw [List.lookup_cons]
    by_cases hk : (k' == NameKind.free && env.scope.kind == .function && env.kindOf n == some .cell) = true
    · have h' := h
      rw [if_pos hk] at h'
      dsimp only at h'
      cases hy : y == n with
      | true =>
        rw [hy] at h'
        have e1 : NameKind.cell = k := Option.some.inj h'
        have e2 : k' = .free := by
          rw [Bool.and_eq_true, Bool.and_eq_true] at hk
          simpa using hk.1.1
        exact .inr ⟨e1.symm, by rw [e2]⟩
      | false => rw [hy] at h'; exact ih h'
    · have h' := h
      rw [if_neg hk] at h'
      dsimp only at h'
      cases hy : y == n with
      | true => rw [hy] at h'; exact .inl h'
      | false => rw [hy] at h'; exact ih h'
def blk (X : Cx) (scope : Scope) (x : Str) (caps : List Str) (C : Addr) (s₀ : Shared) (H₀ : Hp) (ex : List Addr) : Cx :=
  { X with N := x :: caps, env := compEnvC scope (capL X.env scope.names []) C X.env, s₀ := s₀, H₀ := H₀, outer := X.stack, stack := X.stack, ex := ex, fn := fun _ => false, xe := fun _ _ => False }
structure Blk (X : Cx) (scope : Scope) (x : Str) (caps : List Str) (ix : List Nat) : Prop where
  kind : scope.kind = .function
  cell : ∀ y ∈ scope.names, y.2 ≠ .cell
  loc : scope.names.lookup x = some .local
  names : ∀ y ∈ scope.names, y.2 = .local → scope.names.lookup y.1 = some .local
  free : ∀ y ∈ scope.names, y.2 = .free → X.env.kindOf y.1 = some .cell ∨ X.env.kindOf y.1 = some .free
  len : caps.length = ix.length
  nd : (x :: caps).Nodup
  ix : ∀ (j : Nat) (y : Str) (i : Nat), caps[j]? = some y → ix[j]? = some i → X.N[i]? = some y ∧ scope.names.lookup y = some .free
def capV (ix : List Nat) (σ : St) : St := ix.map fun i => (σ[i]?).join
theorem Blk.cells {X : Cx} {scope : Scope} {x : Str} {caps : List Str} {ix : List Nat} (B : Blk X scope x caps ix) (ok : X.Ok) : ∀ y ∈ scope.names, y.2 = .free → ∃ c, X.env.cells.lookup y.1 = some c :=
  fun y hy e => ok.has y.1 (B.free y hy e)
theorem Blk.sub {X : Cx} {scope : Scope} {x : Str} {caps : List Str} {ix : List Nat} (B : Blk X scope x caps ix) (ok : X.Ok) {y : Str} {c : Addr} (e : (capL X.env scope.names []).lookup y = some c) : X.env.cells.lookup y = some c :=
  capL_sub _ _ (B.cells ok) (fun _ _ q => by simp at q) e
theorem Blk.freeOf {X : Cx} {scope : Scope} {x : Str} {caps : List Str} {ix : List Nat} {C : Addr} (B : Blk X scope x caps ix) {y : Str} {k : NameKind} (e : (compEnvC scope (capL X.env scope.names []) C X.env).kindOf y = some k) (hk : k = .cell ∨ k = .free) : scope.names.lookup y = some .free := by
  rcases relabel_look (env := X.env) B.cell (show (scope.names.map _).lookup y = some k from e) with q | ⟨_, q⟩
  · rcases hk with rfl | rfl
    · exact absurd rfl (B.cell _ (lookup_mem q))
    · exact q
  · exact q
def blkOk (sc scope : Scope) (N : List Str) (x : Str) (caps : List Str) (ix : List Nat) : Bool :=
  scope.kind == .function && scope.names.all (fun y => y.2 != .cell) && scope.names.lookup x == some .local && scope.names.all (fun y => y.2 != .local || scope.names.lookup y.1 == some .local) &&
  scope.names.all (fun y => y.2 != .free || (sc.names.lookup y.1 == some .cell || sc.names.lookup y.1 == some .free)) && caps.length == ix.length && decide (x :: caps).Nodup &&
  (caps.zip ix).all (fun p => N[p.2]? == some p.1 && scope.names.lookup p.1 == some .free)
theorem Blk.of {X : Cx} {scope : Scope} {x : Str} {caps : List Str} {ix : List Nat} (h : blkOk X.env.scope scope X.N x caps ix = true) : Blk X scope x caps ix := by
  unfold blkOk at h
  simp only [Bool.and_eq_true] at h
  obtain ⟨⟨⟨⟨⟨⟨⟨h1, h2⟩, h3⟩, h4⟩, h5⟩, h6⟩, h7⟩, h8⟩ := h
  refine ⟨by simpa using h1, fun y hy => by simpa using List.all_eq_true.mp h2 y hy, by simpa using h3, fun y hy e => ?_, fun y hy e => ?_, by simpa using h6, of_decide_eq_true h7, fun j y i e1 e2 => ?_⟩
  · have := List.all_eq_true.mp h4 y hy
    rw [e] at this
    simpa using this
  · have := List.all_eq_true.mp h5 y hy
    rw [e] at this
    have this : (X.env.scope.names.lookup y.1 == some NameKind.cell || X.env.scope.names.lookup y.1 == some NameKind.free) = true := by simpa using this
    rw [Bool.or_eq_true] at this
    rcases this with z | z
    · exact .inl (show X.env.scope.names.lookup y.1 = _ by simpa using z)
    · exact .inr (show X.env.scope.names.lookup y.1 = _ by simpa using z)
  · have hm : (y, i) ∈ caps.zip ix := by
      refine List.mem_iff_getElem?.mpr ⟨j, ?_⟩
      rw [List.getElem?_zip_eq_some]
      exact ⟨e1, e2⟩
    have := List.all_eq_true.mp h8 _ hm
    rw [Bool.and_eq_true] at this
    exact ⟨by simpa using this.1, by simpa using this.2⟩
def PF (X : Cx) (ifs : List Expr) (t : TT) : Prop :=
  ∀ (pins : List (Addr × Obj)) (s : Shared) (σ : St) (H : Hp) (Q : Bool → Hp → Prop), Inv X pins σ H s → t σ H Q →
    wpAny (model X.prog X.w) X.A (forIn ifs true fun c r => if r = true then do let ok ← isTrue c X.env (eval c X.env); pure (ForInStep.yield ok) else pure (ForInStep.yield r)) (TP X pins σ Q) X.xe s
def tYes : TT := fun _ H Q => Q true H
theorem pf_nil {X : Cx} : PF X [] tYes := fun _ _ _ H _ I h => wpAny_tests_nil ⟨H, I, h⟩
def tLc (wi : TI) (tf : TT) (te : TE) (ix : List Nat) : TE := fun σ H Q => wi σ H fun J H1 => ∀ D, H1 D = none → ∃ W : Nat → Nat → List V → Hp → Prop, (∃ m, W 0 m [] (upd H1 D (.lst []))) ∧ ∀ i m ys H, W i m ys H →
  H D = some (.lst ys) ∧ ((J.stop i H ∧ Q (.ref D) H) ∨ (J.go i H ∧ ys.length < sizeLine ∧ ∀ x H', J.yld i H x H' → tf (some x :: capV ix σ) H' fun b H2 =>
    if b = true then te (some x :: capV ix σ) H2 fun y H3 => H3 D = some (.lst ys) ∧ ∃ m', m' < m ∧ W (i + 1) m' (ys ++ [y]) (upd H3 D (.lst (ys ++ [y]))) else ∃ m', m' < m ∧ W (i + 1) m' ys H2))
section
variable {X : Cx} {scope : Scope} {x : Str} {caps : List Str} {ix : List Nat} {pins : List (Addr × Obj)} {σ : St} {H : Hp} {s : Shared}
theorem blk_ok (B : Blk X scope x caps ix) (I : Inv X pins σ H s) {fp : List Addr} (f : ∀ b ∈ fp, FpOk X pins H b) (fo : ∀ b ∈ fp, b < s.heap.objs.size) : (blk X scope x caps s.heap.objs.size s H fp).Ok where
  mod := I.ok.mod
  kind := B.kind
  glob := I.ok.glob
  blt := I.ok.blt
  above := Nat.le_refl _
  inj := fun y z c e1 e2 => I.ok.inj y z c (B.sub I.ok e1) (B.sub I.ok e2)
  has := fun y h => by
    have q : scope.names.lookup y = some .free := by
      rcases h with h | h
      · exact B.freeOf h (.inl rfl)
      · exact B.freeOf h (.inr rfl)
    exact capL_has _ _ (lookup_mem q)
  cab := fun _ _ h => nomatch h
  hd := I.ok.hd
  frames := I.ok.frames
  stk := .inl rfl
  exf := fun b hb => ⟨Nat.ne_of_lt (fo b hb), fun y c e => (f b hb).2.2.2.2.1 y c (B.sub I.ok e)⟩
  bs := I.bs
  bsz := Nat.le_trans I.ok.bsz I.sz
  noex := fun b o e hb => by
    rcases (f b hb).2.2.2.1 with z | z
    · exact I.ok.noex b o e z
    · have := (I.ok.bs b o e).1; rw [z] at this; cases this
  exfs := fun b hb z => by
    rcases List.mem_cons.mp (I.stkSub b z) with q | q
    · exact (f b hb).2.1 q
    · exact (f b hb).2.2.1 q
  funs := I.stack
  frf := I.stkFree
theorem capV_get {j : Nat} {v : V} (h : (capV ix σ)[j]? = some (some v)) : ∃ i, ix[j]? = some i ∧ σ[i]? = some (some v) := by
  unfold capV at h
  rw [List.getElem?_map] at h
  cases e : ix[j]? with
  | none => rw [e] at h; cases h
  | some i =>
    rw [e] at h
    have h' : (σ[i]?).join = some v := Option.some.inj h
    refine ⟨i, rfl, ?_⟩
    cases q : σ[i]? with
    | none => rw [q] at h'; cases h'
    | some o => rw [q] at h'; exact congrArg some h'
theorem blk_inv (B : Blk X scope x caps ix) (I : Inv X pins σ H s) {fp : List Addr} (f : ∀ b ∈ fp, FpOk X pins H b) (fo : ∀ b ∈ fp, b < s.heap.objs.size) {h' : Heap} {t' : Nat} (hn : h'.Ns s.heap.objs.size (fun _ => none)) (k : ∀ b o, s.heap.get? b = some o → h'.get? b = some o) :
    Inv (blk X scope x caps s.heap.objs.size s H fp) pins (none :: capV ix σ) H { s with heap := h', toks := t' } where
  ok := blk_ok B I f fo
  os := rfl
  bare := I.bare
  base := Un.kept k
  loc := by
    refine ⟨_, hn, fun i y v e1 e2 e3 => ?_⟩
    cases i with
    | zero => cases e2
    | succ j =>
      have e1' : caps[j]? = some y := e1
      have e2' : (capV ix σ)[j]? = some (some v) := e2
      obtain ⟨i, hi, hv⟩ := capV_get e2'
      obtain ⟨hN, hf⟩ := B.ix j y i e1' hi
      obtain ⟨m, hm, hl⟩ := I.loc
      have hk := B.free _ (lookup_mem hf) rfl
      have hvis : Vis X.env.scope y := by
        rcases hk with q | q
        · exact .inr (.inl q)
        · exact .inr (.inr q)
      obtain ⟨u, ru, lk⟩ := hl i y v hN hv hvis
      refine ⟨u, ru, .inr ?_⟩
      obtain ⟨c', hc'⟩ := capL_has (env := X.env) scope.names [] (lookup_mem hf)
      have hc := B.sub I.ok hc'
      refine ⟨?_, c', hc', ?_⟩
      · have hvv : (compEnvC scope (capL X.env scope.names []) s.heap.objs.size X.env).kindOf y = some .local ∨ _ := e3
        rcases hvv with q | q
        · rcases relabel_look (env := X.env) B.cell (show (scope.names.map _).lookup y = some NameKind.local from q) with z | ⟨z, _⟩
          · rw [hf] at z; cases z
          · cases z
        · exact q
      · rcases lk with ⟨l, _⟩ | ⟨_, c, ec, z⟩
        · rcases hk with q | q <;> (rw [q] at l; cases l)
        · have ecc : c = c' := Option.some.inj (ec.symm.trans hc)
          rw [← ecc]
          obtain ⟨o, ho, hd⟩ := z
          exact ⟨o, k _ _ ho, hd⟩
  cell := fun y c e => by
    obtain ⟨v, o, ho, hd⟩ := I.cell y c (B.sub I.ok e)
    exact ⟨v, o, k _ _ ho, hd⟩
  free := I.hok.fresh (Nat.le_refl _)
  freeC := fun y c e => I.freeC y c (B.sub I.ok e)
  pin := fun p hp => by
    obtain ⟨e, n, ne, nf, d⟩ := I.pin p hp
    refine ⟨k _ _ e, n, Nat.ne_of_lt (Heap.lt_size e), fun z => ?_, d⟩
    rcases List.mem_cons.mp (I.stkSub _ z) with q | q
    · exact ne q
    · exact nf q
  hok := I.hok.kept k
  len := by
    show (none :: capV ix σ).length = (x :: caps).length
    rw [List.length_cons, List.length_cons, capV, List.length_map, B.len]
theorem blk_out (I : Inv X pins σ H s) {fp : List Addr} (f : ∀ b ∈ fp, FpOk X pins H b) {σ' : St} {H' : Hp} {s' : Shared} (I' : Inv (blk X scope x caps s.heap.objs.size s H fp) pins σ' H' s') : Inv X pins σ H' s' ∧ FpOk X pins H' s.heap.objs.size := by
  have fC : FpOk X pins H' s.heap.objs.size := I.fpOk (Nat.le_refl _) I'.free
  refine ⟨I.call' (ch := fp) I'.os I'.base I'.hok I'.bare fun b hb => ?_, fC⟩
  obtain ⟨f0, f1, f2, f3, f4, f5⟩ := f b hb
  exact ⟨f3, f1, f4, f5⟩
theorem lc_core {elt iter : Expr} {ifs : List Expr} {px pos pos' : Pos} {wi : TI} {tf : TT} {te : TE} {use : Option (Value → Sem Unit)} {R : VK} {QQ : Value → Shared → Prop}
    (B : Blk X scope x caps ix) (hc : X.calm = true) (hi : PI X (.Name x px) iter wi) (hf : ∀ C s₀ H₀ ex, PF (blk X scope x caps C s₀ H₀ ex) ifs tf) (he : ∀ C s₀ H₀ ex, PE (blk X scope x caps C s₀ H₀ ex) elt te)
    (I : Inv X pins σ H s) (h : tLc wi tf te ix σ H R)
    (hQ : ∀ (v : V) (u : Value) (H' : Hp) (C : Addr) (m : Str → Option Value) (s' : Shared), Inv X pins σ H' s' → RelV v u → R v H' → FpOk X pins H' C → s'.heap.Ns C m → compPost (model X.prog X.w) X.A X.xe use QQ u C (.ok .next) s')
    (hs : ∀ x, foldedSetIterable iter X.env x = pure x) :
    wpAny (model X.prog X.w) X.A (comprehension (.ListComp elt [⟨.Name x px, iter, ifs, 0⟩] scope pos) scope X.env pos' (newList []) false (eval iter X.env) use) QQ X.xe s := by
  refine wpAny_comprehension_free rfl hs (closure_eq (B.cells I.ok)) B.kind B.names (thn (hi pins s σ H _ I h) fun xv s1 h1 => thn h1 fun itv s2 h2 => ?_)
  obtain ⟨it, fp, tn, J, H2, e, I2, T, st2, f2, rest⟩ := h2
  subst e
  refine wpAny_newObj_type (wpAny_newFunctionEnv B.cell (by intro y hy; simp at hy) (fun h₁ hns₁ hsb₁ => ?_) B.kind)
  have hD : H2 s2.heap.objs.size = none := I2.fresh
  obtain ⟨W, ⟨m0, w0⟩, turn⟩ := rest s2.heap.objs.size hD
  generalize hDn : s2.heap.objs.size = D at *
  have I3 : Inv X pins σ (upd H2 D (.lst [])) { s2 with heap := s2.heap.push { cls := .type "list", data := .seq ([] : List Value).toArray } } := by
    have := I2.lnew (ys := []) (its := []) (t' := s2.toks) .nil (Nat.zero_le _)
    rw [hDn] at this
    exact this
  generalize hs3 : ({ s2 with heap := s2.heap.push { cls := .type "list", data := .seq ([] : List Value).toArray } } : Shared) = s3 at *
  have fpD : ∀ b ∈ fp, b ≠ D := fun b hb => by
    obtain ⟨o, e, _⟩ := T.obj _ _ st2 b hb
    rw [← hDn]; exact Nat.ne_of_lt (Heap.lt_size e)
  have up3 : ∀ b o, s2.heap.get? b = some o → s3.heap.get? b = some o := fun b o e => by rw [← hs3]; exact Heap.get?_push_of_some _ e
  have f3 : ∀ b ∈ fp, FpOk X pins (upd H2 D (.lst [])) b := fun b hb => by
    obtain ⟨f0, fr⟩ := f2 b hb
    exact ⟨by rw [upd_ne (fpD b hb)]; exact f0, fr⟩
  have st3 : tn 0 s3.heap := T.keep _ _ _ st2 fun b _ o e => up3 b o e
  have fo : ∀ b ∈ fp, b < s3.heap.objs.size := fun b hb => by
    obtain ⟨o, e, _⟩ := T.obj _ _ st3 b hb
    exact Heap.lt_size e
  have eh : s2.heap.push { cls := .type "list", data := .seq ([] : List Value).toArray } = s3.heap := by rw [← hs3]
  have es : ∀ (g : Heap) (t : Nat), ({ s2 with heap := g, toks := t } : Shared) = { s3 with heap := g, toks := t } := fun g t => by rw [← hs3]
  have hn1 : h₁.Ns s3.heap.objs.size (fun _ => none) := hns₁
  have k1 : ∀ b o, s3.heap.get? b = some o → h₁.get? b = some o := fun b o e => by
    exact hsb₁.extBut b o (Nat.ne_of_lt (Heap.lt_size e)) (Heap.get?_push_of_some _ e)
  have I4 := blk_inv B I3 f3 fo (t' := s3.toks + ([] : List (Str × Value)).length) hn1 k1
  have st4 : tn 0 h₁ := T.keep _ _ _ st3 fun b _ o e => k1 b o e
  have post : ∀ σ' H' s', Inv (blk X scope x caps s3.heap.objs.size s3 (upd H2 D (.lst [])) fp) pins σ' H' s' → R (.ref D) H' → compPost (model X.prog X.w) X.A X.xe use QQ (.ref D) s3.heap.objs.size (.ok .next) s' := fun σ' H' s' I' r => by
    obtain ⟨I5, fC⟩ := blk_out I3 f3 I'
    obtain ⟨m, hm, _⟩ := I'.loc
    exact hQ (.ref D) _ H' _ m s' I5 rfl r fC hm
  have loop : codeAny (model X.prog X.w) X.A (.compLoop (.ListComp elt [⟨.Name x px, iter, ifs, 0⟩] scope pos) 0 (.ref it) (.ref D) (blk X scope x caps s3.heap.objs.size s3 (upd H2 D (.lst [])) fp).env)
      (compPost (model X.prog X.w) X.A X.xe use QQ (.ref D) s3.heap.objs.size) { s3 with heap := h₁, toks := s3.toks + ([] : List (Str × Value)).length } := by
    have fpc : ∀ {H' : Hp}, (∀ b ∈ fp, H' b = none) → ∀ b ∈ fp, FpOk (blk X scope x caps s3.heap.objs.size s3 (upd H2 D (.lst [])) fp) pins H' b := fun hn b hb => by
      obtain ⟨f0, f1, f2, f3, f4, f5⟩ := f3 b hb
      refine ⟨hn b hb, Nat.ne_of_lt (fo b hb), fun z => ?_, .inl hb, fun y c e => f4 y c (B.sub I3.ok e), f5⟩
      rcases List.mem_cons.mp (I3.stkSub b z) with q | q
      · exact f1 q
      · exact f2 q
    have hfx := hf s3.heap.objs.size s3 (upd H2 D (.lst [])) fp
    have hex := he s3.heap.objs.size s3 (upd H2 D (.lst [])) fp
    have hgx : PG (blk X scope x caps s3.heap.objs.size s3 (upd H2 D (.lst [])) fp) (.Name x px) (gName 0) := pg_name B.nd rfl (.inl (lookup_relabel_local B.loc)) (.inr (lookup_relabel_local B.loc))
    have hcx : (blk X scope x caps s3.heap.objs.size s3 (upd H2 D (.lst [])) fp).calm = true := hc
    refine codeAny_compLoop_tests (fun n s' => ∃ i ys H' o, Inv (blk X scope x caps s3.heap.objs.size s3 (upd H2 D (.lst [])) fp) pins (o :: capV ix σ) H' s' ∧ tn i s'.heap ∧ (∀ b ∈ fp, H' b = none) ∧ W i n ys H') ?_ m0
      ⟨0, [], _, none, I4, st4, fun b hb => (f3 b hb).1, w0⟩
    rintro n s5 ⟨i, ys, H5, o5, I5, st5, fr5, w5⟩
    obtain ⟨hD5, hstep⟩ := turn i n ys H5 w5
    rcases hstep with ⟨stop, r⟩ | ⟨go, hz, step⟩
    · refine thn (T.done (blk X scope x caps s3.heap.objs.size s3 (upd H2 D (.lst [])) fp) rfl rfl rfl hcx i pins s5 _ H5 _ I5 (fpc fr5) st5 stop) fun r' s6 ⟨hr, I6⟩ => ?_
      subst hr
      exact post _ _ _ I6 r
    · refine thn (T.item (blk X scope x caps s3.heap.objs.size s3 (upd H2 D (.lst [])) fp) rfl rfl rfl hcx i pins s5 _ H5 _ I5 (fpc fr5) st5 go) fun r' s6 ⟨u, hr, h6⟩ => ?_
      subst hr
      show wpAny _ _ (letOwnedTupleGo (.Name x px) (.ref it) u >>= fun _ => assign (.Name x px) (blk X scope x caps s3.heap.objs.size s3 (upd H2 D (.lst [])) fp).env u) _ _ _
      refine wpAny_bind (thn h6 fun _ s7 ⟨v, H7, I7, rv, y7, st7, fr7⟩ => ?_)
      have I7' := I7.pinned (fpc fr7) (T.obj _ _ st7)
      refine wpAny_mono (hgx _ s7 _ H7 v u _ I7' rv (show gName 0 v _ H7 (fun σ' H' => σ' = some v :: capV ix σ ∧ H' = H7) from ⟨rfl, rfl⟩)) (fun _ s8 ⟨σ8, H8, I8, e8, eH8⟩ => ?_) fun _ _ f => f.elim
      subst e8 eH8
      refine wpAny_mono (hfx _ s8 _ _ _ I8 (step v _ y7)) (fun ok s9 ⟨H9, I9, q9⟩ => ?_) fun _ _ f => f.elim
      have again : ∀ {n' : Nat} {ys' : List V} {HA : Hp} {sA : Shared}, n' < n → Inv (blk X scope x caps s3.heap.objs.size s3 (upd H2 D (.lst [])) fp) (pins ++ pinsAt fp s7.heap) (some v :: capV ix σ) HA sA → W (i + 1) n' ys' HA →
          ∃ m, m < n ∧ ∃ i ys H' o, Inv (blk X scope x caps s3.heap.objs.size s3 (upd H2 D (.lst [])) fp) pins (o :: capV ix σ) H' sA ∧ tn i sA.heap ∧ (∀ b ∈ fp, H' b = none) ∧ W i m ys H' := fun {n' ys' HA sA} hn IA wA => by
        refine ⟨n', hn, i + 1, ys', HA, _, IA.unpinned, T.keep _ _ _ st7 fun b hb o e => (IA.pin (b, o) (List.mem_append_right _ (List.mem_append_right _ (mem_pinsAt hb e)))).1, fun b hb => ?_, wA⟩
        obtain ⟨o, e, d⟩ := T.obj _ _ st7 b hb
        exact (IA.pin (b, o) (List.mem_append_right _ (List.mem_append_right _ (mem_pinsAt hb e)))).2.1
      cases ok with
      | false =>
        obtain ⟨n', hn, wA⟩ := q9
        exact again hn I9 wA
      | true =>
        refine wpAny_mono (hex _ s9 _ _ _ I9 q9) (fun u9 sA ⟨vA, HA, IA, rA, hDA, n', hn, wA⟩ => ?_) fun _ _ f => f.elim
        refine wpAny_mono (mt_append (X := blk X scope x caps s3.heap.objs.size s3 (upd H2 D (.lst [])) fp) _ sA _ HA (.ref D) [vA] (.ref D) [u9] (fun _ HB => W (i + 1) n' (ys ++ [vA]) HB) IA rfl (.cons rA .nil) ⟨D, ys, vA, rfl, rfl, hDA, hz, wA⟩) (fun _ sB ⟨_, HB, IB, _, wB⟩ => ?_) fun _ _ f => f.elim
        exact again hn IB wB
  exact codeAny_compStart_list loop (T.self _ 0 _ _ _ st4 loop)
theorem pe_lc {elt iter : Expr} {ifs : List Expr} {px pos : Pos} {wi : TI} {tf : TT} {te : TE} (B : Blk X scope x caps ix) (hc : X.calm = true) (hi : PI X (.Name x px) iter wi)
    (hf : ∀ C s₀ H₀ ex, PF (blk X scope x caps C s₀ H₀ ex) ifs tf) (he : ∀ C s₀ H₀ ex, PE (blk X scope x caps C s₀ H₀ ex) elt te) (hs : ∀ x, foldedSetIterable iter X.env x = pure x := by intro _; rfl) :
    PE X (.ListComp elt [⟨.Name x px, iter, ifs, 0⟩] scope pos) (tLc wi tf te ix) := by
  intro pins s σ H Q I h
  rw [eval_ListComp]
  refine lc_core (use := none) B hc hi hf he I h (fun v u H' C m s' I' r q fC hn => ⟨m, hn, fun h' sb => ⟨v, H', ?_, r, q⟩⟩) hs
  obtain ⟨f0, f1, f2, f3, f4, f5⟩ := fC
  exact I'.turned (t' := s'.toks) (fun b o hb e => (sb.2 b hb).trans e) f0 f1 f3 f4 f5
def tSetLc (i : Nat) (t : TE) : TS := fun D σ H => t σ H fun v H' => D.nx (σ.set i (some v)) H'
theorem ps_lc {i : Nat} {y : Str} {elt iter : Expr} {ifs : List Expr} {px py pos spos : Pos} {wi : TI} {tf : TT} {te : TE} (hN : X.N.Nodup) (hy : X.N[i]? = some y) (hl : X.env.kindOf y = some .local)
    (hsw : swapsWith (.ListComp elt [⟨.Name x px, iter, ifs, 0⟩] scope pos) (some (.Name y py)) spos.line X.env = pure true) (B : Blk X scope x caps ix) (hc : X.calm = true) (hi : PI X (.Name x px) iter wi)
    (hf : ∀ C s₀ H₀ ex, PF (blk X scope x caps C s₀ H₀ ex) ifs tf) (he : ∀ C s₀ H₀ ex, PE (blk X scope x caps C s₀ H₀ ex) elt te) (hs : ∀ x, foldedSetIterable iter X.env x = pure x := by intro _; rfl) :
    PS X (.Assign [.Name y py] (.ListComp elt [⟨.Name x px, iter, ifs, 0⟩] scope pos) spos) (tSetLc i (tLc wi tf te ix)) := by
  intro pins s σ H D I h
  rw [exec_Assign_Name_used _ _ _ _ hsw]
  refine wpAny_bind (wpAny_standAt (wpAny_bind ?_))
  show wpAny _ X.A (do let _ ← comprehension (.ListComp elt [⟨.Name x px, iter, ifs, 0⟩] scope pos) scope X.env _ (newList []) false (eval iter X.env) (some (assign (.Name y py) X.env))) _ _ s
  refine wpAny_bind (wpAny_mono (lc_core (use := some (assign (.Name y py) X.env)) (QQ := fun _ s' => SP X pins D .next s') B hc hi hf he I h (fun v u H' C m s' I' r q fC hn => ?_) hs) (fun _ s' hq => wpAny_pure (wpAny_pure hq)) fun _ _ e => e)
  obtain ⟨oC, esC, epC, hoC, hdC, rC⟩ := id hn
  have I1 : Inv X (pins ++ pinsAt [C] s'.heap) σ H' s' := I'.pinned (fun b hb => by rw [List.mem_singleton.mp hb]; exact fC) (fun b hb => ⟨oC, by rw [List.mem_singleton.mp hb]; exact hoC, fun v z => by rw [hdC] at z; cases z⟩)
  show wpAny _ X.A (assign (.Name y py) X.env u) _ _ s'
  refine wpAny_assign_Name (store_ok I1 hN hy (.inl hl) r (fun s'' I2 => ?_) (.inr hl))
  have hC2 := I2.pin (C, oC) (List.mem_append_right _ (List.mem_append_right _ (mem_pinsAt (List.mem_singleton.mpr rfl) hoC)))
  refine ⟨m, ⟨oC, esC, epC, hC2.1, hdC, rC⟩, fun h' sb => ⟨σ.set i (some v), H', ?_, q⟩⟩
  obtain ⟨f0, f1, f2, f3, f4, f5⟩ := fC
  exact I2.unpinned.turned (t' := s''.toks) (fun b o hb e => (sb.2 b hb).trans e) f0 f1 f3 f4 f5
end
theorem i_lc {wi : TI} {tf : TT} {te : TE} {ix : List Nat} {σ : St} {H : Hp} {Q : VK} (q : wi σ H fun J H1 => ∀ D, H1 D = none → ∃ W : Nat → Nat → List V → Hp → Prop, (∃ m, W 0 m [] (upd H1 D (.lst []))) ∧ ∀ i m ys H, W i m ys H →
  H D = some (.lst ys) ∧ ((J.stop i H ∧ Q (.ref D) H) ∨ (J.go i H ∧ ys.length < sizeLine ∧ ∀ x H', J.yld i H x H' → tf (some x :: capV ix σ) H' fun b H2 =>
    if b = true then te (some x :: capV ix σ) H2 fun y H3 => H3 D = some (.lst ys) ∧ ∃ m', m' < m ∧ W (i + 1) m' (ys ++ [y]) (upd H3 D (.lst (ys ++ [y]))) else ∃ m', m' < m ∧ W (i + 1) m' ys H2))) : tLc wi tf te ix σ H Q := q
theorem i_setLc {i : Nat} {t : TE} {D : Ends} {σ : St} {H : Hp} (q : t σ H fun v H' => D.nx (σ.set i (some v)) H') : tSetLc i t D σ H := q
def tJoin (t : TS) : TS := fun D σ H => ∃ J : St → Hp → Prop, t { D with nx := J } σ H ∧ ∀ σ' H', J σ' H' → D.nx σ' H'
theorem ps_join {X : Cx} {st : Stmt} {t : TS} (h : PS X st t) : PS X st (tJoin t) := by
  intro pins s σ H D I q
  obtain ⟨J, q, hJ⟩ := q
  refine thn (h pins s σ H _ I q) fun f s' z => ?_
  cases f with
  | next => obtain ⟨σ', H', I', z⟩ := z; exact ⟨σ', H', I', hJ _ _ z⟩
  | brk => exact z
  | cont => exact z
  | ret v => exact z
theorem i_join {t : TS} {D : Ends} {σ : St} {H : Hp} (J : St → Hp → Prop) (h1 : t { D with nx := J } σ H) (h2 : ∀ σ' H', J σ' H' → D.nx σ' H') : tJoin t D σ H := ⟨J, h1, h2⟩
theorem i_sl {r : V → Option Int → Option Int → Hp → VK → Prop} {te : TE} {tl th : TO} {σ : St} {H : Hp} {Q : VK} (q : te σ H fun x H1 => tl σ H1 fun l H2 => th σ H2 fun u H3 => r x l u H3 Q) : tSl r te tl th σ H Q := q
theorem i_noPart {σ : St} {H : Hp} {Q : Option Int → Hp → Prop} (q : Q none H) : tNoPart σ H Q := q
theorem i_part {t : TE} {σ : St} {H : Hp} {Q : Option Int → Hp → Prop} (q : t σ H fun x H1 => ∃ i, x = .int i ∧ Q (some i) H1) : tPart t σ H Q := q
theorem i_partI {i : Int} {P : Int → Prop} (q : P i) : ∃ j, V.int i = .int j ∧ P j := ⟨i, rfl, q⟩
structure New (H : Hp) (p : Addr) (o : HO) (H2 : Hp) : Prop where
  free : H p = none
  eq : H2 = upd H p o
theorem New.at {H H2 : Hp} {p : Addr} {o : HO} (n : New H p o H2) : H2 p = some o := by rw [n.eq]; exact upd_same
theorem New.same {H H2 : Hp} {p : Addr} {o : HO} (n : New H p o H2) : Same H H2 := by rw [n.eq]; exact Same.new n.free
theorem New.lst {K : PySem.W.Frag} {H H2 : Hp} {p : Addr} {xs : List V} (n : New H p (.lst xs) H2) : SqL K H2 p xs := .inl (.inl n.at)
theorem New.tup {K : PySem.W.Frag} {H H2 : Hp} {p : Addr} {xs : List V} (n : New H p (.tup xs) H2) : SqT K H2 p xs := .inl (.inl n.at)
theorem Same.tup {K : PySem.W.Frag} {H H' : Hp} {a : Addr} {xs : List V} (e : Same H H') (h : SqT K H a xs) : SqT K H' a xs := by
  rcases h with (h | ⟨o, h⟩) | h
  · exact .inl (.inl (e _ _ h))
  · exact .inl (.inr ⟨o, e _ _ h⟩)
  · exact .inr h
section
variable {X : Cx} {es : List Expr} {t : TA} {pos : Pos}
def tTupA (t : TA) : TE := fun σ H Q => t σ H fun xs H1 => xs.length ≤ sizeLine ∧ ∀ p H2, New H1 p (.tup xs) H2 → Q (.ref p) H2
def tLstA (t : TA) : TE := fun σ H Q => t σ H fun xs H1 => xs.length ≤ sizeLine ∧ ∀ p H2, New H1 p (.lst xs) H2 → Q (.ref p) H2
theorem pe_tupA {x1} (h : PA X es t) : PE X (.Tuple es x1 pos) (tTupA t) := by
  intro pins s σ H Q I hq
  refine wpAny_Tuple_spliced (thn (h pos pins s σ H _ I hq) fun us s1 ⟨xs, H1, I1, r, z, q⟩ => ⟨by rw [← r.length]; exact z, ?_⟩)
  have hf : H1 s1.heap.objs.size = none := I1.hok.fresh (Nat.le_refl _)
  refine ⟨.ref s1.heap.objs.size, upd H1 s1.heap.objs.size (.tup xs), I1.laid (t' := s1.toks) (fun b u e => Heap.get?_push_of_some _ e) (Nat.le_refl _) ?_, rfl, q _ _ ⟨hf, rfl⟩⟩
  exact ⟨z, us, r, ⟨_, Heap.get?_push_size _ rfl, rfl, _, rfl⟩⟩
theorem pe_lstA (h : PA X es t) : PE X (.List es pos) (tLstA t) := by
  intro pins s σ H Q I hq
  refine wpAny_List_spliced (thn (h pos pins s σ H _ I hq) fun us s1 ⟨xs, H1, I1, r, z, q⟩ => ⟨by rw [← r.length]; exact z, ?_⟩)
  have hf : H1 s1.heap.objs.size = none := I1.hok.fresh (Nat.le_refl _)
  refine ⟨.ref s1.heap.objs.size, upd H1 s1.heap.objs.size (.lst xs), I1.laid (t' := s1.toks) (fun b u e => Heap.get?_push_of_some _ e) (Nat.le_refl _) ?_, rfl, q _ _ ⟨hf, rfl⟩⟩
  exact ⟨z, us, 0, r, Heap.get?_push_size _ rfl⟩
theorem CallR.imp {f : Value} {r r' : List V → Hp → VK → Prop} (h : CallR X f r) (i : ∀ xs H Q, r' xs H Q → r xs H Q) : CallR X f r' := fun pins s σ H xs us Q I rv q => h pins s σ H xs us Q I rv (i _ _ _ q)
def rListA (K : PySem.W.Frag) : List V → Hp → VK → Prop := fun xs H Q => ∃ p ys, xs = [.ref p] ∧ (SqL K H p ys ∨ SqT K H p ys) ∧ ∀ l H2, New H l (.lst ys) H2 → Q (.ref l) H2
theorem call_listA : CallR X (.type "list") (rListA X.K) := call_list_of.imp fun xs H Q ⟨p, ys, e, h, q⟩ => ⟨p, ys, e, h, fun l hl => q l _ ⟨hl, rfl⟩⟩
def rTupleA (K : PySem.W.Frag) : List V → Hp → VK → Prop := fun xs H Q => ∃ p ys, xs = [.ref p] ∧ ((SqL K H p ys ∧ ∀ l H2, New H l (.tup ys) H2 → Q (.ref l) H2) ∨ (SqT K H p ys ∧ Q (.ref p) H))
theorem call_tupleA : CallR X (.type "tuple") (rTupleA X.K) := call_tuple_of.imp fun xs H Q ⟨p, ys, e, h⟩ => ⟨p, ys, e, h.imp (fun ⟨a, q⟩ => ⟨a, fun l hl => q l _ ⟨hl, rfl⟩⟩) id⟩
def rSlLA (K : PySem.W.Frag) : V → Option Int → Option Int → Hp → VK → Prop := fun x lo hi H Q => ∃ a xs, x = .ref a ∧ SqL K H a xs ∧ ∀ p H2, New H p (.lst (cutV xs lo hi)) H2 → Q (.ref p) H2
theorem sl_listA : SlR X (rSlLA X.K) := fun pins s σ H x v vl vu lo hi sl Q I rx hs pl pu ⟨a, xs, e, h, q⟩ => sl_list pins s σ H x v vl vu lo hi sl Q I rx hs pl pu ⟨a, xs, e, h, fun p hp => q p _ ⟨hp, rfl⟩⟩
end
section
variable {K : PySem.W.Frag} {σ : St} {H : Hp} {Q : VK} {p : Addr} {xs : List V}
theorem i_lstA {t : TA} (q : t σ H fun xs H1 => xs.length ≤ sizeLine ∧ ∀ p H2, New H1 p (.lst xs) H2 → Q (.ref p) H2) : tLstA t σ H Q := q
theorem i_tupA {t : TA} (q : t σ H fun xs H1 => xs.length ≤ sizeLine ∧ ∀ p H2, New H1 p (.tup xs) H2 → Q (.ref p) H2) : tTupA t σ H Q := q
theorem i_listAL (h : SqL K H p xs) (q : ∀ l H2, New H l (.lst xs) H2 → Q (.ref l) H2) : rListA K [.ref p] H Q := ⟨p, xs, rfl, .inl h, q⟩
theorem i_tupleAL (h : SqL K H p xs) (q : ∀ l H2, New H l (.tup xs) H2 → Q (.ref l) H2) : rTupleA K [.ref p] H Q := ⟨p, xs, rfl, .inl ⟨h, q⟩⟩
theorem i_tupleAT (h : SqT K H p xs) (q : Q (.ref p) H) : rTupleA K [.ref p] H Q := ⟨p, xs, rfl, .inr ⟨h, q⟩⟩
theorem i_slLA {lo hi : Option Int} (h : SqL K H p xs) (q : ∀ l H2, New H l (.lst (cutV xs lo hi)) H2 → Q (.ref l) H2) : rSlLA K (.ref p) lo hi H Q := ⟨p, xs, rfl, h, q⟩
end
structure NewI (H : Hp) (x dx C : Addr) (fs : List (Str × V)) (H2 : Hp) : Prop where
  fx : H x = none
  fd : H dx = none
  ne : dx ≠ x
  eq : H2 = upd (upd H dx (.own x)) x (.ins C dx fs)
theorem NewI.at {H H2 : Hp} {x dx C : Addr} {fs : List (Str × V)} (n : NewI H x dx C fs H2) : H2 x = some (.ins C dx fs) := by rw [n.eq]; exact upd_same
theorem NewI.same {H H2 : Hp} {x dx C : Addr} {fs : List (Str × V)} (n : NewI H x dx C fs H2) : Same H H2 := by
  rw [n.eq]; exact Same.upd (Same.new n.fd) (by rw [upd_ne n.ne.symm]; exact n.fx)
theorem i_iteSe {x y : Str} {A B : Prop} (n : x = y) (q : A) : if decide (V.str x = V.str y) = true then A else B := by
  rw [decide_eq_true (congrArg V.str n)]; exact iteT q
theorem sqL_inj_of {K : PySem.W.Frag} {a : Addr} {xs : List V} {H : Hp} (h : H a = some (.lst xs)) : SqL K H a xs := .inl (.inl h)
end L2
namespace Lap
open PySem L2
def spDeedA (C : Dk → Addr) : Sp := fun vs H Q _ => ∃ d : Dk, vs = [.str d.word] ∧ ∀ x dx H2, NewI H x dx (C d) [] H2 → Q (.ref x) H2
end Lap
set_option Elab.async false
set_option linter.all false
set_option maxRecDepth 100000
namespace L2
open PySem PySem.Spec PyProof.Rows
section
variable {X : Cx} {pins : List (Addr × Obj)} {σ : St} {H : Hp} {s : Shared}
end
section
variable {X : Cx} {pins : List (Addr × Obj)} {σ : St} {H : Hp} {s : Shared} {e : Addr} {c : Value} {d : Option Addr} {M : Model} {E : Value → Shared → Prop} {Q : Unit → Shared → Prop}
end
section
variable {X : Cx} {pins : List (Addr × Obj)} {σ : St} {H H' : Hp} {s : Shared} {b : Addr}
end
section
variable {X : Cx} {CX : CXT} {k : Nat} {f C : Addr} {fd : FuncData} {ps : List Str} {sp : Sp} {ES : XS} {x m : Str} {p pos apos : Pos} {e o : Expr} {es : List Expr} {ta : TE} {t : TA}
end
section
variable {P : Program} {w : World} {K : PySem.W.Frag} {mg : Str → Option Value} {base : Heap}
end
end L2
set_option Elab.async false
set_option linter.all false
set_option maxRecDepth 100000
namespace L2
open PySem PySem.Spec PySem.W PyProof.Rows
section
variable {prog : Program} {w : World} {A : Around} {E : Value → Shared → Prop} {K : PySem.W.Frag} {h : Heap} {g : Array GenState} {d : Drawn} {t : Nat} {os : OsState} {e C : Addr} {oe : Obj} {od : Option Obj} {name : Str}
end
section
variable {X : Cx} {ES : XS} {x : Str} {C : Addr} {np cpos pos : Pos} {a : Expr} {rest : List Expr} {t : TA}
end
end L2
set_option Elab.async false
set_option linter.all false
set_option maxRecDepth 100000
namespace L2
open PySem PySem.Spec PySem.W PyProof.Rows
section
variable {X : Cx} {A : Around} {calm : Bool} {pn pins pins' : List (Addr × Obj)} {xe : Value → Shared → Prop} {σ σ' : St} {H : Hp} {s : Shared} {e : Addr} {o : HO}
theorem Inv.track (I : Inv X pins σ H s) (f : FpOk X pins H e) (new : ObjOk X.prog X.w (upd H e o) s.heap e o) : Inv X pins σ (upd H e o) s := by
  obtain ⟨f0, f1, f2, f3, f4, f5⟩ := f
  have hne : ∀ b u, H b = some u → b ≠ e := fun b u q => ne_of_none q f0
  refine ⟨I.ok, I.os, I.bare, ⟨I.base.keep, I.base.slot, fun b ob q n hx => ?_, I.base.there, fun b xs q => ?_, fun b ob u q => ?_, fun b ps q => ?_⟩, I.loc, I.cell, ?_, fun x c q => ?_, fun p hp => ?_, fun b u q => ?_, I.len⟩
  · have hb : b ≠ e := fun z => by
      subst z
      rcases f3 with w | w
      · exact hx w
      · rw [w] at q; cases q
    rw [upd_ne hb]; exact I.base.free b ob q n hx
  · have := I.base.tups b xs q; rw [upd_ne (hne _ _ this)]; exact this
  · have := I.base.frzs b ob u q; rw [upd_ne (hne _ _ this)]; exact this
  · obtain ⟨more, this⟩ := I.base.tbls b ps q; exact ⟨more, by rw [upd_ne (hne _ _ this)]; exact this⟩
  · rw [upd_ne (Ne.symm f1)]; exact I.free
  · rw [upd_ne (f4 x c q)]; exact I.freeC x c q
  · obtain ⟨a, b, c, d⟩ := I.pin p hp
    exact ⟨a, by rw [upd_ne (f5 p hp)]; exact b, c, d⟩
  · by_cases z : b = e
    · subst z
      rw [upd_same] at q; cases q; exact new
    · rw [upd_ne z] at q
      refine (I.hok b u q).stay (fun _ _ _ q => q) (fun c q => ?_) fun c xs q => ?_
      · rw [upd_ne (hne _ _ q)]; exact q
      · rw [upd_ne (hne _ _ q)]; exact q
end
section
variable {X : Cx} {pins : List (Addr × Obj)} {σ : St} {H : Hp} {s : Shared} {e C Cy : Addr}
end
section
variable {X : Cx} {es : List Expr} {t : TJ} {te : TE} {e : Expr} {pos : Pos} {z : Str} {k : Option Nat}
theorem glue_len {a b : Str} {n : Nat} (h : a.length + 100000 * (n + 1) ≤ sizeLine) (hb : b.length ≤ 100000) : (a ++ b).length + 100000 * n ≤ sizeLine := by
  rw [strLen_append]; omega
theorem joins_mono {M : Model} {A : Around} {E : Value → Shared → Prop} {Q Q' : Str → Shared → Prop} : ∀ {ts : List (Sem Value)} {acc : Str} {s : Shared}, Joins M A E ts acc Q s → (∀ out s1, Q out s1 → Q' out s1) → Joins M A E ts acc Q' s
  | [], _, _, h, i => i _ _ h
  | _ :: _, _, _, h, i => wpAny_mono h (fun _ _ ⟨y, t, e, l, r⟩ => ⟨y, t, e, l, joins_mono r i⟩) fun _ _ z => z
end
end L2
set_option Elab.async false
set_option linter.all false
set_option maxRecDepth 100000
namespace L2
open PySem PySem.Spec PyProof.Rows
section
variable {κ : Type} [DecidableEq κ]
def valV (kvs : List (κ × V)) (k : κ) : Option V := (kvs.find? fun kv => decide (kv.1 = k)).map (·.2)
def putK (kvs : List (κ × V)) (k : κ) (v : V) : List (κ × V) :=
  if (kvs.any fun kv => decide (kv.1 = k)) = true then kvs.map (fun kv => if kv.1 = k then (kv.1, v) else kv) else kvs ++ [(k, v)]
theorem valV_pos {p : κ × V} {r : List (κ × V)} {k : κ} (e : p.1 = k) : valV (p :: r) k = some p.2 := by simp [valV, List.find?_cons, e]
theorem valV_neg {p : κ × V} {r : List (κ × V)} {k : κ} (e : ¬ p.1 = k) : valV (p :: r) k = valV r k := by simp [valV, List.find?_cons, e]
theorem valV_any (k : κ) : ∀ kvs : List (κ × V), (kvs.any fun kv => decide (kv.1 = k)) = (valV kvs k).isSome
  | [] => rfl
  | p :: r => by
    rw [List.any_cons]
    by_cases e : p.1 = k
    · simp only [valV_pos e, decide_eq_true e, Bool.true_or, Option.isSome_some]
    · rw [valV_neg e, decide_eq_false e, Bool.false_or]; exact valV_any k r
theorem valV_map (k j : κ) (y : V) : ∀ kvs : List (κ × V), valV (kvs.map fun kv => if kv.1 = k then (kv.1, y) else kv) j = (valV kvs j).map fun x => if j = k then y else x
  | [] => rfl
  | p :: r => by
    have ih := valV_map k j y r
    rw [List.map_cons]
    by_cases h : p.1 = k
    · rw [if_pos h]
      by_cases e : p.1 = j
      · rw [valV_pos (p := (p.1, y)) e, valV_pos e, Option.map_some, if_pos (e.symm.trans h)]
      · rw [valV_neg (p := (p.1, y)) e, valV_neg e, ih]
    · rw [if_neg h]
      by_cases e : p.1 = j
      · rw [valV_pos (p := p) e, valV_pos e, Option.map_some, if_neg (fun z => h (e.trans z))]
      · rw [valV_neg (p := p) e, valV_neg e, ih]
theorem valV_snoc (k j : κ) (y : V) : ∀ kvs : List (κ × V), valV kvs k = none → valV (kvs ++ [(k, y)]) j = if j = k then some y else valV kvs j
  | [], _ => by
    by_cases e : k = j
    · rw [if_pos e.symm]; exact valV_pos (p := (k, y)) e
    · rw [if_neg (fun z => e z.symm)]; exact valV_neg (p := (k, y)) e
  | p :: r, hn => by
    rw [List.cons_append]
    have hk : ¬ p.1 = k := fun z => by rw [valV_pos z] at hn; cases hn
    rw [valV_neg hk] at hn
    have ih := valV_snoc k j y r hn
    by_cases e : p.1 = j
    · rw [valV_pos e, valV_pos e, if_neg (fun z => hk (e.trans z))]
    · rw [valV_neg e, valV_neg e, ih]
theorem valV_put (kvs : List (κ × V)) (k j : κ) (y : V) : valV (putK kvs k y) j = if j = k then some y else valV kvs j := by
  unfold putK
  by_cases a : (kvs.any fun kv => decide (kv.1 = k)) = true
  · rw [if_pos a, valV_map]
    rw [valV_any] at a
    by_cases e : j = k
    · obtain ⟨x, hx⟩ := Option.isSome_iff_exists.mp a
      rw [if_pos e, e, hx, Option.map_some, if_pos rfl]
    · rw [if_neg e]
      cases valV kvs j with
      | none => rfl
      | some x => rw [Option.map_some, if_neg e]
  · rw [if_neg a]
    refine valV_snoc k j y kvs ?_
    rw [valV_any] at a
    cases q : valV kvs k with
    | none => rfl
    | some x => rw [q] at a; exact (a rfl).elim
theorem length_putK (kvs : List (κ × V)) (k : κ) (v : V) : (putK kvs k v).length ≤ kvs.length + 1 := by
  unfold putK
  split
  · rw [List.length_map]; omega
  · rw [List.length_append, List.length_cons, List.length_nil]; omega
theorem RelO.isSome_eq {o : Option V} {u : Option Value} (r : RelO o u) : o.isSome = u.isSome := by
  cases o with
  | none => cases u with
    | none => rfl
    | some _ => exact (show False from r).elim
  | some _ => cases u with
    | none => exact (show False from r).elim
    | some _ => rfl
theorem RelO.getD {o : Option V} {u : Option Value} {d : V} {d' : Value} (r : RelO o u) (rd : RelV d d') : RelV (o.getD d) (u.getD d') := by
  cases o with
  | none => cases u with
    | none => exact rd
    | some _ => exact (show False from r).elim
  | some _ => cases u with
    | none => exact (show False from r).elim
    | some _ => exact r
theorem KV.val {kvs : List (κ × V)} {vs : List (κ × Value)} (r : KV kvs vs) (k : κ) : RelO (valV kvs k) (valueAt vs k) := by
  unfold KV at r
  induction r with
  | nil => exact True.intro
  | @cons p q ps qs h t ih =>
    obtain ⟨h1, h2⟩ := h
    by_cases e : p.1 = k
    · have e' : q.1 = k := h1.symm.trans e
      have b : valueAt (q :: qs) k = some q.2 := by simp [valueAt, List.find?_cons, e']
      rw [valV_pos e, b]; exact h2
    · have e' : ¬ q.1 = k := fun z => e (h1.trans z)
      have b : valueAt (q :: qs) k = valueAt qs k := by simp [valueAt, List.find?_cons, e']
      rw [valV_neg e, b]; exact ih
theorem KV.any {kvs : List (κ × V)} {vs : List (κ × Value)} (r : KV kvs vs) (k : κ) : (kvs.any fun kv => decide (kv.1 = k)) = vs.any fun kv => decide (kv.1 = k) := by
  unfold KV at r
  induction r with
  | nil => rfl
  | cons h t ih => rw [List.any_cons, List.any_cons, ih, h.1]
theorem KV.repl {kvs : List (κ × V)} {vs : List (κ × Value)} (r : KV kvs vs) (k : κ) {y : V} {u : Value} (ry : RelV y u) :
    KV (kvs.map fun kv => if kv.1 = k then (kv.1, y) else kv) (vs.map fun kv => if kv.1 = k then (kv.1, u) else kv) := by
  unfold KV at r ⊢
  induction r with
  | nil => exact .nil
  | @cons p q ps qs h t ih =>
    rw [List.map_cons, List.map_cons]
    refine .cons ?_ ih
    obtain ⟨h1, h2⟩ := h
    by_cases e : p.1 = k
    · rw [if_pos e, if_pos (h1.symm.trans e)]; exact ⟨h1, ry⟩
    · rw [if_neg e, if_neg (fun z => e (h1.trans z))]; exact ⟨h1, h2⟩
theorem KV.put {kvs : List (κ × V)} {vs : List (κ × Value)} (r : KV kvs vs) (k : κ) {y : V} {u : Value} (ry : RelV y u) : KV (putK kvs k y) (stored vs k u) := by
  unfold putK stored
  rw [r.any k]
  by_cases e : (vs.any fun kv => decide (kv.1 = k)) = true
  · rw [if_pos e, if_pos e]; exact r.repl k ry
  · rw [if_neg e, if_neg e]; exact Paired.snoc r ⟨rfl, ry⟩
theorem KV.length {kvs : List (κ × V)} {vs : List (κ × Value)} (r : KV kvs vs) : kvs.length = vs.length := Paired.length r
end
theorem kV_is {P : Program} {w : World} {k : Key} {u : Value} (r : RelV (kV k) u) : (mixKind P w).is k u = true := by
  cases k with
  | inl i => obtain ⟨t, e⟩ := (show ∃ t, u = Value.int i t from r); subst e; exact mixKind_int P w i t
  | inr x => obtain ⟨t, e⟩ := (show ∃ t, u = Value.str x t from r); subst e; exact mixKind_str P w x t
theorem items_are {P : Program} {w : World} : ∀ {ks : List Key} {us : List Value}, Vals (ks.map kV) us → ItemsAre (mixKind P w) ks us
  | [], _, r => by rw [List.map_nil] at r; cases r; exact .nil
  | k :: ks, _, r => by
    rw [List.map_cons] at r
    cases r with
    | cons h t => exact .cons (kV_is h) (items_are t)
abbrev KT (H : Hp) : List (List Key × V) → List (List Key × Addr × Value) → Prop := Paired fun p q => p.1 = q.1 ∧ H q.2.1 = some (.tup (p.1.map kV)) ∧ RelV p.2 q.2.2
theorem KT.val {H : Hp} {kvs : List (List Key × V)} {xs : List (List Key × Addr × Value)} (r : KT H kvs xs) (k : List Key) : RelO (valV kvs k) ((atKey xs k).map (·.2)) := by
  induction r with
  | nil => exact True.intro
  | @cons p q ps qs h t ih =>
    obtain ⟨h1, _, h2⟩ := h
    by_cases e : p.1 = k
    · have e' : q.1 = k := h1.symm.trans e
      have b : atKey (q :: qs) k = some q.2 := by simp [atKey, List.find?_cons, e']
      rw [valV_pos e, b]; exact h2
    · have e' : ¬ q.1 = k := fun z => e (h1.trans z)
      have b : atKey (q :: qs) k = atKey qs k := by simp [atKey, List.find?_cons, e']
      rw [valV_neg e, b]; exact ih
theorem KT.repl {H : Hp} {kvs : List (List Key × V)} {xs : List (List Key × Addr × Value)} (r : KT H kvs xs) (k : List Key) {y : V} {u : Value} (ry : RelV y u) :
    KT H (kvs.map fun kv => if kv.1 = k then (kv.1, y) else kv) (xs.map (putAt k u)) := by
  induction r with
  | nil => exact .nil
  | @cons p q ps qs h t ih =>
    rw [List.map_cons, List.map_cons]
    refine .cons ?_ ih
    obtain ⟨h1, h2, h3⟩ := h
    unfold putAt
    by_cases e : p.1 = k
    · rw [if_pos e, if_pos (h1.symm.trans e)]; exact ⟨h1, h2, ry⟩
    · rw [if_neg e, if_neg (fun z => e (h1.trans z))]; exact ⟨h1, h2, h3⟩
theorem KT.put {H : Hp} {kvs : List (List Key × V)} {xs : List (List Key × Addr × Value)} (r : KT H kvs xs) (k : List Key) {b : Addr} {y : V} {u : Value} (hb : H b = some (.tup (k.map kV))) (ry : RelV y u) :
    KT H (putK kvs k y) (storedH xs k b u) := by
  have e : (kvs.any fun kv => decide (kv.1 = k)) = (atKey xs k).isSome := by
    rw [valV_any, (r.val k).isSome_eq, Option.isSome_map]
  unfold putK storedH
  rw [e]
  by_cases q : (atKey xs k).isSome = true
  · rw [if_pos q, if_pos q]; exact r.repl k ry
  · rw [if_neg q, if_neg q]; exact Paired.snoc r ⟨rfl, hb, ry⟩
theorem KT.keeps {H H' : Hp} {kvs : List (List Key × V)} {xs : List (List Key × Addr × Value)} (r : KT H kvs xs) (ht : ∀ b ys, H b = some (.tup ys) → H' b = some (.tup ys)) : KT H' kvs xs :=
  Paired.mapP r fun _ _ z => ⟨z.1, ht _ _ z.2.1, z.2.2⟩
section
variable {P : Program} {w : World} {H : Hp} {h : Heap} {a : Addr}
theorem rd_of {u : HO} (ok : HOk P w H h) (e : Rd H a u) : ObjOk P w H h a u := e.ok ok
theorem dk_rd {kvs : List (Key × V)} (ok : HOk P w H h) (e : Rd H a (.dK kvs)) : kvs.length ≤ sizeLine ∧ (a == sysModules) = false ∧ ∃ vs, KV kvs vs ∧ h.DictOf (mixKind P w) a vs :=
  show ObjOk P w H h a (.dK kvs) from rd_of ok e
theorem dk_of {kvs : List (Key × V)} (ok : HOk P w H h) (e : H a = some (.dK kvs)) : kvs.length ≤ sizeLine ∧ (a == sysModules) = false ∧ ∃ vs, KV kvs vs ∧ h.DictOf (mixKind P w) a vs := dk_rd ok (.inl e)
theorem key_of {ks : List Key} (ok : HOk P w H h) (e : H a = some (.tup (ks.map kV))) : (tupleKind (mixKind P w)).is h ks a := by
  obtain ⟨_, its, r, o, h1, h2, n, h3⟩ := (show ObjOk P w H h a (.tup (ks.map kV)) from ok a _ e)
  exact ⟨o, its.toArray, n, h1, h2, h3, by simpa using items_are r⟩
theorem dt_rd {kvs : List (List Key × V)} (ok : HOk P w H h) (e : Rd H a (.dT kvs)) : kvs.length ≤ sizeLine ∧ (a == sysModules) = false ∧
    ∃ xs, KT H kvs xs ∧ h.DictOfH (tupleKind (mixKind P w)) a xs := by
  obtain ⟨z, y, xs, r, o, es, ep, h1, h2, h3, h4, h5⟩ := (show ObjOk P w H h a (.dT kvs) from rd_of ok e)
  refine ⟨z, y, xs, r, o, es, ep, h1, h2, h3, h4, fun x hx => ?_, h5⟩
  have all : ∀ {l : List (List Key × V)} {m : List (List Key × Addr × Value)}, KT H l m → ∀ x ∈ m, (tupleKind (mixKind P w)).is h x.1 x.2.1 := by
    intro l m q
    induction q with
    | nil => intro x hx; exact nomatch hx
    | @cons p q ps qs hq t ih =>
      intro x hx
      rcases List.mem_cons.mp hx with e | hx
      · subst e
        exact key_of ok (by rw [← hq.1]; exact hq.2.1)
      · exact ih x hx
  exact all r x hx
theorem dt_of {kvs : List (List Key × V)} (ok : HOk P w H h) (e : H a = some (.dT kvs)) : kvs.length ≤ sizeLine ∧ (a == sysModules) = false ∧
    ∃ xs, KT H kvs xs ∧ h.DictOfH (tupleKind (mixKind P w)) a xs := dt_rd ok (.inl e)
end
def DGet (H : Hp) (a : Addr) (y : V) (r : Option V) : Prop :=
  (∃ kvs k, Rd H a (.dK kvs) ∧ y = kV k ∧ r = valV kvs k) ∨ ∃ kvs k b, Rd H a (.dT kvs) ∧ y = .ref b ∧ H b = some (.tup (k.map kV)) ∧ r = valV kvs k
def DPut (H : Hp) (a : Addr) (y v : V) (H' : Hp) : Prop :=
  (∃ kvs k, H a = some (.dK kvs) ∧ y = kV k ∧ kvs.length < sizeLine ∧ H' = upd H a (.dK (putK kvs k v))) ∨
  ∃ kvs k b, H a = some (.dT kvs) ∧ y = .ref b ∧ H b = some (.tup (k.map kV)) ∧ kvs.length < sizeLine ∧ H' = upd H a (.dT (putK kvs k v))
theorem DGet.k {H : Hp} {a : Addr} {kvs : List (Key × V)} {k : Key} (e : H a = some (.dK kvs)) : DGet H a (kV k) (valV kvs k) := .inl ⟨kvs, k, .inl e, rfl, rfl⟩
theorem DPut.k {H : Hp} {a : Addr} {kvs : List (Key × V)} {k : Key} {v : V} (e : H a = some (.dK kvs)) (hl : kvs.length < sizeLine) : DPut H a (kV k) v (upd H a (.dK (putK kvs k v))) := .inl ⟨kvs, k, e, rfl, hl, rfl⟩
section
variable {X : Cx} {pins : List (Addr × Obj)} {σ : St} {H : Hp} {s : Shared} {a : Addr} {y v : V} {u r : Value} {o : Option V} {A : Around} {E : Value → Shared → Prop}
theorem Inv.big (I : Inv X pins σ H s) : sysModules < s.heap.objs.size := by
  have h : mainGlobals < s.heap.objs.size := (I.mod.glob.keeps I.bk).lt
  exact Nat.lt_trans (by decide) h
theorem d_write {h' : Heap} {t' : Nat} {ob : HO} (I : Inv X pins σ H s) (mu : Mut (H a)) (hs : Heap.SameBut a s.heap h') (he : ∃ q, h'.get? a = some q) (new : ObjOk X.prog X.w (upd H a ob) h' a ob) :
    Inv X pins σ (upd H a ob) { s with heap := h', toks := t' } :=
  I.write (x := a) (e := a) mu (.inl rfl) (fun b q hb z => (hs.2 b hb).trans z) he new
theorem dk_new {P : Program} {w : World} {H' : Hp} {h' : Heap} {kvs : List (Key × V)} {vs : List (Key × Value)} (z : kvs.length ≤ sizeLine) (hd : (a == sysModules) = false) (rel : KV kvs vs) (dd : h'.DictOf (mixKind P w) a vs) :
    ObjOk P w H' h' a (.dK kvs) := ⟨z, hd, vs, rel, dd⟩
theorem d_setItem {H' : Hp} {Q : Unit → Shared → Prop} (hu : A.units + 1 < cLine) (I : Inv X pins σ H s) (g : DPut H a y v H') (ry : RelV y u) (rv : RelV v r) (h : ∀ s', Inv X pins σ H' s' → Q () s') :
    wpAny (model X.prog X.w) A (setItem (.ref a) u r) Q E s := by
  rcases g with ⟨kvs, k, e, ey, l, eH⟩ | ⟨kvs, k, b, e, ey, eb, l, eH⟩
  · subst ey eH
    obtain ⟨z, hd, vs, rel, dd⟩ := dk_of I.hok e
    have hz : vs.length ≤ sizeLine := by rw [← rel.length]; exact z
    have hl : (putK kvs k v).length ≤ sizeLine := by have := length_putK kvs k v; omega
    refine wpAny_setItem_pairs (hsz := hz) (kV_is ry) dd fun h' dd' hs => h _ ?_
    have he : ∃ q, h'.get? a = some q := let ⟨q, _, _, hq, _⟩ := dd'; ⟨q, hq⟩
    exact d_write I (by rw [e]; exact True.intro) hs he (dk_new hl hd (rel.put k rv) dd')
  · subst ey eH
    cases (show u = Value.ref b from ry)
    obtain ⟨z, hd, xs, rel, dd⟩ := dt_of I.hok e
    have hz : xs.length ≤ sizeLine := by rw [← Paired.length rel]; exact z
    have hl : (putK kvs k v).length ≤ sizeLine := by have := length_putK kvs k v; omega
    refine wpAny_setItem_heap (hsz := hz) (tupleKind_room_in1 hu) (key_of I.hok eb) dd fun h' dd' hs => h _ ?_
    obtain ⟨q, es, ep, hq, h2, h3, h4, _, h5⟩ := dd'
    refine d_write I (by rw [e]; exact True.intro) hs ⟨q, hq⟩ ⟨hl, hd, _, (rel.put k eb rv).keeps fun c ys ec => ?_, q, es, ep, hq, h2, h3, h4, h5⟩
    rw [upd_ne (ne_of ec e (fun z => nomatch z))]
    exact ec
end
section
variable {X : Cx} {pins : List (Addr × Obj)} {σ : St} {H : Hp} {s : Shared} {a : Addr} {kvs : List (Key × V)} {k : Key} {u : Value} {A : Around} {E : Value → Shared → Prop}
end
def sDPut (td ty tv : TE) : TS := fun D σ H => tv σ H fun v H1 => td σ H1 fun x H2 => ty σ H2 fun y H3 => ∃ a H4, x = .ref a ∧ DPut H3 a y v H4 ∧ D.nx σ H4
section
variable {X : Cx} {o i e value : Expr} {pos pos' tpos : Pos} {td ty tv : TE}
theorem ps_dput (hu : X.A.units + 1 < cLine) (ho : PE X o td) (hi : PE X i ty) (hv : PE X value tv) (hs : swapsWith value (some (.Subscript o i pos')) pos.line X.env = pure false) :
    PS X (.Assign [.Subscript o i pos'] value pos) (sDPut td ty tv) := by
  intro pins s σ H D I h
  refine wpAny_Assign_Subscript (thn (hv pins s σ H _ I h) fun r s1 ⟨v, H1, I1, rv, q1⟩ => thn (ho pins s1 σ H1 _ I1 q1) fun u s2 ⟨x, H2, I2, rx, q2⟩ => thn (hi pins s2 σ H2 _ I2 q2) fun iv s3 ⟨y, H3, I3, ry, a, H4, ex, g, q3⟩ => ?_) hs
  subst ex
  obtain rfl : u = Value.ref a := rx
  exact d_setItem hu I3 g ry rv fun s4 I4 => ⟨σ, H4, I4, q3⟩
end
theorem dk_empty {P : Program} {w : World} {H : Hp} (h : Heap) (hb : sysModules < h.objs.size) : ObjOk P w H (h.push { cls := .type "dict", data := .dict #[] }) h.objs.size (.dK []) :=
  ⟨Nat.zero_le _, beq_eq_false_iff_ne.mpr (Ne.symm (Nat.ne_of_lt hb)), [], .nil, Heap.DictOf.new h⟩
def tDNewK : TE := fun _ H Q => ∀ p, H p = none → Q (.ref p) (upd H p (.dK []))
section
variable {X : Cx} {pos : Pos}
theorem pe_dnewK : PE X (.Dict [] [] pos) tDNewK := fun pins s σ H Q I h =>
  wpAny_Dict_empty ⟨.ref s.heap.objs.size, _, I.laid (a := s.heap.objs.size) (o := .dK []) (t' := s.toks) (fun _ _ q => Heap.get?_push_of_some _ q) (Nat.le_refl _) (dk_empty s.heap I.big), rfl, h _ (I.hok.fresh (Nat.le_refl _))⟩
end
structure M2 (X : Cx) (o : Expr) (m : Str) (apos : Pos) (e f : Expr) (cpos : Pos) : Prop where
  base : attributeBase o m X.env (eval o X.env) = eval o X.env
  few : ((backTo cpos (starEach [e, f] X.env)).all (fun x => !x.1) && (backToKw cpos (keywordEach [] X.env)).all (fun x => x.1.isSome)
    && decide (([e, f] : List Expr).length + ([] : List Keyword).length + (if ([] : List Keyword).isEmpty then 0 else 1) < 30)) = true
  line : (apos.endLine == cpos.line) = true
  trees : backTo cpos (starEach [e, f] X.env) = [(false, eval e X.env), (false, eval f X.env)]
def IsD (H : Hp) (a : Addr) : Prop := (∃ kvs, Rd H a (.dK kvs)) ∨ ∃ kvs, Rd H a (.dT kvs)
theorem isD_at {X : Cx} {pins : List (Addr × Obj)} {σ : St} {H : Hp} {s : Shared} {a : Addr} (I : Inv X pins σ H s) (d : IsD H a) :
    s.TypeIs (.ref a) "dict" ∧ (∀ b, Value.ref a = .ref b → ∃ ob, s.heap.get? b = some ob ∧ ob.dict = none) ∧ (a == sysModules) = false := by
  rcases d with ⟨kvs, e⟩ | ⟨kvs, e⟩
  · obtain ⟨_, hd, vs, _, dd⟩ := dk_rd I.hok e
    refine ⟨dd.typeIs, fun b q => ?_, hd⟩
    cases q
    obtain ⟨ob, _, _, h1, h2, _⟩ := dd
    exact ⟨ob, h1, h2.2.1⟩
  · obtain ⟨_, hd, xs, _, dd⟩ := dt_rd I.hok e
    refine ⟨dd.typeIs, fun b q => ?_, hd⟩
    cases q
    obtain ⟨ob, _, _, h1, h2, _⟩ := dd
    exact ⟨ob, h1, h2.2.1⟩
section
variable {X : Cx} {pins : List (Addr × Obj)} {σ : St} {H : Hp} {s : Shared} {a : Addr} {y d : V} {u r : Value} {o : Option V} {A : Around} {E : Value → Shared → Prop}
theorem d_get2 {Q : Value → Shared → Prop} (hu : A.units + 1 < cLine) (I : Inv X pins σ H s) (g : DGet H a y o) (ry : RelV y u) (rd : RelV d r) (h : ∀ w' s', Inv X pins σ H s' → RelV (o.getD d) w' → Q w' s') :
    wpAny (model X.prog X.w) A (call (.builtin "dict.get") [.ref a, u, r]) Q E s := by
  rcases g with ⟨kvs, k, e, ey, l⟩ | ⟨kvs, k, b, e, ey, eb, l⟩
  · subst ey
    obtain ⟨z, hd, vs, rel, dd⟩ := dk_rd I.hok e
    refine call_meetsIn PySem.F.slot_dict_get dd.typeIs PySem.F.entry_dict_get (PySem.F.args_dict_get_3 _ _ _) (meets_dict_get_default (mixKind X.prog X.w) a (kV_is ry) hd r) ⟨_, dd.mapOf, h _ _ (I.tok _) ?_⟩
    rw [l]
    exact (rel.val k).getD rd
  · subst ey
    cases (show u = Value.ref b from ry)
    obtain ⟨z, hd, xs, rel, dd⟩ := dt_rd I.hok e
    refine call_meetsIn PySem.F.slot_dict_get dd.typeIs PySem.F.entry_dict_get (PySem.F.args_dict_get_3 _ _ _) (meetsH_dict_get_default (tupleKind (mixKind X.prog X.w)) a b hd r) ⟨tupleKind_room_in1 hu, k, xs, key_of I.hok eb, dd, h _ _ (I.tok _) ?_⟩
    rw [l]
    exact (rel.val k).getD rd
end
def tDGet2 (td ty tx : TE) : TE := fun σ H Q => td σ H fun x H1 => ∃ a, x = .ref a ∧ IsD H1 a ∧ ty σ H1 fun y H2 => tx σ H2 fun z H3 => ∃ o, DGet H3 a y o ∧ Q (o.getD z) H3
section
variable {X : Cx} {o e f : Expr} {apos cpos : Pos} {td ty tx : TE}
theorem pe_dget2 (hu : X.A.units + 1 < cLine) (ho : PE X o td) (he : PE X e ty) (hf : PE X f tx) (m : M2 X o "get" apos e f cpos) : PE X (.Call (.Attribute o "get" apos) [e, f] [] cpos) (tDGet2 td ty tx) := by
  intro pins s σ H Q I h
  refine wpAny_Call_method m.base m.few m.line PySem.F.plainAttrs_dict PySem.F.slot_dict_get PySem.F.type_dict_get (thn (ho pins s σ H _ I h) fun u s1 ⟨x, H1, I1, rx, a, ex, d, q1⟩ => ?_)
  subst ex
  obtain rfl : u = Value.ref a := rx
  obtain ⟨t1, t2, _⟩ := isD_at I1 d
  refine ⟨t1, t2, ?_⟩
  rw [m.trees]
  refine Calls.callWith_builtin rfl (Calls.evalArgs_plain (Calls.spliced_cons (thn (he pins s1 σ H1 _ I1 q1) fun iv s2 ⟨y, H2, I2, ry, q2⟩ =>
    Calls.spliced_cons (thn (hf pins s2 σ H2 _ I2 q2) fun fv s3 ⟨z, H3, I3, rz, ov, g, q3⟩ => Calls.spliced_nil ?_))))
  exact d_get2 hu I3 g ry rz fun w' s4 I4 rw' => ⟨_, H3, I4, rw', q3⟩
end
section
variable {X : Cx} {pins : List (Addr × Obj)} {σ : St} {H : Hp} {s : Shared} {a : Addr} {kvs : List (Key × V)} {A : Around} {E : Value → Shared → Prop}
end
section
variable {X : Cx} {pins : List (Addr × Obj)} {σ : St} {H : Hp} {s : Shared} {a : Addr} {y : V} {u : Value} {A : Around} {E : Value → Shared → Prop}
end
end L2
namespace L2
open PySem PySem.Spec PyProof.Rows
section
variable {X : Cx}
end
section
variable {κ : Type} [DecidableEq κ]
end
end L2
set_option maxRecDepth 100000
set_option Elab.async false
set_option linter.all false
namespace L2
open PySem PySem.Spec PySem.W PyProof.Rows
inductive DV where
  | f (v : V) | t (ds : List DV) | l (ds : List DV)
mutual
def deq : DV → DV → Bool
  | .f a, .f b => eqV a b
  | .t as, .t bs => deqs as bs
  | .l as, .l bs => deqs as bs
  | _, _ => false
def deqs : List DV → List DV → Bool
  | [], [] => true
  | a :: as, b :: bs => deq a b && deqs as bs
  | _, _ => false
end
mutual
def dep : DV → Nat
  | .f _ => 0
  | .t as => deps as + 1
  | .l as => deps as + 1
def deps : List DV → Nat
  | [] => 0
  | a :: as => max (dep a) (deps as)
end
mutual
def DRel (K : Frag) (H : Hp) : DV → V → Prop
  | .f v, x => x = v ∧ flatV v = true
  | .t ds, x => ∃ a xs, x = .ref a ∧ SqT K H a xs ∧ DRels K H ds xs
  | .l ds, x => ∃ a xs, x = .ref a ∧ SqL K H a xs ∧ DRels K H ds xs
def DRels (K : Frag) (H : Hp) : List DV → List V → Prop
  | [], [] => True
  | d :: ds, x :: xs => DRel K H d x ∧ DRels K H ds xs
  | _, _ => False
end
mutual
theorem deq_self : ∀ (d : DV) (K : Frag) (H : Hp) (x : V), DRel K H d x → deq d d = true
  | .f v, K, H, x, h => by
    simp only [DRel] at h
    simp only [deq]; exact eqV_self h.2
  | .t ds, K, H, x, h => by
    simp only [DRel] at h
    obtain ⟨a, xs, _, _, h⟩ := h
    simp only [deq]; exact deqs_self ds K H xs h
  | .l ds, K, H, x, h => by
    simp only [DRel] at h
    obtain ⟨a, xs, _, _, h⟩ := h
    simp only [deq]; exact deqs_self ds K H xs h
theorem deqs_self : ∀ (ds : List DV) (K : Frag) (H : Hp) (xs : List V), DRels K H ds xs → deqs ds ds = true
  | [], K, H, xs, h => by simp only [deqs]
  | d :: ds, K, H, [], h => by simp only [DRels] at h
  | d :: ds, K, H, x :: xs, h => by
    simp only [DRels] at h
    simp only [deqs, Bool.and_eq_true]
    exact ⟨deq_self d K H x h.1, deqs_self ds K H xs h.2⟩
end
def eqD (as bs : List DV) (j : Nat) : Bool := match as[j]?, bs[j]? with
  | some a, some b => deq a b
  | _, _ => true
theorem deqs_all : ∀ (as bs : List DV), as.length = bs.length → (List.range as.length).all (eqD as bs) = deqs as bs
  | [], [], _ => by simp [deqs]
  | a :: as, b :: bs, h => by
    have ih := deqs_all as bs (by simpa using h)
    rw [List.length_cons, List.range_succ_eq_map, List.all_cons, List.all_map]
    have e0 : eqD (a :: as) (b :: bs) 0 = deq a b := by simp [eqD]
    have e1 : (eqD (a :: as) (b :: bs) ∘ Nat.succ) = eqD as bs := by funext j; simp [eqD, Function.comp]
    rw [e0, e1, ih]
    simp only [deqs]
  | [], _ :: _, h => by simp at h
  | _ :: _, [], h => by simp at h
theorem deqs_len : ∀ (as bs : List DV), as.length ≠ bs.length → deqs as bs = false
  | [], [], h => absurd rfl h
  | a :: as, b :: bs, h => by
    have ih := deqs_len as bs (by simpa using h)
    simp only [deqs, ih, Bool.and_false]
  | [], _ :: _, _ => by simp only [deqs]
  | _ :: _, [], _ => by simp only [deqs]
theorem DRels.len {K : Frag} {H : Hp} : ∀ {ds : List DV} {xs : List V}, DRels K H ds xs → ds.length = xs.length
  | [], [], _ => rfl
  | d :: ds, x :: xs, h => by
    simp only [DRels] at h
    rw [List.length_cons, List.length_cons, DRels.len h.2]
  | [], _ :: _, h => by simp only [DRels] at h
  | _ :: _, [], h => by simp only [DRels] at h
section
variable {X : Cx} {pins : List (Addr × Obj)} {σ : St} {H : Hp} {s : Shared}
theorem not_both {a : Addr} {xs ys : List V} (I : Inv X pins σ H s) (h1 : SqT X.K H a xs) (h2 : SqL X.K H a ys) : False := by
  obtain ⟨_, _, ⟨o, e, c, _⟩, _⟩ := I.tuple h1
  obtain ⟨_, _, p, _⟩ := I.list h2
  obtain ⟨o', e', c', _⟩ := p.isList
  rw [e] at e'; cases e'
  rw [c] at c'
  injection c' with c'
  exact absurd c' (by decide)
mutual
theorem deq_same (I : Inv X pins σ H s) : ∀ (d1 d2 : DV) (x : V), DRel X.K H d1 x → DRel X.K H d2 x → deq d1 d2 = true
  | .f v, .f w, x, h1, h2 => by
    simp only [DRel] at h1 h2
    rw [← h1.1, ← h2.1] at *
    simp only [deq]; exact eqV_self h1.2
  | .t as, .t bs, x, h1, h2 => by
    simp only [DRel] at h1 h2
    obtain ⟨a, xs, rfl, q1, r1⟩ := h1
    obtain ⟨b, ys, e, q2, r2⟩ := h2
    cases e
    cases I.tuple_inj q1 q2
    simp only [deq]; exact deqs_same I as bs xs r1 r2
  | .l as, .l bs, x, h1, h2 => by
    simp only [DRel] at h1 h2
    obtain ⟨a, xs, rfl, q1, r1⟩ := h1
    obtain ⟨b, ys, e, q2, r2⟩ := h2
    cases e
    cases I.list_inj q1 q2
    simp only [deq]; exact deqs_same I as bs xs r1 r2
  | .f v, .t bs, x, h1, h2 => by
    simp only [DRel] at h1 h2
    obtain ⟨b, ys, e, _⟩ := h2
    have := h1.2; rw [← h1.1, e] at this; cases this
  | .f v, .l bs, x, h1, h2 => by
    simp only [DRel] at h1 h2
    obtain ⟨b, ys, e, _⟩ := h2
    have := h1.2; rw [← h1.1, e] at this; cases this
  | .t bs, .f v, x, h1, h2 => by
    simp only [DRel] at h1 h2
    obtain ⟨b, ys, e, _⟩ := h1
    have := h2.2; rw [← h2.1, e] at this; cases this
  | .l bs, .f v, x, h1, h2 => by
    simp only [DRel] at h1 h2
    obtain ⟨b, ys, e, _⟩ := h1
    have := h2.2; rw [← h2.1, e] at this; cases this
  | .t as, .l bs, x, h1, h2 => by
    simp only [DRel] at h1 h2
    obtain ⟨a, xs, rfl, q1, r1⟩ := h1
    obtain ⟨b, ys, e, q2, r2⟩ := h2
    cases e
    exact (not_both I q1 q2).elim
  | .l as, .t bs, x, h1, h2 => by
    simp only [DRel] at h1 h2
    obtain ⟨a, xs, rfl, q1, r1⟩ := h1
    obtain ⟨b, ys, e, q2, r2⟩ := h2
    cases e
    exact (not_both I q2 q1).elim
theorem deqs_same (I : Inv X pins σ H s) : ∀ (as bs : List DV) (xs : List V), DRels X.K H as xs → DRels X.K H bs xs → deqs as bs = true
  | [], [], _, _, _ => by simp only [deqs]
  | a :: as, b :: bs, x :: xs, h1, h2 => by
    simp only [DRels] at h1 h2
    simp only [deqs, Bool.and_eq_true]
    exact ⟨deq_same I a b x h1.1 h2.1, deqs_same I as bs xs h1.2 h2.2⟩
  | [], _ :: _, [], h1, h2 => by simp only [DRels] at h2
  | [], _ :: _, _ :: _, h1, h2 => by simp only [DRels] at h1
  | _ :: _, [], [], h1, h2 => by simp only [DRels] at h1
  | _ :: _, [], _ :: _, h1, h2 => by simp only [DRels] at h2
  | _ :: _, _ :: _, [], h1, h2 => by simp only [DRels] at h1
end
theorem flat_tup {A : Around} {y : V} {u : Value} {a : Addr} {items : Array Value} (fy : flatV y = true) (ry : RelV y u) (h : s.heap.IsTuple a items) (hu : A.units < cLine) : SeqAt.EqAt A s u (.ref a) false := by
  cases y with
  | non => cases ry; exact .none_tuple h hu
  | bl b => cases ry; exact .bool_tuple b h hu
  | int b => obtain ⟨t, rfl⟩ := ry; exact .int_tuple b t h hu
  | str b => obtain ⟨t, rfl⟩ := ry; exact .str_tuple b t h hu
  | _ => cases fy
theorem flat_lst {A : Around} {y : V} {u : Value} {a : Addr} {items : Array Value} (fy : flatV y = true) (ry : RelV y u) (h : s.heap.IsList a items) (hu : A.units < cLine) : SeqAt.EqAt A s u (.ref a) false := by
  cases y with
  | non => cases ry; exact .none_list h hu
  | bl b => cases ry; exact .bool_list b h hu
  | int b => obtain ⟨t, rfl⟩ := ry; exact .int_list b t h hu
  | str b => obtain ⟨t, rfl⟩ := ry; exact .str_list b t h hu
  | _ => cases fy
theorem tup_flat {A : Around} {y : V} {u : Value} {a : Addr} {items : Array Value} (fy : flatV y = true) (ry : RelV y u) (h : s.heap.IsTuple a items) (hu : A.units < cLine) : SeqAt.EqAt A s (.ref a) u false := by
  cases y with
  | non => cases ry; exact .tuple_none h hu
  | bl b => cases ry; exact .tuple_bool b h hu
  | int b => obtain ⟨t, rfl⟩ := ry; exact .tuple_int b t h hu
  | str b => obtain ⟨t, rfl⟩ := ry; exact .tuple_str b t h hu
  | _ => cases fy
theorem lst_flat {A : Around} {y : V} {u : Value} {a : Addr} {items : Array Value} (fy : flatV y = true) (ry : RelV y u) (h : s.heap.IsList a items) (hu : A.units < cLine) : SeqAt.EqAt A s (.ref a) u false := by
  cases y with
  | non => cases ry; exact .list_none h hu
  | bl b => cases ry; exact .list_bool b h hu
  | int b => obtain ⟨t, rfl⟩ := ry; exact .list_int b t h hu
  | str b => obtain ⟨t, rfl⟩ := ry; exact .list_str b t h hu
  | _ => cases fy
theorem items_eq {A : Around} {as bs : List DV} {xs ys : List V} {us vs : List Value} (h1 : DRels X.K H as xs) (h2 : DRels X.K H bs ys) (r1 : Vals xs us) (r2 : Vals ys vs)
    (ih : ∀ (j : Nat) (a b : DV) (u v : Value), as[j]? = some a → bs[j]? = some b → us[j]? = some u → vs[j]? = some v → SeqAt.EqAt A s u v (deq a b)) :
    ∀ j (g1 : j < us.toArray.size) (g2 : j < vs.toArray.size), SeqAt.EqAt A s us.toArray[j] vs.toArray[j] (eqD as bs j) := by
  intro j g1 g2
  have l1 := h1.len
  have l2 := h2.len
  have m1 := r1.length
  have m2 := r2.length
  have g1' : j < us.length := by simpa using g1
  have g2' : j < vs.length := by simpa using g2
  have e : eqD as bs j = deq as[j] bs[j] := by simp [eqD, show j < as.length by omega, show j < bs.length by omega]
  rw [e]
  exact ih j _ _ _ _ (List.getElem?_eq_getElem (by omega)) (List.getElem?_eq_getElem (by omega)) (by simp [g1']) (by simp [g2'])
mutual
theorem eqAt_D (I : Inv X pins σ H s) : ∀ (d1 d2 : DV) (x y : V) (u v : Value) (A : Around), DRel X.K H d1 x → DRel X.K H d2 y → RelV x u → RelV y v → A.units + dep d1 < cLine → SeqAt.EqAt A s u v (deq d1 d2)
  | .f a, .f b, x, y, u, v, A, h1, h2, r1, r2, hu => by
    simp only [DRel] at h1 h2
    simp only [deq]
    rw [h1.1] at r1; rw [h2.1] at r2
    exact eqAt_V r1 r2 h1.2 h2.2
  | .f a, .t bs, x, y, u, v, A, h1, h2, r1, r2, hu => by
    simp only [DRel] at h1 h2
    obtain ⟨b, ys, rfl, q2, _⟩ := h2
    obtain ⟨vs, _, p2, _⟩ := I.tuple q2
    simp only [deq]
    rw [h1.1] at r1; cases r2
    exact flat_tup h1.2 r1 p2 (by omega)
  | .f a, .l bs, x, y, u, v, A, h1, h2, r1, r2, hu => by
    simp only [DRel] at h1 h2
    obtain ⟨b, ys, rfl, q2, _⟩ := h2
    obtain ⟨vs, _, p2, _⟩ := I.list q2
    simp only [deq]
    rw [h1.1] at r1; cases r2
    exact flat_lst h1.2 r1 p2.isList (by omega)
  | .t as, .f b, x, y, u, v, A, h1, h2, r1, r2, hu => by
    simp only [DRel] at h1 h2
    obtain ⟨a, xs, rfl, q1, _⟩ := h1
    obtain ⟨us, _, p1, _⟩ := I.tuple q1
    simp only [deq]
    rw [h2.1] at r2; cases r1
    exact tup_flat h2.2 r2 p1 (by omega)
  | .l as, .f b, x, y, u, v, A, h1, h2, r1, r2, hu => by
    simp only [DRel] at h1 h2
    obtain ⟨a, xs, rfl, q1, _⟩ := h1
    obtain ⟨us, _, p1, _⟩ := I.list q1
    simp only [deq]
    rw [h2.1] at r2; cases r1
    exact lst_flat h2.2 r2 p1.isList (by omega)
  | .t as, .l bs, x, y, u, v, A, h1, h2, r1, r2, hu => by
    simp only [DRel] at h1 h2
    obtain ⟨a, xs, rfl, q1, _⟩ := h1
    obtain ⟨b, ys, rfl, q2, _⟩ := h2
    obtain ⟨us, _, p1, _⟩ := I.tuple q1
    obtain ⟨vs, _, p2, _⟩ := I.list q2
    simp only [deq]
    cases r1; cases r2
    exact .tuple_list p1 p2.isList (by omega)
  | .l as, .t bs, x, y, u, v, A, h1, h2, r1, r2, hu => by
    simp only [DRel] at h1 h2
    obtain ⟨a, xs, rfl, q1, _⟩ := h1
    obtain ⟨b, ys, rfl, q2, _⟩ := h2
    obtain ⟨us, _, p1, _⟩ := I.list q1
    obtain ⟨vs, _, p2, _⟩ := I.tuple q2
    simp only [deq]
    cases r1; cases r2
    exact .list_tuple p1.isList p2 (by omega)
  | .t as, .t bs, x, y, u, v, A, h1, h2, r1, r2, hu => by
    by_cases hxy : x = y
    · subst hxy
      rw [deq_same I _ _ x h1 h2]
      simp only [DRel] at h1
      obtain ⟨a, xs, rfl, _⟩ := h1
      cases r1; cases r2
      exact .same _
    simp only [DRel] at h1 h2
    obtain ⟨a, xs, rfl, q1, d1⟩ := h1
    obtain ⟨b, ys, rfl, q2, d2⟩ := h2
    obtain ⟨us, m1, p1, _⟩ := I.tuple q1
    obtain ⟨vs, m2, p2, _⟩ := I.tuple q2
    cases r1; cases r2
    simp only [dep] at hu
    have he := items_eq (A := A.in1) d1 d2 m1 m2 (eqAt_Ds I as bs xs ys us vs A.in1 d1 d2 m1 m2 (by show A.units + 1 + _ < _; omega))
    have hr := SeqAt.RcAt.tuples (A := A) p1 p2 (by omega) he
    have hq : ((List.range (min us.toArray.size vs.toArray.size)).all (eqD as bs) && us.toArray.size == vs.toArray.size) = deqs as bs := by
      have l1 := d1.len; have l2 := d2.len; have l3 := m1.length; have l4 := m2.length
      have e1 : us.toArray.size = as.length := by simp; omega
      have e2 : vs.toArray.size = bs.length := by simp; omega
      rw [e1, e2]
      by_cases hl : as.length = bs.length
      · rw [← hl, Nat.min_self, deqs_all as bs hl]; simp
      · rw [deqs_len as bs hl]; simp [hl]
    rw [hq] at hr
    simp only [deq]
    exact .of_refs (fun z => hxy (by rw [z])) hr
  | .l as, .l bs, x, y, u, v, A, h1, h2, r1, r2, hu => by
    by_cases hxy : x = y
    · subst hxy
      rw [deq_same I _ _ x h1 h2]
      simp only [DRel] at h1
      obtain ⟨a, xs, rfl, _⟩ := h1
      cases r1; cases r2
      exact .same _
    simp only [DRel] at h1 h2
    obtain ⟨a, xs, rfl, q1, d1⟩ := h1
    obtain ⟨b, ys, rfl, q2, d2⟩ := h2
    obtain ⟨us, m1, p1, _⟩ := I.list q1
    obtain ⟨vs, m2, p2, _⟩ := I.list q2
    cases r1; cases r2
    simp only [dep] at hu
    have l1 := d1.len; have l2 := d2.len; have l3 := m1.length; have l4 := m2.length
    have e1 : us.toArray.size = as.length := by simp; omega
    have e2 : vs.toArray.size = bs.length := by simp; omega
    simp only [deq]
    by_cases hl : as.length = bs.length
    · have he := items_eq (A := A.in1) d1 d2 m1 m2 (eqAt_Ds I as bs xs ys us vs A.in1 d1 d2 m1 m2 (by show A.units + 1 + _ < _; omega))
      have hr := SeqAt.RcAt.lists (A := A) p1.isList p2.isList (by omega) (by omega) he
      rw [e1, deqs_all as bs hl] at hr
      exact .of_refs (fun z => hxy (by rw [z])) hr
    · rw [deqs_len as bs hl]
      exact .of_refs (fun z => hxy (by rw [z])) (SeqAt.RcAt.lists_lengths p1.isList p2.isList (by simp; omega) (by omega))
theorem eqAt_Ds (I : Inv X pins σ H s) : ∀ (as bs : List DV) (xs ys : List V) (us vs : List Value) (A : Around), DRels X.K H as xs → DRels X.K H bs ys → Vals xs us → Vals ys vs → A.units + deps as < cLine →
    ∀ (j : Nat) (a b : DV) (u v : Value), as[j]? = some a → bs[j]? = some b → us[j]? = some u → vs[j]? = some v → SeqAt.EqAt A s u v (deq a b)
  | [], _, _, _, _, _, _, _, _, _, _, _, j, a, b, u, v, e1, _, _, _ => by simp at e1
  | _ :: _, [], _, _, _, _, _, _, _, _, _, _, j, a, b, u, v, _, e2, _, _ => by simp at e2
  | d :: as, d' :: bs, [], _, _, _, _, h1, _, _, _, _, j, a, b, u, v, _, _, _, _ => by simp only [DRels] at h1
  | d :: as, d' :: bs, _ :: _, [], _, _, _, _, h2, _, _, _, j, a, b, u, v, _, _, _, _ => by simp only [DRels] at h2
  | d :: as, d' :: bs, x :: xs, y :: ys, _, _, A, h1, h2, .cons r1 m1, .cons r2 m2, hu, 0, a, b, u, v, e1, e2, e3, e4 => by
    simp only [DRels] at h1 h2
    simp only [deps] at hu
    cases e1; cases e2; cases e3; cases e4
    exact eqAt_D I d d' x y _ _ A h1.1 h2.1 r1 r2 (by omega)
  | d :: as, d' :: bs, x :: xs, y :: ys, _, _, A, h1, h2, .cons r1 m1, .cons r2 m2, hu, j + 1, a, b, u, v, e1, e2, e3, e4 => by
    simp only [DRels] at h1 h2
    simp only [deps] at hu
    exact eqAt_Ds I as bs xs ys _ _ A h1.2 h2.2 m1 m2 (by omega) j a b u v e1 e2 e3 e4
end
end
section
variable {X : Cx} {pins : List (Addr × Obj)} {σ : St} {H : Hp} {s : Shared}
theorem rc_D (I : Inv X pins σ H s) : ∀ (d1 d2 : DV) (x y : V) (u v : Value) (A : Around), DRel X.K H d1 x → DRel X.K H d2 y → RelV x u → RelV y v → A.units + dep d1 < cLine → 0 < dep d1 → 0 < dep d2 → SeqAt.RcAt A s u v (deq d1 d2) ∧ SeqAt.RcNeAt A s u v (!deq d1 d2)
  | .f _, _, _, _, _, _, _, _, _, _, _, _, z, _ => by simp only [dep] at z; omega
  | .t _, .f _, _, _, _, _, _, _, _, _, _, _, _, z => by simp only [dep] at z; omega
  | .l _, .f _, _, _, _, _, _, _, _, _, _, _, _, z => by simp only [dep] at z; omega
  | .t as, .l bs, x, y, u, v, A, h1, h2, r1, r2, hu, _, _ => by
    simp only [DRel] at h1 h2
    obtain ⟨a, xs, rfl, q1, _⟩ := h1
    obtain ⟨b, ys, rfl, q2, _⟩ := h2
    obtain ⟨us, _, p1, _⟩ := I.tuple q1
    obtain ⟨vs, _, p2, _⟩ := I.list q2
    simp only [deq]
    cases r1; cases r2
    exact ⟨.tuple_list p1 p2.isList (by omega), .tuple_list p1 p2.isList (by omega)⟩
  | .l as, .t bs, x, y, u, v, A, h1, h2, r1, r2, hu, _, _ => by
    simp only [DRel] at h1 h2
    obtain ⟨a, xs, rfl, q1, _⟩ := h1
    obtain ⟨b, ys, rfl, q2, _⟩ := h2
    obtain ⟨us, _, p1, _⟩ := I.list q1
    obtain ⟨vs, _, p2, _⟩ := I.tuple q2
    simp only [deq]
    cases r1; cases r2
    exact ⟨.list_tuple p1.isList p2 (by omega), .list_tuple p1.isList p2 (by omega)⟩
  | .t as, .t bs, x, y, u, v, A, h1, h2, r1, r2, hu, _, _ => by
    simp only [DRel] at h1 h2
    obtain ⟨a, xs, rfl, q1, d1⟩ := h1
    obtain ⟨b, ys, rfl, q2, d2⟩ := h2
    obtain ⟨us, m1, p1, _⟩ := I.tuple q1
    obtain ⟨vs, m2, p2, _⟩ := I.tuple q2
    cases r1; cases r2
    simp only [dep] at hu
    have he := items_eq (A := A.in1) d1 d2 m1 m2 (eqAt_Ds I as bs xs ys us vs A.in1 d1 d2 m1 m2 (by show A.units + 1 + _ < _; omega))
    have hr := SeqAt.RcAt.tuples (A := A) p1 p2 (by omega) he
    have hn := SeqAt.RcNeAt.tuples (A := A) p1 p2 (by omega) he
    have hq : ((List.range (min us.toArray.size vs.toArray.size)).all (eqD as bs) && us.toArray.size == vs.toArray.size) = deqs as bs := by
      have l1 := d1.len; have l2 := d2.len; have l3 := m1.length; have l4 := m2.length
      have e1 : us.toArray.size = as.length := by simp; omega
      have e2 : vs.toArray.size = bs.length := by simp; omega
      rw [e1, e2]
      by_cases hl : as.length = bs.length
      · rw [← hl, Nat.min_self, deqs_all as bs hl]; simp
      · rw [deqs_len as bs hl]; simp [hl]
    rw [hq] at hr hn
    simp only [deq]
    exact ⟨hr, hn⟩
  | .l as, .l bs, x, y, u, v, A, h1, h2, r1, r2, hu, _, _ => by
    simp only [DRel] at h1 h2
    obtain ⟨a, xs, rfl, q1, d1⟩ := h1
    obtain ⟨b, ys, rfl, q2, d2⟩ := h2
    obtain ⟨us, m1, p1, _⟩ := I.list q1
    obtain ⟨vs, m2, p2, _⟩ := I.list q2
    cases r1; cases r2
    simp only [dep] at hu
    have l1 := d1.len; have l2 := d2.len; have l3 := m1.length; have l4 := m2.length
    have e1 : us.toArray.size = as.length := by simp; omega
    have e2 : vs.toArray.size = bs.length := by simp; omega
    simp only [deq]
    by_cases hl : as.length = bs.length
    · have he := items_eq (A := A.in1) d1 d2 m1 m2 (eqAt_Ds I as bs xs ys us vs A.in1 d1 d2 m1 m2 (by show A.units + 1 + _ < _; omega))
      have hr := SeqAt.RcAt.lists (A := A) p1.isList p2.isList (by omega) (by omega) he
      have hn := SeqAt.RcNeAt.lists (A := A) p1.isList p2.isList (by omega) (by omega) he
      rw [e1, deqs_all as bs hl] at hr hn
      exact ⟨hr, hn⟩
    · rw [deqs_len as bs hl]
      exact ⟨SeqAt.RcAt.lists_lengths p1.isList p2.isList (by simp; omega) (by omega), SeqAt.RcNeAt.lists_lengths p1.isList p2.isList (by simp; omega) (by omega)⟩
end
section
variable {X : Cx}
def rEqD (K : Frag) (neg : Bool) : R2 := fun x y H Q => ∃ d1 d2, DRel K H d1 x ∧ DRel K H d2 y ∧ dep d1 ≤ 20 ∧ 0 < dep d1 ∧ 0 < dep d2 ∧ Q (.bl (if neg then !deq d1 d2 else deq d1 d2)) H
theorem op_eqD (hu : X.A.units + 64 < cLine) : OpR X (compareOp .Eq) (rEqD X.K false) := by
  intro pins s σ H x y v u Q I rx ry h
  obtain ⟨d1, d2, h1, h2, z, z1, z2, q⟩ := h
  exact (rc_D I d1 d2 x y v u X.A h1 h2 rx ry (by omega) z1 z2).1 _ _ _ _ ⟨.bl (deq d1 d2), H, I, rfl, q⟩
end
theorem lcR {te : TE} {cs : St} {H1 : Hp} {Q : Addr → Hp → Prop} {lo : Int} {n : Nat} (f : Nat → V) (hz : n ≤ sizeLine)
    (hx : ∀ (i : Nat) (H' : Hp) (R : VK), i < n → Same H1 H' → R (f i) H' → te (some (.int (lo + i)) :: cs) H' R) (q : ∀ D H2, New H1 D (.lst ((List.range n).map f)) H2 → Q D H2) :
    ∀ D, H1 D = none → ∃ W : Nat → Nat → List V → Hp → Prop, (∃ m, W 0 m [] (upd H1 D (.lst []))) ∧ ∀ i m ys H, W i m ys H →
      H D = some (.lst ys) ∧ (((Itr lo n).stop i H ∧ Q D H) ∨ ((Itr lo n).go i H ∧ ys.length < sizeLine ∧ ∀ x H', (Itr lo n).yld i H x H' → tYes (some x :: cs) H' fun b H2 =>
        if b = true then te (some x :: cs) H2 fun y H3 => H3 D = some (.lst ys) ∧ ∃ m', m' < m ∧ W (i + 1) m' (ys ++ [y]) (upd H3 D (.lst (ys ++ [y]))) else ∃ m', m' < m ∧ W (i + 1) m' ys H2)) := by
  intro D hD
  refine ⟨fun i m ys H => m = n - i ∧ i ≤ n ∧ ys = (List.range i).map f ∧ H = upd H1 D (.lst ys), ⟨n, by simp, Nat.zero_le _, by simp, rfl⟩, ?_⟩
  rintro i m ys H ⟨rfl, hi, hys, rfl⟩
  have s1 : Same H1 (upd H1 D (.lst ys)) := Same.upd (Same.refl H1) hD
  refine ⟨upd_same, ?_⟩
  by_cases hlt : i < n
  · have hyl : ys.length = i := by rw [hys, List.length_map, List.length_range]
    refine .inr ⟨hlt, by omega, fun x H' y => ?_⟩
    obtain ⟨e, y⟩ := y
    subst e y
    unfold tYes
    dsimp only
    rw [if_pos rfl]
    refine hx i _ _ hlt s1 ⟨upd_same, n - (i + 1), by omega, rfl, hlt, ?_, by rw [upd_upd]⟩
    rw [List.range_succ, List.map_append, ← hys]; rfl
  · have e : i = n := by omega
    subst e
    refine .inl ⟨Nat.le_refl _, ?_⟩
    rw [hys]
    exact q D _ ⟨hD, rfl⟩
def rLenS : List V → Hp → VK → Prop := fun xs H Q => ∃ z, xs = [.str z] ∧ z.length ≤ sizeLine ∧ Q (.int z.length) H
theorem call_lenS {X : Cx} : CallR X (.builtin "len") rLenS := call_len_str
def rAddS : R2 := fun x y H Q => ∃ i j, x = .str i ∧ y = .str j ∧ i.length + j.length ≤ sizeLine ∧ Q (.str (i ++ j)) H
theorem op_addS {X : Cx} : OpR X (binaryOp .Add) rAddS := op_add_str
section
variable {σ : St} {H : Hp} {Q : VK} {D : Ends}
theorem i_addS {x y : Str} (h : x.length + y.length ≤ sizeLine) (q : Q (.str (x ++ y)) H) : rAddS (.str x) (.str y) H Q := ⟨x, y, rfl, rfl, h, q⟩
theorem i_ixS {K : Frag} {z : Str} {i : Int} {c : Nat} (h : z.length ≤ sizeLine) (a : atI z.cps.toList i = some c) (q : Q (.str ⟨#[c]⟩) H) : rIx K (.str z) (.int i) H Q := .inr (.inr ⟨z, i, c, rfl, rfl, h, a, q⟩)
theorem i_bm {K : Frag} {T : String} {r : V → List V → Hp → VK → Prop} {to : TE} {t : TA} (q : to σ H fun x H1 => tyV K T x H1 ∧ t σ H1 fun xs H2 => r x xs H2 Q) : tBM K T r to t σ H Q := q
def rCatA (K : Frag) : R2 := fun x y H Q => ∃ l b xs zs, x = .ref l ∧ y = .ref b ∧ H l = some (.lst xs) ∧ H b = some (.lst zs) ∧ xs.length + zs.length ≤ sizeLine ∧ ∀ p H2, New H p (.lst (xs ++ zs)) H2 → Q (.ref p) H2
theorem op_catA {X : Cx} : OpR X (binaryOp .Add) (rCatA X.K) := fun pins s σ H x y v u Q I rx ry ⟨l, b, xs, zs, e1, e2, h1, h2, z, q⟩ => op_cat pins s σ H x y v u Q I rx ry ⟨l, b, xs, zs, e1, e2, h1, h2, z, fun p hp => q p _ ⟨hp, rfl⟩⟩
theorem i_catA {K : Frag} {l b : Addr} {xs zs : List V} (h1 : H l = some (.lst xs)) (h2 : H b = some (.lst zs)) (z : xs.length + zs.length ≤ sizeLine) (q : ∀ p H2, New H p (.lst (xs ++ zs)) H2 → Q (.ref p) H2) : rCatA K (.ref l) (.ref b) H Q := ⟨l, b, xs, zs, rfl, rfl, h1, h2, z, q⟩
end
theorem PE.imp {X : Cx} {e : Expr} {t t' : TE} (h : PE X e t) (i : ∀ σ H Q, t' σ H Q → t σ H Q) : PE X e t' := fun pins s σ H Q I q => h pins s σ H Q I (i _ _ _ q)
def tMakeA (C : Addr) : TE := fun _ H Q => ∀ x dx H2, NewI H x dx C [] H2 → Q (.ref x) H2
theorem pe_makeA {X : Cx} {C : Addr} {x : Str} {p pos : Pos} (M : MkN X.K C) (hg : Gl X x) (hm : X.mg x = some (.ref C)) (hdb : (x == ("__debug__" : Str)) = false := by decide) : PE X (.Call (.Name x p) [] [] pos) (tMakeA C) :=
  (pe_makeN M hg hm hdb).imp fun _ _ _ q x dx hx hd ne => q x dx _ ⟨hx, hd, ne, rfl⟩
theorem i_iteDt {c A B : Prop} [Decidable c] (h : c) (q : A) : if decide c = true then A else B := by rw [decide_eq_true h]; exact iteT q
theorem i_lenS {z : Str} {H : Hp} {Q : VK} (h : z.length ≤ sizeLine) (q : Q (.int z.length) H) : rLenS [.str z] H Q := ⟨z, rfl, h, q⟩
theorem i_inL {K : Frag} {x : V} {p : Addr} {xs : List V} {H : Hp} {Q : VK} (h : SqL K H p xs) (fx : flatV x = true) (f : xs.all flatV = true) (q : Q (.bl (inV x xs)) H) : rIn K false x (.ref p) H Q := ⟨p, xs, rfl, .inl h, fx, f, q⟩
theorem i_ninL {K : Frag} {x : V} {p : Addr} {xs : List V} {H : Hp} {Q : VK} (h : SqL K H p xs) (fx : flatV x = true) (f : xs.all flatV = true) (q : Q (.bl (!inV x xs)) H) : rIn K true x (.ref p) H Q := ⟨p, xs, rfl, .inl h, fx, f, q⟩
end L2
set_option maxRecDepth 100000
set_option Elab.async false
set_option linter.all false
namespace L2
open PySem PySem.Spec PySem.W PyProof.Rows
theorem Inv.turnedL {X : Cx} {pins : List (Addr × Obj)} {σ : St} {H : Hp} {s : Shared} {h' : Heap} {t' : Nat} {fp : List Addr} (I : Inv X pins σ H s) (f : ∀ b ∈ fp, FpOk X pins H b) (k : ∀ b o, b ∉ fp → s.heap.get? b = some o → h'.get? b = some o) :
    Inv X pins σ H { s with heap := h', toks := t' } := by
  have nit : ∀ b u, H b = some u → b ∉ fp := fun b u e z => by rw [(f b z).1] at e; cases e
  refine I.step (g' := s.gens) (d' := s.drawn) (ch := fp) (fun b hb => ?_) (fun b o _ _ hc e _ => k b o hc e) (fun b o _ _ hc e _ => ⟨o.slots, k b o hc e⟩) (fun _ _ _ _ n => n)
    (fun b o hc e => ⟨o, k b o hc e⟩) (fun _ _ e => e) (fun _ _ _ e => e) (fun b ps e => ⟨#[], by rw [e]; simp⟩) (fun m hm => ?_) (fun b u e => ?_) I.bare
  · obtain ⟨f0, f1, f2, f3, f4, f5⟩ := f b hb
    exact ⟨f3, f1, f4, f5⟩
  · obtain ⟨o, es, ep, ho, r⟩ := hm
    exact ⟨o, es, ep, k _ o (fun z => (f _ z).2.1 rfl) ho, r⟩
  · refine (I.hok b u e).stay (fun c v hc q => k c v ?_ q) (fun _ q => q) fun _ _ q => q
    rcases hc with z | z
    · rw [z]; exact nit b u e
    · exact nit c _ z
def Its (z : Str) : It := ⟨fun i _ => i < z.cps.size, fun i H x H' => H' = H ∧ ∃ c, z.cps.toList[i]? = some c ∧ x = .str ⟨#[c]⟩, fun i _ => i = z.cps.size⟩
theorem turn_str {P : Program} {w : World} {K : Frag} {tg : Expr} (it : Addr) (z : Str) (t : Tok) (ty : String) (hty : ty = "str_ascii_iterator" ∨ ty = "str_iterator") : Turn P w K tg (Its z) [it] it (fun i h => h.IsStrIter it ty z t i) where
  mem := by simp
  obj := fun i h st b hb => by
    have e : b = it := by simpa using hb
    subst e
    obtain ⟨o, ho, _, hd⟩ := st
    exact ⟨o, ho, fun v q => by rw [hd] at q; cases q⟩
  keep := fun i h h' st k => let ⟨o, ho, r⟩ := st; ⟨o, k it (by simp) o ho, r⟩
  item := by
    intro X hP hw hK hc i pins s σ H E I hf st hg
    subst hP hw hK
    have W : Walks X.prog X.w X.A it [it] [it] z.cps.size (SignAt z) (fun i h => h.IsStrIter it ty z t i) := by
      rcases hty with rfl | rfl
      · exact Walks.strAscii (I.ok.hd hc) it z t
      · exact Walks.strWide (I.ok.hd hc) it z t
    refine W.item i s _ _ hg st fun v h' tk hv st' kk => ?_
    obtain ⟨c, u, hc1, rfl⟩ := hv
    have I1 : Inv X pins σ H { s with heap := h', toks := tk } := I.turnedL hf fun b o hb e => kk b o hb e
    obtain ⟨o, ho, hcl, hd⟩ := id st'
    refine ⟨_, rfl, go_of (s := { s with heap := h', toks := tk }) (n := ty) ho hcl hd (by rcases hty with rfl | rfl <;> decide) ⟨.str ⟨#[c]⟩, H, I1, ⟨u, rfl⟩, ⟨rfl, c, by simpa using hc1, rfl⟩, st', fun b hb => (hf b hb).1⟩⟩
  done := by
    intro X hP hw hK hc i pins s σ H E I hf st hg
    subst hP hw hK
    have W : Walks X.prog X.w X.A it [it] [it] z.cps.size (SignAt z) (fun i h => h.IsStrIter it ty z t i) := by
      rcases hty with rfl | rfl
      · exact Walks.strAscii (I.ok.hd hc) it z t
      · exact Walks.strWide (I.ok.hd hc) it z t
    have e : i = z.cps.size := hg
    subst e
    exact W.done s _ _ st fun h' tk kk => ⟨rfl, I.turnedL hf fun b o hb e => kk b o hb e⟩
  self := fun _ _ _ _ _ st h => by
    rcases hty with rfl | rfl
    · exact wpAny_pyIter_striter_ascii st h
    · exact wpAny_pyIter_striter_wide st h
def iStr (tl : TE) : TI := fun σ H R => tl σ H fun x H1 => ∃ z, x = .str z ∧ R (Its z) H1
theorem pi_str {X : Cx} {tg l : Expr} {tl : TE} (hl : PE X l tl) : PI X tg l (iStr tl) := by
  intro pins s σ H R I h
  refine thn (hl pins s σ H _ I h) fun v s1 ⟨x, H1, I1, r1, q1⟩ => ?_
  obtain ⟨z, e, q⟩ := q1
  subst e
  obtain ⟨t, rfl⟩ := r1
  have fin : ∀ ty : String, (ty = "str_ascii_iterator" ∨ ty = "str_iterator") → PIE X pins σ tg R (.ref s1.heap.objs.size) { s1 with heap := s1.heap.push { cls := .type ty, data := .fields #[.str z t, .int 0 0] } } := fun ty hty => by
    refine ⟨s1.heap.objs.size, [s1.heap.objs.size], _, _, H1, rfl, I1.kept (t' := s1.toks) fun b o e => Heap.get?_push_of_some _ e, turn_str _ z t ty hty, ⟨_, Heap.get?_push_size _ rfl, rfl, rfl⟩, fun b hb => ?_, q⟩
    have e : b = s1.heap.objs.size := by simpa using hb
    subst e
    exact I1.fpOk (Nat.le_refl _) (I1.hok.fresh (Nat.le_refl _))
  cases ha : z.cps.all (· < 128)
  · exact wpAny_pyIter_wide ha (fin _ (.inr rfl))
  · exact wpAny_pyIter_ascii ha (fin _ (.inl rfl))
def Ite (K : Frag) (l : Addr) : It :=
  ⟨fun i H => ∃ xs x, SqL K H l xs ∧ xs[i]? = some x, fun i H v H' => ∃ T x, v = .ref T ∧ New H T (.tup [.int (i : Int), x]) H' ∧ ∀ xs, SqL K H l xs → xs[i]? = some x, fun i H => ∃ xs, SqL K H l xs ∧ xs.length ≤ i⟩
theorem turn_enum {P : Program} {w : World} {K : Frag} {es : List Expr} {k : Nat} {tp : Pos} (e it l : Addr) (hei : e ≠ it) : Turn P w K (.Tuple es k tp) (Ite K l) [e, it] e (fun i h => (∃ old, IsEnum h e it (i : Nat) old) ∧ h.IsListIter it l i) where
  mem := by simp
  obj := fun i h st b hb => by
    obtain ⟨⟨old, he⟩, o, ho, hc, hd⟩ := st
    rcases List.mem_cons.mp hb with rfl | hb
    · exact ⟨_, he, fun v z => by cases z⟩
    · have e2 : b = it := by simpa using hb
      subst e2
      exact ⟨o, ho, fun v z => by rw [hd] at z; cases z⟩
  keep := fun i h h' st kk => by
    obtain ⟨⟨old, he⟩, o, ho, r⟩ := st
    exact ⟨⟨old, kk e (by simp) _ he⟩, o, kk it (by simp) _ ho, r⟩
  item := by
    intro X hP hw hK hc i pins s σ H E I hf st hg
    subst hP hw hK
    obtain ⟨⟨old, he⟩, hit⟩ := st
    obtain ⟨xs, x, hS, hx⟩ := hg
    obtain ⟨its, rv, p, hz⟩ := I.list hS
    obtain ⟨u, hu, ru⟩ := rv.get hx
    refine wpAny_pyNext_enum_item he hit p.isList (show its.toArray[i]? = some u by simpa using hu) hei fun h' ho hit' hT hsz hk => ⟨_, rfl, ?_⟩
    have I1 : Inv X pins σ H { s with heap := h', toks := s.toks + 1 } := I.turnedL hf fun b o hb q => hk b o (fun z => hb (by simp [z])) (fun z => hb (by simp [z])) q
    have helt : e < s.heap.objs.size := Heap.lt_size he
    have hilt : it < s.heap.objs.size := by obtain ⟨_, x, _⟩ := hit; exact Heap.lt_size x
    refine wpAny_letOwnedTupleGo_enum ho fun h2 he2 hs2 => ?_
    have I2 : Inv X pins σ H { s with heap := h2, toks := s.toks + 1 } := I1.turnedL hf fun b o hb q => (hs2.2 b (fun z => hb (by simp [z]))).trans q
    have hTn : H s.heap.objs.size = none := I.hok.fresh (Nat.le_refl _)
    have hTe : s.heap.objs.size ≠ e := Nat.ne_of_gt helt
    have hT2 : h2.get? s.heap.objs.size = some { cls := .type "tuple", data := .seq #[.int i s.toks, u] } := (hs2.2 _ hTe).trans hT
    have I3 : Inv X pins σ (upd H s.heap.objs.size (.tup [.int (i : Int), x])) { s with heap := h2, toks := s.toks + 1 } := by
      refine I2.track (I.fpOk (Nat.le_refl _) hTn) ⟨by show 2 ≤ sizeLine; decide, [.int i s.toks, u], .cons ⟨_, rfl⟩ (.cons ru .nil), ⟨_, hT2, rfl, _, rfl⟩⟩
    refine ⟨.ref s.heap.objs.size, _, I3, rfl, ⟨_, x, rfl, ⟨hTn, rfl⟩, fun ys hy => ?_⟩, ⟨⟨u, by simpa using he2⟩, ?_⟩, fun b hb => ?_⟩
    · cases I.list_inj hS hy; exact hx
    · exact hit'.at fun o q => (hs2.2 it hei.symm).trans q
    · have hne : b ≠ s.heap.objs.size := by
        rcases List.mem_cons.mp hb with z | z
        · rw [z]; exact Nat.ne_of_lt helt
        · rw [show b = it by simpa using z]; exact Nat.ne_of_lt hilt
      rw [upd_ne hne]; exact (hf b hb).1
  done := by
    intro X hP hw hK hc i pins s σ H E I hf st hg
    subst hP hw hK
    obtain ⟨⟨old, he⟩, hit⟩ := st
    obtain ⟨xs, hS, hl⟩ := hg
    obtain ⟨its, rv, p, hz⟩ := I.list hS
    have hlen := rv.length
    refine wpAny_pyNext_enum_end (I.ok.hd hc) he hit p.isList (by simp; omega) fun h' hx => ⟨rfl, ?_⟩
    exact I.turnedL (t' := s.toks) hf fun b o hb q => hx b o (fun z => hb (by simp [z])) q
  self := fun _ _ _ _ _ ⟨⟨_, he⟩, _⟩ h => wpAny_pyIter_enum he h
def iEnum (K : Frag) (ta : TA) : TI := fun σ H R => ta σ H fun vs H1 => ∃ l, vs = [.ref l] ∧ (∃ xs, SqL K H1 l xs) ∧ R (Ite K l) H1
theorem pi_enum {X : Cx} {es : List Expr} {k : Nat} {tp : Pos} {a : Expr} {ta : TA} {p pos : Pos} (hg : Gl X "enumerate") (hm : X.mg "enumerate" = none) (ha : PA X [a] ta) (hs : starEach [a] X.env = [(false, eval a X.env)] := by rfl) : PI X (.Tuple es k tp) (.Call (.Name "enumerate" p) [a] [] pos) (iEnum X.K ta) := by
  intro pins s σ H R I h
  refine Call_ (ld_blt I hg hm PyProof.Rows.boot_enumerate (PyProof.Rows.callWith_type1 (thn (ha pos pins s σ H _ I h) fun us s1 ⟨vs, H1, I1, r1, q1⟩ => ?_) hs rfl))
  obtain ⟨l, e, ⟨xs, hS⟩, q⟩ := q1
  subst e
  cases r1 with
  | cons r rr =>
    cases rr
    cases r
    obtain ⟨its, rv, pl, hz⟩ := I1.list hS
    refine call_enumerate_list pl.isList fun h' he hit hsz hk => ?_
    have hne : s1.heap.objs.size + 1 ≠ s1.heap.objs.size := Nat.succ_ne_self _
    have I2 : Inv X pins σ H1 { s1 with heap := h' } := I1.kept (t' := s1.toks) fun b o e => hk b o e
    refine wpAny_pyIter_enum he ⟨s1.heap.objs.size + 1, [s1.heap.objs.size + 1, s1.heap.objs.size], _, _, H1, rfl, I2, turn_enum _ _ l hne, ⟨⟨_, he⟩, hit⟩, fun b hb => ?_, q⟩
    have hb' : s1.heap.objs.size ≤ b := by
      rcases List.mem_cons.mp hb with z | z
      · rw [z]; exact Nat.le_succ _
      · rw [show b = s1.heap.objs.size by simpa using z]; exact Nat.le_refl _
    exact I1.fpOk hb' (I1.hok.fresh hb')
theorem for_enum {K : Frag} {l : Addr} {xs : List V} {g : TG} {tb : TS} {D : Ends} {σ : St} {H : Hp} (Pv : Nat → St → Hp → Prop) (h0 : Pv 0 σ H) (hl : ∀ i σ H, i ≤ xs.length → Pv i σ H → SqL K H l xs)
    (hs : ∀ i x T σ H H', xs[i]? = some x → Pv i σ H → New H T (.tup [.int (i : Int), x]) H' → g (.ref T) σ H' fun σ2 H2 => tb { D with nx := Pv (i + 1), ct := Pv (i + 1), bk := D.nx } σ2 H2) (hd : ∀ σ H, Pv xs.length σ H → D.nx σ H) :
    ∃ W : Nat → Nat → St → Hp → Prop, (∃ m, W 0 m σ H) ∧ ∀ i m σ H, W i m σ H →
      ((Ite K l).stop i H ∧ D.nx σ H) ∨ ((Ite K l).go i H ∧ ∃ N : St → Hp → Prop, (∀ σ' H', N σ' H' → ∃ m', m' < m ∧ W (i + 1) m' σ' H') ∧ ∀ x H', (Ite K l).yld i H x H' → g x σ H' fun σ2 H2 => tb { D with nx := N, ct := N, bk := D.nx } σ2 H2) := by
  refine ⟨fun i m σ H => m = xs.length - i ∧ i ≤ xs.length ∧ Pv i σ H, ⟨xs.length, by simp, Nat.zero_le _, h0⟩, ?_⟩
  rintro i m σ H ⟨rfl, hi, p⟩
  have q := hl i σ H hi p
  by_cases hlt : i < xs.length
  · refine .inr ⟨⟨xs, xs[i], q, by simp [hlt]⟩, Pv (i + 1), fun σ' H' p' => ⟨xs.length - (i + 1), by omega, rfl, hlt, p'⟩, fun v H' y => ?_⟩
    obtain ⟨T, x, rfl, hN, y⟩ := y
    exact hs i x T σ H H' (y xs q) p hN
  · have e : i = xs.length := by omega
    subst e
    exact .inl ⟨⟨xs, q, Nat.le_refl _⟩, hd σ H p⟩
def rAll (K : Frag) : List V → Hp → VK → Prop := fun xs H Q => ∃ p bs, xs = [.ref p] ∧ SqL K H p (List.map V.bl bs) ∧ Q (.bl (bs.all id)) H
theorem call_all {X : Cx} (hc : X.calm = true) : CallR X (.builtin "all") (rAll X.K) := by
  intro pins s σ H xs us Q I r h
  obtain ⟨p, bs, rfl, hS, q⟩ := h
  obtain ⟨u, rfl, ru⟩ := r.one
  cases ru
  obtain ⟨its, rv, pl, hz⟩ := I.list hS
  have hl := pl.isList
  have hlt : p < s.heap.objs.size := by obtain ⟨_, e, _⟩ := hl; exact Heap.lt_size e
  have hlen : bs.length = its.length := by have := rv.length; simpa using this
  refine call_all_walk (wpAny_pyIter_list hl ?_)
  refine ⟨s.heap.objs.size, [s.heap.objs.size, p], [s.heap.objs.size], its.toArray.size, _, _, fun i => (bs[i]?).getD true, rfl, Walks.list (A := X.A.in1) (I.ok.hd hc) _ p (Nat.ne_of_lt hlt) its.toArray,
    ⟨⟨_, Heap.get?_push_size _ rfl, rfl, rfl⟩, hl.push _⟩, fun i v s' Q' E' hP hQ => ?_, fun h' tk hk => ?_⟩
  · have hP' : its[i]? = some v := by simpa using hP
    have hi : i < bs.length := by rw [hlen]; exact (List.getElem?_eq_some_iff.mp hP').1
    obtain ⟨u, hu, ru⟩ := rv.get (i := i) (x := .bl bs[i]) (by rw [List.getElem?_map, List.getElem?_eq_getElem hi]; rfl)
    rw [hP'] at hu; cases hu
    cases ru
    simp only [List.getElem?_eq_getElem hi, Option.getD_some] at hQ
    exact wpAny_truthy_bool hQ
  · have e : ((List.range its.toArray.size).all fun i => (bs[i]?).getD true) = bs.all id := by
      rw [List.size_toArray, ← hlen]; exact LSm.range_all bs
    rw [e]
    exact ⟨.bl (bs.all id), H, I.kept (t' := tk) (LSm.kept_iter hk), rfl, q⟩
theorem i_all {K : Frag} {p : Addr} {bs : List Bool} {H : Hp} {Q : VK} (h : SqL K H p (List.map V.bl bs)) (q : Q (.bl (bs.all id)) H) : rAll K [.ref p] H Q := ⟨p, bs, rfl, h, q⟩
def rInS : R2 := fun x y H Q => ∃ (c : Nat) (j : Str), x = .str ⟨#[c]⟩ ∧ y = .str j ∧ Q (.bl (decide (c ∈ j.cps.toList))) H
theorem op_inS {X : Cx} : OpR X (compareOp .In) rInS := fun pins s σ H x y v u Q I rx ry ⟨c, j, e1, e2, q⟩ => op_in_str pins s σ H x y v u Q I rx ry ⟨⟨#[c]⟩, j, e1, e2, by
  rw [PySem.StrLaws.found_one]; exact q⟩
theorem lcT {K : Frag} {a : Addr} {te : TE} {cs : St} {H1 : Hp} {Q : Addr → Hp → Prop} (xs : List V) (f : V → V) (hS : SqT K H1 a xs) (hz : xs.length ≤ sizeLine)
    (hx : ∀ (i : Nat) (v : V) (H' : Hp) (R : VK), xs[i]? = some v → Same H1 H' → R (f v) H' → te (some v :: cs) H' R) (q : ∀ D H2, New H1 D (.lst (xs.map f)) H2 → Q D H2) :
    ∃ a', V.ref a = .ref a' ∧ (∃ xs, SqT K H1 a' xs) ∧ ∀ D, H1 D = none → ∃ W : Nat → Nat → List V → Hp → Prop, (∃ m, W 0 m [] (upd H1 D (.lst []))) ∧ ∀ i m ys H, W i m ys H →
      H D = some (.lst ys) ∧ (((Itt K a').stop i H ∧ Q D H) ∨ ((Itt K a').go i H ∧ ys.length < sizeLine ∧ ∀ x H', (Itt K a').yld i H x H' → tYes (some x :: cs) H' fun b H2 =>
        if b = true then te (some x :: cs) H2 fun y H3 => H3 D = some (.lst ys) ∧ ∃ m', m' < m ∧ W (i + 1) m' (ys ++ [y]) (upd H3 D (.lst (ys ++ [y]))) else ∃ m', m' < m ∧ W (i + 1) m' ys H2)) := by
  refine ⟨a, rfl, ⟨xs, hS⟩, fun D hD => ?_⟩
  refine ⟨fun i m ys H => m = xs.length - i ∧ i ≤ xs.length ∧ ys = (xs.take i).map f ∧ H = upd H1 D (.lst ys), ⟨xs.length, by simp, Nat.zero_le _, by simp, rfl⟩, ?_⟩
  rintro i m ys H ⟨rfl, hi, hys, rfl⟩
  have s1 : Same H1 (upd H1 D (.lst ys)) := Same.upd (Same.refl H1) hD
  have q1 := s1.tup hS
  refine ⟨upd_same, ?_⟩
  by_cases hlt : i < xs.length
  · have hyl : ys.length = i := by rw [hys, List.length_map, List.length_take]; omega
    refine .inr ⟨⟨xs, xs[i], q1, by simp [hlt]⟩, by omega, fun x H' y => ?_⟩
    obtain ⟨e, y⟩ := y
    subst e
    have hxi := y xs q1
    unfold tYes; dsimp only
    rw [if_pos rfl]
    refine (hx i x _ _ hxi s1 ⟨upd_same, xs.length - (i + 1), by omega, rfl, hlt, ?_, by rw [upd_upd]⟩)
    rw [List.take_add_one, List.map_append, ← hys, hxi]; rfl
  · have e : i = xs.length := by omega
    subst e
    refine .inl ⟨⟨xs, q1, Nat.le_refl _⟩, ?_⟩
    rw [hys, List.take_length]
    exact q D _ ⟨hD, rfl⟩
theorem lcS {te : TE} {cs : St} {H1 : Hp} {Q : Addr → Hp → Prop} (z : Str) (f : Nat → V) (hz : z.length ≤ sizeLine)
    (hx : ∀ (c : Nat) (H' : Hp) (R : VK), c ∈ z.cps.toList → Same H1 H' → R (f c) H' → te (some (.str ⟨#[c]⟩) :: cs) H' R) (q : ∀ D H2, New H1 D (.lst (z.cps.toList.map f)) H2 → Q D H2) :
    ∃ z', V.str z = .str z' ∧ ∀ D, H1 D = none → ∃ W : Nat → Nat → List V → Hp → Prop, (∃ m, W 0 m [] (upd H1 D (.lst []))) ∧ ∀ i m ys H, W i m ys H →
      H D = some (.lst ys) ∧ (((Its z').stop i H ∧ Q D H) ∨ ((Its z').go i H ∧ ys.length < sizeLine ∧ ∀ x H', (Its z').yld i H x H' → tYes (some x :: cs) H' fun b H2 =>
        if b = true then te (some x :: cs) H2 fun y H3 => H3 D = some (.lst ys) ∧ ∃ m', m' < m ∧ W (i + 1) m' (ys ++ [y]) (upd H3 D (.lst (ys ++ [y]))) else ∃ m', m' < m ∧ W (i + 1) m' ys H2)) := by
  refine ⟨z, rfl, fun D hD => ?_⟩
  have hsz : z.cps.toList.length = z.cps.size := Array.length_toList
  have hz' : z.cps.size ≤ sizeLine := hz
  refine ⟨fun i m ys H => m = z.cps.size - i ∧ i ≤ z.cps.size ∧ ys = (z.cps.toList.take i).map f ∧ H = upd H1 D (.lst ys), ⟨z.cps.size, by simp, Nat.zero_le _, by simp, rfl⟩, ?_⟩
  rintro i m ys H ⟨rfl, hi, hys, rfl⟩
  have s1 : Same H1 (upd H1 D (.lst ys)) := Same.upd (Same.refl H1) hD
  refine ⟨upd_same, ?_⟩
  by_cases hlt : i < z.cps.size
  · have hyl : ys.length = i := by rw [hys, List.length_map, List.length_take]; omega
    refine .inr ⟨hlt, by omega, fun x H' y => ?_⟩
    obtain ⟨e, c, hc, rfl⟩ := y
    subst e
    unfold tYes; dsimp only
    rw [if_pos rfl]
    refine (hx c _ _ (List.mem_iff_getElem?.mpr ⟨i, hc⟩) s1 ⟨upd_same, z.cps.size - (i + 1), by omega, rfl, hlt, ?_, by rw [upd_upd]⟩)
    rw [List.take_add_one, List.map_append, ← hys, hc]; rfl
  · have e : i = z.cps.size := by omega
    refine .inl ⟨e, ?_⟩
    have : ys = z.cps.toList.map f := by rw [hys, e, ← hsz, List.take_length]
    rw [this]
    exact q D _ ⟨hD, rfl⟩
def SameB (D : Addr) (H H' : Hp) : Prop := ∀ b u, b ≠ D → H b = some u → H' b = some u
theorem SameB.of {D : Addr} {H H' : Hp} (s : Same H H') : SameB D H H' := fun b u _ e => s b u e
theorem SameB.upd (D : Addr) (H : Hp) (o : HO) : SameB D H (L2.upd H D o) := fun b u n e => by rw [upd_ne n]; exact e
structure LcIt (J : It) (n : Nat) (H1 : Hp) (xs : Nat → V) : Prop where
  go : ∀ i H, i < n → Same H1 H → J.go i H
  yld : ∀ i H x H', i < n → Same H1 H → J.yld i H x H' → H' = H ∧ x = xs i
  stop : ∀ H, Same H1 H → J.stop n H
theorem LcIt.lst {K : Frag} {a : Addr} {H1 : Hp} {xs : List V} (hS : SqL K H1 a xs) : LcIt (Itl K a) xs.length H1 (fun i => xs.getD i .non) where
  go := fun i H hi s => ⟨xs, xs[i], s.seq hS, by simp [hi]⟩
  yld := fun i H x H' hi s y => by
    obtain ⟨e, y⟩ := y
    refine ⟨e, ?_⟩
    have := y xs (s.seq hS)
    rw [List.getD, this]; rfl
  stop := fun H s => ⟨xs, s.seq hS, Nat.le_refl _⟩
theorem lcN {J : It} {n : Nat} {xs : Nat → V} {te : TE} {cs : St} {H1 : Hp} {Q : Addr → Hp → Prop} (L : LcIt J n H1 xs) (Pe : Addr → Nat → V → Hp → Prop) (hz : n ≤ sizeLine)
    (hm : ∀ D i y H H', SameB D H H' → Pe D i y H → Pe D i y H')
    (hx : ∀ (D : Addr) (i : Nat) (H' : Hp) (R : VK), i < n → H1 D = none → (∃ ys, H' D = some (.lst ys)) → Same H1 H' → (∀ y H'', Same H' H'' → Pe D i y H'' → R y H'') → te (some (xs i) :: cs) H' R)
    (q : ∀ D ys H2, H1 D = none → Same H1 H2 → H2 D = some (.lst ys) → ys.length = n → (∀ i y, ys[i]? = some y → Pe D i y H2) → Q D H2) :
    ∀ D, H1 D = none → ∃ W : Nat → Nat → List V → Hp → Prop, (∃ m, W 0 m [] (upd H1 D (.lst []))) ∧ ∀ i m ys H, W i m ys H →
      H D = some (.lst ys) ∧ ((J.stop i H ∧ Q D H) ∨ (J.go i H ∧ ys.length < sizeLine ∧ ∀ x H', J.yld i H x H' → tYes (some x :: cs) H' fun b H2 =>
        if b = true then te (some x :: cs) H2 fun y H3 => H3 D = some (.lst ys) ∧ ∃ m', m' < m ∧ W (i + 1) m' (ys ++ [y]) (upd H3 D (.lst (ys ++ [y]))) else ∃ m', m' < m ∧ W (i + 1) m' ys H2)) := by
  intro D hD
  refine ⟨fun i m ys H => m = n - i ∧ i ≤ n ∧ ys.length = i ∧ H D = some (.lst ys) ∧ Same H1 H ∧ ∀ j y, ys[j]? = some y → Pe D j y H, ⟨n, by simp, Nat.zero_le _, rfl, upd_same, Same.new hD, fun j y e => by simp at e⟩, ?_⟩
  rintro i m ys H ⟨rfl, hi, hyl, hHD, s1, hP⟩
  refine ⟨hHD, ?_⟩
  by_cases hlt : i < n
  · refine .inr ⟨L.go i H hlt s1, by omega, fun x H' y => ?_⟩
    obtain ⟨e, ex⟩ := L.yld i H x H' hlt s1 y
    subst e ex
    unfold tYes; dsimp only
    rw [if_pos rfl]
    refine hx D i _ _ hlt hD ⟨ys, hHD⟩ s1 fun y H'' s2 pe => ⟨s2 _ _ hHD, n - (i + 1), by omega, rfl, hlt, by simp [hyl], upd_same, fun b u e => ?_, fun j y' ej => ?_⟩
    · rw [upd_ne (ne_of_none e hD)]; exact s2 _ _ (s1 _ _ e)
    · refine hm D j y' _ _ (SameB.upd D H'' _) ?_
      by_cases hj : j < ys.length
      · rw [List.getElem?_append_left hj] at ej
        exact hm D j y' _ _ (SameB.of s2) (hP j y' ej)
      · rw [List.getElem?_append_right (by omega)] at ej
        have hj0 : j - ys.length = 0 := by
          by_cases h0 : j - ys.length = 0
          · exact h0
          · rw [List.getElem?_eq_none (by simp; omega)] at ej; cases ej
        rw [hj0] at ej
        have e1 : y = y' := by simpa using ej
        have e2 : j = i := by omega
        rw [← e1, e2]; exact pe
  · have e : i = n := by omega
    subst e
    exact .inl ⟨L.stop H s1, q D ys H hD s1 hHD hyl hP⟩
theorem lcNL {K : Frag} {a : Addr} {te : TE} {cs : St} {H1 : Hp} {Q : Addr → Hp → Prop} (xs : List V) (Pe : Addr → Nat → V → Hp → Prop) (hS : SqL K H1 a xs) (hz : xs.length ≤ sizeLine)
    (hm : ∀ D i y H H', SameB D H H' → Pe D i y H → Pe D i y H')
    (hx : ∀ (D : Addr) (i : Nat) (v : V) (H' : Hp) (R : VK), xs[i]? = some v → H1 D = none → (∃ ys, H' D = some (.lst ys)) → Same H1 H' → (∀ y H'', Same H' H'' → Pe D i y H'' → R y H'') → te (some v :: cs) H' R)
    (q : ∀ D ys H2, H1 D = none → Same H1 H2 → H2 D = some (.lst ys) → ys.length = xs.length → (∀ i y, ys[i]? = some y → Pe D i y H2) → Q D H2) :
    ∃ a', V.ref a = .ref a' ∧ (∃ xs, SqL K H1 a' xs) ∧ ∀ D, H1 D = none → ∃ W : Nat → Nat → List V → Hp → Prop, (∃ m, W 0 m [] (upd H1 D (.lst []))) ∧ ∀ i m ys H, W i m ys H →
      H D = some (.lst ys) ∧ (((Itl K a').stop i H ∧ Q D H) ∨ ((Itl K a').go i H ∧ ys.length < sizeLine ∧ ∀ x H', (Itl K a').yld i H x H' → tYes (some x :: cs) H' fun b H2 =>
        if b = true then te (some x :: cs) H2 fun y H3 => H3 D = some (.lst ys) ∧ ∃ m', m' < m ∧ W (i + 1) m' (ys ++ [y]) (upd H3 D (.lst (ys ++ [y]))) else ∃ m', m' < m ∧ W (i + 1) m' ys H2)) :=
  ⟨a, rfl, ⟨xs, hS⟩, lcN (LcIt.lst hS) Pe hz hm (fun D i H' R hi hD hy s r => by
    refine hx D i _ H' R ?_ hD hy s r
    rw [List.getD, List.getElem?_eq_getElem hi]; rfl) q⟩
structure HasV (K : Frag) (x : Str) (v : V) : Prop where
  ex : ∃ u, nsIn K mainGlobals x = some (some u) ∧ RelV v u
theorem hasV_int {K : Frag} {x : Str} {i : Int} {t : Tok} (h : nsIn K mainGlobals x = some (some (.int i t))) : HasV K x (.int i) := ⟨_, h, ⟨_, rfl⟩⟩
theorem hasV_str {K : Frag} {x : Str} {z : Str} {t : Tok} (h : nsIn K mainGlobals x = some (some (.str z t))) : HasV K x (.str z) := ⟨_, h, ⟨_, rfl⟩⟩
theorem pe_val {X : Cx} {x : Str} {v : V} {pos : Pos} (h : ∃ u, X.mg x = some u ∧ RelV v u) (hg : Gl X x) (hd : (x == ("__debug__" : Str)) = false := by decide) : PE X (.Name x pos) (tC v) := by
  obtain ⟨u, hm, r⟩ := h
  exact pe_glob hg hm r hd
theorem HasV.mg {K : Frag} {x : Str} {v : V} {h : Heap} {mg : Str → Option Value} (V : HasV K x v) (Kb : K.In h) (G : h.Ns mainGlobals mg) : ∃ u, mg x = some u ∧ RelV v u :=
  let ⟨u, a, r⟩ := V.ex
  ⟨u, PySem.W.mg_of Kb G a, r⟩
structure HasCI (K : Frag) (x : Str) (C : Addr) (qual : Str) (st : Stmt) : Prop where
  ns : nsIn K mainGlobals x = some (some (.ref C))
  cl : Cls K C
  ex : ∃ f fd, Mk K C f ∧ Fun K "__init__" qual st f fd
theorem hasCI_mk {K : Frag} {x qual : Str} {C : Addr} {st : Stmt} {f : Addr} {oc : Value} {od an : Option Addr} {osl : Array (Option Value)} {kV doc pm cdv ct : Value} (a : nsIn K mainGlobals x = some (some (.ref C))) (pg : plainGet K C Str.empty = true) (hd : hasDictIn K C = true) (po : plainOver K C = true)
    (sa : findIn K (.ref C) "__setattr__" = some (some (.builtin "object.__setattr__"))) (mk : makesIn K C = true) (i : findIn K (.ref C) "__init__" = some (some (.ref f))) (fn : isFn K (.ref f) = true) (kc : keepIn K (.ref C) = true)
    (l : K.lookup f = some ⟨oc, od, .func (PySem.W.fnOf "__init__" qual (defArgs st) (defBody st) (defScope st) .none kV doc pm an cdv ct), osl⟩)
    (c : codeIn K cdv qual = true) (k : keepIn K (.ref f) = true) : HasCI K x C qual st :=
  ⟨a, ⟨pg, hd, po, sa⟩, f, _, ⟨mk, i, fn, kc⟩, fun_mk l c k⟩
structure MkI (P : Program) (w : World) (K : Frag) (mg : Str → Option Value) (base : Heap) (k : Nat) (C : Addr) (ps : List Str) (sp : Sp) : Prop where
  ex : ∃ f fd, Mk K C f ∧ FnOk P w K mg base CX0 k f fd ps sp ∧ Binds K fd ps []
theorem HasCI.mki {P : Program} {w : World} {K : Frag} {mg : Str → Option Value} {base : Heap} {k : Nat} {x : Str} {C : Addr} {qual : Str} {st : Stmt} {N ps : List Str} {sp : Sp} (F : HasCI K x C qual st) (S : FnScope N ps (defScope st))
    (hbi : ∀ (kV doc pm : Value) (an : Option Addr) (cdv ct : Value) (us : List Value), us.length = ps.length → bindArgs (PySem.W.fnOf "__init__" qual (defArgs st) (defBody st) (defScope st) .none kV doc pm an cdv ct) ⟨us, []⟩ = pure (ps.zip us))
    (len : ∀ vs H Q E, sp vs H Q E → vs.length = ps.length)
    (hbody : ∀ (f : Addr) (cdv : Value) (A : Around) (outer : List Env) (s : Shared) (H : Hp) (vs : List V) (Q : VK) (E : XK), Room k (A.deeper (envOfC qual (defScope st) s.heap.objs.size f cdv)) → sp vs H Q E →
      ∃ t, PSs (cxOf CX0 P w K mg base N qual (defScope st) f cdv A outer s H E).nox (defBody st) t ∧ t { nx := fun _ H' => Q .non H', rt := Q } (start N vs) H) :
    MkI P w K mg base (k + 1) C ps sp := by
  obtain ⟨f, fd, a, F⟩ := F.ex
  exact ⟨f, fd, a, F.ok S len (hbody f), F.binds hbi⟩
theorem pe_makeI {X : Cx} {k : Nat} {C : Addr} {x : Str} {ps : List Str} {sp : Sp} {e : Expr} {es : List Expr} {t : TA} {p pos : Pos} (M : MkI X.prog X.w X.K X.mg X.base k C ps sp) (hr : Room (k + 1) X.A) (hg : Gl X x) (hm : X.mg x = some (.ref C)) (ha : PA X (e :: es) t)
    (hdb : (x == ("__debug__" : Str)) = false := by decide) (he : starEach (e :: es) X.env = (false, eval e X.env) :: starEach es X.env := by rfl) (hpl : (backTo pos (starEach es X.env)).any (·.1) = false := by rfl) :
    PE X (.Call (.Name x p) (e :: es) [] pos) (tMake C sp [] E0 t) := by
  obtain ⟨f, fd, m, F, hb⟩ := M.ex
  exact pe_make m F hr hg hm hb .nil pass0 ha hdb he hpl
theorem i_makeI {C : Addr} {sp : Sp} {t : TA} {σ : St} {H : Hp} {Q : VK} (q : t σ H fun vs H1 => ∀ x dx, H1 x = none → H1 dx = none → dx ≠ x → sp (.ref x :: (vs ++ [])) (upd (upd H1 dx (.own x)) x (.ins C dx [])) (fun v H2 => v = .non ∧ Q (.ref x) H2) E0) : tMake C sp [] E0 t σ H Q := q
section
variable {X : Cx} {K : Frag}
theorem ix_seqK (h : X.K = K) : IxR X (rIx K) := h ▸ ix_seq
theorem call_isiK (h : X.K = K) : CallR X (.builtin "isinstance") (rIsi K) := h ▸ call_isi
theorem call_tupleK (h : X.K = K) : CallR X (.type "tuple") (rTupleA K) := h ▸ call_tupleA
end
section
variable {K : Frag} {σ : St} {H : Hp} {Q : VK} {D : Ends}
theorem i_tupI {tl : TE} {R : It → Hp → Prop} (q : tl σ H fun x H1 => ∃ a, x = .ref a ∧ (∃ xs, SqT K H1 a xs) ∧ R (Itt K a) H1) : iTup K tl σ H R := q
theorem i_strI {tl : TE} {R : It → Hp → Prop} (q : tl σ H fun x H1 => ∃ z, x = .str z ∧ R (Its z) H1) : iStr tl σ H R := q
theorem i_enumI {ta : TA} {R : It → Hp → Prop} (q : ta σ H fun vs H1 => ∃ l, vs = [.ref l] ∧ (∃ xs, SqL K H1 l xs) ∧ R (Ite K l) H1) : iEnum K ta σ H R := q
theorem i_fld {ta : TE} {f : Str} (q : ta σ H fun x H1 => ∃ a C dx fs v, x = .ref a ∧ H1 a = some (.ins C dx fs) ∧ Cls K C ∧ NoAttr K C f ∧ fs.lookup f = some v ∧ Q v H1) : tFld K ta f σ H Q := q
theorem i_setFld {ta tv : TE} {f : Str} (q : tv σ H fun y H1 => ta σ H1 fun x H2 => ∃ a C dx fs, x = .ref a ∧ H2 a = some (.ins C dx fs) ∧ Cls K C ∧ NoAttr K C f ∧ fs.length < 1000 ∧ D.nx σ (upd H2 a (.ins C dx (putF f y fs)))) : sFld K ta tv f D σ H := q
theorem i_dget2 {td ty tx : TE} (q : td σ H fun x H1 => ∃ a, x = .ref a ∧ IsD H1 a ∧ ty σ H1 fun y H2 => tx σ H2 fun z H3 => ∃ o, DGet H3 a y o ∧ Q (o.getD z) H3) : tDGet2 td ty tx σ H Q := q
theorem i_dput {td ty tv : TE} (q : tv σ H fun v H1 => td σ H1 fun x H2 => ty σ H2 fun y H3 => ∃ a H4, x = .ref a ∧ DPut H3 a y v H4 ∧ D.nx σ H4) : sDPut td ty tv D σ H := q
theorem i_dnew (q : ∀ p, H p = none → Q (.ref p) (upd H p (.dK []))) : tDNewK σ H Q := q
theorem i_chain {r r' : R2} {ta tb tc : TE} (q : ta σ H fun x H1 => tb σ H1 fun y H2 => r x y H2 fun z H3 => ∃ k, z = .bl k ∧ (if k = true then tc σ H3 fun w' H4 => r' y w' H4 Q else Q (.bl false) H3)) : tChain r r' ta tb tc σ H Q := q
theorem i_append {l : Addr} {xs : List V} {y : V} (h : H l = some (.lst xs)) (z : xs.length < sizeLine) (q : Q .non (upd H l (.lst (xs ++ [y])))) : rAppend (.ref l) [y] H Q := ⟨l, xs, y, rfl, rfl, h, z, q⟩
theorem i_inS {c : Nat} {j : Str} (q : Q (.bl (decide (c ∈ j.cps.toList))) H) : rInS (.str ⟨#[c]⟩) (.str j) H Q := ⟨c, j, rfl, rfl, q⟩
theorem i_isiI {i : Int} (kII : kitOne K (.type "int") (.type "int") = some true) (q : Q (.bl true) H) : rIsi K [.int i, .ty "int"] H Q := ⟨_, _, _, _, rfl, rfl, .int i, kII, q⟩
theorem i_isiT {a : Addr} {xs : List V} {T : String} {b : Bool} (e : H a = some (.tup xs)) (k : kitOne K (.type "tuple") (.type T) = some b) (q : Q (.bl b) H) : rIsi K [.ref a, .ty T] H Q := ⟨_, _, _, _, rfl, rfl, .tup e, k, q⟩
theorem i_isiL {a : Addr} {xs : List V} {T : String} {b : Bool} (e : H a = some (.lst xs)) (k : kitOne K (.type "list") (.type T) = some b) (q : Q (.bl b) H) : rIsi K [.ref a, .ty T] H Q := ⟨_, _, _, _, rfl, rfl, .lst e, k, q⟩
theorem i_gtup {n : Nat} {t : TGs} {a : Addr} {xs : List V} {Q : St → Hp → Prop} (h : SqT K H a xs) (l : xs.length = n) (q : t xs σ H Q) : gTup K n t (.ref a) σ H Q := ⟨a, xs, rfl, h, l, q⟩
theorem i_gcons {t : TG} {u : TGs} {v : V} {r : List V} {Q : St → Hp → Prop} (q : t v σ H fun σ' H' => u r σ' H' Q) : gCons t u (v :: r) σ H Q := ⟨v, r, rfl, q⟩
theorem i_gnil {Q : St → Hp → Prop} (q : Q σ H) : gNil [] σ H Q := ⟨rfl, q⟩
end
end L2
set_option maxRecDepth 100000
set_option Elab.async false
set_option linter.all false
namespace HT
open PySem PySem.Spec PyProof.Rows
section
variable {prog : Program} {w : World} {A : Around} {E : Value → Shared → Prop} {s : Shared}
end
end HT
namespace L2
open PySem PySem.Spec PySem.W PyProof.Rows
section
variable {X : Cx} {k : Nat} {f C : Addr} {fd : FuncData} {ps : List Str} {sp : Sp} {ES : XS} {x : Str} {p pos : Pos} {e : Expr} {es : List Expr} {t : TA} {dvs : List V} {ds : List Value}
end
section
variable {X : Cx}
def rSum (K : Frag) : List V → Hp → VK → Prop := fun xs H Q => ∃ p ns, xs = [.ref p] ∧ SqL K H p (List.map V.int ns) ∧ Q (.int ns.sum) H
theorem call_sum (hc : X.calm = true) : CallR X (.builtin "sum") (rSum X.K) := by
  intro pins s σ H xs us Q I r h
  obtain ⟨p, ns, rfl, hS, q⟩ := h
  obtain ⟨u, rfl, ru⟩ := r.one
  cases ru
  obtain ⟨its, rv, pl, hz⟩ := I.list hS
  have hi : IntsAre its ns := intsAre_of rv
  obtain ⟨xs, hx⟩ := hi.allInts.items
  have hl' : s.heap.IsList p (intItems xs) := by rw [← hx]; exact pl.isList
  refine sum_intListG (I.ok.hd hc) hl' fun h' tk t' hk => ?_
  have e1 : ns = xs.toList.map (·.1) := by
    rw [← nums_intItems, ← hx]
    exact (show numsOf its.toArray.toList = ns from hi.numsOf).symm
  have e2 : preSum (numAt xs) xs.size = ns.sum := by
    rw [preSum_eq, List.take_of_length_le (by simp), e1]
  rw [e2]
  exact ⟨.int ns.sum, H, I.kept (t' := tk) hk, ⟨_, rfl⟩, q⟩
theorem i_sum {K : Frag} {p : Addr} {ns : List Int} {H : Hp} {Q : VK} (h : SqL K H p (List.map V.int ns)) (q : Q (.int ns.sum) H) : rSum K [.ref p] H Q := ⟨p, ns, rfl, h, q⟩
end
section
variable {X : Cx}
end
section
variable {prog : Program} {w : World} {A : Around} {E : Value → Shared → Prop} {s : Shared}
end
theorem boot_sum0 : bootBuiltins "sum" = some (.builtin "sum") := by decide +kernel
end L2
set_option maxRecDepth 100000
set_option Elab.async false
set_option linter.all false
namespace HT
open PySem PySem.Spec PyProof.Rows
section
variable {prog : Program} {w : World} {A : Around} {E : Value → Shared → Prop} {s : Shared}
end
end HT
namespace L2
open PySem PySem.Spec PySem.W PyProof.Rows
section
variable {X : Cx}
end
def Itr3 (lo st : Int) (n : Nat) : It := ⟨fun i _ => i < n, fun i H x H' => H' = H ∧ x = .int (lo + i * st), fun i _ => n ≤ i⟩
theorem turn_range3 {P : Program} {w : World} {K : PySem.W.Frag} {tg : Expr} (it : Addr) (lo st : Int) (n : Nat) : Turn P w K tg (Itr3 lo st n) [it] it (fun i h => IsRangeIter h it (lo + (i : Nat) * st) ((n : Int) - (i : Nat)) st) where
  mem := by simp
  obj := fun i h st b hb => by
    have e : b = it := by simpa using hb
    subst e
    exact ⟨_, st, fun v z => by
      have z' : Data.fields _ = Data.cell v := z
      cases z'⟩
  keep := fun i h h' st k => k it (by simp) _ st
  item := by
    intro X hP hw hK hc i pins s σ H E I hf st hg
    subst hP hw hK
    obtain ⟨f0, f1, f2, f3, f4, f5⟩ := hf it (by simp)
    have W := Walks.range (prog := X.prog) (w := X.w) (I.ok.hd hc) it lo ‹Int› n
    refine W.item i s _ _ hg st fun v h' tk hv st' kk => ?_
    obtain ⟨t, rfl⟩ := hv
    have I1 : Inv X pins σ H { s with heap := h', toks := tk } := I.turned (fun b o hb e => kk b o (by simpa using hb) e) f0 f1 f3 f4 f5
    exact ⟨_, rfl, go_of (s := { s with heap := h', toks := tk }) (n := "range_iterator") st' rfl rfl (by decide) ⟨.int _, H, I1, ⟨t, rfl⟩, ⟨rfl, rfl⟩, st', fun b hb => (hf b hb).1⟩⟩
  done := by
    intro X hP hw hK hc i pins s σ H E I hf st hg
    subst hP hw hK
    obtain ⟨f0, f1, f2, f3, f4, f5⟩ := hf it (by simp)
    exact wpAny_pyNext_range_end (I.ok.hd hc) st (by have : n ≤ i := hg; omega) fun h' eb => ⟨rfl, I.turned (t' := s.toks) (fun b o hb e => eb b o hb e) f0 f1 f3 f4 f5⟩
  self := fun _ _ _ _ _ st h => wpAny_pyIter_rangeiter st h
theorem small_step {a b c : Int} (ha : 0 ≤ a) (ha' : a < 2 ^ 30) (hb : 0 ≤ b) (hb' : b < 2 ^ 30) (hc : 0 < c) (hc' : c < 2 ^ 30) : Builtin.Range.small a b c = true := by
  have h1 := PyProof.Rows.rangeSize_toNat a b c
  have h2 := PyProof.Rows.rangeSize_toNat_le a b c
  generalize hn : Builtin.Range.rangeSize a b c = n at *
  unfold Builtin.Range.small
  rw [if_pos hc]
  simp only [Builtin.Range.rangeFitsLong, hn, Bool.and_eq_true, Bool.or_eq_true, decide_eq_true_eq, beq_iff_eq]
  refine ⟨?_, Or.inr ?_⟩
  · repeat' constructor
    all_goals omega
  · constructor <;> omega
section
variable {X : Cx} {tg : Expr}
def iRng3 (ta : TA) : TI := fun σ H R => ta σ H fun vs H1 => ∃ i j c : Int, vs = [.int i, .int j, .int c] ∧ (0 ≤ i ∧ i < 2 ^ 30 ∧ 0 ≤ j ∧ j < 2 ^ 30 ∧ 0 < c ∧ c < 2 ^ 30) ∧ R (Itr3 i c (Builtin.Range.rangeSize i j c).toNat) H1
theorem range_it3 {pins : List (Addr × Obj)} {σ : St} {H : Hp} {s : Shared} {R : It → Hp → Prop} {E : Value → Shared → Prop} {lo hi st : Int} {t u v : Tok} {tk : Nat} (I : Inv X pins σ H s) (hs : Builtin.Range.small lo hi st = true)
    (q : R (Itr3 lo st (Builtin.Range.rangeSize lo hi st).toNat) H) : wpAny (model X.prog X.w) X.A (pyIter (.ref s.heap.objs.size)) (PIE X pins σ tg R) E { s with heap := s.heap.push { cls := .type "range", data := .fields #[.int lo t, .int hi u, .int st v] }, toks := tk } := by
  refine wpAny_pyIter_range (IsRange.new ..) hs ?_
  have I1 : Inv X pins σ H { s with heap := s.heap.push { cls := .type "range", data := .fields #[.int lo t, .int hi u, .int st v] }, toks := tk } := I.kept fun b o e => Heap.get?_push_of_some _ e
  refine ⟨(s.heap.push { cls := .type "range", data := .fields #[.int lo t, .int hi u, .int st v] }).objs.size, [(s.heap.push { cls := .type "range", data := .fields #[.int lo t, .int hi u, .int st v] }).objs.size], _, _, H, rfl,
    I1.kept (t' := tk) fun b o e => Heap.get?_push_of_some _ e, turn_range3 _ lo st (Builtin.Range.rangeSize lo hi st).toNat, ?_, fun b hb => ?_, q⟩
  · have e1 : lo + ((0 : Nat) : Int) * st = lo := by simp
    have e2 : (((Builtin.Range.rangeSize lo hi st).toNat : Nat) : Int) - ((0 : Nat) : Int) = Builtin.Range.rangeSize lo hi st := by rw [← PyProof.Rows.rangeSize_toNat]; simp
    show IsRangeIter _ _ (lo + ((0 : Nat) : Int) * st) ((((Builtin.Range.rangeSize lo hi st).toNat : Nat) : Int) - ((0 : Nat) : Int)) st
    rw [e1, e2]
    exact Heap.get?_push_size _ rfl
  · have e : b = (s.heap.push { cls := .type "range", data := .fields #[.int lo t, .int hi u, .int st v] }).objs.size := by simpa using hb
    subst e
    exact I1.fpOk (Nat.le_refl _) (I1.hok.fresh (Nat.le_refl _))
theorem pi_range3 {a b c : Expr} {ta : TA} {p pos : Pos} (hg : Gl X "range") (hm : X.mg "range" = none) (ha : PA X [a, b, c] ta) (hs : starEach [a, b, c] X.env = [(false, eval a X.env), (false, eval b X.env), (false, eval c X.env)] := by rfl)
    (hs2 : starEach [b, c] X.env = [(false, eval b X.env), (false, eval c X.env)] := by rfl) :
    PI X tg (.Call (.Name "range" p) [a, b, c] [] pos) (iRng3 ta) := by
  intro pins s σ H R I h
  refine Call_ (ld_blt I hg hm boot_range (PyProof.Rows.callWith_type1 (thn (ha pos pins s σ H _ I h) fun us s1 ⟨vs, H1, I1, r1, q1⟩ => ?_) (by rw [hs, hs2]) (by rw [hs2]; rfl)))
  obtain ⟨i, j, c, e, ⟨q1, q2, q3, q4, q5, q6⟩, q⟩ := q1
  subst e
  cases r1 with
  | cons r rr =>
    cases rr with
    | cons r' rr =>
      cases rr with
      | cons r'' rr =>
        cases rr
        obtain ⟨t, rfl⟩ := r
        obtain ⟨t', rfl⟩ := r'
        obtain ⟨t'', rfl⟩ := r''
        exact call_range_3 (by omega) (range_it3 I1 (small_step q1 q2 q3 q4 q5 q6) q) (Or.inl (PyProof.noPylong_small (by omega)))
theorem i_rng3 {ta : TA} {σ : St} {H : Hp} {R : It → Hp → Prop} (q : ta σ H fun vs H1 => ∃ i j c : Int, vs = [.int i, .int j, .int c] ∧ (0 ≤ i ∧ i < 2 ^ 30 ∧ 0 ≤ j ∧ j < 2 ^ 30 ∧ 0 < c ∧ c < 2 ^ 30) ∧ R (Itr3 i c (Builtin.Range.rangeSize i j c).toNat) H1) : iRng3 ta σ H R := q
end
theorem LcIt.rng3 {lo st : Int} {n : Nat} {H1 : Hp} : LcIt (Itr3 lo st n) n H1 (fun i => .int (lo + i * st)) where
  go := fun i H hi s => hi
  yld := fun i H x H' hi s y => y
  stop := fun H s => Nat.le_refl _
theorem step_lt {i j c : Int} {k : Nat} (hc : 0 < c) (hk : k < (Builtin.Range.rangeSize i j c).toNat) : i + k * c < j := by
  unfold Builtin.Range.rangeSize at hk
  rw [if_pos hc] at hk
  by_cases hab : i < j
  · rw [if_pos hab] at hk
    have h1 : (k : Int) ≤ (j - i - 1) / c := by
      have := Int.ediv_nonneg (a := j - i - 1) (b := c) (by omega) (by omega)
      omega
    have h2 := (Int.le_ediv_iff_mul_le hc).mp h1
    omega
  · rw [if_neg hab] at hk; simp at hk
section
variable {X : Cx}
theorem strsAre_of {zs : List Str} : ∀ {us : List Value}, Vals (zs.map V.str) us → ∃ l : List (Str × Tok), us = strValues l ∧ l.map (·.1) = zs := by
  induction zs with
  | nil => intro us r; cases r; exact ⟨[], rfl, rfl⟩
  | cons z zs ih =>
    intro us r
    cases r with
    | cons r1 r2 =>
      obtain ⟨t, rfl⟩ := r1
      obtain ⟨l, rfl, e⟩ := ih r2
      exact ⟨(z, t) :: l, rfl, by rw [List.map_cons, e]⟩
theorem join_cps : ∀ zs : List Str, (Str.join (Str.ofString "") zs).cps.toList = (zs.map fun z => z.cps.toList).flatten
  | [] => rfl
  | [z] => by simp [Str.join]
  | z :: y :: r => by
    have ih := join_cps (y :: r)
    have e : Str.join (Str.ofString "") (z :: y :: r) = z ++ Str.ofString "" ++ Str.join (Str.ofString "") (y :: r) := rfl
    have e0 : (Str.ofString "").cps.toList = [] := by decide +kernel
    rw [e, List.map_cons, List.flatten_cons, ← ih]
    show ((z.cps ++ (Str.ofString "").cps) ++ _).toList = _
    rw [Array.toList_append, Array.toList_append, e0, List.append_nil]
theorem join_ok : ∀ (zs : List Str) (n : Nat), (∀ z ∈ zs, z.length ≤ 1) → zs.foldl (fun a z => a + z.length + (Str.ofString "").length) n ≤ n + zs.length
  | [], n, _ => Nat.le_refl _
  | z :: zs, n, h => by
    have := join_ok zs (n + z.length + (Str.ofString "").length) fun y hy => h y (List.mem_cons_of_mem _ hy)
    have h1 := h z List.mem_cons_self
    have e0 : (Str.ofString "").length = 0 := by decide +kernel
    rw [List.foldl_cons, List.length_cons]
    omega
def rJoin (K : Frag) : V → List V → Hp → VK → Prop := fun x vs H Q => ∃ (p : Addr) (zs : List Str), x = .str (Str.ofString "") ∧ vs = [.ref p] ∧ SqL K H p (zs.map V.str) ∧ (∀ z ∈ zs, z.length ≤ 1) ∧ zs.length ≤ 1000 ∧
  ∀ r : Str, r.cps.toList = (zs.map fun z => z.cps.toList).flatten → Q (.str r) H
theorem mt_join : MtR X "str.join" (rJoin X.K) := by
  intro pins s σ H x vs v us Q I rx rv h
  obtain ⟨p, zs, rfl, rfl, hp, h1, hl, q⟩ := h
  obtain ⟨t, rfl⟩ := rx
  obtain ⟨u, rfl, ru⟩ := rv.one
  cases ru
  obtain ⟨its, r, pl, _⟩ := I.list hp
  obtain ⟨l, rfl, e⟩ := strsAre_of r
  have hok : JoinOk (Str.ofString "") zs = true := by
    have h2 := join_ok zs 0 h1
    have hline : 1000 ≤ sizeLine := by rw [sizeLine_eq]; decide
    unfold JoinOk Builtin.Str.tooLong
    rw [List.foldl_toArray]
    simp only [Bool.not_eq_true', decide_eq_false_iff_not]
    omega
  refine SC.join (texts := zs) pl.isList e hok fun t' k => ?_
  refine ⟨.str _, H, I.tok k, ⟨t', rfl⟩, q _ ?_⟩
  show (Builtin.Str.glued (Str.ofString "") zs).cps.toList = _
  rw [PySem.StrLaws.glued_eq_join, join_cps]
theorem i_joinS {K : Frag} {p : Addr} {zs : List Str} {H : Hp} {Q : VK} (h : SqL K H p (zs.map V.str)) (h1 : ∀ z ∈ zs, z.length ≤ 1) (hl : zs.length ≤ 1000) (q : ∀ r : Str, r.cps.toList = (zs.map fun z => z.cps.toList).flatten → Q (.str r) H) : rJoin K (.str (Str.ofString "")) [.ref p] H Q := ⟨p, zs, rfl, rfl, h, h1, hl, q⟩
end
section
variable {X : Cx} {e : Expr} {t : TA} {p p' pos pos' : Pos}
end
section
variable {σ : St} {H : Hp} {Q : VK} {td ty : TE}
end
def rRepC : R2 := fun x y H Q => ∃ (c : Nat) (n : Int), x = .str ⟨#[c]⟩ ∧ y = .int n ∧ 1 ≤ n ∧ n ≤ 100 ∧ ∀ r : Str, r.cps.toList = List.replicate n.toNat c → Q (.str r) H
theorem fold_rep (c : Nat) : ∀ (n : Nat) (a : Array Nat), ((List.replicate n (#[c] : Array Nat)).foldl (· ++ ·) a).toList = a.toList ++ List.replicate n c
  | 0, a => by simp
  | n + 1, a => by
    rw [List.replicate_succ, List.foldl_cons, fold_rep c n]
    simp [List.replicate_succ]
theorem op_repC {X : Cx} : OpR X (binaryOp .Mult) rRepC := by
  intro pins s σ H x y v u Q I rx ry h
  obtain ⟨c, n, rfl, rfl, h1, h2, q⟩ := h
  obtain ⟨t, rfl⟩ := rx
  obtain ⟨t', rfl⟩ := ry
  have hline : 1000 ≤ sizeLine := by rw [sizeLine_eq]; decide
  have hz : (⟨#[c]⟩ : Str).length = 1 := rfl
  refine PySem.P.mul_str (by simp only [Bool.or_eq_false_iff, decide_eq_false_iff_not]; constructor <;> omega) (fun _ _ => ?_) (fun _ _ => ?_) ?_
  · intro hh
    have : (((⟨#[c]⟩ : Str).length : Nat) : Int) ≤ (2 ^ 63 - 1) / n := by
      rw [Int.le_ediv_iff_mul_le (by omega), hz]
      omega
    omega
  · show decide ((⟨#[c]⟩ : Str).length * n.toNat > sizeLine) = false
    rw [hz]
    exact decide_eq_false (by omega)
  · rw [if_neg (by omega)]
    by_cases h1' : (n == 1 || (⟨#[c]⟩ : Str).length == 0) = true
    · rw [if_pos h1']
      have : n = 1 := by
        rw [Bool.or_eq_true] at h1'
        rcases h1' with e | e
        · simpa using e
        · rw [hz] at e; cases e
      exact ⟨.str ⟨#[c]⟩, H, I, ⟨_, rfl⟩, q _ (by rw [this]; rfl)⟩
    · rw [if_neg h1']
      have hf : ((List.replicate n.toNat (#[c] : Array Nat)).foldl (· ++ ·) #[]).toList = List.replicate n.toNat c := by rw [fold_rep]; simp
      have hs : ((List.replicate n.toNat (#[c] : Array Nat)).foldl (· ++ ·) #[]).size ≤ sizeLine := by
        rw [← Array.length_toList, hf, List.length_replicate]; omega
      exact ⟨hs, .str _, H, I.tok _, ⟨_, rfl⟩, q _ hf⟩
theorem i_repC {c : Nat} {n : Int} {H : Hp} {Q : VK} (h1 : 1 ≤ n) (h2 : n ≤ 100) (q : ∀ r : Str, r.cps.toList = List.replicate n.toNat c → Q (.str r) H) : rRepC (.str ⟨#[c]⟩) (.int n) H Q := ⟨c, n, rfl, rfl, h1, h2, q⟩
end L2
set_option maxRecDepth 100000
set_option Elab.async false
set_option linter.all false
namespace L2
open PySem PySem.Spec PySem.W PyProof.Rows
section
variable {X : Cx} {pins : List (Addr × Obj)} {σ : St} {H : Hp} {s : Shared}
end
section
variable {X : Cx}
open Classical in
open Classical in
end
theorem LcIt.tup {K : Frag} {a : Addr} {H1 : Hp} {xs : List V} (hS : SqT K H1 a xs) : LcIt (Itt K a) xs.length H1 (fun i => xs.getD i .non) where
  go := fun i H hi s => ⟨xs, xs[i], s.tup hS, by simp [hi]⟩
  yld := fun i H x H' hi s y => by
    obtain ⟨e, y⟩ := y
    refine ⟨e, ?_⟩
    have := y xs (s.tup hS)
    rw [List.getD, this]; rfl
  stop := fun H s => ⟨xs, s.tup hS, Nat.le_refl _⟩
end L2
set_option maxRecDepth 100000
set_option Elab.async false
set_option linter.all false
namespace L2
open PySem PySem.Spec PySem.W PyProof.Rows
section
variable {X : Cx} {scope : Scope} {x : Str} {caps : List Str} {ix : List Nat} {pins : List (Addr × Obj)} {σ : St} {H : Hp} {s : Shared}
end
end L2
set_option maxRecDepth 100000
set_option Elab.async false
set_option linter.all false
namespace L2
open PySem PySem.Spec PySem.W PyProof.Rows
section
variable {X : Cx} {scope : Scope} {xs : List Str} {caps : List Str} {ix : List Nat} {pins : List (Addr × Obj)} {σ : St} {H : Hp} {s : Shared}
end
end L2
set_option Elab.async false
set_option linter.all false
set_option maxHeartbeats 4000000
namespace L2
open PySem PyProof PyProof.Rows PySem.W
section
variable {X : Cx}
end
end L2
set_option Elab.async false
set_option linter.all false
set_option maxHeartbeats 4000000
set_option maxRecDepth 100000
namespace PySem
open Sem (wp)
namespace F
end F
section
variable {prog : Program} {w : World} {K : Type} [DecidableEq K] {knd : KeyKind prog w K} {A : Around} {R : Result → Shared → Prop}
end
section
variable {w : World} {prog : Program} {K : Type} [DecidableEq K] {knd : KeyKind prog w K} {s : Shared} {A : Around} {E : Value → Shared → Prop}
end
end PySem
namespace L2
open PySem PyProof PyProof.Rows PySem.W
section
variable {X : Cx}
theorem pe_bmK {K : PySem.W.Frag} {T : String} {name : Str} {id : String} {r : V → List V → Hp → VK → Prop} {o e : Expr} {es : List Expr} {to : TE} {t : TA} {apos cpos : Pos} (hK : X.K = K) (pa : PlainAttrs T) (slot : Slot T name id) (hty : typeOf (.builtin id) = pure (.type "method_descriptor")) (hm : MtR X id r) (ho : PE X o to) (ha : PA X (e :: es) t)
    (hbase : attributeBase o name X.env (eval o X.env) = eval o X.env := by rfl)
    (hfew : ((backTo cpos (starEach (e :: es) X.env)).all (fun x => !x.1) && (backToKw cpos (keywordEach [] X.env)).all (fun x => x.1.isSome)
      && decide ((e :: es).length + ([] : List Keyword).length + (if ([] : List Keyword).isEmpty then 0 else 1) < 30)) = true := by rfl)
    (hline : (apos.endLine == cpos.line) = true := by rfl) (hs : starEach (e :: es) X.env = (false, eval e X.env) :: starEach es X.env := by rfl) (hplain : (backTo cpos (starEach es X.env)).any (·.1) = false := by rfl) :
    PE X (.Call (.Attribute o name apos) (e :: es) [] cpos) (tBM K T r to t) := hK ▸ pe_bm pa slot hty hm ho ha hbase hfew hline hs hplain
end
end L2
set_option Elab.async false
set_option linter.all false
set_option maxHeartbeats 4000000
set_option maxRecDepth 100000
namespace L2
open PySem PySem.Spec PyProof PyProof.Rows PySem.W
section
variable {X : Cx} {pins : List (Addr × Obj)} {σ : St} {H : Hp} {s : Shared}
end
section
variable {X : Cx} {pins : List (Addr × Obj)} {σ : St} {H : Hp} {s : Shared}
end
section
variable {X : Cx}
end
end L2
set_option Elab.async false
set_option linter.all false
set_option maxHeartbeats 4000000
set_option maxRecDepth 100000
namespace L2
open PySem PySem.Spec PyProof PyProof.Rows PySem.W
def numT (n : Nat) : Str := Str.ofString (toString (n : Int))
def NumOk (n : Nat) : Prop := n ≤ 10 ^ 60
theorem num_log {n : Nat} (h : NumOk n) : ((n : Int)).natAbs.log2 < 1920 := by
  rw [Int.natAbs_natCast]
  by_cases h0 : n = 0
  · rw [h0]; decide +kernel
  · have e : (10 : Nat) ^ 60 < 2 ^ 1920 := by decide +kernel
    exact (Nat.log2_lt h0).mpr (Nat.lt_of_le_of_lt h e)
theorem numT_cps (n : Nat) : (numT n).cps.toList = (Nat.toDigits 10 n).map Char.toNat := by
  unfold numT
  rw [signs_ofString]
  have e : (toString (n : Int)).toList = Nat.toDigits 10 n := by
    show (Int.repr (n : Int)).toList = _
    show (Nat.repr n).toList = _
    unfold Nat.repr
    exact String.toList_ofList
  rw [e]
theorem digitChar_code : ∀ d, d < 10 → 48 ≤ (Nat.digitChar d).toNat ∧ (Nat.digitChar d).toNat ≤ 57 := by decide
theorem digits_all : ∀ n : Nat, ∀ c ∈ (Nat.toDigits 10 n).map Char.toNat, 48 ≤ c ∧ c ≤ 57 := by
  intro n
  induction n using Nat.strongRecOn with
  | _ n ih =>
    by_cases h : n < 10
    · rw [Nat.toDigits_of_lt_base h]
      intro c hc
      have e : c = (Nat.digitChar n).toNat := by simpa using hc
      rw [e]; exact digitChar_code n h
    · have hm : n % 10 < 10 := Nat.mod_lt n (by decide)
      have t : Nat.toDigits 10 n = Nat.toDigits 10 (n / 10) ++ Nat.toDigits 10 (n % 10) := by
        have t0 := Nat.toDigits_append_toDigits (b := 10) (n := n / 10) (d := n % 10) (by decide) (by omega) hm
        rw [t0, show 10 * (n / 10) + n % 10 = n by omega]
      rw [t, List.map_append]
      intro c hc
      rcases List.mem_append.mp hc with z | z
      · exact ih (n / 10) (by omega) c z
      · rw [Nat.toDigits_of_lt_base hm] at z
        have e : c = (Nat.digitChar (n % 10)).toNat := by simpa using z
        rw [e]; exact digitChar_code _ hm
theorem numT_digits (n : Nat) : ∀ c ∈ (numT n).cps.toList, 48 ≤ c ∧ c ≤ 57 := by rw [numT_cps]; exact digits_all n
section
variable {X : Cx}
def rStrI : List V → Hp → VK → Prop := fun xs H Q => ∃ n : Nat, xs = [.int (n : Int)] ∧ NumOk n ∧ Q (.str (numT n)) H
theorem call_strI : CallR X (.type "str") rStrI := by
  intro pins s σ H xs us Q I r h
  obtain ⟨n, rfl, hn, q⟩ := h
  obtain ⟨u, rfl, rx⟩ := vals1 r
  obtain ⟨t, rfl⟩ := rx
  exact PySem.P.str_of_int (num_log hn) ⟨.str (numT n), H, I.tok _, ⟨_, rfl⟩, q⟩
def rIntT : List V → Hp → VK → Prop := fun xs H Q => ∃ (z : Str) (i : Int), xs = [.str z] ∧ PySem.intText? z = some i ∧ z.length ≤ 640 ∧ Q (.int i) H
theorem call_intT : CallR X (.type "int") rIntT := by
  intro pins s σ H xs us Q I r h
  obtain ⟨z, i, rfl, hi, hl, q⟩ := h
  obtain ⟨u, rfl, rx⟩ := vals1 r
  obtain ⟨t, rfl⟩ := rx
  exact PySem.W.KIN.call_text hi hl ⟨.int i, H, I.tok _, ⟨_, rfl⟩, q⟩
theorem i_intT {z : Str} {i : Int} {H : Hp} {Q : VK} (h : PySem.intText? z = some i) (hl : z.length ≤ 640) (q : Q (.int i) H) : rIntT [.str z] H Q := ⟨z, i, rfl, h, hl, q⟩
def joinLen (sep : Str) (zs : List Str) : Nat := zs.foldl (fun a z => a + z.length + sep.length) 0
def rJoinG (K : Frag) : V → List V → Hp → VK → Prop := fun x vs H Q => ∃ (sep : Str) (p : Addr) (zs : List Str), x = .str sep ∧ vs = [.ref p] ∧ SqL K H p (zs.map V.str) ∧ joinLen sep zs ≤ 10000 ∧ Q (.str (Str.join sep zs)) H
theorem mt_joinG : MtR X "str.join" (rJoinG X.K) := by
  intro pins s σ H x vs v us Q I rx rv h
  obtain ⟨sep, p, zs, rfl, rfl, hp, hl, q⟩ := h
  obtain ⟨t, rfl⟩ := rx
  obtain ⟨u, rfl, ru⟩ := rv.one
  cases ru
  obtain ⟨its, r, pl, _⟩ := I.list hp
  obtain ⟨l, rfl, e⟩ := strsAre_of r
  have hok : JoinOk sep zs = true := by
    have hline : 10000 ≤ sizeLine := by rw [sizeLine_eq]; decide
    unfold JoinOk Builtin.Str.tooLong
    rw [List.foldl_toArray]
    simp only [Bool.not_eq_true', decide_eq_false_iff_not]
    have : zs.foldl (fun a z => a + z.length + sep.length) 0 ≤ 10000 := hl
    omega
  refine SC.join (texts := zs) pl.isList e hok fun t' k => ?_
  refine ⟨.str _, H, I.tok k, ⟨t', rfl⟩, ?_⟩
  have e2 : Txt.join sep zs = Str.join sep zs := PySem.StrLaws.glued_eq_join sep zs
  rw [e2]; exact q
theorem i_joinG {K : Frag} {sep : Str} {p : Addr} {zs : List Str} {H : Hp} {Q : VK} (h : SqL K H p (zs.map V.str)) (hl : joinLen sep zs ≤ 10000) (q : Q (.str (Str.join sep zs)) H) : rJoinG K (.str sep) [.ref p] H Q := ⟨sep, p, zs, rfl, rfl, h, hl, q⟩
theorem split_len (z y : Str) : (Txt.split z y).length ≤ z.length + 2 := by
  unfold Txt.split
  split
  · show 1 ≤ _; omega
  · split
    · show 1 ≤ _; omega
    · rw [PyProof.Rows.len_partsBetween]
      have := PySem.StrLaws.occ_length_le z y 0 z.length (z.length + 1)
      omega
def rSplit (K : Frag) : V → List V → Hp → VK → Prop := fun x vs H Q => ∃ z y : Str, x = .str z ∧ vs = [.str y] ∧ (y.length == 0) = false ∧ z.length ≤ 10000 ∧ ∀ D H2, New H D (.lst ((Txt.split z y).map V.str)) H2 → Q (.ref D) H2
theorem vals_strs : ∀ l : List (Str × Tok), Vals ((l.map (·.1)).map V.str) (strValues l)
  | [] => .nil
  | (z, t) :: l => .cons ⟨t, rfl⟩ (vals_strs l)
theorem mt_split : MtR X "str.split" (rSplit X.K) := by
  intro pins s σ H x vs v us Q I rx rv h
  obtain ⟨z, y, rfl, rfl, hy, hl, q⟩ := h
  obtain ⟨t, rfl⟩ := rx
  obtain ⟨u, rfl, ru⟩ := rv.one
  obtain ⟨t', rfl⟩ := ru
  have hline : 100000 ≤ sizeLine := by rw [sizeLine_eq]; decide
  have hsl := split_len z y
  have fin : ∀ (l : List (Str × Tok)) (k : Nat), l.map (·.1) = Txt.split z y → EP X pins σ Q (.ref s.heap.objs.size) { s with toks := k, heap := s.heap.push { cls := .type "list", data := .seq (strValues l).toArray } } := fun l k e => by
    have hn : H s.heap.objs.size = none := I.hok.fresh (Nat.le_refl _)
    have hlen : ((Txt.split z y).map V.str).length ≤ sizeLine := by rw [List.length_map]; omega
    have I2 := I.laid (a := s.heap.objs.size) (o := .lst ((Txt.split z y).map V.str)) (h' := s.heap.push { cls := .type "list", data := .seq (strValues l).toArray }) (t' := k) (fun _ _ q => Heap.get?_push_of_some _ q) (Nat.le_refl _)
      ⟨hlen, strValues l, _, by rw [← e]; exact vals_strs l, Heap.get?_push_size _ rfl⟩
    exact ⟨.ref s.heap.objs.size, _, I2, rfl, q _ _ ⟨hn, rfl⟩⟩
  cases h1 : (decide (z.length < y.length) || decide (Builtin.Str.strKind z < Builtin.Str.strKind y)) with
  | true =>
    refine call_meets PySem.F.slot_str_split (typeIs_str _ _ _) PySem.F.entry_str_split (PySem.F.args_str_split_2 _ _) (meets_str_split_cannot_occur z y t t' h1) ?_
    exact fin [(z, t)] s.toks (if_pos h1).symm
  | false =>
    have n1 : ¬ (decide (z.length < y.length) || decide (Builtin.Str.strKind z < Builtin.Str.strKind y)) = true := by rw [h1]; decide
    cases hf : (Builtin.Str.occurrences z y 0 z.length (z.length + 1)).isEmpty with
    | true =>
      refine call_meets PySem.F.slot_str_split (typeIs_str _ _ _) PySem.F.entry_str_split (PySem.F.args_str_split_2 _ _) (meets_str_split_not_found z y t t' h1 hy hf) ?_
      exact fin [(z, t)] s.toks ((if_neg n1).trans (if_pos hf)).symm
    | false =>
      have n2 : ¬ (Builtin.Str.occurrences z y 0 z.length (z.length + 1)).isEmpty = true := by rw [hf]; decide
      refine call_meets PySem.F.slot_str_split (typeIs_str _ _ _) PySem.F.entry_str_split (PySem.F.args_str_split_2 _ _) (meets_str_split_sep z y t t' h1 hy hf (by omega) (by
        rw [PyProof.Rows.len_partsBetween]
        have := PySem.StrLaws.occ_length_le z y 0 z.length (z.length + 1)
        omega)) ?_
      show EP X pins σ Q _ _
      rw [strsFrom_eq]
      exact fin (numbered s.toks _) _ ((numbered_texts _ _).trans ((if_neg n1).trans (if_neg n2)).symm)
theorem i_split {K : Frag} {z y : Str} {H : Hp} {Q : VK} (hy : (y.length == 0) = false) (hl : z.length ≤ 10000) (q : ∀ D H2, New H D (.lst ((Txt.split z y).map V.str)) H2 → Q (.ref D) H2) : rSplit K (.str z) [.str y] H Q := ⟨z, y, rfl, rfl, hy, hl, q⟩
end
end L2
set_option Elab.async false
set_option linter.all false
set_option maxHeartbeats 4000000
set_option maxRecDepth 100000
namespace L2
open PySem PySem.Spec PyProof PyProof.Rows PySem.W
theorem cut_inj {c : Nat} : ∀ {p q r s : List Nat}, c ∉ p → c ∉ q → p ++ c :: r = q ++ c :: s → p = q ∧ r = s
  | [], [], _, _, _, _, e => ⟨rfl, by simpa using e⟩
  | [], b :: q, _, _, _, h, e => by
    have := (List.cons.inj (show c :: _ = b :: (q ++ c :: _) from e)).1
    exact absurd (this ▸ List.mem_cons_self ..) h
  | a :: p, [], _, _, h, _, e => by
    have := (List.cons.inj (show a :: (p ++ c :: _) = c :: _ from e)).1
    exact absurd (this ▸ List.mem_cons_self ..) h
  | a :: p, b :: q, r, s, h1, h2, e => by
    obtain ⟨e1, e2⟩ := List.cons.inj (show a :: (p ++ c :: r) = b :: (q ++ c :: s) from e)
    obtain ⟨e3, e4⟩ := cut_inj (fun m => h1 (List.mem_cons_of_mem _ m)) (fun m => h2 (List.mem_cons_of_mem _ m)) e2
    exact ⟨by rw [e1, e3], e4⟩
theorem str_of_list {x y : Str} (h : x.cps.toList = y.cps.toList) : x = y := Str.ext' (Array.toList_inj.mp h)
theorem join_cons_list (c : Nat) (p q : Str) (r : List Str) : (Str.join ⟨#[c]⟩ (p :: q :: r)).cps.toList = p.cps.toList ++ c :: (Str.join ⟨#[c]⟩ (q :: r)).cps.toList := by
  show (p ++ ⟨#[c]⟩ ++ Str.join ⟨#[c]⟩ (q :: r)).cps.toList = _
  simp only [Str.cps_append, Array.toList_append]
  simp
theorem join_inj (c : Nat) : ∀ {ps qs : List Str}, ps ≠ [] → qs ≠ [] → (∀ p ∈ ps, c ∉ p.cps.toList) → (∀ q ∈ qs, c ∉ q.cps.toList) → (Str.join ⟨#[c]⟩ ps).cps.toList = (Str.join ⟨#[c]⟩ qs).cps.toList → ps = qs
  | [], _, h, _, _, _, _ => absurd rfl h
  | _ :: _, [], _, h, _, _, _ => absurd rfl h
  | [p], [q], _, _, _, _, e => by rw [str_of_list (x := p) (y := q) e]
  | [p], q :: q' :: s, _, _, hp, _, e => by
    rw [join_cons_list] at e
    have e' : p.cps.toList = q.cps.toList ++ c :: (Str.join ⟨#[c]⟩ (q' :: s)).cps.toList := e
    exact absurd (by rw [e']; simp) (hp p (List.mem_singleton.mpr rfl))
  | p :: p' :: r, [q], _, _, _, hq, e => by
    rw [join_cons_list] at e
    have e' : q.cps.toList = p.cps.toList ++ c :: (Str.join ⟨#[c]⟩ (p' :: r)).cps.toList := e.symm
    exact absurd (by rw [e']; simp) (hq q (List.mem_singleton.mpr rfl))
  | p :: p' :: r, q :: q' :: s, _, _, hp, hq, e => by
    rw [join_cons_list, join_cons_list] at e
    obtain ⟨e1, e2⟩ := cut_inj (hp p (List.mem_cons_self ..)) (hq q (List.mem_cons_self ..)) e
    have ih := join_inj c (ps := p' :: r) (qs := q' :: s) (by simp) (by simp) (fun x hx => hp x (List.mem_cons_of_mem _ hx)) (fun x hx => hq x (List.mem_cons_of_mem _ hx)) e2
    rw [str_of_list e1, ih]
theorem split_ne (x y : Str) : Txt.split x y ≠ [] := by
  unfold Txt.split
  split
  · simp
  · split
    · simp
    · rw [PySem.StrLaws.partsBetween_eq]
      obtain ⟨p, r, e⟩ := PySem.StrLaws.partsFrom_ne x y.length 0 (Builtin.Str.occurrences x y 0 x.length (x.length + 1))
      rw [e]; simp
theorem split_join (c : Nat) {ps : List Str} (h0 : ps ≠ []) (h : ∀ p ∈ ps, c ∉ p.cps.toList) : Txt.split (Str.join ⟨#[c]⟩ ps) ⟨#[c]⟩ = ps :=
  join_inj c (split_ne _ _) h0 (PySem.StrLaws.split_free _ c) h (by rw [PySem.StrLaws.join_split])
theorem digits_len : ∀ (k n : Nat), n < 10 ^ (k + 1) → (Nat.toDigits 10 n).length ≤ k + 1
  | 0, n, h => by rw [Nat.toDigits_of_lt_base (by simpa using h)]; simp
  | k + 1, n, h => by
    by_cases h1 : n < 10
    · rw [Nat.toDigits_of_lt_base h1]; simp
    · have hm : n % 10 < 10 := Nat.mod_lt n (by decide)
      have t0 := Nat.toDigits_append_toDigits (b := 10) (n := n / 10) (d := n % 10) (by decide) (by omega) hm
      rw [show 10 * (n / 10) + n % 10 = n by omega] at t0
      rw [← t0, List.length_append, Nat.toDigits_of_lt_base hm]
      have h2 : n / 10 < 10 ^ (k + 1) := by
        rw [Nat.div_lt_iff_lt_mul (by decide)]
        rwa [Nat.pow_succ] at h
      have := digits_len k (n / 10) h2
      simp; omega
theorem numT_len {n : Nat} (h : NumOk n) : (numT n).length ≤ 61 := by
  have e : (numT n).length = (numT n).cps.toList.length := Array.length_toList.symm
  rw [e, numT_cps, List.length_map]
  exact digits_len 60 n (Nat.lt_of_le_of_lt h (by decide +kernel))
theorem toDigits_ne (n : Nat) : Nat.toDigits 10 n ≠ [] := by
  intro e
  have : 0 < (Nat.toDigits 10 n).length := Nat.length_toDigits_pos
  rw [e] at this
  simp at this
theorem numT_ne (n : Nat) : (numT n).cps.toList ≠ [] := by
  rw [numT_cps]
  intro e
  exact toDigits_ne n (List.map_eq_nil_iff.mp e)
theorem numT_pos (n : Nat) : 1 ≤ (numT n).length := by
  have e : (numT n).length = (numT n).cps.toList.length := Array.length_toList.symm
  rw [e]
  cases h : (numT n).cps.toList with
  | nil => exact absurd h (numT_ne n)
  | cons a l => simp
theorem num_reads {n : Nat} (h : NumOk n) : PySem.intText? (numT n) = some (n : Int) := by
  have e := PySem.intText_digits (x := numT n) (numT_digits n) (numT_ne n) (Nat.le_trans (numT_len h) (by decide))
  rw [numT_cps, PySem.W.KIN.val_back] at e
  exact e
abbrev TJX := St → Hp → Str → (Str → Hp → Prop) → Prop
def PJX (X : Cx) (es : List Expr) (t : TJX) : Prop := ∀ (pins : List (Addr × Obj)) (s : Shared) (σ : St) (H : Hp) (acc : Str) (Q : Str → Hp → Prop), Inv X pins σ H s → acc.length + 100000 * es.length ≤ sizeLine → t σ H acc Q →
  Joins (model X.prog X.w) X.A X.xe (evalEach es X.env) acc (fun out s1 => out.length ≤ sizeLine ∧ ∃ H', Inv X pins σ H' s1 ∧ Q out H') s
def jxNil : TJX := fun _ H acc Q => Q acc H
def jxStr (z : Str) (t : TJX) : TJX := fun σ H acc Q => t σ H (acc ++ z) Q
def jxPlain (te : TE) (t : TJX) : TJX := fun σ H acc Q => te σ H fun x H1 => (∃ z, x = .str z ∧ z.length ≤ 1000 ∧ t σ H1 (acc ++ z) Q) ∨ (∃ n : Nat, x = .int (n : Int) ∧ NumOk n ∧ t σ H1 (acc ++ numT n) Q)
section
variable {X : Cx} {es : List Expr} {t : TJX} {te : TE} {e : Expr} {pos : Pos} {z : Str}
theorem pjx_nil : PJX X [] jxNil := fun pins s σ H acc Q I hl q => ⟨by simpa using hl, H, I, q⟩
theorem pjx_str {j} (hz : z.length ≤ 1000) (h : PJX X es t) : PJX X (.Constant (.str z) j pos :: es) (jxStr z t) := by
  intro pins s σ H acc Q I hl q
  have hg : (acc ++ z).length + 100000 * es.length ≤ sizeLine := glue_len hl (by omega)
  show wpAny _ _ (eval (.Constant (.str z) j pos) X.env) _ _ s
  refine Calls.Constant_str ⟨z, _, rfl, by omega, ?_⟩
  exact h pins _ σ H (acc ++ z) Q (I.tok _) hg q
theorem pjx_plain (he : PE X e te) (h : PJX X es t) : PJX X (.FormattedValue e (-1) none pos :: es) (jxPlain te t) := by
  intro pins s σ H acc Q I hl q
  show wpAny _ _ (eval (.FormattedValue e (-1) none pos) X.env) _ _ s
  refine wpAny_FormattedValue_plain (thn (he pins s σ H _ I q) fun v s1 ⟨x, H1, I1, r1, q1⟩ => ?_)
  have hsz : 100000 ≤ sizeLine := by rw [sizeLine_eq]; decide
  rcases q1 with ⟨z, rfl, hz, q1⟩ | ⟨n, rfl, hn, q1⟩
  · obtain ⟨tk, rfl⟩ := r1
    have hg : (acc ++ z).length + 100000 * es.length ≤ sizeLine := glue_len hl (by omega)
    refine wpAny_formatField_str ⟨_, _, rfl, by omega, h pins _ σ H1 _ Q I1 hg q1⟩ ⟨_, _, rfl, by omega, ?_⟩ (by omega)
    exact h pins _ σ H1 _ Q (I1.tok _) hg q1
  · obtain ⟨tk, rfl⟩ := r1
    have hl1 := numT_len hn
    have hg : (acc ++ numT n).length + 100000 * es.length ≤ sizeLine := glue_len hl (by omega)
    refine wpAny_formatField_int (num_log hn) ⟨numT n, _, rfl, by omega, ?_⟩
    exact h pins _ σ H1 _ Q (I1.tok _) hg q1
def tFmtX (t : TJX) : TE := fun σ H Q => t σ H Str.empty fun z H' => Q (.str z) H'
theorem i_fmtX {σ : St} {H : Hp} {Q : VK} (q : t σ H Str.empty fun z H' => Q (.str z) H') : tFmtX t σ H Q := q
theorem i_jxNil {σ : St} {H : Hp} {acc : Str} {Q : Str → Hp → Prop} (q : Q acc H) : jxNil σ H acc Q := q
theorem i_jxStr {σ : St} {H : Hp} {acc : Str} {Q : Str → Hp → Prop} (q : t σ H (acc ++ z) Q) : jxStr z t σ H acc Q := q
theorem i_jxPlain {σ : St} {H : Hp} {acc : Str} {Q : Str → Hp → Prop} (q : te σ H fun x H1 => (∃ z, x = .str z ∧ z.length ≤ 1000 ∧ t σ H1 (acc ++ z) Q) ∨ (∃ n : Nat, x = .int (n : Int) ∧ NumOk n ∧ t σ H1 (acc ++ numT n) Q)) : jxPlain te t σ H acc Q := q
theorem pe_fstrX {e1 e2 : Expr} (h : PJX X (e1 :: e2 :: es) t) (hn : (e1 :: e2 :: es).length ≤ 50 := by decide) : PE X (.JoinedStr (e1 :: e2 :: es) pos) (tFmtX t) := by
  intro pins s σ H Q I q
  have hsz : 100000 * 50 ≤ sizeLine := by rw [sizeLine_eq]; decide
  have e0 : Str.empty.length = 0 := rfl
  have hl : Str.empty.length + 100000 * (e1 :: e2 :: es).length ≤ sizeLine := by
    rw [e0]; generalize (e1 :: e2 :: es).length = n at hn ⊢; omega
  have hj := h pins s σ H Str.empty _ I hl q
  refine wpAny_JoinedStr (joins_mono hj fun out s1 z => ?_)
  obtain ⟨hl, H', I', q'⟩ := z
  exact ⟨hl, .str out, H', I'.tok _, ⟨_, rfl⟩, q'⟩
theorem mt_splitK {K : Frag} (h : X.K = K) : MtR X "str.split" (rSplit K) := h ▸ mt_split
end
theorem join_no {c d : Nat} (hcd : c ≠ d) : ∀ {l : List Str}, (∀ z ∈ l, c ∉ z.cps.toList) → c ∉ (Str.join ⟨#[d]⟩ l).cps.toList
  | [], _ => fun h => nomatch (show c ∈ ([] : List Nat) from h)
  | [z], h => h z (List.mem_singleton.mpr rfl)
  | p :: q :: r, h => by
    rw [join_cons_list]
    intro hm
    rcases List.mem_append.mp hm with a | a
    · exact h p (List.mem_cons_self ..) a
    · rcases List.mem_cons.mp a with b | b
      · exact hcd b
      · exact join_no hcd (fun z hz => h z (List.mem_cons_of_mem _ hz)) b
theorem sum_le {B : Nat} : ∀ {l : List Nat}, (∀ x ∈ l, x ≤ B) → l.sum ≤ l.length * B
  | [], _ => Nat.zero_le _
  | a :: l, h => by
    have h1 := h a (List.mem_cons_self ..)
    have h2 := sum_le (l := l) fun x hx => h x (List.mem_cons_of_mem _ hx)
    rw [List.sum_cons, List.length_cons, Nat.add_one_mul]
    omega
theorem lens_le {B : Nat} {l : List Str} (h : ∀ z ∈ l, z.length ≤ B) : (l.map (·.length)).sum ≤ l.length * B := by
  have := sum_le (B := B) (l := l.map (·.length)) fun x hx => by
    obtain ⟨z, hz, rfl⟩ := List.mem_map.mp hx
    exact h z hz
  rwa [List.length_map] at this
theorem join_len {B : Nat} {c : Nat} {l : List Str} (h : ∀ z ∈ l, z.length ≤ B) : (Str.join ⟨#[c]⟩ l).length ≤ l.length * B + l.length := by
  have h1 := PySem.StrLaws.join_length_le ⟨#[c]⟩ l
  have h2 := lens_le h
  rw [show (⟨#[c]⟩ : Str).length = 1 from rfl, Nat.mul_one] at h1
  omega
theorem joinLen_le {B : Nat} {c : Nat} {l : List Str} (h : ∀ z ∈ l, z.length ≤ B) : joinLen ⟨#[c]⟩ l ≤ l.length * B + l.length := by
  have h1 := PySem.StrLaws.joinTotal ⟨#[c]⟩ l
  rw [List.foldl_toArray, show (⟨#[c]⟩ : Str).length = 1 from rfl, Nat.mul_one] at h1
  have h2 := lens_le h
  have h3 : joinLen ⟨#[c]⟩ l = (l.map (·.length)).sum + l.length := h1
  omega
end L2
set_option Elab.async false
set_option linter.all false
set_option maxHeartbeats 4000000
set_option maxRecDepth 100000
namespace L2
open PySem PySem.Spec PyProof PyProof.Rows PySem.W
section
variable {X : Cx}
def rPart : V → List V → Hp → VK → Prop := fun x vs H Q => ∃ (z : Str) (c : Nat), x = .str z ∧ vs = [.str ⟨#[c]⟩] ∧ z.length ≤ 10000 ∧
  ((c ∉ z.cps.toList ∧ ∀ D H2, New H D (.tup [.str z, .str Str.empty, .str Str.empty]) H2 → Q (.ref D) H2) ∨
   ∃ w d : Str, z.cps.toList = w.cps.toList ++ c :: d.cps.toList ∧ c ∉ w.cps.toList ∧ ∀ D H2, New H D (.tup [.str w, .str ⟨#[c]⟩, .str d]) H2 → Q (.ref D) H2)
theorem sub_list (x : Str) (i j : Nat) : (Builtin.Str.strSub x i j).cps.toList = (x.cps.toList.drop i).take (j - i) := PySem.StrLaws.strSub_toList ..
theorem mt_part : MtR X "str.partition" rPart := by
  intro pins s σ H x vs v us Q I rx rv h
  obtain ⟨z, c, rfl, rfl, hl, h⟩ := h
  obtain ⟨t, rfl⟩ := rx
  obtain ⟨u, rfl, ru⟩ := rv.one
  obtain ⟨t', rfl⟩ := ru
  have hline : 100000 ≤ sizeLine := by rw [sizeLine_eq]; decide
  have hn : H s.heap.objs.size = none := I.hok.fresh (Nat.le_refl _)
  have fin : ∀ (a b d : Str) (ta tb td : Tok) (k : Nat), (∀ D H2, New H D (.tup [.str a, .str b, .str d]) H2 → Q (.ref D) H2) → EP X pins σ Q (.ref s.heap.objs.size) { s with toks := k, heap := s.heap.push { cls := .type "tuple", data := .seq [.str a ta, .str b tb, .str d td].toArray } } := fun a b d ta tb td k q => by
    have I2 := I.laid (a := s.heap.objs.size) (o := .tup [.str a, .str b, .str d]) (h' := s.heap.push { cls := .type "tuple", data := .seq [.str a ta, .str b tb, .str d td].toArray }) (t' := k) (fun _ _ q => Heap.get?_push_of_some _ q) (Nat.le_refl _)
      ⟨by show 3 ≤ sizeLine; omega, [.str a ta, .str b tb, .str d td], .cons ⟨_, rfl⟩ (.cons ⟨_, rfl⟩ (.cons ⟨_, rfl⟩ .nil)), ⟨_, Heap.get?_push_size _ rfl, rfl, _, rfl⟩⟩
    exact ⟨.ref s.heap.objs.size, _, I2, rfl, q _ _ ⟨hn, rfl⟩⟩
  refine call_meets PySem.F.slot_str_partition (typeIs_str _ _ _) PySem.F.entry_str_partition (PySem.F.args_str_partition_2 _ _) (meets_str_partition z ⟨#[c]⟩ t t' rfl (by omega)) ?_
  show EP X pins σ Q (.ref s.heap.objs.size) (match Builtin.Str.occurrences z ⟨#[c]⟩ 0 z.length 1 with
         | i :: _ => { s with toks := s.toks + 1 + 1, heap := s.heap.push { cls := .type "tuple", data := .seq [.str (Builtin.Str.strSub z 0 i) s.toks, .str ⟨#[c]⟩ t', .str (Builtin.Str.strSub z (i + (⟨#[c]⟩ : Str).length) z.length) (s.toks + 1)].toArray } }
         | [] => { s with toks := s.toks + 1, heap := s.heap.push { cls := .type "tuple", data := .seq [.str z t, .str Str.empty s.toks, .str Str.empty s.toks].toArray } })
  have hAt : ∀ i, PySem.StrLaws.At z ⟨#[c]⟩ z.length i ↔ z.cps.toList[i]? = some c := fun i => PySem.StrLaws.subAt_one z c i
  rcases PySem.StrLaws.occ_head z ⟨#[c]⟩ 1 (Nat.le_refl 1) with ⟨e0, hno⟩ | ⟨i, r, e0, hi, hlo⟩
  · rw [e0]
    rcases h with ⟨_, q⟩ | ⟨w, d, hz, hw, q⟩
    · exact fin _ _ _ _ _ _ _ q
    · exact absurd ((hAt w.cps.toList.length).mpr (by rw [hz, List.getElem?_append_right (Nat.le_refl _), Nat.sub_self]; rfl)) (hno _)
  · rw [e0]
    have hzi := (hAt i).mp hi
    rcases h with ⟨hc, q⟩ | ⟨w, d, hz, hw, q⟩
    · exact absurd (List.mem_of_getElem? hzi) hc
    · have h1 : z.cps.toList[w.cps.toList.length]? = some c := by rw [hz, List.getElem?_append_right (Nat.le_refl _), Nat.sub_self]; rfl
      have ei : i = w.cps.toList.length := by
        by_cases h2 : w.cps.toList.length < i
        · exact absurd ((hAt _).mpr h1) (hlo _ h2)
        · by_cases h3 : i < w.cps.toList.length
          · rw [hz, List.getElem?_append_left h3] at hzi
            exact absurd (List.mem_of_getElem? hzi) hw
          · omega
      subst ei
      have hzl : z.length = z.cps.toList.length := Array.length_toList.symm
      have e1 : Builtin.Str.strSub z 0 w.cps.toList.length = w := str_of_list (by
        rw [sub_list, hz, List.drop_zero, Nat.sub_zero, List.take_left' rfl])
      have e2 : Builtin.Str.strSub z (w.cps.toList.length + (⟨#[c]⟩ : Str).length) z.length = d := str_of_list (by
        rw [sub_list, show (⟨#[c]⟩ : Str).length = 1 from rfl, hzl, hz]
        have e3 : (w.cps.toList ++ c :: d.cps.toList).drop (w.cps.toList.length + 1) = d.cps.toList := by
          rw [← List.drop_drop, List.drop_left' rfl]; rfl
        rw [e3]
        exact List.take_of_length_le (by rw [List.length_append, List.length_cons]; omega))
      show EP X pins σ Q (.ref s.heap.objs.size) { s with toks := s.toks + 1 + 1, heap := s.heap.push { cls := .type "tuple", data := .seq [.str (Builtin.Str.strSub z 0 w.cps.toList.length) s.toks, .str ⟨#[c]⟩ t', .str (Builtin.Str.strSub z (w.cps.toList.length + (⟨#[c]⟩ : Str).length) z.length) (s.toks + 1)].toArray } }
      rw [e1, e2]
      exact fin _ _ _ _ _ _ _ q
theorem i_partN {z : Str} {c : Nat} {H : Hp} {Q : VK} (hl : z.length ≤ 10000) (h : c ∉ z.cps.toList) (q : ∀ D H2, New H D (.tup [.str z, .str Str.empty, .str Str.empty]) H2 → Q (.ref D) H2) : rPart (.str z) [.str ⟨#[c]⟩] H Q := ⟨z, c, rfl, rfl, hl, .inl ⟨h, q⟩⟩
theorem i_partY {z w d : Str} {c : Nat} {H : Hp} {Q : VK} (hl : z.length ≤ 10000) (hz : z.cps.toList = w.cps.toList ++ c :: d.cps.toList) (h : c ∉ w.cps.toList) (q : ∀ D H2, New H D (.tup [.str w, .str ⟨#[c]⟩, .str d]) H2 → Q (.ref D) H2) : rPart (.str z) [.str ⟨#[c]⟩] H Q := ⟨z, c, rfl, rfl, hl, .inr ⟨w, d, hz, h, q⟩⟩
end
theorem digits_head : ∀ n : Nat, 0 < n → ∃ c l, (Nat.toDigits 10 n).map Char.toNat = c :: l ∧ c ≠ 48 := by
  intro n
  induction n using Nat.strongRecOn with
  | _ n ih =>
    intro h0
    by_cases h : n < 10
    · rw [Nat.toDigits_of_lt_base h]
      refine ⟨_, [], rfl, ?_⟩
      have : ∀ d, d < 10 → 0 < d → (Nat.digitChar d).toNat ≠ 48 := by decide
      exact this n h h0
    · have hm : n % 10 < 10 := Nat.mod_lt n (by decide)
      have t0 := Nat.toDigits_append_toDigits (b := 10) (n := n / 10) (d := n % 10) (by decide) (by omega) hm
      rw [show 10 * (n / 10) + n % 10 = n by omega] at t0
      obtain ⟨c, l, e, hc⟩ := ih (n / 10) (by omega) (by omega)
      rw [← t0, List.map_append, e]
      exact ⟨c, _, rfl, hc⟩
theorem numT_head {n : Nat} (h : 0 < n) : ∃ c l, (numT n).cps.toList = c :: l ∧ c ≠ 48 := by
  rw [numT_cps]; exact digits_head n h
theorem numT_zero : numT 0 = ⟨#[48]⟩ := by decide +kernel
theorem numT_inj {m n : Nat} (hm : NumOk m) (hn : NumOk n) (e : numT m = numT n) : m = n := by
  have h1 := num_reads hm
  have h2 := num_reads hn
  rw [e, h2] at h1
  have := Option.some.inj h1
  omega
end L2
set_option Elab.async false
set_option linter.all false
set_option maxHeartbeats 4000000
set_option maxRecDepth 100000
namespace L2
open PySem PySem.Spec PyProof PyProof.Rows PySem.W
open Sem (wp)
open AutoSeq1 (wpAny_loadPart')
theorem meets_enum_from (l : Addr) (items : Array Value) (n : Nat) (dct : Option Addr) (sl : Array (Option Value)) (t : Tok) :
    Meets (Builtin.«enumerate.__new__» ⟨[.type "enumerate", .ref l], [("start", .int 1 t)]⟩) (fun _ R s => s.heap.get? l = some { cls := .type "list", dict := dct, data := .seq items n, slots := sl } ∧
      R (.ok (.ret (.ref (s.heap.push { cls := .type "list_iterator", data := .fields #[.ref l, .int 0 0] }).objs.size)))
        { s with heap := (s.heap.push { cls := .type "list_iterator", data := .fields #[.ref l, .int 0 0] }).push { cls := .type "enumerate", data := .fields #[.none, .bool false, .ref s.heap.objs.size, rawInt 1, .none, .none] } }) :=
  .of_wp fun prog w A R s h => by
    obtain ⟨hp, g, d, tk, os⟩ := s; obtain ⟨hl, h⟩ := h
    have hsub := sub_enumerate
    have hL : Heap.IsList (Shared.heap ⟨hp, g, d, tk, os⟩) l items := ⟨_, hl, rfl, n, rfl⟩
    wp_walk using wpAny_loadPart' hl
    refine wpAny_stack_any fun st => wpAny_pure ?_
    split
    · rename_i c _ _ _ _ _
      cases (c == Value.type "enumerate")
      · wp_walk using wpAny_loadPart' hl, wpAny_pyIter_list hL
        exact ⟨_, rfl, h⟩
      · wp_walk using wpAny_loadPart' hl, wpAny_pyIter_list hL
        exact ⟨_, rfl, h⟩
    · wp_walk using wpAny_loadPart' hl, wpAny_pyIter_list hL
      exact ⟨_, rfl, h⟩
section
variable {prog : Program} {w : World} {A : Around} {E : Value → Shared → Prop} {s : Shared}
theorem callType_kw {T newId : String} {Bn : Builtin} {args : List Value} {kw : List (Str × Value)} {S : PySem.Spec} {Q : Value → Shared → Prop} (ft : TypeCalled T newId "object.__init__") (hne : (some newId != some "object.__new__") = true)
    (hct : checkTypeCall T ⟨args, kw⟩ = pure ()) (hcn : checkBuiltinCall newId ⟨.type T :: args, kw⟩ = pure ()) (hok : ∀ obj, argsOk "object.__init__" ⟨obj :: args, kw⟩)
    (entryN : entryFor table newId = some Bn) (g : Meets (Bn ⟨.type T :: args, kw⟩) S) (hoi : ∀ self, Meets (Builtin.«object.__init__» ⟨self :: args, kw⟩) (fun _ R s => s.TypeIs self T ∧ R (.ok (.ret .none)) s))
    (h : S A.in1 (wants (fun obj s₁ => s₁.TypeIs obj T ∧ Q obj s₁) E) s) : wpAny (model prog w) A (call (.type T) args kw) Q E s := by
  obtain ⟨c, tl, hmro⟩ := ft.mro
  have hmade := ft.made
  have hsub := ft.sub
  refine wpAny_call (codeAny_of_tree ?_)
  show wpAny _ _ (callAny (.type T) _) _ _ _
  refine wpAny_pure ⟨Code.quiet_builtin _ (by decide +kernel), codeAny_builtin F.entry_type_call ?_⟩
  rw [Around.under_plain (weight_type_call_type T args kw) (units_type_call_type T args kw)]
  have h1 := ft.notType
  have h2 := ft.canCreate
  repeat (any_goals (first | assumption | wp_step))
  refine codeAny_mono (codeAny_call_builtin ft.plain entryN (wpAny_of_eq hcn (g prog w A.in1 _ s h))) fun r s₁ hr => ?_
  cases r with
  | error e => exact hr
  | ok fl =>
    cases fl with
    | ret obj =>
      obtain ⟨hT, hq0⟩ := hr
      have hli := ft.init.lookup
      have hbi := ft.init.bind obj
      repeat (any_goals (first | assumption | wp_step))
      refine codeAny_mono (codeAny_call_builtin ft.init.plain F.entry_object_init (ft.init.check _ _ _ _ _ _ _ _ hT (hok obj) (hoi obj prog w A.in1 (wants (fun r s₂ => r = .none ∧ Q obj s₂) E) s₁ ⟨hT, rfl, hq0⟩))) fun r₂ s₂ hr₂ => ?_
      cases r₂ with
      | error e => exact hr₂
      | ok fl₂ =>
        cases fl₂ with
        | ret r =>
          obtain ⟨rfl, hq⟩ := hr₂
          repeat (any_goals (first | assumption | wp_step))
        | _ => exact hr₂.elim
    | _ => exact hr.elim
theorem init_kw {T newId : String} {self a : Value} {kw : List (Str × Value)} (hl : typeLookup (.type T) "__init__" = pure (some (.builtin "object.__init__")))
    (hm : Bind.madeBy (.type T) = pure (some newId)) (hne : (some newId != some "object.__new__") = true) :
    Meets (Builtin.«object.__init__» ⟨[self, a], kw⟩) (fun _ R s => s.TypeIs self T ∧ R (.ok (.ret .none)) s) := by
  refine Meets.of_wp fun prog w A R s hs => ?_
  obtain ⟨hT, hq⟩ := hs
  repeat (any_goals (first | assumption | wp_step))
  exact ⟨_, rfl, hq⟩
theorem call_enum_from {l : Addr} {items : Array Value} {t : Tok} {Q : Value → Shared → Prop} (hL : s.heap.IsList l items)
    (h : ∀ h', IsEnum h' (s.heap.objs.size + 1) s.heap.objs.size 1 .none → h'.IsListIter s.heap.objs.size l 0 → h'.objs.size = s.heap.objs.size + 2 →
      (∀ b o, s.heap.get? b = some o → h'.get? b = some o) → Q (.ref (s.heap.objs.size + 1)) { s with heap := h' }) :
    wpAny (model prog w) A (call (.type "enumerate") [.ref l] [("start", .int 1 t)]) Q E s := by
  obtain ⟨⟨c, dct, dt, sl⟩, hl, hc, n, hd⟩ := hL
  replace hc : c = .type "list" := hc
  replace hd : dt = .seq items n := hd
  subst hc hd
  refine callType_kw F.called_enumerate (by decide) (by kernel_rfl) (by kernel_rfl) (fun obj => by
      unfold argsOk; rw [signature?_of (id := "object.__init__") (n := ['_', '_', 't', 'i', 'n', 'i', '_', '_']) (o := ['t', 'c', 'e', 'j', 'b', 'o']) (by kernel_rfl) PySem.F.owner_object]; kernel_rfl) F.entry_enumerate_new
    (meets_enum_from l items n dct sl t) (fun self => init_kw F.called_enumerate.init.lookup F.called_enumerate.made (by decide)) ⟨hl, ?_⟩
  have hz : (s.heap.push { cls := .type "list_iterator", data := .fields #[.ref l, .int 0 0] }).objs.size = s.heap.objs.size + 1 := Heap.size_push ..
  show _ ∧ _
  rw [hz]
  have he : IsEnum ((s.heap.push { cls := .type "list_iterator", data := .fields #[.ref l, .int 0 0] }).push
      { cls := .type "enumerate", data := .fields #[.none, .bool false, .ref s.heap.objs.size, rawInt 1, .none, .none] }) (s.heap.objs.size + 1) s.heap.objs.size 1 .none := by
    have := Heap.get?_push_size (s.heap.push { cls := .type "list_iterator", data := .fields #[.ref l, .int 0 0] })
      (o := { cls := .type "enumerate", data := .fields #[.none, .bool false, .ref s.heap.objs.size, rawInt 1, .none, .none] }) rfl
    rw [hz] at this; exact this
  refine ⟨⟨_, he, rfl⟩, h _ he ⟨_, Heap.get?_push_of_some _ (Heap.get?_push_size _ rfl), rfl, rfl⟩ (by rw [Heap.size_push, hz]) fun b o x => Heap.get?_push_of_some _ (Heap.get?_push_of_some _ x)⟩
theorem callWith_typeK {M : Model} {pos : Pos} {T : String} {first : List Value} {args : List (Bool × Sem Value)} {keywords : List (Option Str × Sem Value)} {Q : Value → Shared → Prop}
    (hplain : args.any (·.1) = false) (hkw : keywords.any (·.1.isNone) = false)
    (h : wpAny M A (evalArgs (.type T) true args keywords) (fun a s₁ => wpAny M A (call (.type T) (first ++ a.pos) a.kw) Q E s₁) E s) :
    wpAny M A (callWith pos (.type T) first args keywords) Q E s := by
  unfold callWith
  refine wpAny_bind (wpAny_holding (wpAny_mono h (fun a s₁ h₁ => wpAny_bind (wpAny_standAt ?_)) fun _ _ x => x))
  simp only [hplain, hkw, Bool.or_false]
  refine wpAny_bind (wpAny_pure ?_)
  exact wpAny_bind (wpAny_mono h₁ (fun r s₂ hr => wpAny_bind (wpAny_holding (wpAny_point (wpAny_pure hr)))) fun _ _ x => x)
end
theorem draws_shift {prog : Program} {w : World} {A : Around} {it : Addr} {fp : List Addr} {n : Nat} {P : Nat → Value → Prop} {St : Nat → Heap → Prop} (D : Draws prog w A it fp n P St) :
    Draws prog w A it fp (n + 1) (fun j x => ∃ i, j = i + 1 ∧ P i x) (fun j h => ∃ i, j = i + 1 ∧ St i h) where
  live := fun _ h ⟨i, _, st⟩ => D.live i h st
  frame := fun _ h h' ⟨i, e, st⟩ hk => ⟨i, e, D.frame i h h' st hk⟩
  item := fun j s Q E hj ⟨i, e, st⟩ hQ => D.item i s Q E (by omega) st fun x h' tk p st' hs => hQ x h' tk ⟨i, e, p⟩ ⟨i + 1, by omega, st'⟩ hs
  done := fun s Q E ⟨i, e, st⟩ hE => D.done s Q E (by rw [show n = i by omega]; exact st) hE
theorem draws_end {prog : Program} {w : World} {A : Around} (hh : A.handled = none) {it l : Addr} {items : Array Value} {i : Nat} (hx : items[i]? = none) :
    Draws prog w A it [it, l] 0 (fun _ _ => False) (fun _ h => h.IsListIter it l i ∧ h.IsList l items) where
  live := fun _ _ st => let ⟨o, ho, _⟩ := st.1; ⟨o, ho⟩
  frame := fun _ _ _ st hk => ⟨st.1.at fun o e => hk it (by simp) o e, st.2.at fun o e => hk l (by simp) o e⟩
  item := fun _ _ _ _ h => absurd h (Nat.not_lt_zero _)
  done := fun s Q E st hE => wpAny_nextOf_list_end hh st.1 st.2 hx hE
def Ite1 (K : Frag) (l : Addr) : It :=
  ⟨fun i H => ∃ xs x, SqL K H l xs ∧ xs[i]? = some x, fun i H v H' => ∃ T x, v = .ref T ∧ New H T (.tup [.int ((i + 1 : Nat) : Int), x]) H' ∧ ∀ xs, SqL K H l xs → xs[i]? = some x, fun i H => ∃ xs, SqL K H l xs ∧ xs.length ≤ i⟩
theorem turn_enum1 {P : Program} {w : World} {K : Frag} {es : List Expr} {k : Nat} {tp : Pos} (e it l : Addr) (hei : e ≠ it) : Turn P w K (.Tuple es k tp) (Ite1 K l) [e, it] e (fun i h => (∃ old, IsEnum h e it ((i + 1 : Nat) : Int) old) ∧ h.IsListIter it l i) where
  mem := by simp
  obj := fun i h st b hb => by
    obtain ⟨⟨old, he⟩, o, ho, hc, hd⟩ := st
    rcases List.mem_cons.mp hb with rfl | hb
    · exact ⟨_, he, fun v z => by cases z⟩
    · have e2 : b = it := by simpa using hb
      subst e2
      exact ⟨o, ho, fun v z => by rw [hd] at z; cases z⟩
  keep := fun i h h' st kk => by
    obtain ⟨⟨old, he⟩, o, ho, r⟩ := st
    exact ⟨⟨old, kk e (by simp) _ he⟩, o, kk it (by simp) _ ho, r⟩
  item := by
    intro X hP hw hK hc i pins s σ H E I hf st hg
    subst hP hw hK
    obtain ⟨⟨old, he⟩, hit⟩ := st
    obtain ⟨xs, x, hS, hx⟩ := hg
    obtain ⟨its, rv, p, hz⟩ := I.list hS
    obtain ⟨u, hu, ru⟩ := rv.get hx
    have hl0 := p.isList
    have hne : l ≠ it := fun z => by
      subst z
      obtain ⟨o, ho, hcl, _⟩ := hl0
      obtain ⟨o', ho', hcl', _⟩ := hit
      rw [ho] at ho'; cases ho'
      rw [hcl] at hcl'
      exact absurd (Value.type.inj hcl') (by decide)
    have hel : e ≠ l := fun z => by
      subst z
      obtain ⟨o, ho, hcl, _⟩ := hl0
      have he' := he
      unfold IsEnum at he'
      rw [ho] at he'; cases he'
      exact absurd (Value.type.inj hcl) (by decide)
    refine wpAny_pyNext_enum_itemD (draws_shift (Draws.list (A := X.A.in1) (I.ok.hd hc) it l hne its.toArray)) (i := i + 1) he ⟨i, rfl, hit, hl0⟩ (by
      have h9 : i < its.length := (List.getElem?_eq_some_iff.mp hu).1
      simpa using h9) hei (by simp [hei, hel]) fun x' h' tk hP' ho hst hT hsz hk => ⟨_, rfl, ?_⟩
    obtain ⟨i', ei', hx'⟩ := hP'
    cases ei'
    have ex : x' = u := by
      have h9 : its.toArray[i]? = some u := by simpa using hu
      rw [h9] at hx'; exact (Option.some.inj hx').symm
    subst ex
    have hit' : h'.IsListIter it l (i + 1) := by
      obtain ⟨i2, e2, h2, _⟩ := hst
      rw [show i + 1 = i2 by omega]; exact h2
    have I1 : Inv X pins σ H { s with heap := h', toks := tk + 1 } := I.turnedL hf fun b o hb q => hk b o (fun z => hb (by simp [z])) (fun z => hb (by simp [z])) q
    have helt : e < s.heap.objs.size := Heap.lt_size he
    have hilt : it < s.heap.objs.size := by obtain ⟨_, x, _⟩ := hit; exact Heap.lt_size x
    refine wpAny_letOwnedTupleGo_enum ho fun h2 he2 hs2 => ?_
    have I2 : Inv X pins σ H { s with heap := h2, toks := tk + 1 } := I1.turnedL hf fun b o hb q => (hs2.2 b (fun z => hb (by simp [z]))).trans q
    have hTn : H s.heap.objs.size = none := I.hok.fresh (Nat.le_refl _)
    have hTe : s.heap.objs.size ≠ e := Nat.ne_of_gt helt
    have hT2 : h2.get? s.heap.objs.size = some { cls := .type "tuple", data := .seq #[.int ((i + 1 : Nat) : Int) tk, x'] } := (hs2.2 _ hTe).trans hT
    have I3 : Inv X pins σ (upd H s.heap.objs.size (.tup [.int ((i + 1 : Nat) : Int), x])) { s with heap := h2, toks := tk + 1 } := by
      refine I2.track (I.fpOk (Nat.le_refl _) hTn) ⟨by show 2 ≤ sizeLine; decide, [.int ((i + 1 : Nat) : Int) tk, x'], .cons ⟨_, rfl⟩ (.cons ru .nil), ⟨_, hT2, rfl, _, rfl⟩⟩
    refine ⟨.ref s.heap.objs.size, _, I3, rfl, ⟨_, x, rfl, ⟨hTn, rfl⟩, fun ys hy => ?_⟩, ⟨⟨x', by simpa using he2⟩, ?_⟩, fun b hb => ?_⟩
    · cases I.list_inj hS hy; exact hx
    · exact hit'.at fun o q => (hs2.2 it hei.symm).trans q
    · have hne : b ≠ s.heap.objs.size := by
        rcases List.mem_cons.mp hb with z | z
        · rw [z]; exact Nat.ne_of_lt helt
        · rw [show b = it by simpa using z]; exact Nat.ne_of_lt hilt
      rw [upd_ne hne]; exact (hf b hb).1
  done := by
    intro X hP hw hK hc i pins s σ H E I hf st hg
    subst hP hw hK
    obtain ⟨⟨old, he⟩, hit⟩ := st
    obtain ⟨xs, hS, hl⟩ := hg
    obtain ⟨its, rv, p, hz⟩ := I.list hS
    have hlen := rv.length
    refine wpAny_pyNext_enum_endD (draws_end (A := X.A.in1) (I.ok.hd hc) (i := i) (items := its.toArray) (by simp; omega)) he ⟨hit, p.isList⟩ fun h' hx => ⟨rfl, ?_⟩
    exact I.turnedL (t' := s.toks) hf fun b o hb q => hx b o (fun z => hb (by simp [z])) q
  self := fun _ _ _ _ _ ⟨⟨_, he⟩, _⟩ h => wpAny_pyIter_enum he h
def iEnum1 (K : Frag) (ta : TA) : TI := fun σ H R => ta σ H fun vs H1 => ∃ l, vs = [.ref l] ∧ (∃ xs, SqL K H1 l xs) ∧ R (Ite1 K l) H1
theorem i_enum1 {K : Frag} {ta : TA} {σ : St} {H : Hp} {R : It → Hp → Prop} (q : ta σ H fun vs H1 => ∃ l, vs = [.ref l] ∧ (∃ xs, SqL K H1 l xs) ∧ R (Ite1 K l) H1) : iEnum1 K ta σ H R := q
theorem pi_enum1 {X : Cx} {es : List Expr} {k : Nat} {tp kp cp : Pos} {j} {a : Expr} {ta : TA} {p pos : Pos} (hg : Gl X "enumerate") (hm : X.mg "enumerate" = none) (ha : PA X [a] ta) (hs : starEach [a] X.env = [(false, eval a X.env)] := by rfl) : PI X (.Tuple es k tp) (.Call (.Name "enumerate" p) [a] [⟨some "start", .Constant (.int 1) j cp, kp⟩] pos) (iEnum1 X.K ta) := by
  intro pins s σ H R I h
  show wpAny _ _ (do callWith pos (← eval (.Name "enumerate" p) X.env) [] (backTo pos (starEach [a] X.env)) (backToKw pos (keywordEach [⟨some "start", .Constant (.int 1) j cp, kp⟩] X.env))) _ _ s
  refine wpAny_bind (ld_blt I hg hm PyProof.Rows.boot_enumerate ?_)
  refine callWith_typeK (by rw [hs]; rfl) rfl ?_
  obtain ⟨x0, he⟩ : ∃ x, backTo pos (starEach [a] X.env) = [(false, x)] := by rw [hs]; exact ⟨_, rfl⟩
  rw [he]
  refine PyProof.Rows.evalArgs_kwB rfl ?_
  rw [← he]
  refine thn (ha pos pins s σ H _ I h) fun us s1 ⟨vs, H1, I1, r1, q1⟩ => ?_
  refine PyProof.Rows.kws_cons ?_
  refine thn (pe_int (i := 1) pins s1 σ H1 (fun v H2 => v = .int 1 ∧ H2 = H1) I1 ⟨rfl, rfl⟩) fun v s2 ⟨x, H2, I2, r2, e1, e2⟩ => ?_
  subst e1 e2
  obtain ⟨tk, rfl⟩ := r2
  refine PyProof.Rows.kws_nil ?_
  obtain ⟨l, e, ⟨xs, hS⟩, q⟩ := q1
  subst e
  cases r1 with
  | cons r rr =>
    cases rr
    cases r
    obtain ⟨its, rv, pl, hz⟩ := I2.list hS
    show wpAny _ _ (call (.type "enumerate") [.ref l] [("start", .int 1 tk)]) _ _ s2
    refine call_enum_from pl.isList fun h' he hit hsz hk => ?_
    have hne : s2.heap.objs.size + 1 ≠ s2.heap.objs.size := Nat.succ_ne_self _
    have I3 : Inv X pins σ H2 { s2 with heap := h' } := I2.kept (t' := s2.toks) fun b o e => hk b o e
    refine wpAny_pyIter_enum he ⟨s2.heap.objs.size + 1, [s2.heap.objs.size + 1, s2.heap.objs.size], _, _, H2, rfl, I3, turn_enum1 _ _ l hne, ⟨⟨_, he⟩, hit⟩, fun b hb => ?_, q⟩
    have hb' : s2.heap.objs.size ≤ b := by
      rcases List.mem_cons.mp hb with z | z
      · rw [z]; exact Nat.le_succ _
      · rw [show b = s2.heap.objs.size by simpa using z]; exact Nat.le_refl _
    exact I2.fpOk hb' (I2.hok.fresh hb')
theorem for_enum1 {K : Frag} {l : Addr} {xs : List V} {g : TG} {tb : TS} {D : Ends} {σ : St} {H : Hp} (Pv : Nat → St → Hp → Prop) (h0 : Pv 0 σ H) (hl : ∀ i σ H, i ≤ xs.length → Pv i σ H → SqL K H l xs)
    (hs : ∀ i x T σ H H', xs[i]? = some x → Pv i σ H → New H T (.tup [.int ((i + 1 : Nat) : Int), x]) H' → g (.ref T) σ H' fun σ2 H2 => tb { D with nx := Pv (i + 1), ct := Pv (i + 1), bk := D.nx } σ2 H2) (hd : ∀ σ H, Pv xs.length σ H → D.nx σ H) :
    ∃ W : Nat → Nat → St → Hp → Prop, (∃ m, W 0 m σ H) ∧ ∀ i m σ H, W i m σ H →
      ((Ite1 K l).stop i H ∧ D.nx σ H) ∨ ((Ite1 K l).go i H ∧ ∃ N : St → Hp → Prop, (∀ σ' H', N σ' H' → ∃ m', m' < m ∧ W (i + 1) m' σ' H') ∧ ∀ x H', (Ite1 K l).yld i H x H' → g x σ H' fun σ2 H2 => tb { D with nx := N, ct := N, bk := D.nx } σ2 H2) := by
  refine ⟨fun i m σ H => m = xs.length - i ∧ i ≤ xs.length ∧ Pv i σ H, ⟨xs.length, by simp, Nat.zero_le _, h0⟩, ?_⟩
  rintro i m σ H ⟨rfl, hi, p⟩
  have q := hl i σ H hi p
  by_cases hlt : i < xs.length
  · refine .inr ⟨⟨xs, xs[i], q, by simp [hlt]⟩, Pv (i + 1), fun σ' H' p' => ⟨xs.length - (i + 1), by omega, rfl, hlt, p'⟩, fun v H' y => ?_⟩
    obtain ⟨T, x, rfl, hN, y⟩ := y
    exact hs i x T σ H H' (y xs q) p hN
  · have e : i = xs.length := by omega
    subst e
    exact .inl ⟨⟨xs, q, Nat.le_refl _⟩, hd σ H p⟩
end L2
set_option Elab.async false
set_option linter.all false
set_option maxRecDepth 100000
set_option maxHeartbeats 4000000
namespace Lap
open PySem L2
seal PE PA PT PS PSs PW PI PG PO
local macro_rules | `(tactic| walk_at "rd1") => `(tactic| first
  | (with_reducible refine i_callX ?_) | (with_reducible refine i_chain ?_) | (with_reducible refine i_gcons ?_) | (with_reducible refine i_gnil ?_) | (with_reducible refine i_inS ?_) | (with_reducible refine i_max ?_) | (with_reducible refine i_raise ?_) | (with_reducible refine i_bm0 ?_) | (with_reducible refine i_bm ?_) | (with_reducible refine i_fmt ?_) | (with_reducible refine i_jNil ?_) | (with_reducible refine i_jRepr ?_) | (with_reducible refine i_jPlain ?_) | (with_reducible refine i_lstA ?_) | (with_reducible refine i_tupA ?_)
  | (with_reducible refine i_seq ?_) | (with_reducible refine i_sl ?_) | (with_reducible refine i_noPart ?_) | (with_reducible refine i_part ?_) | (with_reducible refine i_partI ?_) | (with_reducible refine i_eqB ?_) | (with_reducible refine i_ret ?_) | (with_reducible refine i_ifS ?_) | (with_reducible refine i_asg ?_) | (with_reducible refine i_name ?_) | (with_reducible refine i_next ?_) | (with_reducible refine i_drop ?_)
  | (with_reducible refine i_op ?_) | (with_reducible refine i_un ?_) | (with_reducible refine i_C ?_)
  | ((with_reducible show tVar _ _ _ _); refine ⟨_, rfl, ?_⟩)
  | (with_reducible refine i_I0 ?_) | (with_reducible refine i_U ?_) | (with_reducible refine i_test ?_) | (with_reducible refine i_B ?_) | (with_reducible refine i_bl ?_)
  | (with_reducible refine i_eqI ?_) | (with_reducible refine i_eqS ?_) | (with_reducible refine i_neI ?_) | (with_reducible refine i_neS ?_)
  | (with_reducible refine i_and ?_) | (with_reducible refine i_or ?_) | (with_reducible refine i_not ?_) | (with_reducible refine i_andV ?_) | (with_reducible refine i_orV ?_) | (with_reducible refine i_notV ?_) | (with_reducible refine i_if ?_)
  | (with_reducible refine i_call ?_) | (with_reducible refine i_CB ?_) | (with_reducible refine i_nil ?_) | (with_reducible refine i_cons ?_)
  | (with_reducible refine iteT ?_) | (with_reducible refine iteF ?_) | (with_reducible refine iteNT ?_) | (with_reducible refine iteNF ?_)
  | ((with_reducible refine i_mod ?_ ?_); (first | assumption | (decide +kernel) | omega))
  | ((with_reducible refine i_div ?_ ?_); (decide +kernel))
  | ((with_reducible refine i_pow ?_ ?_); (decide +kernel)))
local macro_rules | `(tactic| walk_at "rd") => `(tactic| repeat (walk_at "rd1"))
def top (i : Nat) : Stmt := PySem.Challenge.pw_lapwork_k71_loops_shown_and_read.main.body.getD i (.Pass ⟨0, 0, 0, 0⟩)
abbrev st_Deed_wants : Stmt := inClass (top 15) 0
theorem sc_Deed_wants : FnScope ["self"] ["self"] (defScope st_Deed_wants) := ⟨rfl, rfl, rfl, by decide +kernel, rfl, by decide +kernel, by decide +kernel⟩
abbrev st_Sum_wants : Stmt := inClass (top 16) 0
theorem sc_Sum_wants : FnScope ["self"] ["self"] (defScope st_Sum_wants) := ⟨rfl, rfl, rfl, by decide +kernel, rfl, by decide +kernel, by decide +kernel⟩
abbrev st_Less_wants : Stmt := inClass (top 17) 0
theorem sc_Less_wants : FnScope ["self"] ["self"] (defScope st_Less_wants) := ⟨rfl, rfl, rfl, by decide +kernel, rfl, by decide +kernel, by decide +kernel⟩
abbrev st_Times_wants : Stmt := inClass (top 18) 0
theorem sc_Times_wants : FnScope ["self"] ["self"] (defScope st_Times_wants) := ⟨rfl, rfl, rfl, by decide +kernel, rfl, by decide +kernel, by decide +kernel⟩
abbrev st_Least_wants : Stmt := inClass (top 19) 0
theorem sc_Least_wants : FnScope ["self"] ["self"] (defScope st_Least_wants) := ⟨rfl, rfl, rfl, by decide +kernel, rfl, by decide +kernel, by decide +kernel⟩
abbrev st_Most_wants : Stmt := inClass (top 20) 0
theorem sc_Most_wants : FnScope ["self"] ["self"] (defScope st_Most_wants) := ⟨rfl, rfl, rfl, by decide +kernel, rfl, by decide +kernel, by decide +kernel⟩
abbrev st_Pick_wants : Stmt := inClass (top 21) 0
theorem sc_Pick_wants : FnScope ["self"] ["self"] (defScope st_Pick_wants) := ⟨rfl, rfl, rfl, by decide +kernel, rfl, by decide +kernel, by decide +kernel⟩
abbrev st_Take_wants : Stmt := inClass (top 24) 0
theorem sc_Take_wants : FnScope ["self"] ["self"] (defScope st_Take_wants) := ⟨rfl, rfl, rfl, by decide +kernel, rfl, by decide +kernel, by decide +kernel⟩
abbrev st_deed_of : Stmt := top 25
theorem sc_deed_of : FnScope ["word"] ["word"] (defScope st_deed_of) := ⟨rfl, rfl, rfl, by decide +kernel, rfl, by decide +kernel, by decide +kernel⟩
abbrev st_is_name : Stmt := top 29
theorem sc_is_name : FnScope ["text"] ["text"] (defScope st_is_name) := ⟨rfl, rfl, rfl, by decide +kernel, rfl, by decide +kernel, by decide +kernel⟩
abbrev st_is_lettered : Stmt := top 30
theorem sc_is_lettered : FnScope ["text"] ["text"] (defScope st_is_lettered) := ⟨rfl, rfl, rfl, by decide +kernel, rfl, by decide +kernel, by decide +kernel⟩
abbrev st_Loop___init__ : Stmt := inClass (top 34) 0
theorem sc_Loop___init__ : FnScope ["self", "measure", "rows"] ["self", "measure", "rows"] (defScope st_Loop___init__) := ⟨rfl, rfl, rfl, by decide +kernel, rfl, by decide +kernel, by decide +kernel⟩
abbrev st_Loop_rows : Stmt := inClass (top 34) 1
theorem sc_Loop_rows : FnScope ["self"] ["self"] (defScope st_Loop_rows) := ⟨rfl, rfl, rfl, by decide +kernel, rfl, by decide +kernel, by decide +kernel⟩
abbrev st_check_measure : Stmt := top 35
theorem sc_check_measure : FnScope ["measure"] ["measure"] (defScope st_check_measure) := ⟨rfl, rfl, rfl, by decide +kernel, rfl, by decide +kernel, by decide +kernel⟩
abbrev st_check_rows : Stmt := top 36
theorem sc_check_rows : FnScope ["rows", "names", "place", "row", "above", "read"] ["rows"] (defScope st_check_rows) := ⟨rfl, rfl, rfl, by decide +kernel, rfl, by decide +kernel, by decide +kernel⟩
abbrev st_check_head : Stmt := top 37
theorem sc_check_head : FnScope ["name", "word", "reads", "above"] ["name", "word", "reads", "above"] (defScope st_check_head) := ⟨rfl, rfl, rfl, by decide +kernel, rfl, by decide +kernel, by decide +kernel⟩
abbrev st_check_read : Stmt := top 38
theorem sc_check_read : FnScope ["read", "names", "above"] ["read", "names", "above"] (defScope st_check_read) := ⟨rfl, rfl, rfl, by decide +kernel, rfl, by decide +kernel, by decide +kernel⟩
abbrev st_check_number : Stmt := top 39
theorem sc_check_number : FnScope ["number"] ["number"] (defScope st_check_number) := ⟨rfl, rfl, rfl, by decide +kernel, rfl, by decide +kernel, by decide +kernel⟩
abbrev st_check_look_back : Stmt := top 40
theorem sc_check_look_back : FnScope ["name", "back", "names", "above"] ["name", "back", "names", "above"] (defScope st_check_look_back) := ⟨rfl, rfl, rfl, by decide +kernel, rfl, by decide +kernel, by decide +kernel⟩
abbrev st_copy_of_row : Stmt := top 41
theorem sc_copy_of_row : FnScope ["row", "reads"] ["row"] (defScope st_copy_of_row) := ⟨rfl, rfl, rfl, by decide +kernel, rfl, by decide +kernel, by decide +kernel⟩
abbrev st_depths_of : Stmt := top 42
theorem sc_depths_of : FnScope ["rows", "depths", "row", "read"] ["rows"] (defScope st_depths_of) := ⟨rfl, rfl, rfl, by decide +kernel, rfl, by decide +kernel, by decide +kernel⟩
abbrev st_loop_shown : Stmt := top 46
theorem sc_loop_shown : FnScope ["loop", "measure", "lines", "name", "word", "reads"] ["loop"] (defScope st_loop_shown) := ⟨rfl, rfl, rfl, by decide +kernel, rfl, by decide +kernel, by decide +kernel⟩
abbrev st_read_shown : Stmt := top 47
theorem sc_read_shown : FnScope ["read", "name", "back"] ["read"] (defScope st_read_shown) := ⟨rfl, rfl, rfl, by decide +kernel, rfl, by decide +kernel, by decide +kernel⟩
abbrev st_loop_read : Stmt := top 48
theorem sc_loop_read : FnScope ["text", "lines"] ["text"] (defScope st_loop_read) := ⟨rfl, rfl, rfl, by decide +kernel, rfl, by decide +kernel, by decide +kernel⟩
abbrev st_check_loop_lines : Stmt := top 49
theorem sc_check_loop_lines : FnScope ["lines", "number", "parts"] ["lines"] (defScope st_check_loop_lines) := ⟨rfl, rfl, rfl, by decide +kernel, rfl, by decide +kernel, by decide +kernel⟩
abbrev st_lines_of : Stmt := top 50
theorem sc_lines_of : FnScope ["text"] ["text"] (defScope st_lines_of) := ⟨rfl, rfl, rfl, by decide +kernel, rfl, by decide +kernel, by decide +kernel⟩
abbrev st_is_measure_line : Stmt := top 51
theorem sc_is_measure_line : FnScope ["parts"] ["parts"] (defScope st_is_measure_line) := ⟨rfl, rfl, rfl, by decide +kernel, rfl, by decide +kernel, by decide +kernel⟩
abbrev st_is_row_line : Stmt := top 52
theorem sc_is_row_line : FnScope ["parts"] ["parts"] (defScope st_is_row_line) := ⟨rfl, rfl, rfl, by decide +kernel, rfl, by decide +kernel, by decide +kernel⟩
abbrev st_is_read : Stmt := top 53
theorem sc_is_read : FnScope ["part", "halves"] ["part"] (defScope st_is_read) := ⟨rfl, rfl, rfl, by decide +kernel, rfl, by decide +kernel, by decide +kernel⟩
abbrev st_is_figures : Stmt := top 54
theorem sc_is_figures : FnScope ["part"] ["part"] (defScope st_is_figures) := ⟨rfl, rfl, rfl, by decide +kernel, rfl, by decide +kernel, by decide +kernel⟩
abbrev st_row_of : Stmt := top 55
theorem sc_row_of : FnScope ["parts"] ["parts"] (defScope st_row_of) := ⟨rfl, rfl, rfl, by decide +kernel, rfl, by decide +kernel, by decide +kernel⟩
abbrev st_read_of : Stmt := top 56
theorem sc_read_of : FnScope ["part", "halves"] ["part"] (defScope st_read_of) := ⟨rfl, rfl, rfl, by decide +kernel, rfl, by decide +kernel, by decide +kernel⟩
abbrev st_law_cell_at : Stmt := top 58
theorem sc_law_cell_at : FnScope ["_law_script", "_law_k"] ["_law_script", "_law_k"] (defScope st_law_cell_at) := ⟨rfl, rfl, rfl, by decide +kernel, rfl, by decide +kernel, by decide +kernel⟩
abbrev st_law_whole : Stmt := top 59
theorem sc_law_whole : FnScope ["_law_found"] ["_law_found"] (defScope st_law_whole) := ⟨rfl, rfl, rfl, by decide +kernel, rfl, by decide +kernel, by decide +kernel⟩
abbrev st_law_words : Stmt := top 60
theorem sc_law_words : FnScope [] [] (defScope st_law_words) := ⟨rfl, rfl, rfl, by decide +kernel, rfl, by decide +kernel, by decide +kernel⟩
abbrev st_law_sum_at : Stmt := top 61
theorem sc_law_sum_at : FnScope ["_law_script", "_law_at", "_law_many"] ["_law_script", "_law_at", "_law_many"] (defScope st_law_sum_at) := ⟨rfl, rfl, rfl, by decide +kernel, rfl, by decide +kernel, by decide +kernel⟩
abbrev st_law_names : Stmt := top 62
theorem sc_law_names : FnScope ["_law_cell", "_law_count", "_law_letters", "_law_mixed", "_law_size", "_law_at", "_law_base", "_law_step", "_law_found", "_law_k", "_law_turned_on"] ["_law_cell", "_law_count"] (defScope st_law_names) := ⟨rfl, rfl, rfl, by decide +kernel, rfl, by decide +kernel, by decide +kernel⟩
abbrev st_law_read : Stmt := top 63
theorem sc_law_read : FnScope ["_law_mixed", "_law_names_here", "_law_k", "_law_at", "_law_back"] ["_law_mixed", "_law_names_here", "_law_k"] (defScope st_law_read) := ⟨rfl, rfl, rfl, by decide +kernel, rfl, by decide +kernel, by decide +kernel⟩
abbrev st_law_rows : Stmt := top 64
theorem sc_law_rows : FnScope ["_law_script", "_law_names_here", "_law_found", "_law_many", "_law_k", "_law_cell", "_law_mixed", "_law_word", "_law_reads", "_law_j"] ["_law_script", "_law_names_here"] (defScope st_law_rows) := ⟨rfl, rfl, rfl, by decide +kernel, rfl, by decide +kernel, by decide +kernel⟩
abbrev st_law_loop_text : Stmt := top 65
theorem sc_law_loop_text : FnScope ["_law_measure", "_law_rows_here", "_law_lines", "_law_name", "_law_word", "_law_reads", "_law_line", "_law_read_here"] ["_law_measure", "_law_rows_here"] (defScope st_law_loop_text) := ⟨rfl, rfl, rfl, by decide +kernel, rfl, by decide +kernel, by decide +kernel⟩
abbrev st_law_rows_right : Stmt := top 66
theorem sc_law_rows_right : FnScope ["_law_found", "_law_rows_here", "_law_one", "_law_read_here"] ["_law_found", "_law_rows_here"] (defScope st_law_rows_right) := ⟨rfl, rfl, rfl, by decide +kernel, rfl, by decide +kernel, by decide +kernel⟩
abbrev st_law : Stmt := top 67
theorem sc_law : FnScope ["_law_script", "_law_cell", "_law_rows_here", "_law_more", "_law_measure", "_law_text", "_law_found", "_law_turn", "_law_loop"] ["_law_script"] (defScope st_law) := ⟨rfl, rfl, rfl, by decide +kernel, rfl, by decide +kernel, by decide +kernel⟩
inductive Xk where
  | Loop
  deriving DecidableEq
structure Tp0 (K : PySem.W.Frag) (C : Dk → Addr) (CE : Xk → Addr) : Prop where
  c_Sum : HasC K "Sum" (C .sum)
  c_Less : HasC K "Less" (C .less)
  c_Times : HasC K "Times" (C .times)
  c_Least : HasC K "Least" (C .least)
  c_Most : HasC K "Most" (C .most)
  c_Pick : HasC K "Pick" (C .pick)
  c_Same : HasC K "Same" (C .same)
  c_Tell : HasC K "Tell" (C .tell)
  c_Take : HasC K "Take" (C .take)
  g_Loop : PySem.W.nsIn K mainGlobals "Loop" = some (some (.ref (CE .Loop)))
structure Tp1 (K : PySem.W.Frag) (C : Dk → Addr) (CE : Xk → Addr) : Prop where
  f_wa_sum : HasM K (C .sum) "wants" "Sum.wants" st_Sum_wants
  f_wa_less : HasM K (C .less) "wants" "Less.wants" st_Less_wants
  f_wa_times : HasM K (C .times) "wants" "Times.wants" st_Times_wants
  f_wa_least : HasM K (C .least) "wants" "Least.wants" st_Least_wants
  f_wa_most : HasM K (C .most) "wants" "Most.wants" st_Most_wants
  f_wa_pick : HasM K (C .pick) "wants" "Pick.wants" st_Pick_wants
  f_wa_same : HasM K (C .same) "wants" "Deed.wants" st_Deed_wants
  f_wa_tell : HasM K (C .tell) "wants" "Deed.wants" st_Deed_wants
  f_wa_take : HasM K (C .take) "wants" "Take.wants" st_Take_wants
  i_Loop : HasCI K "Loop" (CE .Loop) "Loop.__init__" st_Loop___init__
  f_Loop_rows : HasM K (CE .Loop) "rows" "Loop.rows" st_Loop_rows
  w_LETTERS : HasV K "LETTERS" (.str (Str.ofString "abcdefghijklmnopqrstuvwxyz"))
  w_MOST_LETTERS : HasV K "MOST_LETTERS" (.int 12)
  w_MOST_ROWS : HasV K "MOST_ROWS" (.int 12)
  w_MOST_BACK : HasV K "MOST_BACK" (.int 6)
  w_FIGURES : HasV K "FIGURES" (.str (Str.ofString "0123456789"))
  w_MOST_FIGURES : HasV K "MOST_FIGURES" (.int 61)
  f_deed : HasF K "deed_of" st_deed_of
  f_islet : HasF K "is_lettered" st_is_lettered
  f_isname : HasF K "is_name" st_is_name
  f_cmeas : HasF K "check_measure" st_check_measure
  f_crows : HasF K "check_rows" st_check_rows
  f_chead : HasF K "check_head" st_check_head
  f_cread : HasF K "check_read" st_check_read
  f_cnum : HasF K "check_number" st_check_number
  f_clook : HasF K "check_look_back" st_check_look_back
  f_copy : HasF K "copy_of_row" st_copy_of_row
  f_depths : HasF K "depths_of" st_depths_of
  f_lshown : HasF K "loop_shown" st_loop_shown
  f_rshown : HasF K "read_shown" st_read_shown
  f_lread : HasF K "loop_read" st_loop_read
  f_clines : HasF K "check_loop_lines" st_check_loop_lines
  f_lines : HasF K "lines_of" st_lines_of
  f_mline : HasF K "is_measure_line" st_is_measure_line
  f_rline : HasF K "is_row_line" st_is_row_line
  f_isread : HasF K "is_read" st_is_read
structure Tp2 (K : PySem.W.Frag) (C : Dk → Addr) (CE : Xk → Addr) : Prop where
  f_figs : HasF K "is_figures" st_is_figures
  f_rowof : HasF K "row_of" st_row_of
  f_readof : HasF K "read_of" st_read_of
  f_cell : HasF K "_law_cell_at" st_law_cell_at
  f_whole : HasF K "_law_whole" st_law_whole
  f_words : HasF K "_law_words" st_law_words
  f_sumat : HasF K "_law_sum_at" st_law_sum_at
  f_names : HasF K "_law_names" st_law_names
  f_read : HasF K "_law_read" st_law_read
  f_rows : HasF K "_law_rows" st_law_rows
  f_text : HasF K "_law_loop_text" st_law_loop_text
  f_right : HasF K "_law_rows_right" st_law_rows_right
  z_len : PySem.W.nsIn K mainGlobals "len" = some none
  z_isinstance : PySem.W.nsIn K mainGlobals "isinstance" = some none
  z_int : PySem.W.nsIn K mainGlobals "int" = some none
  z_bool : PySem.W.nsIn K mainGlobals "bool" = some none
  z_range : PySem.W.nsIn K mainGlobals "range" = some none
  z_min : PySem.W.nsIn K mainGlobals "min" = some none
  z_max : PySem.W.nsIn K mainGlobals "max" = some none
  z_list : PySem.W.nsIn K mainGlobals "list" = some none
  z_tuple : PySem.W.nsIn K mainGlobals "tuple" = some none
  z_str : PySem.W.nsIn K mainGlobals "str" = some none
  z_all : PySem.W.nsIn K mainGlobals "all" = some none
  z_sum : PySem.W.nsIn K mainGlobals "sum" = some none
  z_enumerate : PySem.W.nsIn K mainGlobals "enumerate" = some none
  kII : PySem.W.kitOne K (.type "int") (.type "int") = some true
  kIB : PySem.W.kitOne K (.type "int") (.type "bool") = some false
  kTT : PySem.W.kitOne K (.type "tuple") (.type "tuple") = some true
  kTI : PySem.W.kitOne K (.type "tuple") (.type "int") = some false
  kIT : PySem.W.kitOne K (.type "int") (.type "tuple") = some false
  kLL : PySem.W.kitOne K (.type "list") (.type "list") = some true
  kSS : PySem.W.kitOne K (.type "str") (.type "str") = some true
  kOO : PySem.W.kitOne K (.ref (CE .Loop)) (.ref (CE .Loop)) = some true
  kOa : PySem.W.findIn K (.ref (CE .Loop)) "__class__" = some (some (.builtin "object.__class__"))
  kOn : PySem.W.specialIn K (.builtin "object.__class__") "__get__" = some (some (.builtin "getset_descriptor.__get__"))
  kOt : PySem.W.takesIn K (.builtin "object.__class__") = some true
structure Tp3 (K : PySem.W.Frag) (C : Dk → Addr) (CE : Xk → Addr) : Prop where
  kOm : PySem.W.mroIn K (CE .Loop) (.type "object") = some true
  nM : NoAttr K (CE .Loop) "measure"
  nK : NoAttr K (CE .Loop) "kept"
  nD : NoAttr K (CE .Loop) "depths"
structure Tp (K : PySem.W.Frag) (C : Dk → Addr) (CE : Xk → Addr) : Prop extends Tp0 K C CE, Tp1 K C CE, Tp2 K C CE, Tp3 K C CE
structure Txt (K : PySem.W.Frag) (mg : Str → Option Value) (C : Dk → Addr) (CE : Xk → Addr) : Prop extends Tp K C CE where
  mg_Sum : mg "Sum" = some (.ref (C .sum))
  mg_Less : mg "Less" = some (.ref (C .less))
  mg_Times : mg "Times" = some (.ref (C .times))
  mg_Least : mg "Least" = some (.ref (C .least))
  mg_Most : mg "Most" = some (.ref (C .most))
  mg_Pick : mg "Pick" = some (.ref (C .pick))
  mg_Same : mg "Same" = some (.ref (C .same))
  mg_Tell : mg "Tell" = some (.ref (C .tell))
  mg_Take : mg "Take" = some (.ref (C .take))
  mg_Loop : mg "Loop" = some (.ref (CE .Loop))
  nlen : mg "len" = none
  nisi : mg "isinstance" = none
  nint : mg "int" = none
  nbool : mg "bool" = none
  nrange : mg "range" = none
  nmin : mg "min" = none
  nmax : mg "max" = none
  nlist : mg "list" = none
  ntuple : mg "tuple" = none
  nstr : mg "str" = none
  nall : mg "all" = none
  nsum : mg "sum" = none
  nenumerate : mg "enumerate" = none
  v_LETTERS : ∃ u, mg "LETTERS" = some u ∧ RelV (.str (Str.ofString "abcdefghijklmnopqrstuvwxyz")) u
  v_MOST_LETTERS : ∃ u, mg "MOST_LETTERS" = some u ∧ RelV (.int 12) u
  v_MOST_ROWS : ∃ u, mg "MOST_ROWS" = some u ∧ RelV (.int 12) u
  v_MOST_BACK : ∃ u, mg "MOST_BACK" = some u ∧ RelV (.int 6) u
  v_FIGURES : ∃ u, mg "FIGURES" = some u ∧ RelV (.str (Str.ofString "0123456789")) u
  v_MOST_FIGURES : ∃ u, mg "MOST_FIGURES" = some u ∧ RelV (.int 61) u
section
variable {K : PySem.W.Frag} {mg : Str → Option Value} {C : Dk → Addr} {CE : Xk → Addr}
theorem Txt.cl (T : Txt K mg C CE) : ∀ d, Cls K (C d)
  | .sum => T.c_Sum.cl
  | .less => T.c_Less.cl
  | .times => T.c_Times.cl
  | .least => T.c_Least.cl
  | .most => T.c_Most.cl
  | .pick => T.c_Pick.cl
  | .same => T.c_Same.cl
  | .tell => T.c_Tell.cl
  | .take => T.c_Take.cl
theorem Txt.mk_Sum (T : Txt K mg C CE) : MkN K (C .sum) := T.c_Sum.mkn
theorem Txt.mk_Less (T : Txt K mg C CE) : MkN K (C .less) := T.c_Less.mkn
theorem Txt.mk_Times (T : Txt K mg C CE) : MkN K (C .times) := T.c_Times.mkn
theorem Txt.mk_Least (T : Txt K mg C CE) : MkN K (C .least) := T.c_Least.mkn
theorem Txt.mk_Most (T : Txt K mg C CE) : MkN K (C .most) := T.c_Most.mkn
theorem Txt.mk_Pick (T : Txt K mg C CE) : MkN K (C .pick) := T.c_Pick.mkn
theorem Txt.mk_Same (T : Txt K mg C CE) : MkN K (C .same) := T.c_Same.mkn
theorem Txt.mk_Tell (T : Txt K mg C CE) : MkN K (C .tell) := T.c_Tell.mkn
theorem Txt.mk_Take (T : Txt K mg C CE) : MkN K (C .take) := T.c_Take.mkn
theorem Tp.txt {h : Heap} (T : Tp K C CE) (X : K.In h) (G : h.Ns mainGlobals mg) : Txt K mg C CE where
  toTp := T
  mg_Sum := PySem.W.mg_of X G T.c_Sum.ns
  mg_Less := PySem.W.mg_of X G T.c_Less.ns
  mg_Times := PySem.W.mg_of X G T.c_Times.ns
  mg_Least := PySem.W.mg_of X G T.c_Least.ns
  mg_Most := PySem.W.mg_of X G T.c_Most.ns
  mg_Pick := PySem.W.mg_of X G T.c_Pick.ns
  mg_Same := PySem.W.mg_of X G T.c_Same.ns
  mg_Tell := PySem.W.mg_of X G T.c_Tell.ns
  mg_Take := PySem.W.mg_of X G T.c_Take.ns
  mg_Loop := PySem.W.mg_of X G T.g_Loop
  nlen := PySem.W.mg_none_of X G T.z_len
  nisi := PySem.W.mg_none_of X G T.z_isinstance
  nint := PySem.W.mg_none_of X G T.z_int
  nbool := PySem.W.mg_none_of X G T.z_bool
  nrange := PySem.W.mg_none_of X G T.z_range
  nmin := PySem.W.mg_none_of X G T.z_min
  nmax := PySem.W.mg_none_of X G T.z_max
  nlist := PySem.W.mg_none_of X G T.z_list
  ntuple := PySem.W.mg_none_of X G T.z_tuple
  nstr := PySem.W.mg_none_of X G T.z_str
  nall := PySem.W.mg_none_of X G T.z_all
  nsum := PySem.W.mg_none_of X G T.z_sum
  nenumerate := PySem.W.mg_none_of X G T.z_enumerate
  v_LETTERS := T.w_LETTERS.mg X G
  v_MOST_LETTERS := T.w_MOST_LETTERS.mg X G
  v_MOST_ROWS := T.w_MOST_ROWS.mg X G
  v_MOST_BACK := T.w_MOST_BACK.mg X G
  v_FIGURES := T.w_FIGURES.mg X G
  v_MOST_FIGURES := T.w_MOST_FIGURES.mg X G
end
def spWhole : Sp := fun vs H Q _ => ∃ i : Int, vs = [.int i] ∧ Q (.bl true) H
structure Scr (K : PySem.W.Frag) (H : Hp) (a : Addr) (ns : List Int) : Prop where
  at_ : SqL K H a (ns.map V.int)
  len : ns.length ≤ 63
  bits : ∀ i ∈ ns, Builtin.Int.intBits i ≤ 1048576
theorem Scr.same {K : PySem.W.Frag} {H H' : Hp} {a : Addr} {ns : List Int} (s : Same H H') (h : Scr K H a ns) : Scr K H' a ns := ⟨s.seq h.at_, h.len, h.bits⟩
theorem Scr.getD {K : PySem.W.Frag} {H : Hp} {a : Addr} {ns : List Int} (h : Scr K H a ns) (k : Nat) : Builtin.Int.intBits (ns.getD k 0) ≤ 1048576 := by
  by_cases hk : k < ns.length
  · rw [List.getD, List.getElem?_eq_getElem hk]; exact h.bits _ (List.getElem_mem hk)
  · rw [List.getD, List.getElem?_eq_none (by omega)]; exact (by decide : Builtin.Int.intBits 0 ≤ 1048576)
def spCell (K : PySem.W.Frag) : Sp := fun vs H Q _ => ∃ (a : Addr) (ns : List Int) (k : Nat), vs = [.ref a, .int (k : Int)] ∧ Scr K H a ns ∧ ∀ i : Int, Builtin.Int.intBits i ≤ 1048576 → Q (.int i) H
def dks : List Dk := [.sum, .less, .times, .least, .most, .pick, .same, .tell, .take]
def wordsV : List V := dks.map fun d => V.str d.word
def spWords : Sp := fun vs H Q _ => vs = [] ∧ ∀ p H2, New H p (.lst wordsV) H2 → Q (.ref p) H2
def Dk.wants : Dk → Nat
  | .pick => 3 | .same => 1 | .tell => 1 | .take => 0 | _ => 2
def spWants (d : Dk) : Sp := fun vs H Q _ => ∃ a : Addr, vs = [.ref a] ∧ Q (.int (d.wants : Nat)) H
section
variable {P : Program} {w : World} {K : PySem.W.Frag} {mg : Str → Option Value} {base : Heap} {C : Dk → Addr} {CE : Xk → Addr}
theorem wa_sum (T : Txt K mg C CE) : ∃ f fd, Meth K (C .sum) "wants" f ∧ FnOk P w K mg base CX0 1 f fd ["self"] (spWants .sum) ∧ Binds K fd ["self"] [] := by
  refine T.f_wa_sum.fn sc_Sum_wants (fun _ _ _ _ _ _ us hl => match us, hl with | [_], _ => rfl) (by rintro vs H Q E ⟨a, rfl, _⟩; rfl) (fun f cdv A outer s H vs Q E hr h => ?_)
  obtain ⟨a, rfl, q⟩ := h
  refine ⟨_, (pss_one (ps_ret pe_int)), ?_⟩
  walk_at "rd"
  exact q
theorem wa_less (T : Txt K mg C CE) : ∃ f fd, Meth K (C .less) "wants" f ∧ FnOk P w K mg base CX0 1 f fd ["self"] (spWants .less) ∧ Binds K fd ["self"] [] := by
  refine T.f_wa_less.fn sc_Less_wants (fun _ _ _ _ _ _ us hl => match us, hl with | [_], _ => rfl) (by rintro vs H Q E ⟨a, rfl, _⟩; rfl) (fun f cdv A outer s H vs Q E hr h => ?_)
  obtain ⟨a, rfl, q⟩ := h
  refine ⟨_, (pss_one (ps_ret pe_int)), ?_⟩
  walk_at "rd"
  exact q
theorem wa_times (T : Txt K mg C CE) : ∃ f fd, Meth K (C .times) "wants" f ∧ FnOk P w K mg base CX0 1 f fd ["self"] (spWants .times) ∧ Binds K fd ["self"] [] := by
  refine T.f_wa_times.fn sc_Times_wants (fun _ _ _ _ _ _ us hl => match us, hl with | [_], _ => rfl) (by rintro vs H Q E ⟨a, rfl, _⟩; rfl) (fun f cdv A outer s H vs Q E hr h => ?_)
  obtain ⟨a, rfl, q⟩ := h
  refine ⟨_, (pss_one (ps_ret pe_int)), ?_⟩
  walk_at "rd"
  exact q
theorem wa_least (T : Txt K mg C CE) : ∃ f fd, Meth K (C .least) "wants" f ∧ FnOk P w K mg base CX0 1 f fd ["self"] (spWants .least) ∧ Binds K fd ["self"] [] := by
  refine T.f_wa_least.fn sc_Least_wants (fun _ _ _ _ _ _ us hl => match us, hl with | [_], _ => rfl) (by rintro vs H Q E ⟨a, rfl, _⟩; rfl) (fun f cdv A outer s H vs Q E hr h => ?_)
  obtain ⟨a, rfl, q⟩ := h
  refine ⟨_, (pss_one (ps_ret pe_int)), ?_⟩
  walk_at "rd"
  exact q
theorem wa_most (T : Txt K mg C CE) : ∃ f fd, Meth K (C .most) "wants" f ∧ FnOk P w K mg base CX0 1 f fd ["self"] (spWants .most) ∧ Binds K fd ["self"] [] := by
  refine T.f_wa_most.fn sc_Most_wants (fun _ _ _ _ _ _ us hl => match us, hl with | [_], _ => rfl) (by rintro vs H Q E ⟨a, rfl, _⟩; rfl) (fun f cdv A outer s H vs Q E hr h => ?_)
  obtain ⟨a, rfl, q⟩ := h
  refine ⟨_, (pss_one (ps_ret pe_int)), ?_⟩
  walk_at "rd"
  exact q
theorem wa_pick (T : Txt K mg C CE) : ∃ f fd, Meth K (C .pick) "wants" f ∧ FnOk P w K mg base CX0 1 f fd ["self"] (spWants .pick) ∧ Binds K fd ["self"] [] := by
  refine T.f_wa_pick.fn sc_Pick_wants (fun _ _ _ _ _ _ us hl => match us, hl with | [_], _ => rfl) (by rintro vs H Q E ⟨a, rfl, _⟩; rfl) (fun f cdv A outer s H vs Q E hr h => ?_)
  obtain ⟨a, rfl, q⟩ := h
  refine ⟨_, (pss_one (ps_ret pe_int)), ?_⟩
  walk_at "rd"
  exact q
theorem wa_same (T : Txt K mg C CE) : ∃ f fd, Meth K (C .same) "wants" f ∧ FnOk P w K mg base CX0 1 f fd ["self"] (spWants .same) ∧ Binds K fd ["self"] [] := by
  refine T.f_wa_same.fn sc_Deed_wants (fun _ _ _ _ _ _ us hl => match us, hl with | [_], _ => rfl) (by rintro vs H Q E ⟨a, rfl, _⟩; rfl) (fun f cdv A outer s H vs Q E hr h => ?_)
  obtain ⟨a, rfl, q⟩ := h
  refine ⟨_, (pss_one (ps_ret pe_int)), ?_⟩
  walk_at "rd"
  exact q
theorem wa_tell (T : Txt K mg C CE) : ∃ f fd, Meth K (C .tell) "wants" f ∧ FnOk P w K mg base CX0 1 f fd ["self"] (spWants .tell) ∧ Binds K fd ["self"] [] := by
  refine T.f_wa_tell.fn sc_Deed_wants (fun _ _ _ _ _ _ us hl => match us, hl with | [_], _ => rfl) (by rintro vs H Q E ⟨a, rfl, _⟩; rfl) (fun f cdv A outer s H vs Q E hr h => ?_)
  obtain ⟨a, rfl, q⟩ := h
  refine ⟨_, (pss_one (ps_ret pe_int)), ?_⟩
  walk_at "rd"
  exact q
theorem wa_take (T : Txt K mg C CE) : ∃ f fd, Meth K (C .take) "wants" f ∧ FnOk P w K mg base CX0 1 f fd ["self"] (spWants .take) ∧ Binds K fd ["self"] [] := by
  refine T.f_wa_take.fn sc_Take_wants (fun _ _ _ _ _ _ us hl => match us, hl with | [_], _ => rfl) (by rintro vs H Q E ⟨a, rfl, _⟩; rfl) (fun f cdv A outer s H vs Q E hr h => ?_)
  obtain ⟨a, rfl, q⟩ := h
  refine ⟨_, (pss_one (ps_ret pe_int)), ?_⟩
  walk_at "rd"
  exact q
theorem m_wants (T : Txt K mg C CE) : MethI P w K mg base 1 "wants" ["self"] C spWants := by
  refine ⟨fun d => ⟨T.cl d, ?_⟩⟩
  cases d
  · exact wa_sum T
  · exact wa_less T
  · exact wa_times T
  · exact wa_least T
  · exact wa_most T
  · exact wa_pick T
  · exact wa_same T
  · exact wa_tell T
  · exact wa_take T
theorem d_deed (T : Txt K mg C CE) (Kb : K.In base) (G : base.Ns mainGlobals mg) : Df P w K mg base 1 "deed_of" ["word"] (spDeedA C) := by
  refine T.f_deed.df Kb G sc_deed_of (fun _ _ _ _ _ _ us hl => match us, hl with | [_], _ => rfl) (by rintro vs H Q E ⟨d, rfl, _⟩; rfl) (fun f cdv A outer s H vs Q E hr h => ?_)
  refine ⟨_, (pss_cons (ps_if (pt_cmpR op_eq (pv 0) pe_str (nomark _)) (pss_one (ps_ret (pe_makeA T.mk_Sum rfl T.mg_Sum))) pss_nil)
    (pss_cons (ps_if (pt_cmpR op_eq (pv 0) pe_str (nomark _)) (pss_one (ps_ret (pe_makeA T.mk_Less rfl T.mg_Less))) pss_nil)
    (pss_cons (ps_if (pt_cmpR op_eq (pv 0) pe_str (nomark _)) (pss_one (ps_ret (pe_makeA T.mk_Times rfl T.mg_Times))) pss_nil)
    (pss_cons (ps_if (pt_cmpR op_eq (pv 0) pe_str (nomark _)) (pss_one (ps_ret (pe_makeA T.mk_Least rfl T.mg_Least))) pss_nil)
    (pss_cons (ps_if (pt_cmpR op_eq (pv 0) pe_str (nomark _)) (pss_one (ps_ret (pe_makeA T.mk_Most rfl T.mg_Most))) pss_nil)
    (pss_cons (ps_if (pt_cmpR op_eq (pv 0) pe_str (nomark _)) (pss_one (ps_ret (pe_makeA T.mk_Pick rfl T.mg_Pick))) pss_nil)
    (pss_cons (ps_if (pt_cmpR op_eq (pv 0) pe_str (nomark _)) (pss_one (ps_ret (pe_makeA T.mk_Same rfl T.mg_Same))) pss_nil)
    (pss_cons (ps_if (pt_cmpR op_eq (pv 0) pe_str (nomark _)) (pss_one (ps_ret (pe_makeA T.mk_Tell rfl T.mg_Tell))) pss_nil)
    (pss_cons (ps_if (pt_cmpR op_eq (pv 0) pe_str (nomark _)) (pss_one (ps_ret (pe_makeA T.mk_Take rfl T.mg_Take))) pss_nil)
    (pss_one ps_never)))))))))), ?_⟩
  obtain ⟨d, rfl, k⟩ := h
  cases d
  all_goals
    repeat (first
      | (walk_at "rd1")
      | ((with_reducible refine i_iteSe ?_ ?_); (rfl))
      | ((with_reducible refine i_iteSf ?_ ?_); (decide +kernel)))
    exact k
theorem d_whole (T : Txt K mg C CE) (Kb : K.In base) (G : base.Ns mainGlobals mg) : Df P w K mg base 1 "_law_whole" ["_law_found"] spWhole := by
  refine T.f_whole.df Kb G sc_law_whole (fun _ _ _ _ _ _ us hl => match us, hl with | [_], _ => rfl) (by rintro vs H Q E ⟨i, rfl, _⟩; rfl) (fun f cdv A outer s H vs Q E hr h => ?_)
  obtain ⟨i, rfl, q⟩ := h
  refine ⟨_, (pss_one (ps_ret (pe_and (pe_callB call_isi rfl T.nisi PyProof.Rows.boot_isinstance (pa_cons (pv 0) (pa_cons (pe_bltn (v := .ty "int") rfl T.nint PyProof.Rows.boot_int rfl) pa_nil (se rfl)) (se rfl)) (he := se rfl) (hpl := nst rfl)) (pe_one (pe_not (pe_callB call_isi rfl T.nisi PyProof.Rows.boot_isinstance (pa_cons (pv 0) (pa_cons (pe_bltn (v := .ty "bool") rfl T.nbool PyProof.Rows.boot_bool rfl) pa_nil (se rfl)) (se rfl)) (he := se rfl) (hpl := nst rfl))))))), ?_⟩
  walk_at "rd"
  refine ⟨_, _, _, _, rfl, rfl, .int i, T.kII, ?_⟩
  walk_at "rd"
  refine ⟨_, _, _, _, rfl, rfl, .int i, T.kIB, ?_⟩
  walk_at "rd"
  exact q
theorem d_cell (T : Txt K mg C CE) (Kb : K.In base) (G : base.Ns mainGlobals mg) : Df P w K mg base 1 "_law_cell_at" ["_law_script", "_law_k"] (spCell K) := by
  refine T.f_cell.df Kb G sc_law_cell_at (fun _ _ _ _ _ _ us hl => match us, hl with | [_, _], _ => rfl) (by rintro vs H Q E ⟨a, ns, k, rfl, _⟩; rfl) (fun f cdv A outer s H vs Q E hr h => ?_)
  obtain ⟨a, ns, k, rfl, hS, q⟩ := h
  refine ⟨_, (pss_cons (ps_if (pt_cmpR op_lt (pv 1) (pe_callB call_len_seq rfl T.nlen PySem.boot_len (pa_cons (pv 0) pa_nil (se rfl)) (he := se rfl) (hpl := nst rfl)) (nomark _)) (pss_one (ps_ret (pe_ix ix_seq (pv 0) (pv 1) (fun _ _ => rfl)))) pss_nil)
    (pss_one (ps_ret pe_int))), ?_⟩
  walk_at "rd"
  refine ⟨a, _, rfl, .inl hS.at_, ?_⟩
  walk_at "rd"
  refine i_iteD (fun hk => ?_) (fun hk => ?_)
  · walk_at "rd"
    rw [List.length_map] at hk
    refine i_ixL hS.at_ (at_ints k (by omega)) ?_
    exact q _ (hS.getD k)
  · walk_at "rd"
    exact q _ (by decide)
theorem d_words (T : Txt K mg C CE) (Kb : K.In base) (G : base.Ns mainGlobals mg) : Df P w K mg base 1 "_law_words" [] spWords := by
  refine T.f_words.df Kb G sc_law_words (fun _ _ _ _ _ _ us hl => match us, hl with | [], _ => rfl) (by rintro vs H Q E ⟨rfl, _⟩; rfl) (fun f cdv A outer s H vs Q E hr h => ?_)
  obtain ⟨rfl, q⟩ := h
  refine ⟨_, (pss_one (ps_ret (pe_lstA (pa_cons pe_str (pa_cons pe_str (pa_cons pe_str (pa_cons pe_str (pa_cons pe_str (pa_cons pe_str (pa_cons pe_str (pa_cons pe_str (pa_cons pe_str pa_nil (se rfl)) (se rfl)) (se rfl)) (se rfl)) (se rfl)) (se rfl)) (se rfl)) (se rfl)) (se rfl))))), ?_⟩
  walk_at "rd"
  refine ⟨by show 9 ≤ sizeLine; decide, fun p H2 hN => ?_⟩
  exact q p H2 hN
theorem mod_b (x : Int) {m : Int} (h : 0 < m) : 0 ≤ x % m ∧ x % m < m := ⟨Int.emod_nonneg x (by omega), Int.emod_lt_of_pos x h⟩
theorem line_big : 10000 ≤ sizeLine := by rw [sizeLine_eq]; decide
theorem pick_list {α β : Type} : ∀ (ys : List β) (P : Nat → α → β → Prop), (∀ (i : Nat) y, ys[i]? = some y → ∃ r, P i r y) → ∃ rs : List α, rs.length = ys.length ∧ ∀ (i : Nat) r y, rs[i]? = some r → ys[i]? = some y → P i r y
  | [], _, _ => ⟨[], rfl, fun i r y e => by simp at e⟩
  | y :: ys, P, h => by
    obtain ⟨r, hr⟩ := h 0 y rfl
    obtain ⟨rs, hl, hP⟩ := pick_list ys (fun i => P (i + 1)) (fun i y' e => h (i + 1) y' e)
    refine ⟨r :: rs, by simp [hl], fun i r' y' e1 e2 => ?_⟩
    cases i with
    | zero => cases e1; cases e2; exact hr
    | succ i => exact hP i r' y' e1 e2
theorem sum_bits : ∀ zs : List Int, (∀ z ∈ zs, Builtin.Int.intBits z ≤ 1048576) → Builtin.Int.intBits zs.sum ≤ 1048576 + zs.length
  | [], _ => (by decide : Builtin.Int.intBits 0 ≤ 1048576 + 0)
  | z :: zs, h => by
    have h1 := h z List.mem_cons_self
    have h2 := sum_bits zs fun y hy => h y (List.mem_cons_of_mem _ hy)
    have h3 := intBits_add_le h1 h2
    rw [List.sum_cons, List.length_cons]
    omega
theorem size_le {i j c : Int} (hi : 0 ≤ i) (hj : 0 ≤ j) (hc : 0 < c) : ((Builtin.Range.rangeSize i j c).toNat : Int) ≤ j := by
  cases hn : (Builtin.Range.rangeSize i j c).toNat with
  | zero => simpa using hj
  | succ n =>
    have h := step_lt (i := i) (j := j) (c := c) (k := n) hc (by omega)
    have h2 : (n : Int) * 1 ≤ n * c := Int.mul_le_mul_of_nonneg_left (by omega) (by omega)
    omega
def spSumAt (K : PySem.W.Frag) : Sp := fun vs H Q _ => ∃ (a : Addr) (ns : List Int) (k m : Nat), vs = [.ref a, .int (k : Int), .int (m : Int)] ∧ Scr K H a ns ∧ k ≤ 100 ∧ 0 < m ∧ m ≤ 100 ∧ ∀ (i : Int) H2, Same H H2 → Builtin.Int.intBits i ≤ 1048640 → Q (.int i) H2
theorem d_sumat (T : Txt K mg C CE) (Kb : K.In base) (G : base.Ns mainGlobals mg) : Df P w K mg base 1 "_law_sum_at" ["_law_script", "_law_at", "_law_many"] (spSumAt K) := by
  refine T.f_sumat.df Kb G sc_law_sum_at (fun _ _ _ _ _ _ us hl => match us, hl with | [_, _, _], _ => rfl) (by rintro vs H Q E ⟨a, ns, k, m, rfl, _⟩; rfl) (fun f cdv A outer s H vs Q E hr h => ?_)
  obtain ⟨a, ns, k, m, rfl, hS, hk, hm0, hm, q⟩ := h
  refine ⟨_, (pss_one (ps_ret (pe_callB (call_sum rfl) rfl T.nsum boot_sum0 (pa_cons (pe_lc (Blk.of (caps := ["_law_script"]) (ix := [0]) rfl) rfl (pi_range3 rfl T.nrange (pa_cons (pv 1) (pa_cons (pe_callB (call_min2 rfl) rfl T.nmin PyProof.Rows.boot_min (pa_cons (pe_callB call_len_seq rfl T.nlen PySem.boot_len (pa_cons (pv 0) pa_nil (se rfl)) (he := se rfl) (hpl := nst rfl)) (pa_cons pe_int pa_nil (se rfl)) (se rfl)) (he := se rfl) (hpl := nst rfl)) (pa_cons (pv 2) pa_nil (se rfl)) (se rfl)) (se rfl))) (fun _ _ _ _ => pf_nil) (fun _ _ _ _ => (pe_ix (ix_seqK (K := K) rfl) (pv 1) (pv 0) (fun _ _ => rfl)))) pa_nil (se rfl)) (he := se rfl) (hpl := nst rfl)))), ?_⟩
  have hl := hS.len
  have lb := line_big
  walk_at "rd"
  refine i_lc (i_rng3 ?_)
  walk_at "rd"
  refine ⟨a, _, rfl, .inl hS.at_, ?_⟩
  walk_at "rd"
  rw [List.length_map]
  refine ⟨_, _, rfl, ?_⟩
  rw [if_neg (by omega)]
  walk_at "rd"
  refine ⟨_, _, _, rfl, ⟨by omega, by omega, by omega, by omega, by omega, by omega⟩, ?_⟩
  have hn := size_le (i := (k : Int)) (j := (ns.length : Int)) (c := (m : Int)) (by omega) (by omega) (by omega)
  generalize hnn : (Builtin.Range.rangeSize (k : Int) (ns.length : Int) (m : Int)).toNat = n at *
  refine lcN LcIt.rng3 (fun D i y H' => ∃ z : Int, y = .int z ∧ Builtin.Int.intBits z ≤ 1048576) (by omega) (fun D i y H' H'' s h => h) (fun D i H' R hi hD hy s r => ?_) (fun D ys H' hD s hHD hyl hP => ?_)
  · have hlt := step_lt (i := (k : Int)) (j := (ns.length : Int)) (c := (m : Int)) (k := i) (by omega) (by omega)
    walk_at "rd"
    have e : (k : Int) + (i : Int) * (m : Int) = ((k + i * m : Nat) : Int) := by push_cast; rfl
    rw [e] at hlt
    rw [e]
    refine i_ixL (s.seq hS.at_) (at_ints _ (by omega)) ?_
    exact r _ _ (Same.refl _) ⟨_, rfl, hS.getD _⟩
  · obtain ⟨zs, hzl, hzs⟩ := pick_list ys (fun i (z : Int) y => y = .int z ∧ Builtin.Int.intBits z ≤ 1048576) hP
    have e : ys = List.map V.int zs := by
      refine List.ext_getElem? fun i => ?_
      rw [List.getElem?_map]
      by_cases hi : i < ys.length
      · have h1 := List.getElem?_eq_getElem (l := zs) (i := i) (by omega)
        rw [List.getElem?_eq_getElem hi, h1, (hzs i _ _ h1 (List.getElem?_eq_getElem hi)).1]; rfl
      · rw [List.getElem?_eq_none (by omega), List.getElem?_eq_none (by omega)]; rfl
    have hb : ∀ z ∈ zs, Builtin.Int.intBits z ≤ 1048576 := fun z hz => by
      obtain ⟨i, hi⟩ := List.mem_iff_getElem?.mp hz
      have hil := (List.getElem?_eq_some_iff.mp hi).1
      exact (hzs i z _ hi (List.getElem?_eq_getElem (l := ys) (by omega))).2
    rw [e] at hHD
    walk_at "rd"
    refine i_sum (sqL_inj_of hHD) ?_
    have := sum_bits zs hb
    exact q _ _ s (by omega)
theorem app_list (x y : Str) : (x ++ y).cps.toList = x.cps.toList ++ y.cps.toList := by
  show (x.cps ++ y.cps).toList = _
  simp
theorem len_list (x : Str) : x.cps.toList.length = x.length := Array.length_toList
def Lo (z : Str) : Prop := ∀ c ∈ z.cps.toList, 97 ≤ c ∧ c ≤ 122
theorem let26 {x : Int} (h0 : 0 ≤ x) (h1 : x < 26) : atI (Str.ofString "abcdefghijklmnopqrstuvwxyz").cps.toList x = some (97 + x.toNat) := by
  obtain ⟨k, rfl⟩ := Int.eq_ofNat_of_zero_le h0
  have key : ∀ j, j < 26 → (Str.ofString "abcdefghijklmnopqrstuvwxyz").cps.toList[j]? = some (97 + j) := by decide +kernel
  rw [Int.toNat_natCast]
  exact atI_nat (key k (by omega))
theorem cutV_take (xs : List V) (k : Nat) : cutV xs none (some (k : Int)) = xs.take k := by
  unfold cutV
  have e1 : HT.sIx xs.length 0 none = 0 := rfl
  have e2 : HT.sIx xs.length xs.length (some (k : Int)) = min k xs.length := by
    show (if (k : Int) < 0 then ((k : Int) + (xs.length : Int)).toNat else min (k : Int).toNat xs.length) = _
    rw [if_neg (by omega)]; omega
  rw [e1, e2, List.drop_zero, Nat.sub_zero]
  by_cases h : k ≤ xs.length
  · rw [Nat.min_eq_left h]
  · rw [Nat.min_eq_right (by omega), List.take_length, List.take_of_length_le (by omega)]
theorem cutV_drop (xs : List V) (k : Nat) : cutV xs (some (k : Int)) none = xs.drop k := by
  unfold cutV
  have e1 : HT.sIx xs.length xs.length none = xs.length := rfl
  have e2 : HT.sIx xs.length 0 (some (k : Int)) = min k xs.length := by
    show (if (k : Int) < 0 then ((k : Int) + (xs.length : Int)).toNat else min (k : Int).toNat xs.length) = _
    rw [if_neg (by omega)]; omega
  rw [e1, e2]
  by_cases h : k ≤ xs.length
  · rw [Nat.min_eq_left h]
    exact List.take_of_length_le (by rw [List.length_drop]; omega)
  · rw [Nat.min_eq_right (by omega), List.drop_eq_nil_of_le (Nat.le_refl _), List.drop_eq_nil_of_le (by omega)]; simp
theorem flat_one (l : List Nat) : ((l.map fun c => (⟨#[c]⟩ : Str)).map fun z => z.cps.toList).flatten = l := by
  induction l with
  | nil => rfl
  | cons c l ih => rw [List.map_cons, List.map_cons, List.flatten_cons, ih]; rfl
structure NmsOk (zs : List Str) : Prop where
  one : ∀ z ∈ zs, 1 ≤ z.length ∧ z.length ≤ 12 ∧ Lo z
  nd : zs.Nodup
def nmA (c : Nat) (r : Int) (j : Nat) : List Nat := List.replicate (((j : Int) + r) % 12 + 1).toNat c
def nmB (pre post : List Nat) (r st : Int) (j : Nat) : List Nat := pre ++ [97 + ((r + (j : Int) * st) % 26).toNat] ++ post
theorem nmA_inj {c : Nat} {r : Int} {i j : Nat} (hi : i < 12) (hj : j < 12) (h : nmA c r i = nmA c r j) : i = j := by
  have h2 := congrArg List.length h
  unfold nmA at h2
  rw [List.length_replicate, List.length_replicate] at h2
  omega
theorem nmB_inj {pre post : List Nat} {r st : Int} {i j : Nat} (hst : st = 1 ∨ st = 3 ∨ st = 5 ∨ st = 7 ∨ st = 9 ∨ st = 11) (hi : i < 12) (hj : j < 12) (h : nmB pre post r st i = nmB pre post r st j) : i = j := by
  unfold nmB at h
  rw [List.append_assoc, List.append_assoc] at h
  have h2 := List.append_cancel_left h
  have h3 : 97 + ((r + (i : Int) * st) % 26).toNat = 97 + ((r + (j : Int) * st) % 26).toNat := by
    have := congrArg List.head? h2
    simpa using this
  rcases hst with z | z | z | z | z | z <;> subst z <;> omega
theorem nms_of {zs : List Str} {f : Nat → List Nat} (hl : zs.length ≤ 12) (hf : ∀ i z, zs[i]? = some z → z.cps.toList = f i) (h1 : ∀ i, i < 12 → 1 ≤ (f i).length ∧ (f i).length ≤ 12 ∧ ∀ c ∈ f i, 97 ≤ c ∧ c ≤ 122)
    (inj : ∀ i j, i < 12 → j < 12 → f i = f j → i = j) : NmsOk zs where
  one := fun z hz => by
    obtain ⟨i, hi⟩ := List.mem_iff_getElem?.mp hz
    have hi7 : i < 12 := Nat.lt_of_lt_of_le (List.getElem?_eq_some_iff.mp hi).1 hl
    obtain ⟨a, b, c⟩ := h1 i hi7
    have e := hf i z hi
    refine ⟨?_, ?_, fun c' hc => c c' (by rw [← e]; exact hc)⟩
    · rw [← len_list, e]; exact a
    · rw [← len_list, e]; exact b
  nd := by
    rw [List.nodup_iff_pairwise_ne, List.pairwise_iff_getElem]
    intro i j hi hj hij e
    have e1 := hf i _ (List.getElem?_eq_getElem hi)
    have e2 := hf j _ (List.getElem?_eq_getElem hj)
    rw [e, e2] at e1
    have := inj j i (by omega) (by omega) e1
    omega
def spNames : Sp := fun vs H Q _ => ∃ (c : Int) (n : Nat), vs = [.int c, .int (n : Int)] ∧ n ≤ 12 ∧ Builtin.Int.intBits c ≤ 1048576 ∧ ∀ p H2 zs, Same H H2 → H p = none → H2 p = some (.lst (List.map V.str zs)) → NmsOk zs → zs.length = n → Q (.ref p) H2
theorem at_six {x : Int} (h0 : 0 ≤ x) (h1 : x < 6) : ∃ st : Int, atI [V.int 1, V.int 3, V.int 5, V.int 7, V.int 9, V.int 11] x = some (.int st) ∧ (st = 1 ∨ st = 3 ∨ st = 5 ∨ st = 7 ∨ st = 9 ∨ st = 11) := by
  rcases (by omega : x = 0 ∨ x = 1 ∨ x = 2 ∨ x = 3 ∨ x = 4 ∨ x = 5) with z | z | z | z | z | z <;> subst z
  · exact ⟨1, rfl, by decide⟩
  · exact ⟨3, rfl, by decide⟩
  · exact ⟨5, rfl, by decide⟩
  · exact ⟨7, rfl, by decide⟩
  · exact ⟨9, rfl, by decide⟩
  · exact ⟨11, rfl, by decide⟩
theorem d_names (T : Txt K mg C CE) (Kb : K.In base) (G : base.Ns mainGlobals mg) : Df P w K mg base 1 "_law_names" ["_law_cell", "_law_count"] spNames := by
  refine T.f_names.df Kb G sc_law_names (fun _ _ _ _ _ _ us hl => match us, hl with | [_, _], _ => rfl) (by rintro vs H Q E ⟨c, n, rfl, _⟩; rfl) (fun f cdv A outer s H vs Q E hr h => ?_)
  obtain ⟨c, n, rfl, hn7, hc, q⟩ := h
  refine ⟨_, (pss_cons (ps_set (i := 2) sc_law_names.nd rfl (by first | exact Or.inl rfl | exact Or.inr rfl) pe_str)
    (pss_cons (ps_set (i := 3) sc_law_names.nd rfl (by first | exact Or.inl rfl | exact Or.inr rfl) (pe_op op_mulO (pe_op op_add (pe_op op_add (pe_op op_mulO (pv 0) (pv 0)) (pv 0)) pe_int) pe_int))
    (pss_cons (ps_set (i := 4) sc_law_names.nd rfl (by first | exact Or.inl rfl | exact Or.inr rfl) (pe_op op_add pe_int (pe_op op_mod (pv 3) pe_int)))
    (pss_cons (ps_set (i := 5) sc_law_names.nd rfl (by first | exact Or.inl rfl | exact Or.inr rfl) (pe_op op_mod (pe_op op_fdiv (pv 3) pe_int) (pv 4)))
    (pss_cons (ps_lc (i := 6) sc_law_names.nd rfl rfl (by with_unfolding_all rfl) (Blk.of (caps := ["_law_letters", "_law_mixed"]) (ix := [2, 3]) rfl) rfl (pi_range1 rfl T.nrange (pa_cons (pv 4) pa_nil (se rfl))) (fun _ _ _ _ => pf_nil) (fun _ _ _ _ => (pe_ix (ix_seqK (K := K) rfl) (pv 1) (pe_op op_mod (pe_op op_add (pe_op op_fdiv (pv 2) (pe_op op_add (pv 0) pe_int)) (pe_op op_mulO (pv 0) (pv 0))) pe_int) (fun _ _ => rfl))))
    (pss_cons (ps_set (i := 7) sc_law_names.nd rfl (by first | exact Or.inl rfl | exact Or.inr rfl) (pe_ix ix_seq (pe_lstA (pa_cons pe_int (pa_cons pe_int (pa_cons pe_int (pa_cons pe_int (pa_cons pe_int (pa_cons pe_int pa_nil (se rfl)) (se rfl)) (se rfl)) (se rfl)) (se rfl)) (se rfl))) (pe_op op_mod (pe_op op_fdiv (pv 3) pe_int) pe_int) (fun _ _ => rfl)))
    (pss_cons (ps_set (i := 8) sc_law_names.nd rfl (by first | exact Or.inl rfl | exact Or.inr rfl) (pe_lstA pa_nil))
    (pss_cons (ps_for PassesOwn.never rfl (pi_range1 rfl T.nrange (pa_cons (pv 1) pa_nil (se rfl))) (pg_name (i := 9) sc_law_names.nd rfl (Or.inl rfl))
      (pss_cons (ps_set (i := 10) sc_law_names.nd rfl (by first | exact Or.inl rfl | exact Or.inr rfl) (pe_ix ix_seq (pv 2) (pe_op op_mod (pe_op op_add (pe_op op_fdiv (pv 3) pe_int) (pe_op op_mulO (pv 9) (pv 7))) pe_int) (fun _ _ => rfl)))
    (pss_one (ps_join (ps_if (pt_cmpR op_eq (pe_op op_mod (pe_op op_fdiv (pv 3) pe_int) pe_int) pe_int (nomark _)) (pss_one (ps_expr (pe_bm PySem.F.plainAttrs_list PySem.F.slot_list_append PySem.F.type_list_append mt_append (pv 8) (pa_cons (pe_op op_repC (pe_ix ix_seq (pv 6) pe_int (fun _ _ => rfl)) (pe_op op_add (pe_op op_mod (pe_op op_add (pv 9) (pe_op op_fdiv (pv 3) pe_int)) pe_int) pe_int)) pa_nil (se rfl)) (hs := se rfl) (hplain := nst rfl)))) (pss_one (ps_expr (pe_bm PySem.F.plainAttrs_list PySem.F.slot_list_append PySem.F.type_list_append mt_append (pv 8) (pa_cons (pe_op op_addS (pe_op op_addS (pe_bm PySem.F.plainAttrs_str PySem.F.slot_str_join PySem.F.type_str_join mt_join pe_str (pa_cons (pe_slice sl_listA (pv 6) po_none (po_some (pv 5))) pa_nil (se rfl)) (hs := se rfl) (hplain := nst rfl)) (pv 10)) (pe_bm PySem.F.plainAttrs_str PySem.F.slot_str_join PySem.F.type_str_join mt_join pe_str (pa_cons (pe_slice sl_listA (pv 6) (po_some (pe_op op_add (pv 5) pe_int)) po_none) pa_nil (se rfl)) (hs := se rfl) (hplain := nst rfl))) pa_nil (se rfl)) (hs := se rfl) (hplain := nst rfl)))))))))
    (pss_one (ps_ret (pv 8))))))))))), ?_⟩
  have lb := line_big
  walk_at "rd"
  refine i_mul (IntMulOk.of_le hc hc (by decide)) ?_
  walk_at "rd"
  refine i_mul (IntMulOk.of_right (by decide)) ?_
  generalize (c * c + c + 1) * 982451653 = m at *
  walk_at "rd"
  have b12 := mod_b m (show (0 : Int) < 12 by decide)
  obtain ⟨sz, hsz⟩ : ∃ sz : Nat, 1 + m % 12 = (sz : Int) := ⟨(1 + m % 12).toNat, by omega⟩
  have hsz1 : 1 ≤ sz := by omega
  have hsz12 : sz ≤ 12 := by omega
  rw [hsz]
  clear hsz b12
  walk_at "rd"
  have bat := mod_b (m / 12) (show (0 : Int) < (sz : Int) by omega)
  obtain ⟨at', hat⟩ : ∃ at' : Nat, m / 12 % (sz : Int) = (at' : Int) := ⟨(m / 12 % (sz : Int)).toNat, by omega⟩
  rw [hat] at bat ⊢
  have hat1 : at' < sz := by omega
  clear hat bat
  walk_at "rd"
  refine i_setLc (i_lc (i_rng1 ?_))
  walk_at "rd"
  refine ⟨_, rfl, by omega, by omega, ?_⟩
  rw [Int.toNat_natCast]
  refine lcR (fun i => .str ⟨#[97 + ((m / ((i : Int) + 5) + (i : Int) * (i : Int)) % 26).toNat]⟩) (by omega) (fun i H' R hi s r => ?_) (fun D H1 hN1 => ?_)
  · rw [Int.zero_add]
    walk_at "rd"
    refine i_div ⟨by omega, by omega⟩ ?_
    walk_at "rd"
    refine i_mul (IntMulOk.of_left (PySem.intBits_le_64 (by omega) (by omega))) ?_
    walk_at "rd"
    have b := mod_b (m / ((i : Int) + 5) + (i : Int) * (i : Int)) (show (0 : Int) < 26 by decide)
    refine i_ixS (by decide +kernel) (let26 b.1 b.2) ?_
    exact r
  generalize hbs : (List.range sz).map (fun (i : Nat) => 97 + ((m / ((i : Int) + 5) + (i : Int) * (i : Int)) % 26).toNat) = bs at *
  have eb : (List.range sz).map (fun (i : Nat) => V.str ⟨#[97 + ((m / ((i : Int) + 5) + (i : Int) * (i : Int)) % 26).toNat]⟩) = List.map V.str (bs.map fun c => (⟨#[c]⟩ : Str)) := by
    rw [← hbs, List.map_map, List.map_map]; rfl
  rw [eb] at hN1
  have hbl : bs.length = sz := by rw [← hbs, List.length_map, List.length_range]
  have hbc : ∀ c ∈ bs, 97 ≤ c ∧ c ≤ 122 := by
    intro c hc'
    rw [← hbs] at hc'
    obtain ⟨i, _, rfl⟩ := List.mem_map.mp hc'
    have b := mod_b (m / ((i : Int) + 5) + (i : Int) * (i : Int)) (show (0 : Int) < 26 by decide)
    omega
  clear hbs eb
  dsimp only
  walk_at "rd"
  refine ⟨by show 6 ≤ sizeLine; decide, fun p6 H2 hN2 => ?_⟩
  walk_at "rd"
  have b6 := mod_b (m / 144) (show (0 : Int) < 6 by decide)
  obtain ⟨st, hst, hst6⟩ := at_six b6.1 b6.2
  refine i_ixL hN2.lst hst ?_
  clear hst b6
  walk_at "rd"
  refine ⟨by show 0 ≤ sizeLine; exact Nat.zero_le _, fun F H3 hN3 => ?_⟩
  walk_at "rd"
  refine i_for (i_rng1 ?_)
  walk_at "rd"
  refine ⟨_, rfl, by omega, by omega, ?_⟩
  rw [Int.toNat_natCast]
  have hb3 : H3 D = some (.lst (List.map V.str (bs.map fun c => (⟨#[c]⟩ : Str)))) := hN3.same _ _ (hN2.same _ _ hN1.at)
  have s3 : Same H H3 := (hN1.same.trans hN2.same).trans hN3.same
  have hF0 : H F = none := by
    cases e : H F with
    | none => rfl
    | some o => have := (hN1.same.trans hN2.same) _ _ e; rw [hN3.free] at this; cases this
  have hDF : D ≠ F := ne_of_none (hN2.same _ _ hN1.at) hN3.free
  obtain ⟨c0, hc0⟩ : ∃ c0, bs[0]? = some c0 := ⟨bs[0]'(by omega), List.getElem?_eq_getElem (by omega)⟩
  have hc0l := hbc c0 (List.mem_iff_getElem?.mpr ⟨0, hc0⟩)
  refine for_range (lo := 0) (n := n) (fun i σ H' => ∃ (zs : List Str) (x8 x9 : Option V), σ = [some (.int c), some (.int (n : Int)), some (.str (Str.ofString "abcdefghijklmnopqrstuvwxyz")), some (.int m), some (.int (sz : Int)), some (.int (at' : Int)), some (.ref D), some (.int st), some (.ref F), x8, x9] ∧ zs.length = i ∧ H' F = some (.lst (List.map V.str zs)) ∧ SameB F H3 H' ∧
      ∀ j z, zs[j]? = some z → z.cps.toList = if m / 900 % 3 = 1 then nmA c0 (m / 7) j else nmB (bs.take at') (bs.drop (at' + 1)) (m / 864) st j)
    ⟨[], none, none, rfl, rfl, hN3.at, fun b u n e => e, fun j z e => by simp at e⟩ ?_ ?_
  · rintro i σ H' hi ⟨zs, x8, x9, rfl, hzl, hF, s', hz⟩
    have e0 : (0 : Int) + (i : Int) = (i : Int) := Int.zero_add _
    rw [e0]
    have hD' := s' D _ hDF hb3
    walk_at "rd"
    refine i_mul (IntMulOk.of_left (PySem.intBits_le_64 (by omega) (by omega))) ?_
    walk_at "rd"
    have b26 := mod_b (m / 864 + (i : Int) * st) (show (0 : Int) < 26 by decide)
    refine i_ixS (by decide +kernel) (let26 b26.1 b26.2) ?_
    walk_at "rd"
    refine i_join (fun σ' H2' => ∃ z : Str, σ' = [some (.int c), some (.int (n : Int)), some (.str (Str.ofString "abcdefghijklmnopqrstuvwxyz")), some (.int m), some (.int (sz : Int)), some (.int (at' : Int)), some (.ref D), some (.int st), some (.ref F), some (.int (i : Int)), some (.str ⟨#[97 + ((m / 864 + (i : Int) * st) % 26).toNat]⟩)] ∧ H2' F = some (.lst (List.map V.str (zs ++ [z]))) ∧ SameB F H3 H2' ∧
      z.cps.toList = if m / 900 % 3 = 1 then nmA c0 (m / 7) i else nmB (bs.take at') (bs.drop (at' + 1)) (m / 864) st i) ?_ ?_
    · walk_at "rd"
      refine i_iteI (fun h1 => ?_) (fun h1 => ?_)
      · walk_at "rd"
        refine ⟨.inl ⟨rfl, _, sqL_inj_of hF⟩, ?_⟩
        walk_at "rd"
        refine i_ixL (sqL_inj_of hD') (show atI _ 0 = some (.str ⟨#[c0]⟩) from ?_) ?_
        · refine atI_nat (j := 0) ?_
          rw [List.getElem?_map, List.getElem?_map, hc0]; rfl
        walk_at "rd"
        have bb := mod_b ((i : Int) + m / 7) (show (0 : Int) < 12 by decide)
        refine i_repC (by omega) (by omega) fun r hr' => ?_
        walk_at "rd"
        refine i_append hF (by rw [List.length_map]; omega) ?_
        walk_at "rd"
        refine ⟨r, rfl, by rw [upd_same, List.map_append]; rfl, fun b u n e => by rw [upd_ne n]; exact s' b u n e, ?_⟩
        rw [if_pos h1, hr']; rfl
      · walk_at "rd"
        refine ⟨.inl ⟨rfl, _, sqL_inj_of hF⟩, ?_⟩
        walk_at "rd"
        refine ⟨rfl, ?_⟩
        walk_at "rd"
        refine i_slLA (sqL_inj_of hD') fun q1 H4 hN4 => ?_
        rw [cutV_take, ← List.map_take, ← List.map_take] at hN4
        walk_at "rd"
        refine i_joinS hN4.lst (fun z hz' => ?_) (by rw [List.length_map, List.length_take]; omega) fun r1 hr1 => ?_
        · obtain ⟨c', _, rfl⟩ := List.mem_map.mp hz'
          exact Nat.le_refl _
        rw [flat_one] at hr1
        have l1 : r1.length ≤ 12 := by rw [← len_list, hr1, List.length_take]; omega
        walk_at "rd"
        refine i_addS (by show r1.length + 1 ≤ _; omega) ?_
        walk_at "rd"
        refine ⟨rfl, ?_⟩
        walk_at "rd"
        have e1 : (at' : Int) + 1 = ((at' + 1 : Nat) : Int) := by omega
        refine i_slLA (sqL_inj_of (hN4.same _ _ hD')) fun q2 H5 hN5 => ?_
        rw [e1, cutV_drop, ← List.map_drop, ← List.map_drop] at hN5
        walk_at "rd"
        refine i_joinS hN5.lst (fun z hz' => ?_) (by rw [List.length_map, List.length_drop]; omega) fun r2 hr2 => ?_
        · obtain ⟨c', _, rfl⟩ := List.mem_map.mp hz'
          exact Nat.le_refl _
        rw [flat_one] at hr2
        have l2 : r2.length ≤ 12 := by rw [← len_list, hr2, List.length_drop]; omega
        refine i_addS (by rw [strLen_append]; show r1.length + 1 + _ ≤ _; omega) ?_
        walk_at "rd"
        have hF5 := hN5.same _ _ (hN4.same _ _ hF)
        refine i_append hF5 (by rw [List.length_map]; omega) ?_
        walk_at "rd"
        refine ⟨_, rfl, by rw [upd_same, List.map_append]; rfl, fun b u n e => by rw [upd_ne n]; exact hN5.same _ _ (hN4.same _ _ (s' b u n e)), ?_⟩
        rw [if_neg h1, app_list, app_list, hr1, hr2]; rfl
    rintro σ' H2' ⟨z, rfl, h1, h2, h3⟩
    refine ⟨zs ++ [z], _, _, rfl, by rw [List.length_append, hzl]; rfl, h1, h2, fun j z' e => ?_⟩
    by_cases hj : j < zs.length
    · rw [List.getElem?_append_left hj] at e
      exact hz j z' e
    · rw [List.getElem?_append_right (by omega)] at e
      have hj0 : j = i := by
        by_cases h0 : j - zs.length = 0
        · omega
        · rw [List.getElem?_eq_none (by simp; omega)] at e; cases e
      rw [hj0, show i - zs.length = 0 by omega] at e
      cases e
      rw [hj0]; exact h3
  · rintro σ H' ⟨zs, x8, x9, rfl, hzl, hF, s', hz⟩
    walk_at "rd"
    refine q F H' zs (fun b u e => s' b u (ne_of_none e hF0) (s3 _ _ e)) hF0 hF (nms_of (by omega) hz (fun i hi => ?_) (fun i j hi hj e => ?_)) hzl
    · by_cases h1 : m / 900 % 3 = 1
      · rw [if_pos h1]
        unfold nmA
        refine ⟨by rw [List.length_replicate]; omega, by rw [List.length_replicate]; omega, fun c' hc' => ?_⟩
        rw [(List.mem_replicate.mp hc').2]; exact hc0l
      · rw [if_neg h1]
        unfold nmB
        have b26 := mod_b (m / 864 + (i : Int) * st) (show (0 : Int) < 26 by decide)
        refine ⟨by rw [List.length_append, List.length_append, List.length_singleton]; omega, ?_, fun c' hc' => ?_⟩
        · rw [List.length_append, List.length_append, List.length_take, List.length_drop, List.length_singleton]; omega
        · rcases List.mem_append.mp hc' with h | h
          · rcases List.mem_append.mp h with h | h
            · exact hbc c' (List.mem_of_mem_take h)
            · have : c' = 97 + ((m / 864 + (i : Int) * st) % 26).toNat := by simpa using h
              omega
          · exact hbc c' (List.mem_of_mem_drop h)
    · by_cases h1 : m / 900 % 3 = 1
      · rw [if_pos h1, if_pos h1] at e
        exact nmA_inj hi hj e
      · rw [if_neg h1, if_neg h1] at e
        exact nmB_inj hst6 hi hj e
theorem at_str {zs : List Str} {j : Nat} (h : j < zs.length) : ∃ z, zs[j]? = some z ∧ atI (List.map V.str zs) (j : Int) = some (.str z) :=
  ⟨zs[j], List.getElem?_eq_getElem h, atI_nat (by rw [List.getElem?_map, List.getElem?_eq_getElem h]; rfl)⟩
theorem mem_snoc {α : Type} {rs : List α} {r : α} {p : α → Prop} (h : ∀ x ∈ rs, p x) (hr : p r) : ∀ x ∈ rs ++ [r], p x := fun x hx => by
  rcases List.mem_append.mp hx with h1 | h1
  · exact h x h1
  · rw [show x = r by simpa using h1]; exact hr
theorem at_dk {k : Nat} (h : k < 9) : ∃ d : Dk, dks[k]? = some d ∧ atI wordsV (k : Int) = some (.str d.word) :=
  ⟨dks[k]'h, List.getElem?_eq_getElem h, atI_nat (by unfold wordsV; rw [List.getElem?_map, List.getElem?_eq_getElem (show k < dks.length from h)]; rfl)⟩
inductive Rd where
  | num (i : Int) | back (z : Str) (b : Int)
def RdAt (H : Hp) : Rd → V → Prop
  | .num i, v => v = .int i
  | .back z b, v => ∃ a, v = .ref a ∧ H a = some (.tup [.str z, .int b])
structure RdsAt (H : Hp) (rs : List Rd) (vs : List V) : Prop where
  len : rs.length = vs.length
  at_ : ∀ (i : Nat) r v, rs[i]? = some r → vs[i]? = some v → RdAt H r v
structure Row where
  name : Str
  d : Dk
  reads : List Rd
def RowAt (H : Hp) (r : Row) (v : V) : Prop := ∃ p1 p2 vs, v = .ref p2 ∧ H p2 = some (.tup [.str r.name, .str r.d.word, .ref p1]) ∧ H p1 = some (.tup vs) ∧ RdsAt H r.reads vs
theorem RdAt.same {H H' : Hp} {r : Rd} {v : V} (s : Same H H') (h : RdAt H r v) : RdAt H' r v := by
  cases r with
  | num i => exact h
  | back z b => obtain ⟨a, e, q⟩ := h; exact ⟨a, e, s _ _ q⟩
theorem RdsAt.same {H H' : Hp} {rs : List Rd} {vs : List V} (s : Same H H') (h : RdsAt H rs vs) : RdsAt H' rs vs := ⟨h.len, fun i r v e1 e2 => (h.at_ i r v e1 e2).same s⟩
theorem RowAt.same {H H' : Hp} {r : Row} {v : V} (s : Same H H') (h : RowAt H r v) : RowAt H' r v := by
  obtain ⟨p1, p2, vs, e, h1, h2, h3⟩ := h
  exact ⟨p1, p2, vs, e, s _ _ h1, s _ _ h2, h3.same s⟩
def hide (D : Addr) (H : Hp) : Hp := fun b => if b = D then none else H b
theorem hide_same (D : Addr) (H : Hp) : Same (hide D H) H := fun b u e => by
  unfold hide at e
  by_cases hb : b = D
  · rw [if_pos hb] at e; cases e
  · rw [if_neg hb] at e; exact e
theorem hide_sameB {D : Addr} {H H' : Hp} (s : SameB D H H') : Same (hide D H) (hide D H') := fun b u e => by
  unfold hide at e ⊢
  by_cases hb : b = D
  · rw [if_pos hb] at e; cases e
  · rw [if_neg hb] at e ⊢; exact s b u hb e
theorem at_hide {D : Addr} {H : Hp} {ys xs : List V} {a : Addr} (hD : H D = some (.lst ys)) (h : H a = some (.tup xs)) : hide D H a = some (.tup xs) := by
  unfold hide
  rw [if_neg (fun z => by rw [z, hD] at h; cases h)]; exact h
theorem RdAt.hide {D : Addr} {H : Hp} {ys : List V} (hD : H D = some (.lst ys)) {r : Rd} {v : V} (h : RdAt H r v) : RdAt (hide D H) r v := by
  cases r with
  | num i => exact h
  | back z b => obtain ⟨a, e, q⟩ := h; exact ⟨a, e, at_hide hD q⟩
theorem RdsAt.hide {D : Addr} {H : Hp} {ys : List V} (hD : H D = some (.lst ys)) {rs : List Rd} {vs : List V} (h : RdsAt H rs vs) : RdsAt (hide D H) rs vs := ⟨h.len, fun i r v e1 e2 => (h.at_ i r v e1 e2).hide hD⟩
theorem RowAt.hide {D : Addr} {H : Hp} {ys : List V} (hD : H D = some (.lst ys)) {r : Row} {v : V} (h : RowAt H r v) : RowAt (hide D H) r v := by
  obtain ⟨p1, p2, vs, e, h1, h2, h3⟩ := h
  exact ⟨p1, p2, vs, e, at_hide hD h1, at_hide hD h2, h3.hide hD⟩
def RdOk (zs : List Str) (k : Nat) : Rd → Prop
  | .num i => 0 ≤ i ∧ i < 10 ^ 60
  | .back z b => ∃ j : Nat, zs[j]? = some z ∧ 0 ≤ b ∧ b ≤ 6 ∧ (b = 0 → j < k)
structure RowOk (zs : List Str) (k : Nat) (r : Row) : Prop where
  name : zs[k]? = some r.name
  many : r.reads.length = r.d.wants
  reads : ∀ rd ∈ r.reads, RdOk zs k rd
theorem RdsAt.snoc {H : Hp} {rs : List Rd} {vs : List V} {r : Rd} {v : V} (h : RdsAt H rs vs) (hr : RdAt H r v) : RdsAt H (rs ++ [r]) (vs ++ [v]) := by
  refine ⟨by rw [List.length_append, List.length_append, h.len]; rfl, fun i r' v' e1 e2 => ?_⟩
  have hl := h.len
  by_cases hi : i < rs.length
  · rw [List.getElem?_append_left hi] at e1
    rw [List.getElem?_append_left (by omega)] at e2
    exact h.at_ i r' v' e1 e2
  · rw [List.getElem?_append_right (by omega)] at e1
    rw [List.getElem?_append_right (by omega)] at e2
    have h0 : i - rs.length = 0 := by
      by_cases h0 : i - rs.length = 0
      · exact h0
      · rw [List.getElem?_eq_none (by simp; omega)] at e1; cases e1
    rw [h0] at e1; rw [show i - vs.length = 0 by omega] at e2
    cases e1; cases e2; exact hr
theorem wants3 (d : Dk) : d.wants ≤ 3 := by cases d <;> decide
structure RowsAt (H : Hp) (rs : List Row) (us : List V) : Prop where
  len : rs.length = us.length
  at_ : ∀ (i : Nat) r u, rs[i]? = some r → us[i]? = some u → RowAt H r u
theorem RowsAt.same {H H' : Hp} {rs : List Row} {us : List V} (s : Same H H') (h : RowsAt H rs us) : RowsAt H' rs us := ⟨h.len, fun i r u e1 e2 => (h.at_ i r u e1 e2).same s⟩
structure RowsOk (zs : List Str) (rs : List Row) : Prop where
  len12 : zs.length ≤ 12
  names : NmsOk zs
  len : rs.length = zs.length
  at_ : ∀ (i : Nat) r, rs[i]? = some r → RowOk zs i r
theorem max_of (a b : Int) : (if b > a then b else a) = max a b := by split <;> omega
def deepR (z : Str) (acc : Int) : Rd → Int
  | .num _ => acc
  | .back y b => if y = z then max acc b else acc
def deepRow (z : Str) (acc : Int) (r : Row) : Int := r.reads.foldl (deepR z) acc
def deep (rs : List Row) (z : Str) : Int := rs.foldl (deepRow z) 0
theorem fold_next {α β : Type} (f : β → α → β) (b : β) {l : List α} {i : Nat} {x : α} (h : l[i]? = some x) : (l.take (i + 1)).foldl f b = f ((l.take i).foldl f b) x := by
  rw [List.take_add_one, h, List.foldl_append]; rfl
theorem in_let (c : Nat) (h : 97 ≤ c ∧ c ≤ 122) : c ∈ (Str.ofString "abcdefghijklmnopqrstuvwxyz").cps.toList := by
  have e : ∀ j, j < 26 → 97 + j ∈ (Str.ofString "abcdefghijklmnopqrstuvwxyz").cps.toList := by decide +kernel
  have := e (c - 97) (by omega)
  rwa [show 97 + (c - 97) = c by omega] at this
def spIsName : Sp := fun vs H Q _ => ∃ z : Str, vs = [.str z] ∧ 1 ≤ z.length ∧ z.length ≤ 12 ∧ Lo z ∧ ∀ H2, Same H H2 → Q (.bl true) H2
def spIsLet : Sp := fun vs H Q _ => ∃ z : Str, vs = [.str z] ∧ 1 ≤ z.length ∧ z.length ≤ 12 ∧ Lo z ∧ ∀ H2, Same H H2 → Q (.bl true) H2
theorem d_islet (T : Txt K mg C CE) (Kb : K.In base) (G : base.Ns mainGlobals mg) : Df P w K mg base 1 "is_lettered" ["text"] spIsLet := by
  refine T.f_islet.df Kb G sc_is_lettered (fun _ _ _ _ _ _ us hl => match us, hl with | [_], _ => rfl) (by rintro vs H Q E ⟨z, rfl, _⟩; rfl) (fun f cdv A outer s H vs Q E hr h => ?_)
  obtain ⟨z, rfl, h1, h2, hL, q⟩ := h
  refine ⟨_, (pss_one (ps_ret (pe_and (pe_cmpR op_gt (pe_callB call_lenS rfl T.nlen PySem.boot_len (pa_cons (pv 0) pa_nil (se rfl)) (he := se rfl) (hpl := nst rfl)) pe_int (nomark _)) (pe_one (pe_callB (call_all rfl) rfl T.nall PyProof.Rows.boot_all (pa_cons (pe_lc (Blk.of (caps := []) (ix := []) rfl) rfl (pi_str (pv 0)) (fun _ _ _ _ => pf_nil) (fun _ _ _ _ => (pe_cmpR op_inS (pv 0) (pe_val T.v_LETTERS rfl) (by with_unfolding_all rfl)))) pa_nil (se rfl)) (he := se rfl) (hpl := nst rfl)))))), ?_⟩
  have lb := line_big
  walk_at "rd"
  refine i_lenS (by omega) ?_
  walk_at "rd"
  refine i_iteDt (by omega) ?_
  walk_at "rd"
  refine i_lc (i_strI ?_)
  walk_at "rd"
  refine lcS z (fun c => .bl (decide (c ∈ (Str.ofString "abcdefghijklmnopqrstuvwxyz").cps.toList))) (by omega) (fun c H' R hc s r => ?_) (fun D H2 hN => ?_)
  · walk_at "rd"
    exact r
  · have e : z.cps.toList.map (fun c => V.bl (decide (c ∈ (Str.ofString "abcdefghijklmnopqrstuvwxyz").cps.toList))) = List.map V.bl (z.cps.toList.map fun c => decide (c ∈ (Str.ofString "abcdefghijklmnopqrstuvwxyz").cps.toList)) := by rw [List.map_map]; rfl
    rw [e] at hN
    walk_at "rd"
    refine i_all hN.lst ?_
    have ea : (z.cps.toList.map fun c => decide (c ∈ (Str.ofString "abcdefghijklmnopqrstuvwxyz").cps.toList)).all id = true := by
      rw [List.all_map, List.all_eq_true]
      intro c hc
      exact decide_eq_true (in_let c (hL c hc))
    rw [ea]
    exact q _ hN.same
theorem d_isname (T : Txt K mg C CE) (Kb : K.In base) (G : base.Ns mainGlobals mg) : Df P w K mg base 2 "is_name" ["text"] spIsName := by
  have Dis_lettered : Df P w K mg base 1 "is_lettered" ["text"] spIsLet := d_islet T Kb G
  refine T.f_isname.df Kb G sc_is_name (fun _ _ _ _ _ _ us hl => match us, hl with | [_], _ => rfl) (by rintro vs H Q E ⟨z, rfl, _⟩; rfl) (fun f cdv A outer s H vs Q E hr h => ?_)
  obtain ⟨z, rfl, h1, h2, hL, q⟩ := h
  refine ⟨_, (pss_one (ps_ret (pe_and (pe_callD Dis_lettered (hr.mono (by decide)) rfl (pa_cons (pv 0) pa_nil (se rfl)) (he := se rfl) (hpl := nst rfl)) (pe_one (pe_cmpR op_le (pe_callB call_lenS rfl T.nlen PySem.boot_len (pa_cons (pv 0) pa_nil (se rfl)) (he := se rfl) (hpl := nst rfl)) (pe_val T.v_MOST_LETTERS rfl) (nomark _)))))), ?_⟩
  have lb := line_big
  walk_at "rd"
  refine ⟨z, rfl, h1, h2, hL, fun H1 s1 => ?_⟩
  walk_at "rd"
  refine i_lenS (by omega) ?_
  walk_at "rd"
  rw [decide_eq_true (show (z.length : Int) ≤ 12 by omega)]
  exact q _ s1
theorem inV_mem {z : Str} {zs : List Str} (h : z ∈ zs) : inV (.str z) (List.map V.str zs) = true := by
  refine List.any_eq_true.mpr ⟨.str z, List.mem_map.mpr ⟨z, h, rfl⟩, ?_⟩
  show (z == z) = true
  exact beq_self_eq_true _
theorem inV_not {z : Str} {zs : List Str} (h : ¬ z ∈ zs) : inV (.str z) (List.map V.str zs) = false := by
  refine Bool.eq_false_iff.mpr fun e => h ?_
  obtain ⟨y, hy, e⟩ := List.any_eq_true.mp e
  obtain ⟨x, hx, rfl⟩ := List.mem_map.mp hy
  have e' : (x == z) = true := e
  rw [← beq_iff_eq.mp e']; exact hx
theorem flat_strs (zs : List Str) : (List.map V.str zs).all flatV = true := by rw [List.all_map]; exact List.all_eq_true.mpr fun _ _ => rfl
theorem nd_take {α : Type} {zs : List α} (h : zs.Nodup) {i : Nat} {z : α} (hz : zs[i]? = some z) : ¬ z ∈ zs.take i := by
  intro hm
  obtain ⟨j, hj⟩ := List.mem_iff_getElem?.mp hm
  have hji : j < i := by
    have := (List.getElem?_eq_some_iff.mp hj).1
    rw [List.length_take] at this; omega
  rw [List.getElem?_take_of_lt hji] at hj
  obtain ⟨hi, e1⟩ := List.getElem?_eq_some_iff.mp hz
  obtain ⟨hj', e2⟩ := List.getElem?_eq_some_iff.mp hj
  rw [List.nodup_iff_pairwise_ne, List.pairwise_iff_getElem] at h
  exact h j i hj' hi hji (e2.trans e1.symm)
def spCMeas : Sp := fun vs H Q _ => ∃ m : Int, vs = [.int m] ∧ 2 ≤ m ∧ m ≤ 10 ^ (60 : Int).toNat ∧ Q .non H
theorem d_cmeas (T : Txt K mg C CE) (Kb : K.In base) (G : base.Ns mainGlobals mg) : Df P w K mg base 1 "check_measure" ["measure"] spCMeas := by
  refine T.f_cmeas.df Kb G sc_check_measure (fun _ _ _ _ _ _ us hl => match us, hl with | [_], _ => rfl) (by rintro vs H Q E ⟨m, rfl, _⟩; rfl) (fun f cdv A outer s H vs Q E hr h => ?_)
  obtain ⟨m, rfl, h1, h2, q⟩ := h
  refine ⟨_, (pss_one (ps_if (pt_not (pt_chain op_le op_le pe_int (pv 0) (pe_op op_pow pe_int pe_int))) (pss_one ps_never) pss_nil)), ?_⟩
  walk_at "rd"
  refine i_iteDt h1 ?_
  walk_at "rd"
  rw [decide_eq_true h2]
  walk_at "rd"
  exact q
def spCNum : Sp := fun vs H Q _ => ∃ i : Int, vs = [.int i] ∧ 0 ≤ i ∧ i < 10 ^ (60 : Int).toNat ∧ Q .non H
theorem d_cnum (T : Txt K mg C CE) (Kb : K.In base) (G : base.Ns mainGlobals mg) : Df P w K mg base 1 "check_number" ["number"] spCNum := by
  refine T.f_cnum.df Kb G sc_check_number (fun _ _ _ _ _ _ us hl => match us, hl with | [_], _ => rfl) (by rintro vs H Q E ⟨m, rfl, _⟩; rfl) (fun f cdv A outer s H vs Q E hr h => ?_)
  obtain ⟨m, rfl, h1, h2, q⟩ := h
  refine ⟨_, (pss_one (ps_if (pt_not (pt_chain op_le op_lt pe_int (pv 0) (pe_op op_pow pe_int pe_int))) (pss_one ps_never) pss_nil)), ?_⟩
  walk_at "rd"
  refine i_iteDt h1 ?_
  walk_at "rd"
  rw [decide_eq_true h2]
  walk_at "rd"
  exact q
def spCLook : Sp := fun vs H Q _ => ∃ (z : Str) (b : Int) (np ap : Addr) (zs as : List Str), vs = [.str z, .int b, .ref np, .ref ap] ∧ H np = some (.lst (List.map V.str zs)) ∧ H ap = some (.lst (List.map V.str as)) ∧ z ∈ zs ∧ 0 ≤ b ∧ b ≤ 6 ∧ (b = 0 → z ∈ as) ∧ Q .non H
theorem d_clook (T : Txt K mg C CE) (Kb : K.In base) (G : base.Ns mainGlobals mg) : Df P w K mg base 1 "check_look_back" ["name", "back", "names", "above"] spCLook := by
  refine T.f_clook.df Kb G sc_check_look_back (fun _ _ _ _ _ _ us hl => match us, hl with | [_, _, _, _], _ => rfl) (by rintro vs H Q E ⟨z, b, np, ap, zs, as, rfl, _⟩; rfl) (fun f cdv A outer s H vs Q E hr h => ?_)
  obtain ⟨z, b, np, ap, zs, as, rfl, hnp, hap, hz, b0, b6, ha, q⟩ := h
  refine ⟨_, (pss_cons (ps_if (pt_cmpR op_notIn_seq (pv 0) (pv 2) (by with_unfolding_all rfl)) (pss_one ps_never) pss_nil)
    (pss_cons (ps_if (pt_not (pt_chain op_le op_le pe_int (pv 1) (pe_val T.v_MOST_BACK rfl))) (pss_one ps_never) pss_nil)
    (pss_one (ps_if (PW.pt (pw_and (pt_cmpR op_eq (pv 1) pe_int (nomark _)) (pw_and1 (pt_cmpR op_notIn_seq (pv 0) (pv 3) (by with_unfolding_all rfl))))) (pss_one ps_never) pss_nil)))), ?_⟩
  walk_at "rd"
  refine i_ninL (sqL_inj_of hnp) rfl (flat_strs zs) ?_
  rw [inV_mem hz]
  walk_at "rd"
  refine i_iteDt b0 ?_
  walk_at "rd"
  rw [decide_eq_true b6]
  walk_at "rd"
  refine i_iteI (fun h0 => ?_) (fun h0 => ?_)
  · walk_at "rd"
    refine i_ninL (sqL_inj_of hap) rfl (flat_strs as) ?_
    rw [inV_mem (ha h0)]
    walk_at "rd"
    exact q
  · walk_at "rd"
    exact q
def spCRead : Sp := fun vs H Q _ => ∃ (v : V) (np ap : Addr) (zs : List Str) (k : Nat) (rd : Rd), vs = [v, .ref np, .ref ap] ∧ H np = some (.lst (List.map V.str zs)) ∧ H ap = some (.lst (List.map V.str (zs.take k))) ∧ RdAt H rd v ∧ RdOk zs k rd ∧ Q .non H
theorem d_cread (T : Txt K mg C CE) (Kb : K.In base) (G : base.Ns mainGlobals mg) : Df P w K mg base 2 "check_read" ["read", "names", "above"] spCRead := by
  have Dcheck_number : Df P w K mg base 1 "check_number" ["number"] spCNum := d_cnum T Kb G
  have Dcheck_look_back : Df P w K mg base 1 "check_look_back" ["name", "back", "names", "above"] spCLook := d_clook T Kb G
  refine T.f_cread.df Kb G sc_check_read (fun _ _ _ _ _ _ us hl => match us, hl with | [_, _, _], _ => rfl) (by rintro vs H Q E ⟨v, np, ap, zs, k, rd, rfl, _⟩; rfl) (fun f cdv A outer s H vs Q E hr h => ?_)
  obtain ⟨v, np, ap, zs, k, rd, rfl, hnp, hap, hrd, hok, q⟩ := h
  refine ⟨_, (pss_one (ps_if (pt_val (pe_callB call_isi rfl T.nisi PyProof.Rows.boot_isinstance (pa_cons (pv 0) (pa_cons (pe_bltn (v := .ty "int") rfl T.nint PyProof.Rows.boot_int rfl) pa_nil (se rfl)) (se rfl)) (he := se rfl) (hpl := nst rfl))) (pss_one (ps_expr (pe_callD Dcheck_number (hr.mono (by decide)) rfl (pa_cons (pv 0) pa_nil (se rfl)) (he := se rfl) (hpl := nst rfl)))) (pss_one (ps_expr (pe_callD Dcheck_look_back (hr.mono (by decide)) rfl (pa_cons (pe_ix ix_seq (pv 0) pe_int (fun _ _ => rfl)) (pa_cons (pe_ix ix_seq (pv 0) pe_int (fun _ _ => rfl)) (pa_cons (pv 1) (pa_cons (pv 2) pa_nil (se rfl)) (se rfl)) (se rfl)) (se rfl)) (he := se rfl) (hpl := nst rfl)))))), ?_⟩
  cases rd with
  | num i =>
    have e : v = .int i := hrd
    subst e
    walk_at "rd"
    refine i_isiI T.kII ?_
    walk_at "rd"
    refine ⟨i, rfl, hok.1, hok.2, ?_⟩
    walk_at "rd"
    exact q
  | back z b =>
    obtain ⟨t, rfl, ht⟩ := hrd
    obtain ⟨j, hj, b0, b6, bk⟩ := hok
    walk_at "rd"
    refine i_isiT ht T.kTI ?_
    walk_at "rd"
    refine i_ixT (.inl (.inl ht)) (show atI _ 0 = some (.str z) from rfl) ?_
    walk_at "rd"
    refine i_ixT (.inl (.inl ht)) (show atI _ 1 = some (.int b) from rfl) ?_
    walk_at "rd"
    refine ⟨z, b, np, ap, zs, zs.take k, rfl, hnp, hap, List.mem_iff_getElem?.mpr ⟨j, hj⟩, b0, b6, fun h0 => List.mem_iff_getElem?.mpr ⟨j, by rw [List.getElem?_take_of_lt (bk h0)]; exact hj⟩, ?_⟩
    walk_at "rd"
    exact q
def spCHead : Sp := fun vs H Q _ => ∃ (z : Str) (d : Dk) (p1 ap : Addr) (us : List V) (as : List Str), vs = [.str z, .str d.word, .ref p1, .ref ap] ∧ 1 ≤ z.length ∧ z.length ≤ 12 ∧ Lo z ∧ H p1 = some (.tup us) ∧ us.length = d.wants ∧ H ap = some (.lst (List.map V.str as)) ∧ ¬ z ∈ as ∧ ∀ H2, Same H H2 → Q .non H2
theorem d_chead (T : Txt K mg C CE) (Kb : K.In base) (G : base.Ns mainGlobals mg) : Df P w K mg base 3 "check_head" ["name", "word", "reads", "above"] spCHead := by
  have Dis_name : Df P w K mg base 2 "is_name" ["text"] spIsName := d_isname T Kb G
  have Ddeed_of : Df P w K mg base 1 "deed_of" ["word"] (spDeedA C) := d_deed T Kb G
  have Mwants : MethI P w K mg base 1 "wants" ["self"] C spWants := m_wants T
  refine T.f_chead.df Kb G sc_check_head (fun _ _ _ _ _ _ us hl => match us, hl with | [_, _, _, _], _ => rfl) (by rintro vs H Q E ⟨z, d, p1, ap, us, as, rfl, _⟩; rfl) (fun f cdv A outer s H vs Q E hr h => ?_)
  obtain ⟨z, d, p1, ap, us, as, rfl, z1, z12, hL, hp1, hul, hap, hna, q⟩ := h
  refine ⟨_, (pss_cons (ps_if (pt_not (pt_val (pe_callD Dis_name (hr.mono (by decide)) rfl (pa_cons (pv 0) pa_nil (se rfl)) (he := se rfl) (hpl := nst rfl)))) (pss_one ps_never) pss_nil)
    (pss_cons (ps_if (pt_cmpR op_in_seq (pv 0) (pv 3) (by with_unfolding_all rfl)) (pss_one ps_never) pss_nil)
    (pss_one (ps_if (pt_cmpR op_ne (pe_callB call_len_seq rfl T.nlen PySem.boot_len (pa_cons (pv 2) pa_nil (se rfl)) (he := se rfl) (hpl := nst rfl)) (pe_methI0 Mwants (pe_callD Ddeed_of (hr.mono (by decide)) rfl (pa_cons (pv 1) pa_nil (se rfl)) (he := se rfl) (hpl := nst rfl)) (hr.mono (by decide))) (nomark _)) (pss_one ps_never) pss_nil)))), ?_⟩
  walk_at "rd"
  refine ⟨z, rfl, z1, z12, hL, fun H1 s1 => ?_⟩
  walk_at "rd"
  refine i_inL (sqL_inj_of (s1 _ _ hap)) rfl (flat_strs as) ?_
  rw [inV_not hna]
  walk_at "rd"
  refine ⟨_, _, rfl, .inr (.inl (.inl (s1 _ _ hp1))), ?_⟩
  walk_at "rd"
  refine i_methI ?_
  walk_at "rd"
  refine ⟨d, rfl, fun x dx H2 hN2 => ?_⟩
  refine ⟨d, x, dx, [], rfl, hN2.at, rfl, ?_⟩
  walk_at "rd"
  refine ⟨x, rfl, ?_⟩
  walk_at "rd"
  rw [decide_eq_true (show V.int (us.length : Int) = V.int (d.wants : Nat) by rw [hul])]
  walk_at "rd"
  exact q _ (s1.trans hN2.same)
def TK (H H' : Hp) : Prop := ∀ b xs, H b = some (.tup xs) → H' b = some (.tup xs)
theorem TK.upd {H : Hp} {x : Addr} {o u : HO} (h : H x = some o) (n : ∀ xs, o ≠ .tup xs) : TK H (L2.upd H x u) := fun b xs e => by
  rw [upd_ne (fun z => by rw [z, h] at e; exact n xs (Option.some.inj e))]; exact e
theorem RdAt.keep {H H' : Hp} {r : Rd} {v : V} (s : TK H H') (h : RdAt H r v) : RdAt H' r v := by
  cases r with
  | num i => exact h
  | back z b => obtain ⟨a, e, q⟩ := h; exact ⟨a, e, s _ _ q⟩
theorem RowAt.keep {H H' : Hp} {r : Row} {v : V} (s : TK H H') (h : RowAt H r v) : RowAt H' r v := by
  obtain ⟨p1, p2, vs, e, h1, h2, h3⟩ := h
  exact ⟨p1, p2, vs, e, s _ _ h1, s _ _ h2, h3.len, fun i r v e1 e2 => (h3.at_ i r v e1 e2).keep s⟩
theorem RowsAt.keep {H H' : Hp} {rs : List Row} {us : List V} (s : TK H H') (h : RowsAt H rs us) : RowsAt H' rs us := ⟨h.len, fun i r u e1 e2 => (h.at_ i r u e1 e2).keep s⟩
def spCRows : Sp := fun vs H Q _ => ∃ (p : Addr) (us : List V) (zs : List Str) (rs : List Row), vs = [.ref p] ∧ H p = some (.lst us) ∧ RowsAt H rs us ∧ RowsOk zs rs ∧ 1 ≤ rs.length ∧ ∀ H2, Same H H2 → Q .non H2
theorem d_crows (T : Txt K mg C CE) (Kb : K.In base) (G : base.Ns mainGlobals mg) : Df P w K mg base 4 "check_rows" ["rows"] spCRows := by
  have Dcheck_head : Df P w K mg base 3 "check_head" ["name", "word", "reads", "above"] spCHead := d_chead T Kb G
  have Dcheck_read : Df P w K mg base 2 "check_read" ["read", "names", "above"] spCRead := d_cread T Kb G
  refine T.f_crows.df Kb G sc_check_rows (fun _ _ _ _ _ _ us hl => match us, hl with | [_], _ => rfl) (by rintro vs H Q E ⟨p, us, zs, rs, rfl, _⟩; rfl) (fun f cdv A outer s H vs Q E hr h => ?_)
  obtain ⟨p, us, zs, rs, rfl, hp, hu, hok, h1, q⟩ := h
  refine ⟨_, (pss_cons (ps_if (pt_not (pt_chain op_le op_le pe_int (pe_callB call_len_seq rfl T.nlen PySem.boot_len (pa_cons (pv 0) pa_nil (se rfl)) (he := se rfl) (hpl := nst rfl)) (pe_val T.v_MOST_ROWS rfl))) (pss_one ps_never) pss_nil)
    (pss_cons (ps_lc (i := 1) sc_check_rows.nd rfl rfl (by with_unfolding_all rfl) (Blk.of (caps := []) (ix := []) rfl) rfl (pi_list (pv 0)) (fun _ _ _ _ => pf_nil) (fun _ _ _ _ => (pe_ix (ix_seqK (K := K) rfl) (pv 0) pe_int (fun _ _ => rfl))))
    (pss_one (ps_for PassesOwn.never rfl (pi_enum rfl T.nenumerate (pa_cons (pv 0) pa_nil (se rfl))) (pg_tup rfl (pgs_cons (pg_name (i := 2) sc_check_rows.nd rfl (Or.inl rfl)) (pgs_cons (pg_name (i := 3) sc_check_rows.nd rfl (Or.inl rfl)) pgs_nil)))
      (pss_cons (ps_set (i := 4) sc_check_rows.nd rfl (by first | exact Or.inl rfl | exact Or.inr rfl) (pe_slice sl_listA (pv 1) po_none (po_some (pv 2))))
    (pss_cons (ps_expr (pe_callD Dcheck_head (hr.mono (by decide)) rfl (pa_cons (pe_ix ix_seq (pv 3) pe_int (fun _ _ => rfl)) (pa_cons (pe_ix ix_seq (pv 3) pe_int (fun _ _ => rfl)) (pa_cons (pe_ix ix_seq (pv 3) pe_int (fun _ _ => rfl)) (pa_cons (pv 4) pa_nil (se rfl)) (se rfl)) (se rfl)) (se rfl)) (he := se rfl) (hpl := nst rfl)))
    (pss_one (ps_for PassesOwn.never rfl (pi_tup (pe_ix ix_seq (pv 3) pe_int (fun _ _ => rfl))) (pg_name (i := 5) sc_check_rows.nd rfl (Or.inl rfl))
      (pss_one (ps_expr (pe_callD Dcheck_read (hr.mono (by decide)) rfl (pa_cons (pv 5) (pa_cons (pv 1) (pa_cons (pv 4) pa_nil (se rfl)) (se rfl)) (se rfl)) (he := se rfl) (hpl := nst rfl)))))))))))), ?_⟩
  have l1 := hu.len
  have l2 := hok.len
  have l12 := hok.len12
  have lb := line_big
  walk_at "rd"
  refine ⟨_, _, rfl, .inl (sqL_inj_of hp), ?_⟩
  walk_at "rd"
  refine i_iteDt (by omega) ?_
  walk_at "rd"
  rw [decide_eq_true (show (us.length : Int) ≤ 12 by omega)]
  walk_at "rd"
  refine i_setLc (i_lc (i_list ?_))
  walk_at "rd"
  refine lcNL us (fun D i y H' => ∃ r, rs[i]? = some r ∧ y = .str r.name) (sqL_inj_of hp) (by omega) (fun D i y H' H'' _ h => h) (fun D i v H' R hv hD hy s r => ?_) (fun D ys H1 hD s1 hHD hyl hP => ?_)
  · have hir : i < rs.length := by rw [l1]; exact (List.getElem?_eq_some_iff.mp hv).1
    have hri := List.getElem?_eq_getElem hir
    obtain ⟨p1, p2, vs, rfl, h1, h2, h3⟩ := (hu.at_ i rs[i] v hri hv).same s
    walk_at "rd"
    refine i_ixT (.inl (.inl h1)) (show atI _ 0 = some (.str rs[i].name) from rfl) ?_
    exact r _ _ (Same.refl _) ⟨rs[i], hri, rfl⟩
  have hnp : H1 D = some (.lst (List.map V.str zs)) := by
    rw [hHD]
    congr 1; congr 1
    refine List.ext_getElem? fun i => ?_
    rw [List.getElem?_map]
    by_cases hi : i < ys.length
    · obtain ⟨r, hr1, hr2⟩ := hP i ys[i] (List.getElem?_eq_getElem hi)
      rw [List.getElem?_eq_getElem hi, hr2, (hok.at_ i r hr1).name]; rfl
    · rw [List.getElem?_eq_none (by omega), List.getElem?_eq_none (by omega)]; rfl
  dsimp only
  refine i_for (i_enumI ?_)
  walk_at "rd"
  refine ⟨p, rfl, ⟨us, sqL_inj_of (s1 _ _ hp)⟩, ?_⟩
  refine for_enum (xs := us) (fun i σ H' => Same H1 H' ∧ ∃ x2 x3 x4 x5, σ = [some (.ref p), some (.ref D), x2, x3, x4, x5]) ⟨Same.refl _, none, none, none, none, rfl⟩ (fun i σ H' _ h => sqL_inj_of (h.1 _ _ (s1 _ _ hp))) ?_ ?_
  · rintro i u t σ H2 H3 hui ⟨s2, x2, x3, x4, x5, rfl⟩ hN3
    have s3 := s2.trans hN3.same
    have hir : i < rs.length := by rw [l1]; exact (List.getElem?_eq_some_iff.mp hui).1
    have hri := List.getElem?_eq_getElem hir
    have rok := hok.at_ i rs[i] hri
    have rat := (hu.at_ i rs[i] u hri hui).same (s1.trans s3)
    generalize rs[i] = rw at *
    have nm := hok.names.one rw.name (List.mem_iff_getElem?.mpr ⟨i, rok.name⟩)
    have nd := nd_take hok.names.nd rok.name
    obtain ⟨p1, p2, vs, rfl, r1, r2, r3⟩ := rat
    have r3l := r3.len
    refine i_gtup hN3.tup rfl ?_
    walk_at "rd"
    refine i_slLA (sqL_inj_of (s3 _ _ hnp)) fun ap H4 hN4 => ?_
    rw [cutV_take, ← List.map_take] at hN4
    have s4 := s3.trans hN4.same
    walk_at "rd"
    refine i_ixT (.inl (.inl (hN4.same _ _ r1))) (show atI _ 0 = some (.str rw.name) from rfl) ?_
    walk_at "rd"
    refine i_ixT (.inl (.inl (hN4.same _ _ r1))) (show atI _ 1 = some (.str rw.d.word) from rfl) ?_
    walk_at "rd"
    refine i_ixT (.inl (.inl (hN4.same _ _ r1))) (show atI _ 2 = some (.ref p1) from rfl) ?_
    walk_at "rd"
    refine ⟨rw.name, rw.d, p1, ap, vs, zs.take i, rfl, nm.1, nm.2.1, nm.2.2, hN4.same _ _ r2, by rw [← r3l]; exact rok.many, hN4.at, nd, fun H5 s5 => ?_⟩
    walk_at "rd"
    dsimp only
    refine i_for (i_tupI ?_)
    walk_at "rd"
    refine i_ixT (.inl (.inl (s5 _ _ (hN4.same _ _ r1)))) (show atI _ 2 = some (.ref p1) from rfl) ?_
    have r2' := s5 _ _ (hN4.same _ _ r2)
    refine ⟨p1, rfl, ⟨vs, .inl (.inl r2')⟩, ?_⟩
    refine for_tup (xs := vs) (fun j σ H' => H' = H5 ∧ ∃ x5, σ = [some (.ref p), some (.ref D), some (.int (i : Int)), some (.ref p2), some (.ref ap), x5]) ⟨rfl, x5, rfl⟩ (fun j σ H' _ h => by rw [h.1]; exact .inl (.inl r2')) ?_ ?_
    · rintro j v σ H' hvj ⟨rfl, x5, rfl⟩
      have hjr : j < rw.reads.length := by rw [r3l]; exact (List.getElem?_eq_some_iff.mp hvj).1
      have hrj := List.getElem?_eq_getElem hjr
      have ra := ((r3.at_ j rw.reads[j] v hrj hvj).same hN4.same).same s5
      have ro := rok.reads rw.reads[j] (List.getElem_mem hjr)
      walk_at "rd"
      refine ⟨v, D, ap, zs, i, rw.reads[j], rfl, (s4.trans s5) _ _ hnp, s5 _ _ hN4.at, ra, ro, ?_⟩
      walk_at "rd"
      exact ⟨rfl, _, rfl⟩
    · rintro σ H' ⟨rfl, x5, rfl⟩
      exact ⟨s4.trans s5, _, _, _, _, rfl⟩
  · rintro σ H2 ⟨s2, x2, x3, x4, x5, rfl⟩
    exact q _ (s1.trans s2)
def spCopy : Sp := fun vs H Q _ => ∃ (u : V) (r : Row), vs = [u] ∧ r.reads.length ≤ 3 ∧ RowAt H r u ∧ ∀ v H2, Same H H2 → RowAt H2 r v → Q v H2
theorem d_copy (T : Txt K mg C CE) (Kb : K.In base) (G : base.Ns mainGlobals mg) : Df P w K mg base 1 "copy_of_row" ["row"] spCopy := by
  refine T.f_copy.df Kb G sc_copy_of_row (fun _ _ _ _ _ _ us hl => match us, hl with | [_], _ => rfl) (by rintro vs H Q E ⟨u, r, rfl, _⟩; rfl) (fun f cdv A outer s H vs Q E hr h => ?_)
  obtain ⟨u, r, rfl, hl3, hrow, q⟩ := h
  obtain ⟨p1, p2, vs, rfl, r1, r2, r3⟩ := hrow
  have r3l := r3.len
  have lb := line_big
  refine ⟨_, (pss_cons (ps_lc (i := 1) sc_copy_of_row.nd rfl rfl (by with_unfolding_all rfl) (Blk.of (caps := []) (ix := []) rfl) rfl (pi_tup (pe_ix ix_seq (pv 0) pe_int (fun _ _ => rfl))) (fun _ _ _ _ => pf_nil) (fun _ _ _ _ => (pe_ifExp (pt_val (pe_callB (call_isiK (K := K) rfl) rfl T.nisi PyProof.Rows.boot_isinstance (pa_cons (pv 0) (pa_cons (pe_bltn (v := .ty "int") rfl T.nint PyProof.Rows.boot_int rfl) pa_nil (se rfl)) (se rfl)) (he := se rfl) (hpl := nst rfl))) (pv 0) (pe_callTy (call_tupleK (K := K) rfl) rfl T.ntuple PyProof.Rows.boot_tuple (pa_cons (pv 0) pa_nil (se rfl)) (he := se rfl) (hpl := nst rfl)))))
    (pss_one (ps_ret (pe_tupA (pa_cons (pe_ix ix_seq (pv 0) pe_int (fun _ _ => rfl)) (pa_cons (pe_ix ix_seq (pv 0) pe_int (fun _ _ => rfl)) (pa_cons (pe_callTy call_tupleA rfl T.ntuple PyProof.Rows.boot_tuple (pa_cons (pv 1) pa_nil (se rfl)) (he := se rfl) (hpl := nst rfl)) pa_nil (se rfl)) (se rfl)) (se rfl)))))), ?_⟩
  walk_at "rd"
  refine i_setLc (i_lc (i_tupI ?_))
  walk_at "rd"
  refine i_ixT (.inl (.inl r1)) (show atI _ 2 = some (.ref p1) from rfl) ?_
  refine lcT vs id (.inl (.inl r2)) (by omega) (fun i v H' R hv s k => ?_) (fun D H1 hN1 => ?_)
  · have hir : i < r.reads.length := by rw [r3l]; exact (List.getElem?_eq_some_iff.mp hv).1
    have ra := (r3.at_ i r.reads[i] v (List.getElem?_eq_getElem hir) hv).same s
    generalize r.reads[i] = rd at *
    cases rd with
    | num i =>
      have e : v = .int i := ra
      subst e
      walk_at "rd"
      refine i_isiI T.kII ?_
      walk_at "rd"
      exact k
    | back z b =>
      obtain ⟨t, rfl, ht⟩ := ra
      walk_at "rd"
      refine i_isiT ht T.kTI ?_
      walk_at "rd"
      refine i_tupleAT (.inl (.inl ht)) ?_
      exact k
  rw [List.map_id] at hN1
  walk_at "rd"
  have r1' := hN1.same _ _ r1
  refine i_ixT (.inl (.inl r1')) (show atI _ 0 = some (.str r.name) from rfl) ?_
  walk_at "rd"
  refine i_ixT (.inl (.inl r1')) (show atI _ 1 = some (.str r.d.word) from rfl) ?_
  walk_at "rd"
  refine i_tupleAL hN1.lst fun p3 H2 hN2 => ?_
  walk_at "rd"
  refine ⟨by show 3 ≤ sizeLine; decide, fun p4 H3 hN3 => ?_⟩
  have s3 := (hN1.same.trans hN2.same).trans hN3.same
  exact q _ _ s3 ⟨p3, p4, vs, rfl, hN3.at, hN3.same _ _ hN2.at, r3.same s3⟩
def DepOf (kvs : List (Key × V)) (g : Str → Int) : Prop := ∀ z : Str, (valV kvs (Sum.inr z)).getD (.int 0) = .int (g z)
theorem DepOf.put {kvs : List (Key × V)} {g : Str → Int} (h : DepOf kvs g) (y : Str) (b : Int) : DepOf (putK kvs (Sum.inr y) (.int (max b (g y)))) (fun z => deepR z (g z) (.back y b)) := by
  intro z
  rw [valV_put]
  by_cases hz : z = y
  · subst hz
    simp [deepR, Int.max_comm]
  · have : ¬ (Sum.inr z : Key) = Sum.inr y := fun e => hz (Sum.inr.inj e)
    rw [if_neg this, h z]
    show V.int (g z) = V.int (if y = z then max (g z) b else g z)
    rw [if_neg fun e => hz e.symm]
def spDepths : Sp := fun vs H Q _ => ∃ (p : Addr) (us : List V) (rs : List Row), vs = [.ref p] ∧ H p = some (.lst us) ∧ RowsAt H rs us ∧ rs.length ≤ 12 ∧ (∀ r ∈ rs, r.reads.length ≤ 3) ∧ ∀ d kvs H2, Same H H2 → H2 d = some (.dK kvs) → DepOf kvs (deep rs) → Q (.ref d) H2
theorem d_depths (T : Txt K mg C CE) (Kb : K.In base) (G : base.Ns mainGlobals mg) : Df P w K mg base 1 "depths_of" ["rows"] spDepths := by
  refine T.f_depths.df Kb G sc_depths_of (fun _ _ _ _ _ _ us hl => match us, hl with | [_], _ => rfl) (by rintro vs H Q E ⟨p, us, rs, rfl, _⟩; rfl) (fun f cdv A outer s H vs Q E hr h => ?_)
  obtain ⟨p, us, rs, rfl, hp, hu, h12, h3, q⟩ := h
  refine ⟨_, (pss_cons (ps_set (i := 1) sc_depths_of.nd rfl (by first | exact Or.inl rfl | exact Or.inr rfl) pe_dnewK)
    (pss_cons (ps_for PassesOwn.never rfl (pi_list (pv 0)) (pg_name (i := 2) sc_depths_of.nd rfl (Or.inl rfl))
      (pss_one (ps_for PassesOwn.never rfl (pi_tup (pe_ix ix_seq (pv 2) pe_int (fun _ _ => rfl))) (pg_name (i := 3) sc_depths_of.nd rfl (Or.inl rfl))
      (pss_one (ps_join (ps_if (pt_not (pt_val (pe_callB call_isi rfl T.nisi PyProof.Rows.boot_isinstance (pa_cons (pv 3) (pa_cons (pe_bltn (v := .ty "int") rfl T.nint PyProof.Rows.boot_int rfl) pa_nil (se rfl)) (se rfl)) (he := se rfl) (hpl := nst rfl)))) (pss_one (ps_dput (hu_of hr) (pv 1) (pe_ix ix_seq (pv 3) pe_int (fun _ _ => rfl)) (pe_callB (call_max2 rfl) rfl T.nmax PyProof.Rows.boot_max (pa_cons (pe_ix ix_seq (pv 3) pe_int (fun _ _ => rfl)) (pa_cons (pe_dget2 (hu_of hr) (pv 1) (pe_ix ix_seq (pv 3) pe_int (fun _ _ => rfl)) pe_int ⟨rfl, rfl, rfl, rfl⟩) pa_nil (se rfl)) (se rfl)) (he := se rfl) (hpl := nst rfl)) rfl)) pss_nil))))))
    (pss_one (ps_ret (pv 1))))), ?_⟩
  have l1 := hu.len
  have lb := line_big
  walk_at "rd"
  refine i_dnew fun d hd => ?_
  have hs0 : Same H (upd H d (.dK [])) := Same.new hd
  have hd0 : upd H d (.dK []) d = some (.dK []) := upd_same
  generalize upd H d (.dK []) = H0 at *
  walk_at "rd"
  dsimp only
  refine i_for (i_list ?_)
  walk_at "rd"
  refine ⟨p, rfl, ⟨us, sqL_inj_of (hs0 _ _ hp)⟩, ?_⟩
  refine for_list (xs := us) (fun i σ H' => Same H H' ∧ ∃ kvs x2 x3, σ = [some (.ref p), some (.ref d), x2, x3] ∧ H' d = some (.dK kvs) ∧ kvs.length ≤ 3 * i ∧ DepOf kvs fun z => (rs.take i).foldl (deepRow z) 0)
    ⟨hs0, [], none, none, rfl, hd0, Nat.zero_le _, fun z => rfl⟩ (fun i σ H' _ h => sqL_inj_of (h.1 _ _ hp)) ?_ ?_
  · rintro i u σ H' hui ⟨s1, kvs, x2, x3, rfl, hdk, hkl, hdep⟩
    have hiu := (List.getElem?_eq_some_iff.mp hui).1
    have hir : i < rs.length := by rw [l1]; exact hiu
    have hri := List.getElem?_eq_getElem hir
    have r1 := hu.at_ i rs[i] u hri hui
    have hr3 := h3 rs[i] (List.getElem_mem hir)
    have hnx : (fun z => (rs.take (i + 1)).foldl (deepRow z) 0) = fun z => deepRow z ((rs.take i).foldl (deepRow z) 0) rs[i] := by
      funext z; exact fold_next (deepRow z) 0 hri
    rw [hnx]
    generalize rs[i] = rw at *
    generalize hg : (fun z => (rs.take i).foldl (deepRow z) 0) = g at *
    have hg' : (fun z => deepRow z ((rs.take i).foldl (deepRow z) 0) rw) = fun z => deepRow z (g z) rw := by rw [← hg]
    rw [hg']
    obtain ⟨p1, p2, vs, rfl, h1, h2, hv⟩ := r1
    have hvl := hv.len
    walk_at "rd"
    dsimp only
    refine i_for (i_tupI ?_)
    walk_at "rd"
    refine i_ixT (.inl (.inl (s1 _ _ h1))) (show atI _ 2 = some (.ref p1) from rfl) ?_
    refine ⟨p1, rfl, ⟨vs, .inl (.inl (s1 _ _ h2))⟩, ?_⟩
    refine for_tup (xs := vs) (fun j σ H2 => Same H H2 ∧ ∃ kvs x3, σ = [some (.ref p), some (.ref d), some (.ref p2), x3] ∧ H2 d = some (.dK kvs) ∧ kvs.length ≤ 3 * i + j ∧ DepOf kvs fun z => (rw.reads.take j).foldl (deepR z) (g z))
      ⟨s1, kvs, x3, rfl, hdk, hkl, hdep⟩ (fun j σ H2 _ h => .inl (.inl (h.1 _ _ h2))) ?_ ?_
    · rintro j v σ H2 hvj ⟨s2, kv2, x3, rfl, hd2, hk2, hdep2⟩
      have hjv := (List.getElem?_eq_some_iff.mp hvj).1
      have hjr : j < rw.reads.length := by rw [hvl]; exact hjv
      have hrj := List.getElem?_eq_getElem hjr
      have r3 := (hv.at_ j rw.reads[j] v hrj hvj).same s2
      have hnx2 : (fun z => (rw.reads.take (j + 1)).foldl (deepR z) (g z)) = fun z => deepR z ((rw.reads.take j).foldl (deepR z) (g z)) rw.reads[j] := by
        funext z; exact fold_next (deepR z) (g z) hrj
      rw [hnx2]
      generalize rw.reads[j] = rd at *
      generalize hg2 : (fun z => (rw.reads.take j).foldl (deepR z) (g z)) = g2 at *
      have hg2' : (fun z => deepR z ((rw.reads.take j).foldl (deepR z) (g z)) rd) = fun z => deepR z (g2 z) rd := by rw [← hg2]
      rw [hg2']
      walk_at "rd"
      refine i_join (fun σ' H3 => Same H H3 ∧ σ' = [some (.ref p), some (.ref d), some (.ref p2), some v] ∧ ∃ kv3, H3 d = some (.dK kv3) ∧ kv3.length ≤ 3 * i + (j + 1) ∧ DepOf kv3 fun z => deepR z (g2 z) rd) ?_ (fun σ' H3 ⟨a, b, kv3, c⟩ => ⟨a, kv3, _, b, c⟩)
      cases rd with
      | num i' =>
        have e : v = .int i' := r3
        subst e
        walk_at "rd"
        refine i_isiI T.kII ?_
        walk_at "rd"
        exact ⟨s2, rfl, kv2, hd2, by omega, hdep2⟩
      | back y b =>
        obtain ⟨t, rfl, ht⟩ := r3
        walk_at "rd"
        refine i_isiT ht T.kTI ?_
        walk_at "rd"
        refine i_dput ?_
        walk_at "rd"
        refine i_ixT (.inl (.inl ht)) (show atI _ 1 = some (.int b) from rfl) ?_
        walk_at "rd"
        refine i_dget2 ?_
        walk_at "rd"
        refine ⟨d, rfl, .inl ⟨kv2, .inl hd2⟩, ?_⟩
        walk_at "rd"
        refine i_ixT (.inl (.inl ht)) (show atI _ 0 = some (.str y) from rfl) ?_
        walk_at "rd"
        refine ⟨_, DGet.k (k := Sum.inr y) hd2, ?_⟩
        rw [hdep2 y]
        walk_at "rd"
        refine ⟨b, g2 y, rfl, ?_⟩
        rw [max_of]
        walk_at "rd"
        refine i_ixT (.inl (.inl ht)) (show atI _ 0 = some (.str y) from rfl) ?_
        refine ⟨d, _, rfl, DPut.k (k := Sum.inr y) hd2 (by omega), ?_⟩
        refine ⟨fun b' u e => ?_, rfl, _, upd_same, ?_, hdep2.put y b⟩
        · rw [upd_ne (ne_of_none e hd)]; exact s2 _ _ e
        · have := length_putK kv2 (Sum.inr y : Key) (.int (max b (g2 y))); omega
    · rintro σ H2 ⟨s2, kv2, x3, rfl, hd2, hk2, hdep2⟩
      refine ⟨s2, kv2, _, _, rfl, hd2, by omega, ?_⟩
      rw [← hvl, List.take_length] at hdep2
      exact hdep2
  · rintro σ H' ⟨s1, kvs, x2, x3, rfl, hdk, hkl, hdep⟩
    walk_at "rd"
    rw [← l1, List.take_length] at hdep
    exact q d kvs H' s1 hdk hdep
def LoopAt (CL : Addr) (H : Hp) (x k : Addr) (m : Int) (rs : List Row) : Prop := ∃ (dx d : Addr) (fs : List (Str × V)) (ws : List V) (kvs : List (Key × V)), H x = some (.ins CL dx fs) ∧ fs.lookup (Str.ofString "measure") = some (.int m) ∧ fs.lookup (Str.ofString "kept") = some (.ref k) ∧ fs.lookup (Str.ofString "depths") = some (.ref d) ∧ fs.lookup (Str.ofString "rows") = none ∧ True ∧
  H k = some (.lst ws) ∧ RowsAt H rs ws ∧ H d = some (.dK kvs) ∧ DepOf kvs (deep rs)
theorem LoopAt.same {CL : Addr} {H H' : Hp} {x k : Addr} {m : Int} {rs : List Row} (s : Same H H') (h : LoopAt CL H x k m rs) : LoopAt CL H' x k m rs := by
  obtain ⟨dx, d, fs, ws, kvs, h1, a, b, c, e, f, h2, h3, h4, h5⟩ := h
  exact ⟨dx, d, fs, ws, kvs, s _ _ h1, a, b, c, e, f, s _ _ h2, h3.same s, s _ _ h4, h5⟩
def spLRows (CL : Addr) : Sp := fun vs H Q _ => ∃ (x k : Addr) (m : Int) (rs : List Row), vs = [.ref x] ∧ LoopAt CL H x k m rs ∧ ∀ p us H2, New H p (.lst us) H2 → RowsAt H2 rs us → Q (.ref p) H2
theorem m_rows (T : Txt K mg C CE) : MethI P w K mg base 1 "rows" ["self"] (fun _ : Unit => CE .Loop) (fun _ => spLRows (CE .Loop)) := by
  refine ⟨fun _ => ⟨T.i_Loop.cl, ?_⟩⟩
  refine T.f_Loop_rows.fn sc_Loop_rows (fun _ _ _ _ _ _ us hl => match us, hl with | [_], _ => rfl) (by rintro vs H Q E ⟨a, k, m, rs, rfl, _⟩; rfl) (fun f cdv A outer s H vs Q E hr h => ?_)
  obtain ⟨x, k, m, rs, rfl, hl, q⟩ := h
  obtain ⟨dx, d, fs, ws, kvs, h1, a, b, c, e, f', h2, h3, h4, h5⟩ := hl
  refine ⟨_, (pss_one (ps_ret (pe_callTy call_listA rfl T.nlist PyProof.Rows.boot_list (pa_cons (pe_fld (pv 0) rfl) pa_nil (se rfl)) (he := se rfl) (hpl := nst rfl)))), ?_⟩
  walk_at "rd"
  refine i_fld ?_
  walk_at "rd"
  refine ⟨x, _, dx, fs, .ref k, rfl, h1, T.i_Loop.cl, T.nK, b, ?_⟩
  walk_at "rd"
  refine i_listAL (sqL_inj_of h2) fun p H2 hN => ?_
  exact q p ws H2 hN (h3.same hN.same)
theorem reads3 {zs : List Str} {rs : List Row} (h : RowsOk zs rs) : ∀ r ∈ rs, r.reads.length ≤ 3 := fun r hr => by
  obtain ⟨i, hi⟩ := List.mem_iff_getElem?.mp hr
  rw [(h.at_ i r hi).many]; exact wants3 _
def spInitL (CL : Addr) : Sp := fun vs H Q _ => ∃ (x dx p : Addr) (m : Int) (us : List V) (zs : List Str) (rs : List Row), vs = [.ref x, .int m, .ref p] ∧ H x = some (.ins CL dx []) ∧ 2 ≤ m ∧ m ≤ 10 ^ (60 : Int).toNat ∧ H p = some (.lst us) ∧ RowsAt H rs us ∧ RowsOk zs rs ∧ 1 ≤ rs.length ∧
  ∀ k H2, H k = none → SameB x H H2 → LoopAt CL H2 x k m rs → Q .non H2
theorem mk_loop (T : Txt K mg C CE) (Kb : K.In base) (G : base.Ns mainGlobals mg) : MkI P w K mg base 5 (CE .Loop) ["self", "measure", "rows"] (spInitL (CE .Loop)) := by
  have Dcheck_measure : Df P w K mg base 1 "check_measure" ["measure"] spCMeas := d_cmeas T Kb G
  have Dcheck_rows : Df P w K mg base 4 "check_rows" ["rows"] spCRows := d_crows T Kb G
  have Dcopy_of_row : Df P w K mg base 1 "copy_of_row" ["row"] spCopy := d_copy T Kb G
  have Ddepths_of : Df P w K mg base 1 "depths_of" ["rows"] spDepths := d_depths T Kb G
  refine T.i_Loop.mki sc_Loop___init__ (fun _ _ _ _ _ _ us hl => match us, hl with | [_, _, _], _ => rfl) (by rintro vs H Q E ⟨x, dx, p, m, us, zs, rs, rfl, _⟩; rfl) (fun f cdv A outer s H vs Q E hr h => ?_)
  obtain ⟨x, dx, p, m, us, zs, rs, rfl, hx, m2, m60, hp, hu, hok, h1, q⟩ := h
  refine ⟨_, (pss_cons (ps_expr (pe_callD Dcheck_measure (hr.mono (by decide)) rfl (pa_cons (pv 1) pa_nil (se rfl)) (he := se rfl) (hpl := nst rfl)))
    (pss_cons (ps_expr (pe_callD Dcheck_rows (hr.mono (by decide)) rfl (pa_cons (pv 2) pa_nil (se rfl)) (he := se rfl) (hpl := nst rfl)))
    (pss_cons (ps_fld (pv 0) (pv 1) (by with_unfolding_all rfl))
    (pss_cons (ps_fld (pv 0) (pe_lc (Blk.of (caps := []) (ix := []) rfl) rfl (pi_list (pv 2)) (fun _ _ _ _ => pf_nil) (fun _ _ _ _ => (pe_callD Dcopy_of_row (hr.mono (by decide)) rfl (pa_cons (pv 0) pa_nil (se rfl)) (he := se rfl) (hpl := nst rfl)))) (by with_unfolding_all rfl))
    (pss_one (ps_fld (pv 0) (pe_callD Ddepths_of (hr.mono (by decide)) rfl (pa_cons (pe_fld (pv 0) rfl) pa_nil (se rfl)) (he := se rfl) (hpl := nst rfl)) (by with_unfolding_all rfl))))))), ?_⟩
  have l1 := hu.len
  have l2 := hok.len
  have l12 := hok.len12
  have lb := line_big
  walk_at "rd"
  refine ⟨m, rfl, m2, m60, ?_⟩
  walk_at "rd"
  refine ⟨p, us, zs, rs, rfl, hp, hu, hok, h1, fun H1 s1 => ?_⟩
  clear m60
  walk_at "rd"
  refine i_setFld ?_
  walk_at "rd"
  refine ⟨x, _, dx, [], rfl, s1 _ _ hx, T.i_Loop.cl, T.nM, by show 0 < 1000; decide, ?_⟩
  have b2 : SameB x H (upd H1 x (.ins (CE .Loop) dx (putF (Str.ofString "measure") (.int m) []))) := fun b u n e => by rw [upd_ne n]; exact s1 _ _ e
  have x2 : upd H1 x (.ins (CE .Loop) dx (putF (Str.ofString "measure") (.int m) [])) x = some (.ins (CE .Loop) dx (putF (Str.ofString "measure") (.int m) [])) := upd_same
  have u2 : RowsAt (upd H1 x (.ins (CE .Loop) dx (putF (Str.ofString "measure") (.int m) []))) rs us := (hu.same s1).keep (TK.upd (s1 _ _ hx) (by intro xs z; cases z))
  have hpx : p ≠ x := ne_of hp hx (by intro z; cases z)
  have p2 := b2 p _ hpx hp
  generalize upd H1 x (.ins (CE .Loop) dx (putF (Str.ofString "measure") (.int m) [])) = H2 at *
  walk_at "rd"
  dsimp only
  refine i_setFld ?_
  refine i_lc (i_list ?_)
  walk_at "rd"
  refine lcNL us (fun D i y H' => ∃ r, rs[i]? = some r ∧ RowAt (hide D H') r y) (sqL_inj_of p2) (by omega) (fun D i y H' H'' s' h => ?_) (fun D i v H' R hv hD hy s' r => ?_) (fun k ws H3 hk s3 hk3 hwl hP => ?_)
  · obtain ⟨r, e1, e2⟩ := h
    exact ⟨r, e1, e2.same (hide_sameB s')⟩
  · obtain ⟨ys, hy⟩ := hy
    have hir : i < rs.length := by rw [l1]; exact (List.getElem?_eq_some_iff.mp hv).1
    have hri := List.getElem?_eq_getElem hir
    walk_at "rd"
    refine ⟨v, rs[i], rfl, reads3 hok _ (List.getElem_mem hir), (u2.at_ i rs[i] v hri hv).same s', fun v' H'' s'' hrow => ?_⟩
    exact r v' H'' s'' ⟨rs[i], hri, hrow.hide (s'' _ _ hy)⟩
  have w3 : RowsAt H3 rs ws := ⟨by omega, fun i r u e1 e2 => by
    obtain ⟨r', e3, e4⟩ := hP i u e2
    rw [e1] at e3; cases e3
    exact e4.same (hide_same k H3)⟩
  have x3 := s3 _ _ x2
  have hkx : k ≠ x := fun z => by rw [z, x2] at hk; cases hk
  have hk0 : H k = none := by
    cases e : H k with
    | none => rfl
    | some o => have := b2 k o hkx e; rw [hk] at this; cases this
  walk_at "rd"
  refine ⟨x, _, dx, _, rfl, x3, T.i_Loop.cl, T.nK, (show 1 < 1000 by decide), ?_⟩
  have b4 : SameB x H (upd H3 x (.ins (CE .Loop) dx (putF (Str.ofString "kept") (.ref k) (putF (Str.ofString "measure") (.int m) [])))) := fun b u n e => by rw [upd_ne n]; exact s3 _ _ (b2 b u n e)
  have x4 : upd H3 x (.ins (CE .Loop) dx (putF (Str.ofString "kept") (.ref k) (putF (Str.ofString "measure") (.int m) []))) x = some (.ins (CE .Loop) dx (putF (Str.ofString "kept") (.ref k) (putF (Str.ofString "measure") (.int m) []))) := upd_same
  have w4 : RowsAt (upd H3 x (.ins (CE .Loop) dx (putF (Str.ofString "kept") (.ref k) (putF (Str.ofString "measure") (.int m) [])))) rs ws := w3.keep (TK.upd x3 (by intro xs z; cases z))
  have k4 : upd H3 x (.ins (CE .Loop) dx (putF (Str.ofString "kept") (.ref k) (putF (Str.ofString "measure") (.int m) []))) k = some (.lst ws) := by rw [upd_ne hkx]; exact hk3
  generalize upd H3 x (.ins (CE .Loop) dx (putF (Str.ofString "kept") (.ref k) (putF (Str.ofString "measure") (.int m) []))) = H4 at *
  dsimp only
  refine i_setFld ?_
  walk_at "rd"
  refine i_fld ?_
  walk_at "rd"
  refine ⟨x, _, dx, _, .ref k, rfl, x4, T.i_Loop.cl, T.nK, rfl, ?_⟩
  walk_at "rd"
  refine ⟨k, ws, rs, rfl, k4, w4, by omega, reads3 hok, fun d kvs H5 s5 hd5 hdep => ?_⟩
  walk_at "rd"
  refine ⟨x, _, dx, _, rfl, s5 _ _ x4, T.i_Loop.cl, T.nD, (show 2 < 1000 by decide), ?_⟩
  have x5 := s5 _ _ x4
  refine q k _ hk0 (fun b u n e => by rw [upd_ne n]; exact s5 _ _ (b4 b u n e)) ⟨dx, d, _, ws, kvs, upd_same, rfl, rfl, rfl, rfl, trivial, ?_, (w4.same s5).keep (TK.upd x5 (by intro xs z; cases z)), ?_, hdep⟩
  · rw [upd_ne hkx]; exact s5 _ _ k4
  · rw [upd_ne (ne_of hd5 x5 (by intro z; cases z))]; exact hd5
structure AllAt {α : Type} (R : Hp → α → V → Prop) (H : Hp) (rs : List α) (us : List V) : Prop where
  len : rs.length = us.length
  at_ : ∀ (i : Nat) r u, rs[i]? = some r → us[i]? = some u → R H r u
theorem AllAt.snoc {α : Type} {R : Hp → α → V → Prop} {H : Hp} {rs : List α} {us : List V} {r : α} {u : V} (h : AllAt R H rs us) (hr : R H r u) : AllAt R H (rs ++ [r]) (us ++ [u]) := by
  refine ⟨by rw [List.length_append, List.length_append, h.len]; rfl, fun i r' v' e1 e2 => ?_⟩
  have hl := h.len
  by_cases hi : i < rs.length
  · rw [List.getElem?_append_left hi] at e1
    rw [List.getElem?_append_left (by omega)] at e2
    exact h.at_ i r' v' e1 e2
  · rw [List.getElem?_append_right (by omega)] at e1
    rw [List.getElem?_append_right (by omega)] at e2
    have h0 : i - rs.length = 0 := by
      by_cases h0 : i - rs.length = 0
      · exact h0
      · rw [List.getElem?_eq_none (by simp; omega)] at e1; cases e1
    rw [h0] at e1; rw [show i - us.length = 0 by omega] at e2
    cases e1; cases e2; exact hr
def Kp (H H' : Hp) : Prop := ∀ b u, H b = some u → (∀ xs, u ≠ .lst xs) → H' b = some u
theorem Kp.of {H H' : Hp} (s : Same H H') : Kp H H' := fun b u e _ => s b u e
theorem Kp.trans {H H' H'' : Hp} (s : Kp H H') (t : Kp H' H'') : Kp H H'' := fun b u e n => t b u (s b u e n) n
theorem Kp.upd {H : Hp} {x : Addr} {xs : List V} {o : HO} (h : H x = some (.lst xs)) : Kp H (L2.upd H x o) := fun b u e n => by
  rw [upd_ne (fun z => by rw [z, h] at e; exact n xs (Option.some.inj e).symm)]; exact e
theorem Kp.ofB {D : Addr} {H H' : Hp} {xs : List V} (hD : H D = some (.lst xs)) (s : SameB D H H') : Kp H H' := fun b u e n => s b u (fun z => by rw [z, hD] at e; exact n xs (Option.some.inj e).symm) e
theorem bits_div {x : Int} {m : Nat} (y : Int) (hy : 0 < y) (h : Builtin.Int.intBits x ≤ m) : Builtin.Int.intBits (x / y) ≤ m := by
  rw [← Int.fdiv_eq_ediv_of_nonneg _ (by omega)]
  exact intBits_fdiv_le h
def spRead : Sp := fun vs H Q _ => ∃ (m : Int) (np : Addr) (zs : List Str) (k : Nat), vs = [.int m, .ref np, .int (k : Int)] ∧ Builtin.Int.intBits m ≤ 4000000 ∧ H np = some (.lst (List.map V.str zs)) ∧ zs.length ≤ 12 ∧ k < zs.length ∧
  ∀ rd v H2, Same H H2 → RdAt H2 rd v → RdOk zs k rd → Q v H2
theorem at_seven {x : Int} (h0 : 0 ≤ x) (h1 : x < 7) : ∃ b : Int, atI [V.int 0, V.int 0, V.int 1, V.int 1, V.int 2, V.int 3, V.int 6] x = some (.int b) ∧ 0 ≤ b ∧ b < 7 := by
  rcases (by omega : x = 0 ∨ x = 1 ∨ x = 2 ∨ x = 3 ∨ x = 4 ∨ x = 5 ∨ x = 6) with z | z | z | z | z | z | z <;> subst z
  · exact ⟨0, rfl, by decide, by decide⟩
  · exact ⟨0, rfl, by decide, by decide⟩
  · exact ⟨1, rfl, by decide, by decide⟩
  · exact ⟨1, rfl, by decide, by decide⟩
  · exact ⟨2, rfl, by decide, by decide⟩
  · exact ⟨3, rfl, by decide, by decide⟩
  · exact ⟨6, rfl, by decide, by decide⟩
theorem d_read (T : Txt K mg C CE) (Kb : K.In base) (G : base.Ns mainGlobals mg) : Df P w K mg base 1 "_law_read" ["_law_mixed", "_law_names_here", "_law_k"] spRead := by
  refine T.f_read.df Kb G sc_law_read (fun _ _ _ _ _ _ us hl => match us, hl with | [_, _, _], _ => rfl) (by rintro vs H Q E ⟨m, np, zs, k, rfl, _⟩; rfl) (fun f cdv A outer s H vs Q E hr h => ?_)
  obtain ⟨m, np, zs, k, rfl, hm, hnp, h12, hk, q⟩ := h
  refine ⟨_, (pss_cons (ps_if (pt_cmpR op_eq (pe_op op_mod (pv 0) pe_int) pe_int (nomark _)) (pss_one (ps_ret (pe_op op_mod (pe_op op_fdiv (pe_op op_mulO (pv 0) (pv 0)) pe_int) (pe_op op_pow pe_int pe_int)))) pss_nil)
    (pss_cons (ps_set (i := 3) sc_law_read.nd rfl (by first | exact Or.inl rfl | exact Or.inr rfl) (pe_op op_mod (pe_op op_fdiv (pv 0) pe_int) (pe_callB call_len_seq rfl T.nlen PySem.boot_len (pa_cons (pv 1) pa_nil (se rfl)) (he := se rfl) (hpl := nst rfl))))
    (pss_cons (ps_set (i := 4) sc_law_read.nd rfl (by first | exact Or.inl rfl | exact Or.inr rfl) (pe_ix ix_seq (pe_lstA (pa_cons pe_int (pa_cons pe_int (pa_cons pe_int (pa_cons pe_int (pa_cons pe_int (pa_cons pe_int (pa_cons pe_int pa_nil (se rfl)) (se rfl)) (se rfl)) (se rfl)) (se rfl)) (se rfl)) (se rfl))) (pe_op op_mod (pe_op op_fdiv (pv 0) pe_int) pe_int) (fun _ _ => rfl)))
    (pss_cons (ps_join (ps_if (PW.pt (pw_and (pt_cmpR op_ge (pv 3) (pv 2) (nomark _)) (pw_and1 (pt_cmpR op_eq (pv 4) pe_int (nomark _))))) (pss_one (ps_set (i := 4) sc_law_read.nd rfl (by first | exact Or.inl rfl | exact Or.inr rfl) (pe_op op_add pe_int (pe_op op_mod (pe_op op_fdiv (pv 0) pe_int) pe_int)))) pss_nil))
    (pss_one (ps_ret (pe_tupA (pa_cons (pe_ix ix_seq (pv 1) (pv 3) (fun _ _ => rfl)) (pa_cons (pv 4) pa_nil (se rfl)) (se rfl))))))))), ?_⟩
  walk_at "rd"
  refine i_iteI (fun h0 => ?_) (fun h0 => ?_)
  · walk_at "rd"
    refine i_mul (IntMulOk.of_le hm hm (by decide)) ?_
    walk_at "rd"
    have b60 := mod_b (m * m / 4) (show (0 : Int) < 10 ^ (60 : Int).toNat by decide +kernel)
    generalize m * m / 4 % 10 ^ (60 : Int).toNat = v at *
    exact q (.num v) _ _ (Same.refl _) rfl ⟨b60.1, b60.2⟩
  walk_at "rd"
  refine ⟨_, _, rfl, .inl (sqL_inj_of hnp), ?_⟩
  rw [List.length_map]
  walk_at "rd"
  have bz := mod_b (m / 4) (show (0 : Int) < (zs.length : Int) by omega)
  obtain ⟨at', hat⟩ : ∃ j : Nat, m / 4 % (zs.length : Int) = (j : Int) := ⟨(m / 4 % (zs.length : Int)).toNat, by omega⟩
  first | (refine i_mod (by omega) ?_) | skip
  rw [hat] at bz ⊢
  walk_at "rd"
  refine ⟨by show 7 ≤ sizeLine; decide, fun lp H1 hN1 => ?_⟩
  walk_at "rd"
  have b7' := mod_b (m / 53) (show (0 : Int) < 7 by decide)
  obtain ⟨bk, hbk, b7⟩ := at_seven b7'.1 b7'.2
  refine i_ixL hN1.lst hbk ?_
  walk_at "rd"
  obtain ⟨z, hz, hza⟩ := at_str (zs := zs) (j := at') (by omega)
  refine i_join (fun σ' H' => H' = H1 ∧ ∃ b : Int, σ' = [some (.int m), some (.ref np), some (.int (k : Int)), some (.int (at' : Int)), some (.int b)] ∧ 0 ≤ b ∧ b ≤ 6 ∧ (b = 0 → at' < k)) ?_ ?_
  · walk_at "rd"
    refine i_iteD (fun h1 => ?_) (fun h1 => ?_)
    · walk_at "rd"
      refine i_iteI (fun h2 => ?_) (fun h2 => ?_)
      · walk_at "rd"
        have b6 := mod_b (m / 379) (show (0 : Int) < 3 by decide)
        exact ⟨rfl, _, rfl, by omega, by omega, by omega⟩
      · walk_at "rd"
        exact ⟨rfl, _, rfl, by omega, by omega, fun e => absurd e h2⟩
    · walk_at "rd"
      exact ⟨rfl, _, rfl, by omega, by omega, by omega⟩
  rintro σ' H' ⟨rfl, b, rfl, b0, b6, bk'⟩
  walk_at "rd"
  refine i_ixL (sqL_inj_of (hN1.same _ _ hnp)) hza ?_
  walk_at "rd"
  refine ⟨by show 2 ≤ sizeLine; decide, fun t H2 hN2 => ?_⟩
  exact q (.back z b) _ _ (hN1.same.trans hN2.same) ⟨t, rfl, hN2.at⟩ ⟨at', hz, b0, b6, bk'⟩
def wantsV : List V := [.int 2, .int 2, .int 2, .int 2, .int 2, .int 3, .int 1, .int 1, .int 0]
theorem at_wants {k : Nat} (h : k < 9) {d : Dk} (hd : dks[k]? = some d) : atI wantsV (k : Int) = some (.int (d.wants : Nat)) := by
  rcases (by omega : k = 0 ∨ k = 1 ∨ k = 2 ∨ k = 3 ∨ k = 4 ∨ k = 5 ∨ k = 6 ∨ k = 7 ∨ k = 8) with z | z | z | z | z | z | z | z | z <;> subst z <;> cases hd <;> rfl
theorem rds_kp {H H' : Hp} {rs : List Rd} {vs : List V} (s : Kp H H') (h : RdsAt H rs vs) : RdsAt H' rs vs := ⟨h.len, fun i r v e1 e2 => (h.at_ i r v e1 e2).keep fun b xs e => s b _ e (by intro ys z; cases z)⟩
theorem rows_kp {H H' : Hp} {rs : List Row} {us : List V} (s : Kp H H') (h : RowsAt H rs us) : RowsAt H' rs us := h.keep fun b xs e => s b _ e (by intro ys z; cases z)
theorem RowsAt.snoc {H : Hp} {rs : List Row} {us : List V} {r : Row} {u : V} (h : RowsAt H rs us) (hr : RowAt H r u) : RowsAt H (rs ++ [r]) (us ++ [u]) :=
  let k : AllAt RowAt H (rs ++ [r]) (us ++ [u]) := AllAt.snoc (R := RowAt) ⟨h.len, h.at_⟩ hr
  ⟨k.len, k.at_⟩
def spRowsD (K : PySem.W.Frag) : Sp := fun vs H Q _ => ∃ (a np : Addr) (ns : List Int) (zs : List Str), vs = [.ref a, .ref np] ∧ Scr K H a ns ∧ H np = some (.lst (List.map V.str zs)) ∧ 1 ≤ zs.length ∧ zs.length ≤ 12 ∧ NmsOk zs ∧
  ∀ p H2 rs us, Same H H2 → H p = none → H2 p = some (.lst us) → RowsAt H2 rs us → RowsOk zs rs → Q (.ref p) H2
theorem d_rowsD (T : Txt K mg C CE) (Kb : K.In base) (G : base.Ns mainGlobals mg) : Df P w K mg base 2 "_law_rows" ["_law_script", "_law_names_here"] (spRowsD K) := by
  have D_law_sum_at : Df P w K mg base 1 "_law_sum_at" ["_law_script", "_law_at", "_law_many"] (spSumAt K) := d_sumat T Kb G
  have D_law_words : Df P w K mg base 1 "_law_words" [] spWords := d_words T Kb G
  have D_law_read : Df P w K mg base 1 "_law_read" ["_law_mixed", "_law_names_here", "_law_k"] spRead := d_read T Kb G
  refine T.f_rows.df Kb G sc_law_rows (fun _ _ _ _ _ _ us hl => match us, hl with | [_, _], _ => rfl) (by rintro vs H Q E ⟨a, np, ns, zs, rfl, _⟩; rfl) (fun f cdv A outer s H vs Q E hr h => ?_)
  obtain ⟨a, np, ns, zs, rfl, hS, hnp, hz1, hz12, hzs, q⟩ := h
  refine ⟨_, (pss_cons (ps_set (i := 2) sc_law_rows.nd rfl (by first | exact Or.inl rfl | exact Or.inr rfl) (pe_lstA pa_nil))
    (pss_cons (ps_set (i := 3) sc_law_rows.nd rfl (by first | exact Or.inl rfl | exact Or.inr rfl) (pe_callB call_len_seq rfl T.nlen PySem.boot_len (pa_cons (pv 1) pa_nil (se rfl)) (he := se rfl) (hpl := nst rfl)))
    (pss_cons (ps_for PassesOwn.never rfl (pi_range1 rfl T.nrange (pa_cons (pv 3) pa_nil (se rfl))) (pg_name (i := 4) sc_law_rows.nd rfl (Or.inl rfl))
      (pss_cons (ps_set (i := 5) sc_law_rows.nd rfl (by first | exact Or.inl rfl | exact Or.inr rfl) (pe_callD D_law_sum_at (hr.mono (by decide)) rfl (pa_cons (pv 0) (pa_cons (pv 4) (pa_cons (pv 3) pa_nil (se rfl)) (se rfl)) (se rfl)) (he := se rfl) (hpl := nst rfl)))
    (pss_cons (ps_set (i := 6) sc_law_rows.nd rfl (by first | exact Or.inl rfl | exact Or.inr rfl) (pe_op op_mulO (pe_op op_add (pe_op op_add (pe_op op_add (pe_op op_mulO (pv 5) (pv 5)) (pv 5)) (pv 4)) pe_int) pe_int))
    (pss_cons (ps_set (i := 7) sc_law_rows.nd rfl (by first | exact Or.inl rfl | exact Or.inr rfl) (pe_ix ix_seq (pe_callD0 D_law_words (hr.mono (by decide)) rfl) (pe_op op_mod (pe_op op_fdiv (pv 6) pe_int) pe_int) (fun _ _ => rfl)))
    (pss_cons (ps_set (i := 8) sc_law_rows.nd rfl (by first | exact Or.inl rfl | exact Or.inr rfl) (pe_lstA pa_nil))
    (pss_cons (ps_for PassesOwn.never rfl (pi_range1 rfl T.nrange (pa_cons (pe_ix ix_seq (pe_lstA (pa_cons pe_int (pa_cons pe_int (pa_cons pe_int (pa_cons pe_int (pa_cons pe_int (pa_cons pe_int (pa_cons pe_int (pa_cons pe_int (pa_cons pe_int pa_nil (se rfl)) (se rfl)) (se rfl)) (se rfl)) (se rfl)) (se rfl)) (se rfl)) (se rfl)) (se rfl))) (pe_op op_mod (pe_op op_fdiv (pv 6) pe_int) pe_int) (fun _ _ => rfl)) pa_nil (se rfl))) (pg_name (i := 9) sc_law_rows.nd rfl (Or.inl rfl))
      (pss_one (ps_expr (pe_bm PySem.F.plainAttrs_list PySem.F.slot_list_append PySem.F.type_list_append mt_append (pv 8) (pa_cons (pe_callD D_law_read (hr.mono (by decide)) rfl (pa_cons (pe_op op_fdiv (pv 6) (pe_op op_add pe_int (pe_op op_mulO pe_int (pv 9)))) (pa_cons (pv 1) (pa_cons (pv 4) pa_nil (se rfl)) (se rfl)) (se rfl)) (he := se rfl) (hpl := nst rfl)) pa_nil (se rfl)) (hs := se rfl) (hplain := nst rfl)))))
    (pss_one (ps_expr (pe_bm PySem.F.plainAttrs_list PySem.F.slot_list_append PySem.F.type_list_append mt_append (pv 2) (pa_cons (pe_tupA (pa_cons (pe_ix ix_seq (pv 1) (pv 4) (fun _ _ => rfl)) (pa_cons (pv 7) (pa_cons (pe_callTy call_tupleA rfl T.ntuple PyProof.Rows.boot_tuple (pa_cons (pv 8) pa_nil (se rfl)) (he := se rfl) (hpl := nst rfl)) pa_nil (se rfl)) (se rfl)) (se rfl))) pa_nil (se rfl)) (hs := se rfl) (hplain := nst rfl))))))))))
    (pss_one (ps_ret (pv 2)))))), ?_⟩
  have lb := line_big
  walk_at "rd"
  refine ⟨by show 0 ≤ sizeLine; exact Nat.zero_le _, fun F H1 hN1 => ?_⟩
  walk_at "rd"
  refine ⟨_, _, rfl, .inl (sqL_inj_of (hN1.same _ _ hnp)), ?_⟩
  rw [List.length_map]
  walk_at "rd"
  refine i_for (i_rng1 ?_)
  walk_at "rd"
  refine ⟨_, rfl, by omega, by omega, ?_⟩
  rw [Int.toNat_natCast]
  refine for_range (lo := 0) (n := zs.length) (fun i σ H' => ∃ (rs : List Row) (us : List V) (x4 x5 x6 x7 x8 x9 : Option V), σ = [some (.ref a), some (.ref np), some (.ref F), some (.int (zs.length : Int)), x4, x5, x6, x7, x8, x9] ∧ rs.length = i ∧ H' F = some (.lst us) ∧ SameB F H1 H' ∧ RowsAt H' rs us ∧ ∀ (j : Nat) r, rs[j]? = some r → RowOk zs j r)
    ⟨[], [], none, none, none, none, none, none, rfl, rfl, hN1.at, fun b u n e => e, ⟨rfl, fun i r u e => by simp at e⟩, fun j r e => by simp at e⟩ ?_ ?_
  · rintro i σ H' hi ⟨rs, us, x4, x5, x6, x7, x8, x9, rfl, hrl, hF, s', hu, hok⟩
    have sH : Same H H' := fun b u e => s' b u (ne_of_none e hN1.free) (hN1.same _ _ e)
    have hul := hu.len
    have e0 : (0 : Int) + (i : Int) = (i : Int) := Int.zero_add _
    rw [e0]
    walk_at "rd"
    refine ⟨a, ns, i, zs.length, rfl, hS.same sH, by omega, by omega, by omega, fun c H2 s2 hc => ?_⟩
    walk_at "rd"
    refine i_mul (IntMulOk.of_le hc hc (by decide)) ?_
    walk_at "rd"
    refine i_mul (IntMulOk.of_right (by decide)) ?_
    have hmb : Builtin.Int.intBits ((c * c + c + (i : Int) + 1) * 982451653) ≤ 4000000 := by
      have h1 := intBits_mul_le hc hc
      have h2 := intBits_add_le h1 hc
      have h3 := intBits_add_le h2 (PySem.intBits_le_64 (k := (i : Int)) (by omega) (by omega))
      have h4 := intBits_add_le h3 (show Builtin.Int.intBits 1 ≤ 64 by decide)
      have h5 := intBits_mul_le h4 (show Builtin.Int.intBits 982451653 ≤ 64 by decide)
      omega
    generalize (c * c + c + (i : Int) + 1) * 982451653 = m at *
    walk_at "rd"
    refine ⟨rfl, fun wp H3 hN3 => ?_⟩
    walk_at "rd"
    have bw := mod_b (m / 2) (show (0 : Int) < 9 by decide)
    obtain ⟨kw, hkw⟩ : ∃ k : Nat, m / 2 % 9 = (k : Int) := ⟨(m / 2 % 9).toNat, by omega⟩
    obtain ⟨d, hdk, hda⟩ := at_dk (k := kw) (by omega)
    refine i_ixL hN3.lst (show atI wordsV (m / 2 % 9) = some (.str d.word) by rw [hkw]; exact hda) ?_
    walk_at "rd"
    refine ⟨by show 0 ≤ sizeLine; exact Nat.zero_le _, fun R H4 hN4 => ?_⟩
    walk_at "rd"
    refine i_for (i_rng1 ?_)
    walk_at "rd"
    refine ⟨by show 9 ≤ sizeLine; decide, fun cp H5 hN5 => ?_⟩
    walk_at "rd"
    refine i_ixL hN5.lst (show atI wantsV (m / 2 % 9) = some (.int (d.wants : Nat)) by rw [hkw]; exact at_wants (by omega) hdk) ?_
    walk_at "rd"
    have w3 := wants3 d
    refine ⟨_, rfl, by omega, by omega, ?_⟩
    rw [Int.toNat_natCast]
    have s25 : Same H' H5 := ((s2.trans hN3.same).trans hN4.same).trans hN5.same
    have hF5 := s25 _ _ hF
    have hFR : F ≠ R := ne_of_none (hN3.same _ _ (s2 _ _ hF)) hN4.free
    have hnpR : np ≠ R := ne_of_none (hN3.same _ _ (s2 _ _ (sH _ _ hnp))) hN4.free
    have hu5 := rows_kp (Kp.of s25) hu
    have hR5 : H5 R = some (.lst []) := hN5.same _ _ hN4.at
    refine for_range (lo := 0) (n := d.wants) (fun j σ H6 => ∃ (rds : List Rd) (vs : List V) (x9 : Option V), σ = [some (.ref a), some (.ref np), some (.ref F), some (.int (zs.length : Int)), some (.int (i : Int)), some (.int c), some (.int m), some (.str d.word), some (.ref R), x9] ∧ rds.length = j ∧ H6 R = some (.lst vs) ∧ SameB R H5 H6 ∧ RdsAt H6 rds vs ∧ ∀ rd ∈ rds, RdOk zs i rd)
      ⟨[], [], x9, rfl, rfl, hR5, fun b u n e => e, ⟨rfl, fun i r v e => by simp at e⟩, fun rd h => by simp at h⟩ ?_ ?_
    · rintro j σ H6 hj ⟨rds, vs, x9, rfl, hdl, hR6, s6, hrd, hrok⟩
      have hvl := hrd.len
      have e0 : (0 : Int) + (j : Int) = (j : Int) := Int.zero_add _
      rw [e0]
      walk_at "rd"
      refine ⟨.inl ⟨rfl, _, sqL_inj_of hR6⟩, ?_⟩
      walk_at "rd"
      refine i_mul (IntMulOk.of_left (by decide)) ?_
      walk_at "rd"
      refine i_div ⟨by omega, by omega⟩ ?_
      walk_at "rd"
      refine ⟨_, np, zs, i, rfl, bits_div _ (by omega) hmb, s6 np _ hnpR (s25 _ _ (sH _ _ hnp)), hz12, hi, fun rd v H7 s7 hv hvok => ?_⟩
      walk_at "rd"
      have hR7 := s7 _ _ hR6
      refine i_append hR7 (by omega) ?_
      walk_at "rd"
      refine ⟨rds ++ [rd], vs ++ [v], _, rfl, by rw [List.length_append, hdl]; rfl, upd_same, fun b u n e => by rw [upd_ne n]; exact s7 _ _ (s6 b u n e), RdsAt.snoc (rds_kp ((Kp.of s7).trans (Kp.upd hR7)) hrd) (hv.keep (TK.upd hR7 (by intro xs z; cases z))), mem_snoc hrok hvok⟩
    · rintro σ H6 ⟨rds, vs, x9, rfl, hdl, hR6, s6, hrd, hrok⟩
      have hF6 := s6 F _ hFR hF5
      walk_at "rd"
      refine ⟨.inl ⟨rfl, _, sqL_inj_of hF6⟩, ?_⟩
      walk_at "rd"
      obtain ⟨z, hz, hza⟩ := at_str hi
      refine i_ixL (sqL_inj_of (s6 np _ hnpR (s25 _ _ (sH _ _ hnp)))) hza ?_
      walk_at "rd"
      refine i_tupleAL (sqL_inj_of hR6) fun p1 H7 hN7 => ?_
      walk_at "rd"
      refine ⟨by show 3 ≤ sizeLine; decide, fun p2 H8 hN8 => ?_⟩
      walk_at "rd"
      have s68 := hN7.same.trans hN8.same
      have hF8 := s68 _ _ hF6
      refine i_append hF8 (by omega) ?_
      walk_at "rd"
      have hrow : RowAt H8 ⟨z, d, rds⟩ (.ref p2) := ⟨p1, p2, vs, rfl, hN8.at, hN8.same _ _ hN7.at, rds_kp (Kp.of s68) hrd⟩
      have k6 : Kp H5 H6 := Kp.ofB hR5 s6
      refine ⟨rs ++ [⟨z, d, rds⟩], us ++ [.ref p2], _, _, _, _, _, _, rfl, by rw [List.length_append, hrl]; rfl, upd_same, fun b u n e => ?_, RowsAt.snoc (rows_kp ((k6.trans (Kp.of s68)).trans (Kp.upd hF8)) hu5) (hrow.keep (TK.upd hF8 (by intro xs z; cases z))), fun j r e => ?_⟩
      · rw [upd_ne n]
        have hbR : b ≠ R := fun zz => by
          have h4 := hN3.same _ _ (s2 _ _ (s' b u n e))
          rw [zz, hN4.free] at h4; cases h4
        exact s68 _ _ (s6 b u hbR (s25 _ _ (s' b u n e)))
      · by_cases hj : j < rs.length
        · rw [List.getElem?_append_left hj] at e
          exact hok j r e
        · rw [List.getElem?_append_right (by omega)] at e
          have hj0 : j = i := by
            by_cases h0 : j - rs.length = 0
            · omega
            · rw [List.getElem?_eq_none (by simp; omega)] at e; cases e
          rw [hj0, show i - rs.length = 0 by omega] at e
          cases e
          rw [hj0]; exact ⟨hz, hdl, hrok⟩
  · rintro σ H' ⟨rs, us, x4, x5, x6, x7, x8, x9, rfl, hrl, hF, s', hu, hok⟩
    walk_at "rd"
    exact q F H' rs us (fun b u e => s' b u (ne_of_none e hN1.free) (hN1.same _ _ e)) hN1.free hF hu ⟨hz12, hzs, hrl, hok⟩
def rdT : Rd → Str
  | .num i => numT i.toNat
  | .back z b => if 0 < b then z ++ ⟨#[64]⟩ ++ numT b.toNat else z
def rowL (r : Row) : List Str := [r.name, Str.ofString "=", r.d.word] ++ r.reads.map rdT
def measL (m : Int) : List Str := [Str.ofString "measure", numT m.toNat]
def linesT (m : Int) (rs : List Row) : List (List Str) := measL m :: rs.map rowL
def lineT (l : List Str) : Str := Str.join ⟨#[32]⟩ l
def textT (m : Int) (rs : List Row) : Str := Str.join ⟨#[10]⟩ ((linesT m rs).map lineT)
def Vis (z : Str) : Prop := z.length ≤ 61 ∧ ∀ c ∈ z.cps.toList, 33 ≤ c
theorem spc : Str.ofString " " = ⟨#[32]⟩ := by decide +kernel
theorem nlc : Str.ofString "\n" = ⟨#[10]⟩ := by decide +kernel
theorem atc : Str.ofString "@" = ⟨#[64]⟩ := by decide +kernel
theorem cat_list (x y : Str) : (x ++ y).cps.toList = x.cps.toList ++ y.cps.toList := by simp only [Str.cps_append, Array.toList_append]
theorem vis_num {n : Nat} (h : NumOk n) : Vis (numT n) := ⟨numT_len h, fun c hc => by have := numT_digits n c hc; omega⟩
theorem vis_lo {z : Str} (hl : z.length ≤ 12) (h : Lo z) : Vis z := ⟨by omega, fun c hc => by have := h c hc; omega⟩
theorem lo_word (d : Dk) : 1 ≤ d.word.length ∧ d.word.length ≤ 12 ∧ Lo d.word := by cases d <;> (unfold Lo; decide +kernel)
def Rd1 : Rd → Prop
  | .num i => 0 ≤ i ∧ i < 10 ^ 60
  | .back z b => 1 ≤ z.length ∧ z.length ≤ 12 ∧ Lo z ∧ 0 ≤ b ∧ b ≤ 6
theorem numOk_of {i : Int} (h1 : i ≤ 10 ^ 60) : NumOk i.toNat := by
  unfold NumOk
  have : ((10 : Int) ^ 60) = ((10 ^ 60 : Nat) : Int) := by decide +kernel
  omega
theorem small {i : Int} (h : i ≤ 6) : NumOk i.toNat := Nat.le_trans (show i.toNat ≤ 6 by omega) (by decide +kernel)
theorem six_one {i : Int} (h : i ≤ 6) : (numT i.toNat).length = 1 := by
  have : ∀ n, n ≤ 6 → (numT n).length = 1 := by
    intro n hn
    rcases (by omega : n = 0 ∨ n = 1 ∨ n = 2 ∨ n = 3 ∨ n = 4 ∨ n = 5 ∨ n = 6) with z | z | z | z | z | z | z <;> subst z <;> decide +kernel
  exact this _ (by omega)
theorem rd_vis {r : Rd} (h : Rd1 r) : Vis (rdT r) := by
  cases r with
  | num i => exact vis_num (numOk_of (by have := h.2; omega))
  | back z b =>
    obtain ⟨h1, h2, h3, h4, h5⟩ := h
    by_cases hb : 0 < b
    · rw [show rdT (.back z b) = z ++ ⟨#[64]⟩ ++ numT b.toNat from if_pos hb]
      refine ⟨?_, fun c hc => ?_⟩
      · rw [strLen_append, strLen_append, six_one h5]
        show z.length + 1 + 1 ≤ 61
        omega
      · rw [cat_list, cat_list] at hc
        rcases List.mem_append.mp hc with a | a
        · rcases List.mem_append.mp a with b | b
          · have := h3 c b; omega
          · have : c = 64 := by simpa using b
            omega
        · have := numT_digits _ c a; omega
    · rw [show rdT (.back z b) = z from if_neg hb]
      exact vis_lo h2 h3
theorem rd1_of {zs : List Str} {k : Nat} {r : Rd} (hz : NmsOk zs) (h : RdOk zs k r) : Rd1 r := by
  cases r with
  | num i => exact h
  | back z b =>
    obtain ⟨j, hj, h0, h6, _⟩ := h
    have := hz.one z (List.mem_iff_getElem?.mpr ⟨j, hj⟩)
    exact ⟨this.1, this.2.1, this.2.2, h0, h6⟩
structure Row1 (r : Row) : Prop where
  n1 : 1 ≤ r.name.length
  n12 : r.name.length ≤ 12
  lo : Lo r.name
  many : r.reads.length ≤ 3
  reads : ∀ rd ∈ r.reads, Rd1 rd
theorem row1_of {zs : List Str} {rs : List Row} (h : RowsOk zs rs) {r : Row} (hr : r ∈ rs) : Row1 r := by
  obtain ⟨i, hi⟩ := List.mem_iff_getElem?.mp hr
  have ro := h.at_ i r hi
  have nm := h.names.one r.name (List.mem_iff_getElem?.mpr ⟨i, ro.name⟩)
  exact ⟨nm.1, nm.2.1, nm.2.2, by rw [ro.many]; cases r.d <;> decide, fun rd hrd => rd1_of h.names (ro.reads rd hrd)⟩
structure LineOk (l : List Str) : Prop where
  ne : l ≠ []
  len : l.length ≤ 6
  vis : ∀ z ∈ l, Vis z
theorem row_line {r : Row} (h : Row1 r) : LineOk (rowL r) := by
  have hm := h.many
  refine ⟨by simp [rowL], by simp [rowL]; omega, fun z hz => ?_⟩
  unfold rowL at hz
  rcases List.mem_append.mp hz with a | a
  · rcases List.mem_cons.mp a with rfl | a
    · exact vis_lo h.n12 h.lo
    rcases List.mem_cons.mp a with rfl | a
    · exact ⟨by decide +kernel, by decide +kernel⟩
    rw [List.mem_singleton.mp a]
    exact vis_lo (lo_word r.d).2.1 (lo_word r.d).2.2
  · obtain ⟨rd, hrd, rfl⟩ := List.mem_map.mp a
    exact rd_vis (h.reads rd hrd)
theorem meas_line {m : Int} (h : m ≤ 10 ^ 60) : LineOk (measL m) := by
  refine ⟨by simp [measL], by simp [measL], fun z hz => ?_⟩
  unfold measL at hz
  rcases List.mem_cons.mp hz with rfl | a
  · exact ⟨by decide +kernel, by decide +kernel⟩
  rw [List.mem_singleton.mp a]
  exact vis_num (numOk_of h)
structure TxtOk (m : Int) (rs : List Row) : Prop where
  m2 : 2 ≤ m
  mb : m ≤ 10 ^ 60
  len1 : 1 ≤ rs.length
  len : rs.length ≤ 12
  one : ∀ r ∈ rs, Row1 r
theorem TxtOk.lines {m : Int} {rs : List Row} (h : TxtOk m rs) : ∀ l ∈ linesT m rs, LineOk l := by
  intro l hl
  rcases List.mem_cons.mp hl with rfl | a
  · exact meas_line h.mb
  · obtain ⟨r, hr, rfl⟩ := List.mem_map.mp a
    exact row_line (h.one r hr)
theorem LineOk.long {l : List Str} (h : LineOk l) : (lineT l).length ≤ 372 := by
  have h1 := join_len (B := 61) (c := 32) (l := l) fun z hz => (h.vis z hz).1
  have h2 := h.len
  unfold lineT; omega
theorem LineOk.jlen {l : List Str} (h : LineOk l) : joinLen ⟨#[32]⟩ l ≤ 10000 := by
  have h1 := joinLen_le (B := 61) (c := 32) (l := l) fun z hz => (h.vis z hz).1
  have h2 := h.len
  omega
theorem LineOk.split {l : List Str} (h : LineOk l) : Txt.split (lineT l) ⟨#[32]⟩ = l :=
  split_join 32 h.ne fun z hz hc => by have := (h.vis z hz).2 32 hc; omega
theorem LineOk.no {l : List Str} (h : LineOk l) : 10 ∉ (lineT l).cps.toList :=
  join_no (by decide) fun z hz hc => by have := (h.vis z hz).2 10 hc; omega
theorem lines_length (m : Int) (rs : List Row) : (linesT m rs).length = rs.length + 1 := by unfold linesT; rw [List.length_cons, List.length_map]
theorem TxtOk.split {m : Int} {rs : List Row} (h : TxtOk m rs) : Txt.split (textT m rs) ⟨#[10]⟩ = (linesT m rs).map lineT :=
  split_join 10 (by unfold linesT; simp) fun z hz => by
    obtain ⟨l, hl, rfl⟩ := List.mem_map.mp hz
    exact (h.lines l hl).no
theorem TxtOk.jlen {m : Int} {rs : List Row} (h : TxtOk m rs) : joinLen ⟨#[10]⟩ ((linesT m rs).map lineT) ≤ 10000 := by
  have h1 := joinLen_le (B := 372) (c := 10) (l := (linesT m rs).map lineT) fun z hz => by
    obtain ⟨l, hl, rfl⟩ := List.mem_map.mp hz
    exact (h.lines l hl).long
  have h2 := h.len
  rw [List.length_map, lines_length] at h1; omega
theorem TxtOk.tlen {m : Int} {rs : List Row} (h : TxtOk m rs) : (textT m rs).length ≤ 10000 := by
  have h1 := join_len (B := 372) (c := 10) (l := (linesT m rs).map lineT) fun z hz => by
    obtain ⟨l, hl, rfl⟩ := List.mem_map.mp hz
    exact (h.lines l hl).long
  have h2 := h.len
  rw [List.length_map, lines_length] at h1
  unfold textT; omega
def LineAt (H : Hp) (l : List Str) (v : V) : Prop := ∃ b, v = .ref b ∧ H b = some (.lst (List.map V.str l))
theorem LineAt.same {H H' : Hp} (s : Same H H') {l : List Str} {v : V} (h : LineAt H l v) : LineAt H' l v := by
  obtain ⟨b, e, q⟩ := h
  exact ⟨b, e, s _ _ q⟩
structure LinesAt (H : Hp) (ls : List (List Str)) (us : List V) : Prop where
  len : ls.length = us.length
  at_ : ∀ (i : Nat) l u, ls[i]? = some l → us[i]? = some u → LineAt H l u
theorem LinesAt.same {H H' : Hp} {ls : List (List Str)} {us : List V} (s : Same H H') (h : LinesAt H ls us) : LinesAt H' ls us := ⟨h.len, fun i l u e1 e2 => (h.at_ i l u e1 e2).same s⟩
theorem at_no {z : Str} (h : Lo z) : 64 ∉ z.cps.toList := fun hc => by have := h 64 hc; omega
theorem num_no (n : Nat) : 64 ∉ (numT n).cps.toList := fun hc => by have := numT_digits n 64 hc; omega
theorem back_cut (z : Str) (b : Int) : (z ++ ⟨#[64]⟩ ++ numT b.toNat).cps.toList = z.cps.toList ++ 64 :: (numT b.toNat).cps.toList := by
  rw [cat_list, cat_list]; simp
theorem in_fig (c : Nat) : decide (c ∈ (Str.ofString "0123456789").cps.toList) = decide (48 ≤ c ∧ c ≤ 57) := by
  by_cases h : 48 ≤ c ∧ c ≤ 57
  · rw [decide_eq_true h]
    have e : ∀ j, j < 10 → 48 + j ∈ (Str.ofString "0123456789").cps.toList := by decide +kernel
    have := e (c - 48) (by omega)
    rw [show 48 + (c - 48) = c by omega] at this
    exact decide_eq_true this
  · rw [decide_eq_false h]
    refine decide_eq_false fun hc => h ?_
    have e : ∀ x ∈ (Str.ofString "0123456789").cps.toList, 48 ≤ x ∧ x ≤ 57 := by decide +kernel
    exact e c hc
def spFig : Sp := fun vs H Q _ => (∃ n : Nat, vs = [.str (numT n)] ∧ NumOk n ∧ ∀ H2, Same H H2 → Q (.bl true) H2) ∨ (∃ (z : Str) (c : Nat) (l : List Nat), vs = [.str z] ∧ z.cps.toList = c :: l ∧ 57 < c ∧ z.length ≤ 61 ∧ ∀ H2, Same H H2 → Q (.bl false) H2)
theorem figs_num (n : Nat) : ((numT n).cps.toList.map fun c => decide (c ∈ (Str.ofString "0123456789").cps.toList)).all id = true := by
  rw [List.all_map, List.all_eq_true]
  intro c hc
  show decide (c ∈ (Str.ofString "0123456789").cps.toList) = true
  rw [in_fig]
  exact decide_eq_true (numT_digits n c hc)
theorem figs_hd {z : Str} {c : Nat} {l : List Nat} (hz : z.cps.toList = c :: l) (h : 57 < c) : (z.cps.toList.map fun c => decide (c ∈ (Str.ofString "0123456789").cps.toList)).all id = false := by
  rw [hz]
  show (decide (c ∈ (Str.ofString "0123456789").cps.toList) && _) = false
  rw [in_fig, decide_eq_false (by omega)]; rfl
theorem lo_hd {z : Str} (h1 : 1 ≤ z.length) (h : Lo z) : ∃ c l, z.cps.toList = c :: l ∧ 57 < c := by
  cases hz : z.cps.toList with
  | nil =>
    have : z.length = z.cps.toList.length := Array.length_toList.symm
    rw [hz] at this
    have h2 : z.length = 0 := this
    omega
  | cons c l => exact ⟨c, l, rfl, by have := h c (by rw [hz]; exact List.mem_cons_self ..); omega⟩
theorem first_at_num {n : Nat} (h : 0 < n) : ∃ c, atI (numT n).cps.toList 0 = some c ∧ c ≠ 48 := by
  obtain ⟨c, l, e, hc⟩ := numT_head h
  exact ⟨c, by show atI _ ((0 : Nat) : Int) = some c; exact atI_nat (by rw [e]; rfl), hc⟩
theorem d_fig (T : Txt K mg C CE) (Kb : K.In base) (G : base.Ns mainGlobals mg) : Df P w K mg base 1 "is_figures" ["part"] spFig := by
  refine T.f_figs.df Kb G sc_is_figures (fun _ _ _ _ _ _ us hl => match us, hl with | [_], _ => rfl) (by rintro vs H Q E (⟨n, rfl, _⟩ | ⟨z, c, l, rfl, _⟩) <;> rfl) (fun f cdv A outer s H vs Q E hr h => ?_)
  have lb := line_big
  rcases h with ⟨n, rfl, hn, q⟩ | ⟨z, c0, l0, rfl, hz, hc0, z61, q⟩
  · refine ⟨_, (pss_cons (ps_if (PW.pt (pw_or (pt_not (pt_chain op_le op_le pe_int (pe_callB call_lenS rfl T.nlen PySem.boot_len (pa_cons (pv 0) pa_nil (se rfl)) (he := se rfl) (hpl := nst rfl)) (pe_val T.v_MOST_FIGURES rfl))) (pw_or1 (pt_not (pt_val (pe_callB (call_all rfl) rfl T.nall PyProof.Rows.boot_all (pa_cons (pe_lc (Blk.of (caps := []) (ix := []) rfl) rfl (pi_str (pv 0)) (fun _ _ _ _ => pf_nil) (fun _ _ _ _ => (pe_cmpR op_inS (pv 0) (pe_val T.v_FIGURES rfl) (by with_unfolding_all rfl)))) pa_nil (se rfl)) (he := se rfl) (hpl := nst rfl))))))) (pss_one (ps_ret pe_bl)) pss_nil)
    (pss_one (ps_ret (pe_or (pe_cmpR op_eq (pv 0) pe_str (nomark _)) (pe_one (pe_cmpR op_ne (pe_ix ix_seq (pv 0) pe_int (fun _ _ => rfl)) pe_str (nomark _))))))), ?_⟩
    have l1 := numT_pos n
    have l2 := numT_len hn
    walk_at "rd"
    refine i_lenS (by omega) ?_
    walk_at "rd"
    refine i_iteDt (by omega) ?_
    walk_at "rd"
    rw [decide_eq_true (show ((numT n).length : Int) ≤ 61 by omega)]
    walk_at "rd"
    refine i_lc (i_strI ?_)
    walk_at "rd"
    refine lcS (numT n) (fun c => .bl (decide (c ∈ (Str.ofString "0123456789").cps.toList))) (by omega) (fun c H' R hc s r => ?_) (fun D H2 hN => ?_)
    · walk_at "rd"
      exact r
    have e : (numT n).cps.toList.map (fun c => V.bl (decide (c ∈ (Str.ofString "0123456789").cps.toList))) = List.map V.bl ((numT n).cps.toList.map fun c => decide (c ∈ (Str.ofString "0123456789").cps.toList)) := by rw [List.map_map]; rfl
    rw [e] at hN
    walk_at "rd"
    refine i_all hN.lst ?_
    rw [figs_num]
    walk_at "rd"
    by_cases h0 : n = 0
    · subst h0
      rw [decide_eq_true (show V.str (numT 0) = V.str (Str.ofString "0") by rw [numT_zero]; rfl)]
      walk_at "rd"
      exact q _ hN.same
    · obtain ⟨c, hc, hc48⟩ := first_at_num (n := n) (by omega)
      rw [decide_eq_false (show ¬ V.str (numT n) = V.str (Str.ofString "0") from fun e => by
        have e1 : numT n = Str.ofString "0" := V.str.inj e
        rw [e1] at hc
        have e2 : some 48 = some c := hc
        exact hc48 (Option.some.inj e2).symm)]
      walk_at "rd"
      refine i_ixS (c := c) (by omega) hc ?_
      walk_at "rd"
      rw [decide_eq_false (show ¬ V.str ⟨#[c]⟩ = V.str (Str.ofString "0") from fun e => by
        have e1 : (⟨#[c]⟩ : Str) = Str.ofString "0" := V.str.inj e
        have e2 := congrArg (fun y : Str => y.cps.toList) e1
        have e3 : [c] = [48] := e2
        simp at e3; exact hc48 e3)]
      exact q _ hN.same
  · refine ⟨_, (pss_cons (ps_if (PW.pt (pw_or (pt_not (pt_chain op_le op_le pe_int (pe_callB call_lenS rfl T.nlen PySem.boot_len (pa_cons (pv 0) pa_nil (se rfl)) (he := se rfl) (hpl := nst rfl)) (pe_val T.v_MOST_FIGURES rfl))) (pw_or1 (pt_not (pt_val (pe_callB (call_all rfl) rfl T.nall PyProof.Rows.boot_all (pa_cons (pe_lc (Blk.of (caps := []) (ix := []) rfl) rfl (pi_str (pv 0)) (fun _ _ _ _ => pf_nil) (fun _ _ _ _ => (pe_cmpR op_inS (pv 0) (pe_val T.v_FIGURES rfl) (by with_unfolding_all rfl)))) pa_nil (se rfl)) (he := se rfl) (hpl := nst rfl))))))) (pss_one (ps_ret pe_bl)) pss_nil)
    (pss_one (ps_ret (pe_or (pe_cmpR op_eq (pv 0) pe_str (nomark _)) (pe_one (pe_cmpR op_ne (pe_ix ix_seq (pv 0) pe_int (fun _ _ => rfl)) pe_str (nomark _))))))), ?_⟩
    have z1 : 1 ≤ z.length := by
      have e : z.length = z.cps.toList.length := Array.length_toList.symm
      rw [hz] at e
      have e2 : z.length = l0.length + 1 := e
      omega
    walk_at "rd"
    refine i_lenS (by omega) ?_
    walk_at "rd"
    refine i_iteDt (by omega) ?_
    walk_at "rd"
    rw [decide_eq_true (show (z.length : Int) ≤ 61 by omega)]
    walk_at "rd"
    refine i_lc (i_strI ?_)
    walk_at "rd"
    refine lcS z (fun c => .bl (decide (c ∈ (Str.ofString "0123456789").cps.toList))) (by omega) (fun c H' R hc s r => ?_) (fun D H2 hN => ?_)
    · walk_at "rd"
      exact r
    have e : z.cps.toList.map (fun c => V.bl (decide (c ∈ (Str.ofString "0123456789").cps.toList))) = List.map V.bl (z.cps.toList.map fun c => decide (c ∈ (Str.ofString "0123456789").cps.toList)) := by rw [List.map_map]; rfl
    rw [e] at hN
    walk_at "rd"
    refine i_all hN.lst ?_
    rw [figs_hd hz hc0]
    walk_at "rd"
    exact q _ hN.same
def spIsRead : Sp := fun vs H Q _ => ∃ rd : Rd, vs = [.str (rdT rd)] ∧ Rd1 rd ∧ ∀ H2, Same H H2 → Q (.bl true) H2
theorem rdT_b {z : Str} {b : Int} (h : 0 < b) : rdT (.back z b) = z ++ ⟨#[64]⟩ ++ numT b.toNat := if_pos h
theorem rdT_0 {z : Str} {b : Int} (h : ¬ 0 < b) : rdT (.back z b) = z := if_neg h
theorem d_isread (T : Txt K mg C CE) (Kb : K.In base) (G : base.Ns mainGlobals mg) : Df P w K mg base 2 "is_read" ["part"] spIsRead := by
  have Dis_lettered : Df P w K mg base 1 "is_lettered" ["text"] spIsLet := d_islet T Kb G
  have Dis_figures : Df P w K mg base 1 "is_figures" ["part"] spFig := d_fig T Kb G
  refine T.f_isread.df Kb G sc_is_read (fun _ _ _ _ _ _ us hl => match us, hl with | [_], _ => rfl) (by rintro vs H Q E ⟨rd, rfl, _⟩; rfl) (fun f cdv A outer s H vs Q E hr h => ?_)
  obtain ⟨rd, rfl, hrd, q⟩ := h
  have hv := (rd_vis hrd).1
  refine ⟨_, (pss_cons (ps_set (i := 1) sc_is_read.nd rfl (by first | exact Or.inl rfl | exact Or.inr rfl) (pe_bm PySem.F.plainAttrs_str PySem.F.slot_str_partition PySem.F.type_str_partition mt_part (pv 0) (pa_cons pe_str pa_nil (se rfl)) (hs := se rfl) (hplain := nst rfl)))
    (pss_cons (ps_if (pt_cmpR op_eq (pe_ix ix_seq (pv 1) pe_int (fun _ _ => rfl)) pe_str (nomark _)) (pss_one (ps_ret (pe_or (pe_callD Dis_figures (hr.mono (by decide)) rfl (pa_cons (pv 0) pa_nil (se rfl)) (he := se rfl) (hpl := nst rfl)) (pe_one (pe_callD Dis_lettered (hr.mono (by decide)) rfl (pa_cons (pv 0) pa_nil (se rfl)) (he := se rfl) (hpl := nst rfl)))))) pss_nil)
    (pss_one (ps_ret (pe_and (pe_callD Dis_lettered (hr.mono (by decide)) rfl (pa_cons (pe_ix ix_seq (pv 1) pe_int (fun _ _ => rfl)) pa_nil (se rfl)) (he := se rfl) (hpl := nst rfl)) (pe_and (pe_callD Dis_figures (hr.mono (by decide)) rfl (pa_cons (pe_ix ix_seq (pv 1) pe_int (fun _ _ => rfl)) pa_nil (se rfl)) (he := se rfl) (hpl := nst rfl)) (pe_one (pe_cmpR op_ne (pe_ix ix_seq (pv 1) pe_int (fun _ _ => rfl)) pe_str (nomark _))))))))), ?_⟩
  walk_at "rd"
  refine ⟨rfl, ?_⟩
  walk_at "rd"
  rw [atc]
  by_cases hb : ∃ z b, rd = .back z b ∧ 0 < b
  · obtain ⟨z, b, rfl, hb⟩ := hb
    obtain ⟨h1, h2, h3, h4, h5⟩ := hrd
    have nk := small h5
    rw [rdT_b hb] at hv ⊢
    refine i_partY (by omega) (back_cut z b) (at_no h3) fun D H1 hN1 => ?_
    walk_at "rd"
    refine i_ixT (.inl (.inl hN1.at)) (show atI _ 1 = some (.str ⟨#[64]⟩) from rfl) ?_
    walk_at "rd"
    rw [decide_eq_false (show ¬ V.str ⟨#[64]⟩ = V.str (Str.ofString "") from fun e => absurd (V.str.inj e) (by decide +kernel))]
    walk_at "rd"
    refine i_ixT (.inl (.inl hN1.at)) (show atI _ 0 = some (.str z) from rfl) ?_
    walk_at "rd"
    refine ⟨z, rfl, h1, h2, h3, fun H2 s2 => ?_⟩
    walk_at "rd"
    refine i_ixT (.inl (.inl (s2 _ _ hN1.at))) (show atI _ 2 = some (.str (numT b.toNat)) from rfl) ?_
    walk_at "rd"
    refine .inl ⟨b.toNat, rfl, nk, fun H3 s3 => ?_⟩
    walk_at "rd"
    refine i_ixT (.inl (.inl (s3 _ _ (s2 _ _ hN1.at)))) (show atI _ 2 = some (.str (numT b.toNat)) from rfl) ?_
    walk_at "rd"
    rw [decide_eq_false (show ¬ V.str (numT b.toNat) = V.str (Str.ofString "0") from fun e => by
      have e1 : numT b.toNat = numT 0 := (V.str.inj e).trans (by rw [numT_zero]; rfl)
      have := numT_inj nk (small (i := 0) (by omega)) e1
      omega)]
    exact q _ ((hN1.same.trans s2).trans s3)
  · have hno : 64 ∉ (rdT rd).cps.toList := by
      cases rd with
      | num i => exact num_no _
      | back z b => rw [rdT_0 (fun h => hb ⟨z, b, rfl, h⟩)]; exact at_no hrd.2.2.1
    refine i_partN (by omega) hno fun D H1 hN1 => ?_
    walk_at "rd"
    refine i_ixT (.inl (.inl hN1.at)) (show atI _ 1 = some (.str Str.empty) from rfl) ?_
    walk_at "rd"
    rw [decide_eq_true (show V.str Str.empty = V.str (Str.ofString "") by decide +kernel)]
    walk_at "rd"
    cases rd with
    | num i =>
      refine .inl ⟨i.toNat, rfl, numOk_of (by have := hrd.2; omega), fun H2 s2 => ?_⟩
      walk_at "rd"
      exact q _ (hN1.same.trans s2)
    | back z b =>
      obtain ⟨h1, h2, h3, h4, h5⟩ := hrd
      rw [rdT_0 (fun h => hb ⟨z, b, rfl, h⟩)]
      obtain ⟨c, l, hz, hc⟩ := lo_hd h1 h3
      refine .inr ⟨z, c, l, rfl, hz, hc, by omega, fun H2 s2 => ?_⟩
      walk_at "rd"
      exact ⟨z, rfl, h1, h2, h3, fun H3 s3 => q _ ((hN1.same.trans s2).trans s3)⟩
def spReadOf : Sp := fun vs H Q _ => ∃ rd : Rd, vs = [.str (rdT rd)] ∧ Rd1 rd ∧ ∀ v H2, Same H H2 → RdAt H2 rd v → Q v H2
theorem d_readof (T : Txt K mg C CE) (Kb : K.In base) (G : base.Ns mainGlobals mg) : Df P w K mg base 2 "read_of" ["part"] spReadOf := by
  have Dis_figures : Df P w K mg base 1 "is_figures" ["part"] spFig := d_fig T Kb G
  refine T.f_readof.df Kb G sc_read_of (fun _ _ _ _ _ _ us hl => match us, hl with | [_], _ => rfl) (by rintro vs H Q E ⟨rd, rfl, _⟩; rfl) (fun f cdv A outer s H vs Q E hr h => ?_)
  obtain ⟨rd, rfl, hrd, q⟩ := h
  have hv := (rd_vis hrd).1
  refine ⟨_, (pss_cons (ps_if (pt_val (pe_callD Dis_figures (hr.mono (by decide)) rfl (pa_cons (pv 0) pa_nil (se rfl)) (he := se rfl) (hpl := nst rfl))) (pss_one (ps_ret (pe_callTy call_intT rfl T.nint PyProof.Rows.boot_int (pa_cons (pv 0) pa_nil (se rfl)) (he := se rfl) (hpl := nst rfl)))) pss_nil)
    (pss_cons (ps_set (i := 1) sc_read_of.nd rfl (by first | exact Or.inl rfl | exact Or.inr rfl) (pe_bm PySem.F.plainAttrs_str PySem.F.slot_str_partition PySem.F.type_str_partition mt_part (pv 0) (pa_cons pe_str pa_nil (se rfl)) (hs := se rfl) (hplain := nst rfl)))
    (pss_one (ps_ret (pe_tupA (pa_cons (pe_ix ix_seq (pv 1) pe_int (fun _ _ => rfl)) (pa_cons (pe_ifExp (pt_cmpR op_eq (pe_ix ix_seq (pv 1) pe_int (fun _ _ => rfl)) pe_str (nomark _)) (pe_callTy call_intT rfl T.nint PyProof.Rows.boot_int (pa_cons (pe_ix ix_seq (pv 1) pe_int (fun _ _ => rfl)) pa_nil (se rfl)) (he := se rfl) (hpl := nst rfl)) pe_int) pa_nil (se rfl)) (se rfl))))))), ?_⟩
  walk_at "rd"
  cases rd with
  | num i =>
    have nk : NumOk i.toNat := numOk_of (by have := hrd.2; omega)
    have h0 := hrd.1
    refine .inl ⟨i.toNat, rfl, nk, fun H1 s1 => ?_⟩
    walk_at "rd"
    refine i_intT (num_reads nk) (by have := numT_len nk; show (numT i.toNat).length ≤ 640; omega) ?_
    rw [Int.toNat_of_nonneg h0]
    exact q _ _ s1 rfl
  | back z b =>
    obtain ⟨h1, h2, h3, h4, h5⟩ := hrd
    by_cases hb : 0 < b
    · have nk := small h5
      obtain ⟨c, l, hz, hc⟩ := lo_hd h1 h3
      rw [rdT_b hb] at hv ⊢
      refine .inr ⟨_, c, l ++ 64 :: (numT b.toNat).cps.toList, rfl, by rw [back_cut, hz]; rfl, hc, hv, fun H1 s1 => ?_⟩
      walk_at "rd"
      refine ⟨rfl, ?_⟩
      walk_at "rd"
      rw [atc]
      refine i_partY (by omega) (back_cut z b) (at_no h3) fun D H2 hN2 => ?_
      walk_at "rd"
      refine i_ixT (.inl (.inl hN2.at)) (show atI _ 0 = some (.str z) from rfl) ?_
      walk_at "rd"
      refine i_ixT (.inl (.inl hN2.at)) (show atI _ 1 = some (.str ⟨#[64]⟩) from rfl) ?_
      walk_at "rd"
      rw [decide_eq_true (show V.str ⟨#[64]⟩ = V.str ⟨#[64]⟩ from rfl)]
      walk_at "rd"
      refine i_ixT (.inl (.inl hN2.at)) (show atI _ 2 = some (.str (numT b.toNat)) from rfl) ?_
      walk_at "rd"
      refine i_intT (num_reads nk) (by have := numT_len nk; omega) ?_
      walk_at "rd"
      rw [Int.toNat_of_nonneg h4]
      refine ⟨by show 2 ≤ sizeLine; decide, fun t H3 hN3 => ?_⟩
      exact q _ _ ((s1.trans hN2.same).trans hN3.same) ⟨t, rfl, hN3.at⟩
    · rw [rdT_0 hb] at hv ⊢
      have b0 : b = 0 := by omega
      obtain ⟨c, l, hz, hc⟩ := lo_hd h1 h3
      refine .inr ⟨z, c, l, rfl, hz, hc, by omega, fun H1 s1 => ?_⟩
      walk_at "rd"
      refine ⟨rfl, ?_⟩
      walk_at "rd"
      rw [atc]
      refine i_partN (by omega) (at_no h3) fun D H2 hN2 => ?_
      walk_at "rd"
      refine i_ixT (.inl (.inl hN2.at)) (show atI _ 0 = some (.str z) from rfl) ?_
      walk_at "rd"
      refine i_ixT (.inl (.inl hN2.at)) (show atI _ 1 = some (.str Str.empty) from rfl) ?_
      walk_at "rd"
      rw [decide_eq_false (show ¬ V.str Str.empty = V.str ⟨#[64]⟩ from fun e => absurd (V.str.inj e) (by decide +kernel))]
      walk_at "rd"
      refine ⟨by show 2 ≤ sizeLine; decide, fun t H3 hN3 => ?_⟩
      exact q _ _ ((s1.trans hN2.same).trans hN3.same) ⟨t, rfl, by rw [b0]; exact hN3.at⟩
def spReadS : Sp := fun vs H Q _ => ∃ (rd : Rd) (v : V), vs = [v] ∧ RdAt H rd v ∧ Rd1 rd ∧ Q (.str (rdT rd)) H
theorem d_rshown (T : Txt K mg C CE) (Kb : K.In base) (G : base.Ns mainGlobals mg) : Df P w K mg base 1 "read_shown" ["read"] spReadS := by
  refine T.f_rshown.df Kb G sc_read_shown (fun _ _ _ _ _ _ us hl => match us, hl with | [_], _ => rfl) (by rintro vs H Q E ⟨rd, v, rfl, _⟩; rfl) (fun f cdv A outer s H vs Q E hr h => ?_)
  obtain ⟨rd, v, rfl, hv, hrd, q⟩ := h
  refine ⟨_, (pss_cons (ps_if (pt_val (pe_callB call_isi rfl T.nisi PyProof.Rows.boot_isinstance (pa_cons (pv 0) (pa_cons (pe_bltn (v := .ty "int") rfl T.nint PyProof.Rows.boot_int rfl) pa_nil (se rfl)) (se rfl)) (he := se rfl) (hpl := nst rfl))) (pss_one (ps_ret (pe_callTy call_strI rfl T.nstr PyProof.Rows.boot_str (pa_cons (pv 0) pa_nil (se rfl)) (he := se rfl) (hpl := nst rfl)))) pss_nil)
    (pss_cons (ps_set (i := 1) sc_read_shown.nd rfl (by first | exact Or.inl rfl | exact Or.inr rfl) (pe_ix ix_seq (pv 0) pe_int (fun _ _ => rfl)))
    (pss_cons (ps_set (i := 2) sc_read_shown.nd rfl (by first | exact Or.inl rfl | exact Or.inr rfl) (pe_ix ix_seq (pv 0) pe_int (fun _ _ => rfl)))
    (pss_one (ps_ret (pe_ifExp (pt_cmpR op_gt (pv 2) pe_int (nomark _)) (pe_fstrX (pjx_plain (pv 1) (pjx_str (by decide) (pjx_plain (pv 2) pjx_nil)))) (pv 1))))))), ?_⟩
  cases rd with
  | num i =>
    have e : v = .int i := hv
    subst e
    have h0 := hrd.1
    have nk : NumOk i.toNat := numOk_of (by have := hrd.2; omega)
    walk_at "rd"
    refine i_isiI T.kII ?_
    walk_at "rd"
    exact ⟨i.toNat, by rw [Int.toNat_of_nonneg h0], nk, q⟩
  | back z b =>
    obtain ⟨a, rfl, ha⟩ := hv
    obtain ⟨h1, h2, h3, h4, h5⟩ := hrd
    walk_at "rd"
    refine i_isiT ha T.kTI ?_
    walk_at "rd"
    refine i_ixT (.inl (.inl ha)) (show atI _ 0 = some (.str z) from rfl) ?_
    walk_at "rd"
    refine i_ixT (.inl (.inl ha)) (show atI _ 1 = some (.int b) from rfl) ?_
    walk_at "rd"
    by_cases hb : 0 < b
    · rw [decide_eq_true (show b > 0 from hb)]
      walk_at "rd"
      refine i_fmtX (i_jxPlain ?_)
      walk_at "rd"
      refine .inl ⟨z, rfl, by omega, ?_⟩
      refine i_jxStr (i_jxPlain ?_)
      walk_at "rd"
      refine .inr ⟨b.toNat, by rw [Int.toNat_of_nonneg h4], small h5, ?_⟩
      refine i_jxNil ?_
      rw [atc, show Str.empty ++ z ++ ⟨#[64]⟩ ++ numT b.toNat = rdT (.back z b) by
        rw [rdT_b hb]
        apply str_of_list
        simp only [cat_list, show Str.empty.cps.toList = [] from rfl, List.nil_append]]
      exact q
    · rw [decide_eq_false (show ¬ b > 0 from hb)]
      walk_at "rd"
      rw [rdT_0 hb] at q
      exact q
def spLines : Sp := fun vs H Q _ => ∃ (m : Int) (rs : List Row), vs = [.str (textT m rs)] ∧ TxtOk m rs ∧ ∀ D ys H2, Same H H2 → H D = none → H2 D = some (.lst ys) → LinesAt H2 (linesT m rs) ys → Q (.ref D) H2
theorem d_lines (T : Txt K mg C CE) (Kb : K.In base) (G : base.Ns mainGlobals mg) : Df P w K mg base 1 "lines_of" ["text"] spLines := by
  refine T.f_lines.df Kb G sc_lines_of (fun _ _ _ _ _ _ us hl => match us, hl with | [_], _ => rfl) (by rintro vs H Q E ⟨m, rs, rfl, _⟩; rfl) (fun f cdv A outer s H vs Q E hr h => ?_)
  obtain ⟨m, rs, rfl, hok, q⟩ := h
  refine ⟨_, (pss_one (ps_ret (pe_lc (Blk.of (caps := []) (ix := []) rfl) rfl (pi_list (pe_bm PySem.F.plainAttrs_str PySem.F.slot_str_split PySem.F.type_str_split mt_split (pv 0) (pa_cons pe_str pa_nil (se rfl)) (hs := se rfl) (hplain := nst rfl))) (fun _ _ _ _ => pf_nil) (fun _ _ _ _ => (pe_bmK (K := K) rfl PySem.F.plainAttrs_str PySem.F.slot_str_split PySem.F.type_str_split (mt_splitK (K := K) rfl) (pv 0) (pa_cons pe_str pa_nil (se rfl)) (hs := se rfl) (hplain := nst rfl)))))), ?_⟩
  have lb := line_big
  have ll := lines_length m rs
  have l12 := hok.len
  walk_at "rd"
  refine i_lc (i_list ?_)
  walk_at "rd"
  refine ⟨rfl, ?_⟩
  walk_at "rd"
  refine i_split (by decide +kernel) hok.tlen fun tp H1 hN1 => ?_
  rw [nlc, hok.split] at hN1
  refine lcNL (((linesT m rs).map lineT).map V.str) (fun D i y H' => ∃ l b, (linesT m rs)[i]? = some l ∧ y = .ref b ∧ b ≠ D ∧ H' b = some (.lst (List.map V.str l))) hN1.lst (by rw [List.length_map, List.length_map]; omega) (fun D i y H' H'' s' hh => ?_) (fun D i v H' R hv hD hy s' r => ?_) (fun D ys H2 hD s2 hHD hyl hP => ?_)
  · obtain ⟨l, b, e1, e2, e3, e4⟩ := hh
    exact ⟨l, b, e1, e2, e3, s' b _ e3 e4⟩
  · have hi : i < (linesT m rs).length := by
      have := (List.getElem?_eq_some_iff.mp hv).1
      rwa [List.length_map, List.length_map] at this
    have hli := List.getElem?_eq_getElem hi
    have lok := hok.lines _ (List.getElem_mem hi)
    rw [List.getElem?_map, List.getElem?_map, hli] at hv
    generalize (linesT m rs)[i] = l at *
    have ev : v = .str (lineT l) := (Option.some.inj hv).symm
    subst ev
    have l310 := lok.long
    obtain ⟨yy, hyy⟩ := hy
    walk_at "rd"
    refine ⟨rfl, ?_⟩
    walk_at "rd"
    refine i_split (by decide +kernel) (by omega) fun b H3 hN3 => ?_
    rw [spc, lok.split] at hN3
    exact r _ _ hN3.same ⟨l, b, hli, rfl, (ne_of_none hyy hN3.free).symm, hN3.at⟩
  · rw [List.length_map, List.length_map] at hyl
    refine q D ys H2 (hN1.same.trans s2) (by
      by_cases h : H D = none
      · exact h
      · obtain ⟨u, hu⟩ := Option.ne_none_iff_exists'.mp h
        rw [hN1.same _ _ hu] at hD; cases hD) hHD ⟨hyl.symm, fun i l u e1 e2 => ?_⟩
    obtain ⟨l', b, e3, e4, _, e5⟩ := hP i u e2
    rw [e3] at e1; cases e1
    exact ⟨b, e4, e5⟩
def spMLine : Sp := fun vs H Q _ => ∃ (b : Addr) (m : Int), vs = [.ref b] ∧ H b = some (.lst (List.map V.str (measL m))) ∧ m ≤ 10 ^ 60 ∧ ∀ H2, Same H H2 → Q (.bl true) H2
theorem d_mline (T : Txt K mg C CE) (Kb : K.In base) (G : base.Ns mainGlobals mg) : Df P w K mg base 2 "is_measure_line" ["parts"] spMLine := by
  have Dis_figures : Df P w K mg base 1 "is_figures" ["part"] spFig := d_fig T Kb G
  refine T.f_mline.df Kb G sc_is_measure_line (fun _ _ _ _ _ _ us hl => match us, hl with | [_], _ => rfl) (by rintro vs H Q E ⟨b, m, rfl, _⟩; rfl) (fun f cdv A outer s H vs Q E hr h => ?_)
  obtain ⟨b, m, rfl, hb, hm, q⟩ := h
  refine ⟨_, (pss_one (ps_ret (pe_and (pe_cmpR op_eq (pe_callB call_len_seq rfl T.nlen PySem.boot_len (pa_cons (pv 0) pa_nil (se rfl)) (he := se rfl) (hpl := nst rfl)) pe_int (nomark _)) (pe_and (pe_cmpR op_eq (pe_ix ix_seq (pv 0) pe_int (fun _ _ => rfl)) pe_str (nomark _)) (pe_one (pe_callD Dis_figures (hr.mono (by decide)) rfl (pa_cons (pe_ix ix_seq (pv 0) pe_int (fun _ _ => rfl)) pa_nil (se rfl)) (he := se rfl) (hpl := nst rfl))))))), ?_⟩
  walk_at "rd"
  refine ⟨_, _, rfl, .inl (sqL_inj_of hb), ?_⟩
  walk_at "rd"
  rw [decide_eq_true (show V.int (((List.map V.str (measL m)).length : Nat) : Int) = V.int 2 from rfl)]
  walk_at "rd"
  refine i_ixL (sqL_inj_of hb) (show atI _ 0 = some (.str (Str.ofString "measure")) from rfl) ?_
  walk_at "rd"
  rw [decide_eq_true (show V.str (Str.ofString "measure") = V.str (Str.ofString "measure") from rfl)]
  walk_at "rd"
  refine i_ixL (sqL_inj_of hb) (show atI _ 1 = some (.str (numT m.toNat)) from rfl) ?_
  walk_at "rd"
  exact .inl ⟨m.toNat, rfl, numOk_of hm, q⟩
theorem row_len (r : Row) : (List.map V.str (rowL r)).length = r.reads.length + 3 := by
  unfold rowL
  rw [List.length_map, List.length_append, List.length_map]
  show 3 + r.reads.length = _
  omega
theorem row_cut (r : Row) : cutV (List.map V.str (rowL r)) (some 3) none = List.map V.str (r.reads.map rdT) := by
  show cutV _ (some ((3 : Nat) : Int)) none = _
  rw [cutV_drop]; rfl
theorem row_at (r : Row) (k : Nat) {z : Str} (h : (rowL r)[k]? = some z) : atI (List.map V.str (rowL r)) (k : Int) = some (.str z) := atI_nat (by rw [List.getElem?_map, h]; rfl)
def spRowOf : Sp := fun vs H Q _ => ∃ (b : Addr) (r : Row), vs = [.ref b] ∧ H b = some (.lst (List.map V.str (rowL r))) ∧ Row1 r ∧ ∀ v H2, Same H H2 → RowAt H2 r v → Q v H2
theorem d_rowof (T : Txt K mg C CE) (Kb : K.In base) (G : base.Ns mainGlobals mg) : Df P w K mg base 3 "row_of" ["parts"] spRowOf := by
  have Dread_of : Df P w K mg base 2 "read_of" ["part"] spReadOf := d_readof T Kb G
  refine T.f_rowof.df Kb G sc_row_of (fun _ _ _ _ _ _ us hl => match us, hl with | [_], _ => rfl) (by rintro vs H Q E ⟨b, r, rfl, _⟩; rfl) (fun f cdv A outer s H vs Q E hr h => ?_)
  obtain ⟨b, r, rfl, hb, h1, q⟩ := h
  refine ⟨_, (pss_one (ps_ret (pe_tupA (pa_cons (pe_ix ix_seq (pv 0) pe_int (fun _ _ => rfl)) (pa_cons (pe_ix ix_seq (pv 0) pe_int (fun _ _ => rfl)) (pa_cons (pe_callTy call_tupleA rfl T.ntuple PyProof.Rows.boot_tuple (pa_cons (pe_lc (Blk.of (caps := []) (ix := []) rfl) rfl (pi_list (pe_slice sl_listA (pv 0) (po_some pe_int) po_none)) (fun _ _ _ _ => pf_nil) (fun _ _ _ _ => (pe_callD Dread_of (hr.mono (by decide)) rfl (pa_cons (pv 0) pa_nil (se rfl)) (he := se rfl) (hpl := nst rfl)))) pa_nil (se rfl)) (he := se rfl) (hpl := nst rfl)) pa_nil (se rfl)) (se rfl)) (se rfl))))), ?_⟩
  have lb := line_big
  have hm := h1.many
  walk_at "rd"
  refine i_ixL (sqL_inj_of hb) (row_at r 0 rfl) ?_
  walk_at "rd"
  refine i_ixL (sqL_inj_of hb) (row_at r 2 rfl) ?_
  walk_at "rd"
  refine i_lc (i_list ?_)
  walk_at "rd"
  refine i_slLA (sqL_inj_of hb) fun sp H1 hN1 => ?_
  rw [row_cut] at hN1
  refine lcNL (List.map V.str (r.reads.map rdT)) (fun D i y H' => ∃ rd, r.reads[i]? = some rd ∧ RdAt (hide D H') rd y) hN1.lst (by rw [List.length_map, List.length_map]; omega) (fun D i y H' H'' s' hh => ?_) (fun D i v H' R hv hD hy s' rr => ?_) (fun D ys H2 hD s2 hHD hyl hP => ?_)
  · obtain ⟨rd, e1, e2⟩ := hh
    exact ⟨rd, e1, e2.same (hide_sameB s')⟩
  · have hi : i < r.reads.length := by
      have := (List.getElem?_eq_some_iff.mp hv).1
      rwa [List.length_map, List.length_map] at this
    have hri := List.getElem?_eq_getElem hi
    have hrd := h1.reads _ (List.getElem_mem hi)
    rw [List.getElem?_map, List.getElem?_map, hri] at hv
    generalize r.reads[i] = rd at *
    have ev : v = .str (rdT rd) := (Option.some.inj hv).symm
    subst ev
    obtain ⟨yy, hyy⟩ := hy
    walk_at "rd"
    exact ⟨rd, rfl, hrd, fun v H3 s3 hat => rr _ _ s3 ⟨rd, hri, hat.hide (s3 _ _ hyy)⟩⟩
  rw [List.length_map, List.length_map] at hyl
  walk_at "rd"
  refine i_tupleAL (sqL_inj_of hHD) fun p3 H3 hN3 => ?_
  walk_at "rd"
  refine ⟨by show 3 ≤ sizeLine; decide, fun p4 H4 hN4 => ?_⟩
  have s4 := hN3.same.trans hN4.same
  refine q _ _ ((hN1.same.trans s2).trans s4) ⟨p3, p4, ys, rfl, hN4.at, hN4.same _ _ hN3.at, ⟨hyl.symm, fun i rd v e1 e2 => ?_⟩⟩
  obtain ⟨rd', e3, e4⟩ := hP i v e2
  rw [e3] at e1; cases e1
  exact (e4.same (hide_same D H2)).same s4
def spRLine : Sp := fun vs H Q _ => ∃ (b : Addr) (r : Row), vs = [.ref b] ∧ H b = some (.lst (List.map V.str (rowL r))) ∧ Row1 r ∧ ∀ H2, Same H H2 → Q (.bl true) H2
theorem all_true : ∀ {ys : List V}, (∀ (i : Nat) (y : V), ys[i]? = some y → y = V.bl true) → ys = List.map V.bl (ys.map fun _ => true)
  | [], _ => rfl
  | y :: ys, h => by
    have e := h 0 y rfl
    have ih := all_true (ys := ys) fun i z hz => h (i + 1) z hz
    show y :: ys = V.bl true :: List.map V.bl (ys.map fun _ => true)
    rw [e, ← ih]
theorem all_ids (ys : List V) : (ys.map fun _ => true).all id = true := by
  rw [List.all_map, List.all_eq_true]; intro _ _; rfl
theorem d_rline (T : Txt K mg C CE) (Kb : K.In base) (G : base.Ns mainGlobals mg) : Df P w K mg base 3 "is_row_line" ["parts"] spRLine := by
  have Dis_lettered : Df P w K mg base 1 "is_lettered" ["text"] spIsLet := d_islet T Kb G
  have Dis_read : Df P w K mg base 2 "is_read" ["part"] spIsRead := d_isread T Kb G
  refine T.f_rline.df Kb G sc_is_row_line (fun _ _ _ _ _ _ us hl => match us, hl with | [_], _ => rfl) (by rintro vs H Q E ⟨b, r, rfl, _⟩; rfl) (fun f cdv A outer s H vs Q E hr h => ?_)
  obtain ⟨b, r, rfl, hb, h1, q⟩ := h
  refine ⟨_, (pss_cons (ps_if (PW.pt (pw_or (pt_cmpR op_lt (pe_callB call_len_seq rfl T.nlen PySem.boot_len (pa_cons (pv 0) pa_nil (se rfl)) (he := se rfl) (hpl := nst rfl)) pe_int (nomark _)) (pw_or1 (pt_cmpR op_ne (pe_ix ix_seq (pv 0) pe_int (fun _ _ => rfl)) pe_str (nomark _))))) (pss_one (ps_ret pe_bl)) pss_nil)
    (pss_one (ps_ret (pe_and (pe_callD Dis_lettered (hr.mono (by decide)) rfl (pa_cons (pe_ix ix_seq (pv 0) pe_int (fun _ _ => rfl)) pa_nil (se rfl)) (he := se rfl) (hpl := nst rfl)) (pe_and (pe_callD Dis_lettered (hr.mono (by decide)) rfl (pa_cons (pe_ix ix_seq (pv 0) pe_int (fun _ _ => rfl)) pa_nil (se rfl)) (he := se rfl) (hpl := nst rfl)) (pe_one (pe_callB (call_all rfl) rfl T.nall PyProof.Rows.boot_all (pa_cons (pe_lc (Blk.of (caps := []) (ix := []) rfl) rfl (pi_list (pe_slice sl_listA (pv 0) (po_some pe_int) po_none)) (fun _ _ _ _ => pf_nil) (fun _ _ _ _ => (pe_callD Dis_read (hr.mono (by decide)) rfl (pa_cons (pv 0) pa_nil (se rfl)) (he := se rfl) (hpl := nst rfl)))) pa_nil (se rfl)) (he := se rfl) (hpl := nst rfl)))))))), ?_⟩
  have lb := line_big
  have hm := h1.many
  have hw := lo_word r.d
  walk_at "rd"
  refine ⟨_, _, rfl, .inl (sqL_inj_of hb), ?_⟩
  rw [row_len]
  walk_at "rd"
  rw [decide_eq_false (show ¬ (((r.reads.length + 3 : Nat) : Int) < 3) by omega)]
  walk_at "rd"
  refine i_ixL (sqL_inj_of hb) (row_at r 1 rfl) ?_
  walk_at "rd"
  rw [decide_eq_true (show V.str (Str.ofString "=") = V.str (Str.ofString "=") from rfl)]
  walk_at "rd"
  refine i_ixL (sqL_inj_of hb) (row_at r 0 rfl) ?_
  walk_at "rd"
  refine ⟨r.name, rfl, h1.n1, h1.n12, h1.lo, fun H1 s1 => ?_⟩
  walk_at "rd"
  refine i_ixL (sqL_inj_of (s1 _ _ hb)) (row_at r 2 rfl) ?_
  walk_at "rd"
  refine ⟨r.d.word, rfl, hw.1, hw.2.1, hw.2.2, fun H2 s2 => ?_⟩
  walk_at "rd"
  have s12 := s1.trans s2
  refine i_lc (i_list ?_)
  walk_at "rd"
  refine i_slLA (sqL_inj_of (s12 _ _ hb)) fun sp H3 hN3 => ?_
  rw [row_cut] at hN3
  refine lcNL (List.map V.str (r.reads.map rdT)) (fun D i y H' => y = .bl true) hN3.lst (by rw [List.length_map, List.length_map]; omega) (fun D i y H' H'' _ h => h) (fun D i v H' R hv hD hy s' rr => ?_) (fun D ys H4 hD s4 hHD hyl hP => ?_)
  · have hi : i < r.reads.length := by
      have := (List.getElem?_eq_some_iff.mp hv).1
      rwa [List.length_map, List.length_map] at this
    have hri := List.getElem?_eq_getElem hi
    have hrd := h1.reads _ (List.getElem_mem hi)
    rw [List.getElem?_map, List.getElem?_map, hri] at hv
    generalize r.reads[i] = rd at *
    have ev : v = .str (rdT rd) := (Option.some.inj hv).symm
    subst ev
    walk_at "rd"
    exact ⟨rd, rfl, hrd, fun H5 s5 => rr _ _ s5 rfl⟩
  rw [all_true hP] at hHD
  walk_at "rd"
  refine i_all (sqL_inj_of hHD) ?_
  rw [all_ids]
  exact q _ ((s12.trans hN3.same).trans s4)
def spCLines : Sp := fun vs H Q _ => ∃ (D : Addr) (ys : List V) (m : Int) (rs : List Row), vs = [.ref D] ∧ H D = some (.lst ys) ∧ LinesAt H (linesT m rs) ys ∧ TxtOk m rs ∧ ∀ H2, Same H H2 → Q .non H2
theorem line_row {m : Int} {rs : List Row} {i : Nat} (h : i < rs.length) : (linesT m rs)[i + 1]? = some (rowL rs[i]) := by
  unfold linesT
  rw [List.getElem?_cons_succ, List.getElem?_map, List.getElem?_eq_getElem h]; rfl
theorem cut_one (ys : List V) : cutV ys (some 1) none = ys.drop 1 := by
  show cutV ys (some ((1 : Nat) : Int)) none = _
  exact cutV_drop ys 1
theorem d_clines (T : Txt K mg C CE) (Kb : K.In base) (G : base.Ns mainGlobals mg) : Df P w K mg base 4 "check_loop_lines" ["lines"] spCLines := by
  have Dis_measure_line : Df P w K mg base 2 "is_measure_line" ["parts"] spMLine := d_mline T Kb G
  have Dis_row_line : Df P w K mg base 3 "is_row_line" ["parts"] spRLine := d_rline T Kb G
  refine T.f_clines.df Kb G sc_check_loop_lines (fun _ _ _ _ _ _ us hl => match us, hl with | [_], _ => rfl) (by rintro vs H Q E ⟨D, ys, m, rs, rfl, _⟩; rfl) (fun f cdv A outer s H vs Q E hr h => ?_)
  obtain ⟨D, ys, m, rs, rfl, hD, hys, hok, q⟩ := h
  refine ⟨_, (pss_cons (ps_if (pt_not (pt_val (pe_callD Dis_measure_line (hr.mono (by decide)) rfl (pa_cons (pe_ix ix_seq (pv 0) pe_int (fun _ _ => rfl)) pa_nil (se rfl)) (he := se rfl) (hpl := nst rfl)))) (pss_one ps_never) pss_nil)
    (pss_one (ps_for PassesOwn.never rfl (pi_enum1 rfl T.nenumerate (pa_cons (pe_slice sl_listA (pv 0) (po_some pe_int) po_none) pa_nil (se rfl))) (pg_tup rfl (pgs_cons (pg_name (i := 1) sc_check_loop_lines.nd rfl (Or.inl rfl)) (pgs_cons (pg_name (i := 2) sc_check_loop_lines.nd rfl (Or.inl rfl)) pgs_nil)))
      (pss_one (ps_if (pt_not (pt_val (pe_callD Dis_row_line (hr.mono (by decide)) rfl (pa_cons (pv 2) pa_nil (se rfl)) (he := se rfl) (hpl := nst rfl)))) (pss_one ps_never) pss_nil))))), ?_⟩
  have l1 := hys.len
  rw [lines_length] at l1
  have hy0 := List.getElem?_eq_getElem (show 0 < ys.length by omega)
  obtain ⟨b0, eb0, hb0⟩ := hys.at_ 0 (measL m) ys[0] rfl hy0
  walk_at "rd"
  refine i_ixL (sqL_inj_of hD) (show atI ys ((0 : Nat) : Int) = some (.ref b0) from atI_nat (by rw [hy0, eb0])) ?_
  walk_at "rd"
  refine ⟨b0, m, rfl, hb0, hok.mb, fun H1 s1 => ?_⟩
  walk_at "rd"
  dsimp only
  refine i_for (i_enum1 ?_)
  walk_at "rd"
  refine i_slLA (sqL_inj_of (s1 _ _ hD)) fun sp H2 hN2 => ?_
  rw [cut_one] at hN2
  have s2 := s1.trans hN2.same
  refine ⟨sp, rfl, ⟨_, hN2.lst⟩, ?_⟩
  refine for_enum1 (xs := ys.drop 1) (fun i σ H' => Same H2 H' ∧ ∃ x1 x2, σ = [some (.ref D), x1, x2]) ⟨Same.refl _, none, none, rfl⟩ (fun i σ H' _ h => sqL_inj_of (h.1 _ _ hN2.at)) ?_ ?_
  · rintro i u t σ H3 H4 hui ⟨s3, x1, x2, rfl⟩ hN4
    have s4 := (s2.trans s3).trans hN4.same
    have hir : i < rs.length := by
      have := (List.getElem?_eq_some_iff.mp hui).1
      rw [List.length_drop] at this; omega
    have hui' : ys[i + 1]? = some u := by rw [List.getElem?_drop, Nat.add_comm] at hui; exact hui
    obtain ⟨b, rfl, hb⟩ := (hys.at_ (i + 1) _ u (line_row hir) hui').same s4
    have r1 := hok.one _ (List.getElem_mem hir)
    refine i_gtup hN4.tup rfl ?_
    walk_at "rd"
    refine ⟨b, _, rfl, hb, r1, fun H5 s5 => ?_⟩
    walk_at "rd"
    exact ⟨(s3.trans hN4.same).trans s5, _, _, rfl⟩
  · rintro σ H' ⟨s', x1, x2, rfl⟩
    walk_at "rd"
    exact q _ (s2.trans s')
def spLRead (CL : Addr) : Sp := fun vs H Q _ => ∃ (m : Int) (zs : List Str) (rs : List Row), vs = [.str (textT m rs)] ∧ TxtOk m rs ∧ RowsOk zs rs ∧ ∀ x k H2, Same H H2 → LoopAt CL H2 x k m rs → Q (.ref x) H2
theorem d_lread (T : Txt K mg C CE) (Kb : K.In base) (G : base.Ns mainGlobals mg) : Df P w K mg base 7 "loop_read" ["text"] (spLRead (CE .Loop)) := by
  have Dlines_of : Df P w K mg base 1 "lines_of" ["text"] spLines := d_lines T Kb G
  have Dcheck_loop_lines : Df P w K mg base 4 "check_loop_lines" ["lines"] spCLines := d_clines T Kb G
  have Drow_of : Df P w K mg base 3 "row_of" ["parts"] spRowOf := d_rowof T Kb G
  have MLoop : MkI P w K mg base 5 (CE .Loop) ["self", "measure", "rows"] (spInitL (CE .Loop)) := mk_loop T Kb G
  refine T.f_lread.df Kb G sc_loop_read (fun _ _ _ _ _ _ us hl => match us, hl with | [_], _ => rfl) (by rintro vs H Q E ⟨m, zs, rs, rfl, _⟩; rfl) (fun f cdv A outer s H vs Q E hr h => ?_)
  obtain ⟨m, zs, rs, rfl, hok, hrs, q⟩ := h
  refine ⟨_, (pss_cons (ps_set (i := 1) sc_loop_read.nd rfl (by first | exact Or.inl rfl | exact Or.inr rfl) (pe_callD Dlines_of (hr.mono (by decide)) rfl (pa_cons (pv 0) pa_nil (se rfl)) (he := se rfl) (hpl := nst rfl)))
    (pss_cons (ps_expr (pe_callD Dcheck_loop_lines (hr.mono (by decide)) rfl (pa_cons (pv 1) pa_nil (se rfl)) (he := se rfl) (hpl := nst rfl)))
    (pss_one (ps_ret (pe_makeI MLoop (hr.mono (by decide)) rfl T.mg_Loop (pa_cons (pe_callTy call_intT rfl T.nint PyProof.Rows.boot_int (pa_cons (pe_ix ix_seq (pe_ix ix_seq (pv 1) pe_int (fun _ _ => rfl)) pe_int (fun _ _ => rfl)) pa_nil (se rfl)) (he := se rfl) (hpl := nst rfl)) (pa_cons (pe_lc (Blk.of (caps := []) (ix := []) rfl) rfl (pi_list (pe_slice sl_listA (pv 1) (po_some pe_int) po_none)) (fun _ _ _ _ => pf_nil) (fun _ _ _ _ => (pe_callD Drow_of (hr.mono (by decide)) rfl (pa_cons (pv 0) pa_nil (se rfl)) (he := se rfl) (hpl := nst rfl)))) pa_nil (se rfl)) (se rfl)) (he := se rfl) (hpl := nst rfl)))))), ?_⟩
  have lb := line_big
  have l12 := hok.len
  have m2 := hok.m2
  walk_at "rd"
  refine ⟨m, rs, rfl, hok, fun D ys H1 s1 hD hD1 hys => ?_⟩
  have l1 := hys.len
  rw [lines_length] at l1
  walk_at "rd"
  refine ⟨D, ys, m, rs, rfl, hD1, hys, hok, fun H2 s2 => ?_⟩
  walk_at "rd"
  have hD2 := s2 _ _ hD1
  have hys2 := hys.same s2
  have hy0 := List.getElem?_eq_getElem (show 0 < ys.length by omega)
  obtain ⟨b0, eb0, hb0⟩ := hys2.at_ 0 (measL m) ys[0] rfl hy0
  have nk : NumOk m.toNat := numOk_of hok.mb
  refine i_makeI ?_
  walk_at "rd"
  refine i_ixL (sqL_inj_of hD2) (show atI ys ((0 : Nat) : Int) = some (.ref b0) from atI_nat (by rw [hy0, eb0])) ?_
  walk_at "rd"
  refine i_ixL (sqL_inj_of hb0) (show atI _ 1 = some (.str (numT m.toNat)) from rfl) ?_
  walk_at "rd"
  refine i_intT (num_reads nk) (by have := numT_len nk; omega) ?_
  rw [Int.toNat_of_nonneg (show 0 ≤ m by omega)]
  walk_at "rd"
  refine i_lc (i_list ?_)
  walk_at "rd"
  refine i_slLA (sqL_inj_of hD2) fun sp H3 hN3 => ?_
  rw [cut_one] at hN3
  have hys3 := hys2.same hN3.same
  refine lcNL (ys.drop 1) (fun E' i y H' => ∃ r, rs[i]? = some r ∧ RowAt (hide E' H') r y) hN3.lst (by rw [List.length_drop]; omega) (fun E' i y H' H'' s' hh => ?_) (fun E' i v H' R hv hE' hy s' rr => ?_) (fun p us H4 hp0 s4 hp hyl hP => ?_)
  · obtain ⟨r, e1, e2⟩ := hh
    exact ⟨r, e1, e2.same (hide_sameB s')⟩
  · have hir : i < rs.length := by
      have := (List.getElem?_eq_some_iff.mp hv).1
      rw [List.length_drop] at this; omega
    have hv' : ys[i + 1]? = some v := by rw [List.getElem?_drop, Nat.add_comm] at hv; exact hv
    obtain ⟨b, rfl, hb⟩ := (hys3.at_ (i + 1) _ v (line_row hir) hv').same s'
    have r1 := hok.one _ (List.getElem_mem hir)
    obtain ⟨yy, hyy⟩ := hy
    walk_at "rd"
    exact ⟨b, _, rfl, hb, r1, fun v H5 s5 hat => rr _ _ s5 ⟨_, List.getElem?_eq_getElem hir, hat.hide (s5 _ _ hyy)⟩⟩
  rw [List.length_drop] at hyl
  have hR : RowsAt H4 rs us := ⟨by omega, fun i r u e1 e2 => by
    obtain ⟨r', e3, e4⟩ := hP i u e2
    rw [e3] at e1; cases e1
    exact e4.same (hide_same p H4)⟩
  clear hP hyl
  walk_at "rd"
  intro x dx hx hdx hne
  have sA : Same H4 (upd (upd H4 dx (.own x)) x (.ins (CE .Loop) dx [])) := Same.upd (Same.new hdx) (by rw [upd_ne hne.symm]; exact hx)
  have xA : upd (upd H4 dx (.own x)) x (.ins (CE .Loop) dx []) x = some (.ins (CE .Loop) dx []) := upd_same
  generalize upd (upd H4 dx (.own x)) x (.ins (CE .Loop) dx []) = HA at *
  refine ⟨x, dx, p, m, us, zs, rs, rfl, xA, m2, hok.mb, sA _ _ hp, hR.same sA, hrs, hok.len1, fun k H5 hk b5 hL => ⟨rfl, ?_⟩⟩
  refine q x k H5 (fun b u e => ?_) hL
  have e4 := s4 _ _ (hN3.same _ _ (s2 _ _ (s1 _ _ e)))
  exact b5 b u (ne_of_none e4 hx) (sA _ _ e4)
theorem vmap_snoc (l : List (List Str)) (x : List Str) : List.map V.str ((l ++ [x]).map lineT) = List.map V.str (l.map lineT) ++ [.str (lineT x)] := by
  rw [List.map_append, List.map_append]; rfl
theorem lines_snoc {m : Int} {rs : List Row} {i : Nat} {r : Row} (h : rs[i]? = some r) : linesT m (rs.take (i + 1)) = linesT m (rs.take i) ++ [rowL r] := by
  unfold linesT
  rw [List.take_add_one, h, List.map_append]; rfl
theorem meas_sp : (Str.ofString "measure ").cps.toList = (Str.ofString "measure").cps.toList ++ [32] := by decide +kernel
theorem meas_cat (m : Int) : Str.ofString "measure " ++ numT m.toNat = lineT (measL m) := by
  apply str_of_list
  unfold lineT measL
  rw [join_cons_list, show Str.join ⟨#[32]⟩ [numT m.toNat] = numT m.toNat from rfl]
  simp only [cat_list, meas_sp, List.append_assoc, List.cons_append, List.nil_append]
theorem meas_fmt (m : Int) : Str.empty ++ Str.ofString "measure " ++ numT m.toNat = lineT (measL m) := by
  rw [← meas_cat]
  apply str_of_list
  simp only [cat_list, show Str.empty.cps.toList = [] from rfl, List.nil_append]
theorem LoopAt.insM {CL : Addr} {H : Hp} {x k : Addr} {m : Int} {rs : List Row} (h : LoopAt CL H x k m rs) : ∃ dx fs, H x = some (.ins CL dx fs) ∧ fs.lookup (Str.ofString "rows") = none ∧ fs.lookup (Str.ofString "measure") = some (.int m) := by
  obtain ⟨dx, d, fs, ws, kvs, h1, a, b, c, e, f, h2, h3, h4, h5⟩ := h
  exact ⟨dx, fs, h1, e, a⟩
theorem strs_of {rs : List Rd} {ys : List V} (hl : ys.length = rs.length) (h : ∀ (i : Nat) y, ys[i]? = some y → ∃ rd, rs[i]? = some rd ∧ y = .str (rdT rd)) : ys = List.map V.str (rs.map rdT) := by
  apply List.ext_getElem?
  intro i
  by_cases hi : i < ys.length
  · obtain ⟨rd, e1, e2⟩ := h i _ (List.getElem?_eq_getElem hi)
    rw [List.getElem?_map, List.getElem?_map, e1, List.getElem?_eq_getElem hi, e2]; rfl
  · rw [List.getElem?_eq_none (by omega), List.getElem?_eq_none (by rw [List.length_map, List.length_map]; omega)]
def spLShown (CL : Addr) : Sp := fun vs H Q _ => ∃ (x k : Addr) (m : Int) (rs : List Row), vs = [.ref x] ∧ LoopAt CL H x k m rs ∧ TxtOk m rs ∧ ∀ H2, Same H H2 → Q (.str (textT m rs)) H2
theorem d_lshown (T : Txt K mg C CE) (Kb : K.In base) (G : base.Ns mainGlobals mg) : Df P w K mg base 3 "loop_shown" ["loop"] (spLShown (CE .Loop)) := by
  have Mrows : MethI P w K mg base 1 "rows" ["self"] (fun _ : Unit => CE .Loop) (fun _ => spLRows (CE .Loop)) := m_rows T
  have Dread_shown : Df P w K mg base 1 "read_shown" ["read"] spReadS := d_rshown T Kb G
  refine T.f_lshown.df Kb G sc_loop_shown (fun _ _ _ _ _ _ us hl => match us, hl with | [_], _ => rfl) (by rintro vs H Q E ⟨x, k, m, rs, rfl, _⟩; rfl) (fun f cdv A outer s H vs Q E hr h => ?_)
  obtain ⟨x, k, m, rs, rfl, hL, hok, q⟩ := h
  refine ⟨_, (pss_cons (ps_set (i := 1) sc_loop_shown.nd rfl (by first | exact Or.inl rfl | exact Or.inr rfl) (pe_fld (pv 0) rfl))
    (pss_cons (ps_set (i := 2) sc_loop_shown.nd rfl (by first | exact Or.inl rfl | exact Or.inr rfl) (pe_lstA (pa_cons (pe_fstrX (pjx_str (by decide) (pjx_plain (pv 1) pjx_nil))) pa_nil (se rfl))))
    (pss_cons (ps_for PassesOwn.never rfl (pi_list (pe_methI0 Mrows (pv 0) (hr.mono (by decide)))) (pg_tup rfl (pgs_cons (pg_name (i := 3) sc_loop_shown.nd rfl (Or.inl rfl)) (pgs_cons (pg_name (i := 4) sc_loop_shown.nd rfl (Or.inl rfl)) (pgs_cons (pg_name (i := 5) sc_loop_shown.nd rfl (Or.inl rfl)) pgs_nil))))
      (pss_one (ps_expr (pe_bm PySem.F.plainAttrs_list PySem.F.slot_list_append PySem.F.type_list_append mt_append (pv 2) (pa_cons (pe_bm PySem.F.plainAttrs_str PySem.F.slot_str_join PySem.F.type_str_join mt_joinG pe_str (pa_cons (pe_op op_catA (pe_lstA (pa_cons (pv 3) (pa_cons pe_str (pa_cons (pv 4) pa_nil (se rfl)) (se rfl)) (se rfl))) (pe_lc (Blk.of (caps := []) (ix := []) rfl) rfl (pi_tup (pv 5)) (fun _ _ _ _ => pf_nil) (fun _ _ _ _ => (pe_callD Dread_shown (hr.mono (by decide)) rfl (pa_cons (pv 0) pa_nil (se rfl)) (he := se rfl) (hpl := nst rfl))))) pa_nil (se rfl)) (hs := se rfl) (hplain := nst rfl)) pa_nil (se rfl)) (hs := se rfl) (hplain := nst rfl)))))
    (pss_one (ps_ret (pe_bm PySem.F.plainAttrs_str PySem.F.slot_str_join PySem.F.type_str_join mt_joinG pe_str (pa_cons (pv 2) pa_nil (se rfl)) (hs := se rfl) (hplain := nst rfl))))))), ?_⟩
  have lb := line_big
  have l12 := hok.len
  have m2 := hok.m2
  have nk : NumOk m.toNat := numOk_of hok.mb
  obtain ⟨dx, fs, hx, f1, f2⟩ := hL.insM
  walk_at "rd"
  refine i_fld ?_
  walk_at "rd"
  refine ⟨x, _, dx, fs, .int m, rfl, hx, T.i_Loop.cl, T.nM, f2, ?_⟩
  walk_at "rd"
  refine i_fmtX (i_jxStr (i_jxPlain ?_))
  walk_at "rd"
  refine .inr ⟨m.toNat, by rw [Int.toNat_of_nonneg (by omega)], nk, ?_⟩
  refine i_jxNil ?_
  rw [meas_fmt]
  walk_at "rd"
  refine ⟨by show 1 ≤ sizeLine; decide, fun O H1 hN1 => ?_⟩
  walk_at "rd"
  refine i_for (i_list ?_)
  refine i_methI ?_
  walk_at "rd"
  refine ⟨(), x, dx, fs, rfl, hN1.same _ _ hx, f1, ?_⟩
  walk_at "rd"
  refine ⟨x, k, m, rs, rfl, hL.same hN1.same, fun np us H2 hN2 hu => ?_⟩
  have l1 := hu.len
  have hO2 := hN2.same _ _ hN1.at
  have nO : np ≠ O := (ne_of_none hN1.at hN2.free).symm
  refine ⟨np, rfl, ⟨_, hN2.lst⟩, ?_⟩
  refine for_list (xs := us) (fun i σ H' => SameB O H2 H' ∧ ∃ x3 x4 x5, σ = [some (.ref x), some (.int m), some (.ref O), x3, x4, x5] ∧ H' O = some (.lst (List.map V.str ((linesT m (rs.take i)).map lineT)))) ⟨fun b u n e => e, none, none, none, rfl, hO2⟩ (fun i σ H' _ h => sqL_inj_of (h.1 np _ nO hN2.at)) ?_ ?_
  · rintro i u σ H' hui ⟨s', x3, x4, x5, rfl, hF⟩
    have hir : i < rs.length := by rw [l1]; exact (List.getElem?_eq_some_iff.mp hui).1
    have hri := List.getElem?_eq_getElem hir
    have rat0 := hu.at_ i rs[i] u hri hui
    have rat : RowAt H' rs[i] u := rat0.keep fun b xs e => s' b _ (fun z => by rw [z, hO2] at e; cases e) e
    have a1 := hok.one _ (List.getElem_mem hir)
    have hsn := lines_snoc (m := m) hri
    generalize rs[i] = r at *
    obtain ⟨p1, p2, vs, rfl, h1, h2, h3⟩ := rat
    have lok := row_line a1
    have l3 := h3.len
    have hm := a1.many
    refine i_gtup (.inl (.inl h1)) rfl ?_
    walk_at "rd"
    refine ⟨.inl ⟨rfl, _, sqL_inj_of hF⟩, ?_⟩
    walk_at "rd"
    refine ⟨rfl, ?_⟩
    walk_at "rd"
    refine ⟨by show 3 ≤ sizeLine; decide, fun ap H3 hN3 => ?_⟩
    walk_at "rd"
    refine i_lc (i_tupI ?_)
    walk_at "rd"
    have h2' := hN3.same _ _ h2
    have h3' := h3.same hN3.same
    refine ⟨p1, rfl, ⟨vs, .inl (.inl h2')⟩, ?_⟩
    refine lcN (LcIt.tup (K := K) (.inl (.inl h2'))) (fun D i y H' => ∃ rd, r.reads[i]? = some rd ∧ y = .str (rdT rd)) (by omega) (fun D i y H' H'' _ h => h) (fun D i H4 R hi hD hy s4 rr => ?_) (fun D ys H4 hD s4 hHD hyl hP => ?_)
    · have hvi := List.getElem?_eq_getElem hi
      have hri := List.getElem?_eq_getElem (show i < r.reads.length by omega)
      have hat := (h3'.at_ i _ _ hri hvi).same s4
      have hrd := a1.reads _ (List.getElem_mem (show i < r.reads.length by omega))
      have ev : vs.getD i V.non = vs[i] := by rw [List.getD, hvi]; rfl
      rw [ev]
      walk_at "rd"
      exact ⟨_, _, rfl, hat, hrd, rr _ _ (Same.refl _) ⟨_, hri, rfl⟩⟩
    rw [strs_of (by omega) hP] at hHD
    walk_at "rd"
    refine i_catA (s4 _ _ hN3.at) hHD (by rw [List.length_map, List.length_map]; show 3 + _ ≤ _; omega) fun cp H5 hN5 => ?_
    walk_at "rd"
    rw [spc]
    refine i_joinG (zs := rowL r) hN5.lst lok.jlen ?_
    walk_at "rd"
    have sA := (hN3.same.trans s4).trans hN5.same
    have hF5 := sA _ _ hF
    refine i_append hF5 ?_ ?_
    · rw [List.length_map, List.length_map, lines_length, List.length_take]; omega
    walk_at "rd"
    refine ⟨fun b u n e => by rw [upd_ne n]; exact sA _ _ (s' b u n e), _, _, _, rfl, ?_⟩
    rw [upd_same, hsn, vmap_snoc]; rfl
  · rintro σ H' ⟨s', x3, x4, x5, rfl, hF⟩
    rw [← l1, List.take_length] at hF
    walk_at "rd"
    refine ⟨rfl, ?_⟩
    walk_at "rd"
    rw [nlc]
    refine i_joinG (sqL_inj_of hF) hok.jlen ?_
    exact q _ fun b u e => s' b u (ne_of_none e hN1.free) (hN2.same _ _ (hN1.same _ _ e))
def cutR (r : Row) (j : Nat) : Row := ⟨r.name, r.d, r.reads.take j⟩
theorem cutR_1 {r : Row} (h : Row1 r) (j : Nat) : Row1 (cutR r j) := ⟨h.n1, h.n12, h.lo, by show (r.reads.take j).length ≤ 3; rw [List.length_take]; have := h.many; omega, fun rd hrd => h.reads rd (List.mem_of_mem_take hrd)⟩
theorem join_snoc (c : Nat) (x : Str) : ∀ (l : List Str), l ≠ [] → (Str.join ⟨#[c]⟩ (l ++ [x])).cps.toList = (Str.join ⟨#[c]⟩ l).cps.toList ++ c :: x.cps.toList
  | [], h => absurd rfl h
  | [a], _ => by
    show (Str.join ⟨#[c]⟩ (a :: x :: [])).cps.toList = _
    rw [join_cons_list]; rfl
  | a :: b :: l, _ => by
    show (Str.join ⟨#[c]⟩ (a :: b :: (l ++ [x]))).cps.toList = _
    rw [join_cons_list, join_cons_list, show b :: (l ++ [x]) = (b :: l) ++ [x] from rfl, join_snoc c x (b :: l) (by simp), List.append_assoc]; rfl
theorem row_snoc {r : Row} {j : Nat} {rd : Rd} (h : r.reads[j]? = some rd) : rowL (cutR r (j + 1)) = rowL (cutR r j) ++ [rdT rd] := by
  unfold rowL cutR
  dsimp only
  rw [List.take_add_one, h, List.map_append, ← List.append_assoc]; rfl
theorem one_sp : (Str.ofString " ").cps.toList = [32] := by decide +kernel
theorem eq_sp : (Str.ofString " = ").cps.toList = 32 :: ((Str.ofString "=").cps.toList ++ [32]) := by decide +kernel
theorem at_sp : (Str.ofString "@").cps.toList = [64] := by decide +kernel
theorem head_cat (r : Row) : r.name ++ Str.ofString " = " ++ r.d.word = lineT (rowL (cutR r 0)) := by
  apply str_of_list
  show _ = (Str.join ⟨#[32]⟩ [r.name, Str.ofString "=", r.d.word]).cps.toList
  rw [join_cons_list, join_cons_list, show Str.join ⟨#[32]⟩ [r.d.word] = r.d.word from rfl]
  simp only [cat_list, eq_sp, List.append_assoc, List.cons_append, List.nil_append]
theorem num_cat {r : Row} {j : Nat} {i : Int} (h : r.reads[j]? = some (.num i)) : lineT (rowL (cutR r j)) ++ Str.ofString " " ++ numT i.toNat = lineT (rowL (cutR r (j + 1))) := by
  apply str_of_list
  rw [row_snoc h]
  unfold lineT
  rw [join_snoc 32 _ _ (by simp [rowL])]
  simp only [cat_list, one_sp, List.append_assoc, List.cons_append, List.nil_append]; rfl
theorem back_catY {r : Row} {j : Nat} {z : Str} {b : Int} (h : r.reads[j]? = some (.back z b)) (hb : 0 < b) : lineT (rowL (cutR r j)) ++ Str.ofString " " ++ z ++ (Str.ofString "@" ++ numT b.toNat) = lineT (rowL (cutR r (j + 1))) := by
  apply str_of_list
  rw [row_snoc h]
  unfold lineT
  rw [join_snoc 32 _ _ (by simp [rowL]), rdT_b hb]
  simp only [cat_list, one_sp, at_sp, List.append_assoc, List.cons_append, List.nil_append]
theorem back_catN {r : Row} {j : Nat} {z : Str} {b : Int} (h : r.reads[j]? = some (.back z b)) (hb : ¬ 0 < b) : lineT (rowL (cutR r j)) ++ Str.ofString " " ++ z ++ Str.ofString "" = lineT (rowL (cutR r (j + 1))) := by
  apply str_of_list
  rw [row_snoc h]
  unfold lineT
  rw [join_snoc 32 _ _ (by simp [rowL]), rdT_0 hb]
  simp only [cat_list, one_sp, show (Str.ofString "").cps.toList = [] by decide +kernel, List.append_assoc, List.cons_append, List.nil_append, List.append_nil]
theorem cutR_all (r : Row) : cutR r r.reads.length = r := by unfold cutR; rw [List.take_length]
def spText : Sp := fun vs H Q _ => ∃ (p : Addr) (us : List V) (m : Int) (rs : List Row), vs = [.int m, .ref p] ∧ H p = some (.lst us) ∧ RowsAt H rs us ∧ TxtOk m rs ∧ ∀ H2, Same H H2 → Q (.str (textT m rs)) H2
theorem d_text (T : Txt K mg C CE) (Kb : K.In base) (G : base.Ns mainGlobals mg) : Df P w K mg base 1 "_law_loop_text" ["_law_measure", "_law_rows_here"] spText := by
  refine T.f_text.df Kb G sc_law_loop_text (fun _ _ _ _ _ _ us hl => match us, hl with | [_, _], _ => rfl) (by rintro vs H Q E ⟨p, us, m, rs, rfl, _⟩; rfl) (fun f cdv A outer s H vs Q E hr h => ?_)
  obtain ⟨p, us, m, rs, rfl, hp, hu, hok, q⟩ := h
  refine ⟨_, (pss_cons (ps_set (i := 2) sc_law_loop_text.nd rfl (by first | exact Or.inl rfl | exact Or.inr rfl) (pe_lstA (pa_cons (pe_op op_addS pe_str (pe_callTy call_strI rfl T.nstr PyProof.Rows.boot_str (pa_cons (pv 0) pa_nil (se rfl)) (he := se rfl) (hpl := nst rfl))) pa_nil (se rfl))))
    (pss_cons (ps_for PassesOwn.never rfl (pi_list (pv 1)) (pg_tup rfl (pgs_cons (pg_name (i := 3) sc_law_loop_text.nd rfl (Or.inl rfl)) (pgs_cons (pg_name (i := 4) sc_law_loop_text.nd rfl (Or.inl rfl)) (pgs_cons (pg_name (i := 5) sc_law_loop_text.nd rfl (Or.inl rfl)) pgs_nil))))
      (pss_cons (ps_set (i := 6) sc_law_loop_text.nd rfl (by first | exact Or.inl rfl | exact Or.inr rfl) (pe_op op_addS (pe_op op_addS (pv 3) pe_str) (pv 4)))
    (pss_cons (ps_for PassesOwn.never rfl (pi_tup (pv 5)) (pg_name (i := 7) sc_law_loop_text.nd rfl (Or.inl rfl))
      (pss_one (ps_if (pt_not (pt_val (pe_callB call_isi rfl T.nisi PyProof.Rows.boot_isinstance (pa_cons (pv 7) (pa_cons (pe_bltn (v := .ty "tuple") rfl T.ntuple PyProof.Rows.boot_tuple rfl) pa_nil (se rfl)) (se rfl)) (he := se rfl) (hpl := nst rfl)))) (pss_one (ps_set (i := 6) sc_law_loop_text.nd rfl (by first | exact Or.inl rfl | exact Or.inr rfl) (pe_op op_addS (pe_op op_addS (pv 6) pe_str) (pe_callTy call_strI rfl T.nstr PyProof.Rows.boot_str (pa_cons (pv 7) pa_nil (se rfl)) (he := se rfl) (hpl := nst rfl))))) (pss_one (ps_set (i := 6) sc_law_loop_text.nd rfl (by first | exact Or.inl rfl | exact Or.inr rfl) (pe_op op_addS (pe_op op_addS (pe_op op_addS (pv 6) pe_str) (pe_ix ix_seq (pv 7) pe_int (fun _ _ => rfl))) (pe_ix ix_seq (pe_lstA (pa_cons pe_str (pa_cons (pe_op op_addS pe_str (pe_callTy call_strI rfl T.nstr PyProof.Rows.boot_str (pa_cons (pe_ix ix_seq (pv 7) pe_int (fun _ _ => rfl)) pa_nil (se rfl)) (he := se rfl) (hpl := nst rfl))) pa_nil (se rfl)) (se rfl))) (pe_callTy call_int1 rfl T.nint PyProof.Rows.boot_int (pa_cons (pe_cmpR op_gt (pe_ix ix_seq (pv 7) pe_int (fun _ _ => rfl)) pe_int (nomark _)) pa_nil (se rfl)) (he := se rfl) (hpl := nst rfl)) (fun _ _ => rfl))))))))
    (pss_one (ps_expr (pe_bm PySem.F.plainAttrs_list PySem.F.slot_list_append PySem.F.type_list_append mt_append (pv 2) (pa_cons (pv 6) pa_nil (se rfl)) (hs := se rfl) (hplain := nst rfl)))))))
    (pss_one (ps_ret (pe_bm PySem.F.plainAttrs_str PySem.F.slot_str_join PySem.F.type_str_join mt_joinG pe_str (pa_cons (pv 2) pa_nil (se rfl)) (hs := se rfl) (hplain := nst rfl)))))), ?_⟩
  have lb := line_big
  have l1 := hu.len
  have l12 := hok.len
  have m2 := hok.m2
  have nk : NumOk m.toNat := numOk_of hok.mb
  have nl := numT_len nk
  have c8 : (Str.ofString "measure ").length = 8 := by decide +kernel
  have c3 : (Str.ofString " = ").length = 3 := by decide +kernel
  have c1 : (Str.ofString " ").length = 1 := by decide +kernel
  have ca : (Str.ofString "@").length = 1 := by decide +kernel
  have c0 : (Str.ofString "").length = 0 := by decide +kernel
  walk_at "rd"
  refine ⟨m.toNat, by rw [Int.toNat_of_nonneg (by omega)], nk, ?_⟩
  refine i_addS (by omega) ?_
  rw [meas_cat]
  walk_at "rd"
  refine ⟨by show 1 ≤ sizeLine; decide, fun O H1 hN1 => ?_⟩
  walk_at "rd"
  refine i_for (i_list ?_)
  walk_at "rd"
  have hp1 := hN1.same _ _ hp
  have nO : p ≠ O := ne_of_none hp hN1.free
  refine ⟨p, rfl, ⟨us, sqL_inj_of hp1⟩, ?_⟩
  refine for_list (xs := us) (fun i σ H' => SameB O H1 H' ∧ ∃ x3 x4 x5 x6 x7, σ = [some (.int m), some (.ref p), some (.ref O), x3, x4, x5, x6, x7] ∧ H' O = some (.lst (List.map V.str ((linesT m (rs.take i)).map lineT)))) ⟨fun b u n e => e, none, none, none, none, none, rfl, hN1.at⟩ (fun i σ H' _ h => sqL_inj_of (h.1 p _ nO hp1)) ?_ ?_
  · rintro i u σ H' hui ⟨s', x3, x4, x5, x6, x7, rfl, hF⟩
    have sH : Same H H' := fun b u e => s' b u (ne_of_none e hN1.free) (hN1.same _ _ e)
    have hir : i < rs.length := by rw [l1]; exact (List.getElem?_eq_some_iff.mp hui).1
    have hri := List.getElem?_eq_getElem hir
    have rat := (hu.at_ i rs[i] u hri hui).same sH
    have a1 := hok.one _ (List.getElem_mem hir)
    have hsn := lines_snoc (m := m) hri
    generalize rs[i] = r at *
    obtain ⟨p1, p2, vs, rfl, h1, h2, h3⟩ := rat
    have l3 := h3.len
    have b1 := a1.n12
    have b2 := (lo_word r.d).2.1
    refine i_gtup (.inl (.inl h1)) rfl ?_
    walk_at "rd"
    refine i_addS (by omega) ?_
    walk_at "rd"
    refine i_addS (by rw [strLen_append]; omega) ?_
    rw [head_cat]
    walk_at "rd"
    refine i_for (i_tupI ?_)
    walk_at "rd"
    refine ⟨p1, rfl, ⟨vs, .inl (.inl h2)⟩, ?_⟩
    refine for_tup (xs := vs) (fun j σ H2 => Same H' H2 ∧ ∃ x7, σ = [some (.int m), some (.ref p), some (.ref O), some (.str r.name), some (.str r.d.word), some (.ref p1), some (.str (lineT (rowL (cutR r j)))), x7]) ⟨Same.refl _, x7, rfl⟩ (fun j σ H2 _ h => .inl (.inl (h.1 _ _ h2))) ?_ ?_
    · rintro j v σ H2 hvj ⟨s2, x7, rfl⟩
      have hjr : j < r.reads.length := by rw [l3]; exact (List.getElem?_eq_some_iff.mp hvj).1
      have hrj := List.getElem?_eq_getElem hjr
      have r3 := (h3.at_ j r.reads[j] v hrj hvj).same s2
      have hrd := a1.reads _ (List.getElem_mem hjr)
      have ll := (row_line (cutR_1 a1 j)).long
      generalize r.reads[j] = rd at *
      cases rd with
      | num n =>
        have e : v = .int n := r3
        subst e
        have h0 := hrd.1
        have nk' : NumOk n.toNat := numOk_of (by have := hrd.2; omega)
        have nl' := numT_len nk'
        walk_at "rd"
        refine ⟨_, _, _, _, rfl, rfl, .int n, T.kIT, ?_⟩
        walk_at "rd"
        refine i_addS (by omega) ?_
        walk_at "rd"
        refine ⟨n.toNat, by rw [Int.toNat_of_nonneg h0], nk', ?_⟩
        refine i_addS (by rw [strLen_append]; omega) ?_
        rw [num_cat hrj]
        walk_at "rd"
        exact ⟨s2, _, rfl⟩
      | back z b =>
        obtain ⟨t, rfl, ht⟩ := r3
        obtain ⟨g1, g2, g3, g4, g5⟩ := hrd
        have nk' := small g5
        have nl' := six_one g5
        walk_at "rd"
        refine i_isiT ht T.kTT ?_
        walk_at "rd"
        refine i_addS (by omega) ?_
        walk_at "rd"
        refine i_ixT (.inl (.inl ht)) (show atI _ 0 = some (.str z) from rfl) ?_
        walk_at "rd"
        refine i_addS (by rw [strLen_append]; omega) ?_
        walk_at "rd"
        refine i_ixT (.inl (.inl ht)) (show atI _ 1 = some (.int b) from rfl) ?_
        walk_at "rd"
        refine ⟨b.toNat, by rw [Int.toNat_of_nonneg g4], nk', ?_⟩
        refine i_addS (by omega) ?_
        walk_at "rd"
        refine ⟨by show 2 ≤ sizeLine; decide, fun lp H3 hN3 => ?_⟩
        walk_at "rd"
        refine i_ixT (.inl (.inl (hN3.same _ _ ht))) (show atI _ 1 = some (.int b) from rfl) ?_
        walk_at "rd"
        refine .inr ⟨_, rfl, ?_⟩
        by_cases hb : 0 < b
        · rw [decide_eq_true (show b > 0 from hb)]
          refine i_ixL hN3.lst (v := .str (Str.ofString "@" ++ numT b.toNat)) rfl ?_
          walk_at "rd"
          refine i_addS (by rw [strLen_append, strLen_append, strLen_append]; omega) ?_
          rw [back_catY hrj hb]
          walk_at "rd"
          exact ⟨s2.trans hN3.same, _, rfl⟩
        · rw [decide_eq_false (show ¬ b > 0 from hb)]
          refine i_ixL hN3.lst (v := .str (Str.ofString "")) rfl ?_
          walk_at "rd"
          refine i_addS (by rw [strLen_append, strLen_append]; omega) ?_
          rw [back_catN hrj hb]
          walk_at "rd"
          exact ⟨s2.trans hN3.same, _, rfl⟩
    · rintro σ H2 ⟨s2, x7, rfl⟩
      rw [show vs.length = r.reads.length from l3.symm, cutR_all]
      have hF2 := s2 _ _ hF
      walk_at "rd"
      refine ⟨.inl ⟨rfl, _, sqL_inj_of hF2⟩, ?_⟩
      walk_at "rd"
      refine i_append hF2 ?_ ?_
      · rw [List.length_map, List.length_map, lines_length, List.length_take]; omega
      walk_at "rd"
      refine ⟨fun b u n e => by rw [upd_ne n]; exact s2 _ _ (s' b u n e), _, _, _, _, _, rfl, ?_⟩
      rw [upd_same, hsn, vmap_snoc]
  · rintro σ H' ⟨s', x3, x4, x5, x6, x7, rfl, hF⟩
    rw [show us.length = rs.length from l1.symm, List.take_length] at hF
    walk_at "rd"
    refine ⟨rfl, ?_⟩
    walk_at "rd"
    rw [nlc]
    refine i_joinG (sqL_inj_of hF) hok.jlen ?_
    exact q _ fun b u e => s' b u (ne_of_none e hN1.free) (hN1.same _ _ e)
def rdDV : Rd → DV
  | .num i => .f (.int i)
  | .back z b => .t [.f (.str z), .f (.int b)]
def rowDV (r : Row) : DV := .t [.f (.str r.name), .f (.str r.d.word), .t (r.reads.map rdDV)]
theorem drels_of {K : PySem.W.Frag} {H : Hp} : ∀ (ds : List DV) (xs : List V), ds.length = xs.length → (∀ (i : Nat) d x, ds[i]? = some d → xs[i]? = some x → DRel K H d x) → DRels K H ds xs
  | [], [], _, _ => by simp only [DRels]
  | d :: ds, x :: xs, hl, h => by
    simp only [DRels]
    exact ⟨h 0 d x rfl rfl, drels_of ds xs (by simpa using hl) fun i d' x' e1 e2 => h (i + 1) d' x' e1 e2⟩
  | [], _ :: _, hl, _ => by simp at hl
  | _ :: _, [], hl, _ => by simp at hl
theorem RdAt.drel {K : PySem.W.Frag} {H : Hp} {r : Rd} {v : V} (h : RdAt H r v) : DRel K H (rdDV r) v := by
  cases r with
  | num i =>
    have e : v = .int i := h
    subst e
    simp [rdDV, DRel, flatV]
  | back z b =>
    obtain ⟨a, rfl, h⟩ := h
    simp only [rdDV, DRel, DRels]
    exact ⟨a, _, rfl, .inl (.inl h), ⟨rfl, rfl⟩, ⟨rfl, rfl⟩, trivial⟩
theorem map_at {α β : Type} {f : α → β} {l : List α} {i : Nat} {d : β} (e : (l.map f)[i]? = some d) : ∃ a, l[i]? = some a ∧ f a = d := by
  rw [List.getElem?_map] at e
  cases hr : l[i]? with
  | none => rw [hr] at e; cases e
  | some a => rw [hr] at e; exact ⟨a, rfl, Option.some.inj e⟩
theorem RowAt.drel {K : PySem.W.Frag} {H : Hp} {r : Row} {v : V} (h : RowAt H r v) : DRel K H (rowDV r) v := by
  obtain ⟨p1, p2, vs, rfl, h1, h2, h3⟩ := h
  have hd : DRels K H (r.reads.map rdDV) vs := drels_of _ _ (by rw [List.length_map]; exact h3.len) fun i d x e1 e2 => by
    obtain ⟨rd, hr, e⟩ := map_at e1
    rw [← e]; exact (h3.at_ i rd x hr e2).drel
  simp only [rowDV, DRel, DRels]
  exact ⟨p2, _, rfl, .inl (.inl h1), ⟨rfl, rfl⟩, ⟨rfl, rfl⟩, ⟨p1, vs, rfl, .inl (.inl h2), hd⟩, trivial⟩
theorem RowsAt.drel {K : PySem.W.Frag} {H : Hp} {rs : List Row} {us : List V} {p : Addr} (hp : H p = some (.lst us)) (h : RowsAt H rs us) : DRel K H (.l (rs.map rowDV)) (.ref p) := by
  simp only [DRel]
  refine ⟨p, us, rfl, .inl (.inl hp), drels_of _ _ (by rw [List.length_map]; exact h.len) fun i d x e1 e2 => ?_⟩
  obtain ⟨r, hr, e⟩ := map_at e1
  rw [← e]; exact (h.at_ i r x hr e2).drel
theorem deps_rds : ∀ rs : List Rd, deps (rs.map rdDV) ≤ 1
  | [] => by simp only [List.map_nil, deps]; omega
  | r :: rs => by
    have ih := deps_rds rs
    simp only [List.map_cons, deps]
    have : dep (rdDV r) ≤ 1 := by cases r <;> simp only [rdDV, dep, deps] <;> omega
    omega
theorem deps_rows : ∀ rs : List Row, deps (rs.map rowDV) ≤ 3
  | [] => by simp only [List.map_nil, deps]; omega
  | r :: rs => by
    have ih := deps_rows rs
    have := deps_rds r.reads
    simp only [List.map_cons, deps]
    have : dep (rowDV r) ≤ 3 := by simp only [rowDV, dep, deps]; omega
    omega
theorem dep_rows (rs : List Row) : dep (.l (rs.map rowDV)) ≤ 20 ∧ 0 < dep (.l (rs.map rowDV)) := by
  have := deps_rows rs
  simp only [dep]; omega
def spRight : Sp := fun vs H Q _ => ∃ (p p' : Addr) (us us' : List V) (rs : List Row), vs = [.ref p, .ref p'] ∧ H p = some (.lst us) ∧ H p' = some (.lst us') ∧ RowsAt H rs us ∧ RowsAt H rs us' ∧ Q (.bl true) H
theorem d_right (T : Txt K mg C CE) (Kb : K.In base) (G : base.Ns mainGlobals mg) : Df P w K mg base 2 "_law_rows_right" ["_law_found", "_law_rows_here"] spRight := by
  have D_law_whole : Df P w K mg base 1 "_law_whole" ["_law_found"] spWhole := d_whole T Kb G
  refine T.f_right.df Kb G sc_law_rows_right (fun _ _ _ _ _ _ us hl => match us, hl with | [_, _], _ => rfl) (by rintro vs H Q E ⟨p, p', us, us', rs, rfl, _⟩; rfl) (fun f cdv A outer s H vs Q E hr h => ?_)
  obtain ⟨p, p', us, us', rs, rfl, hp, hp', hu, hu', q⟩ := h
  refine ⟨_, (pss_cons (ps_if (PW.pt (pw_or (pt_not (pt_val (pe_callB call_isi rfl T.nisi PyProof.Rows.boot_isinstance (pa_cons (pv 0) (pa_cons (pe_bltn (v := .ty "list") rfl T.nlist PyProof.Rows.boot_list rfl) pa_nil (se rfl)) (se rfl)) (he := se rfl) (hpl := nst rfl)))) (pw_or1 (pt_cmpR op_ne (pe_callB call_len_seq rfl T.nlen PySem.boot_len (pa_cons (pv 0) pa_nil (se rfl)) (he := se rfl) (hpl := nst rfl)) (pe_callB call_len_seq rfl T.nlen PySem.boot_len (pa_cons (pv 1) pa_nil (se rfl)) (he := se rfl) (hpl := nst rfl)) (nomark _))))) (pss_one (ps_ret pe_bl)) pss_nil)
    (pss_cons (ps_for PassesOwn.never rfl (pi_list (pv 0)) (pg_name (i := 2) sc_law_rows_right.nd rfl (Or.inl rfl))
      (pss_cons (ps_if (PW.pt (pw_or (pt_not (pt_val (pe_callB call_isi rfl T.nisi PyProof.Rows.boot_isinstance (pa_cons (pv 2) (pa_cons (pe_bltn (v := .ty "tuple") rfl T.ntuple PyProof.Rows.boot_tuple rfl) pa_nil (se rfl)) (se rfl)) (he := se rfl) (hpl := nst rfl)))) (pw_or (pt_cmpR op_ne (pe_callB call_len_seq rfl T.nlen PySem.boot_len (pa_cons (pv 2) pa_nil (se rfl)) (he := se rfl) (hpl := nst rfl)) pe_int (nomark _)) (pw_or1 (pt_not (pt_val (pe_callB call_isi rfl T.nisi PyProof.Rows.boot_isinstance (pa_cons (pe_ix ix_seq (pv 2) pe_int (fun _ _ => rfl)) (pa_cons (pe_bltn (v := .ty "tuple") rfl T.ntuple PyProof.Rows.boot_tuple rfl) pa_nil (se rfl)) (se rfl)) (he := se rfl) (hpl := nst rfl)))))))) (pss_one (ps_ret pe_bl)) pss_nil)
    (pss_cons (ps_if (PW.pt (pw_or (pt_not (pt_val (pe_callB call_isi rfl T.nisi PyProof.Rows.boot_isinstance (pa_cons (pe_ix ix_seq (pv 2) pe_int (fun _ _ => rfl)) (pa_cons (pe_bltn (v := .ty "str") rfl T.nstr PyProof.Rows.boot_str rfl) pa_nil (se rfl)) (se rfl)) (he := se rfl) (hpl := nst rfl)))) (pw_or1 (pt_not (pt_val (pe_callB call_isi rfl T.nisi PyProof.Rows.boot_isinstance (pa_cons (pe_ix ix_seq (pv 2) pe_int (fun _ _ => rfl)) (pa_cons (pe_bltn (v := .ty "str") rfl T.nstr PyProof.Rows.boot_str rfl) pa_nil (se rfl)) (se rfl)) (he := se rfl) (hpl := nst rfl))))))) (pss_one (ps_ret pe_bl)) pss_nil)
    (pss_one (ps_for PassesOwn.never rfl (pi_tup (pe_ix ix_seq (pv 2) pe_int (fun _ _ => rfl))) (pg_name (i := 3) sc_law_rows_right.nd rfl (Or.inl rfl))
      (pss_cons (ps_if (PW.pt (pw_and (pt_not (pt_val (pe_callB call_isi rfl T.nisi PyProof.Rows.boot_isinstance (pa_cons (pv 3) (pa_cons (pe_bltn (v := .ty "tuple") rfl T.ntuple PyProof.Rows.boot_tuple rfl) pa_nil (se rfl)) (se rfl)) (he := se rfl) (hpl := nst rfl)))) (pw_and1 (pt_not (pt_val (pe_callD D_law_whole (hr.mono (by decide)) rfl (pa_cons (pv 3) pa_nil (se rfl)) (he := se rfl) (hpl := nst rfl))))))) (pss_one (ps_ret pe_bl)) pss_nil)
    (pss_one (ps_if (PW.pt (pw_and (pt_val (pe_callB call_isi rfl T.nisi PyProof.Rows.boot_isinstance (pa_cons (pv 3) (pa_cons (pe_bltn (v := .ty "tuple") rfl T.ntuple PyProof.Rows.boot_tuple rfl) pa_nil (se rfl)) (se rfl)) (he := se rfl) (hpl := nst rfl))) (pw_and1 (PW.pt (pw_or (pt_cmpR op_ne (pe_callB call_len_seq rfl T.nlen PySem.boot_len (pa_cons (pv 3) pa_nil (se rfl)) (he := se rfl) (hpl := nst rfl)) pe_int (nomark _)) (pw_or1 (pt_not (pt_val (pe_callD D_law_whole (hr.mono (by decide)) rfl (pa_cons (pe_ix ix_seq (pv 3) pe_int (fun _ _ => rfl)) pa_nil (se rfl)) (he := se rfl) (hpl := nst rfl)))))))))) (pss_one (ps_ret pe_bl)) pss_nil))))))))
    (pss_one (ps_ret (pe_cmpR (op_eqD hr.units) (pv 0) (pv 1) (nomark _)))))), ?_⟩
  have l1 := hu.len
  have l2 := hu'.len
  walk_at "rd"
  refine i_isiL hp T.kLL ?_
  walk_at "rd"
  refine ⟨_, _, rfl, .inl (sqL_inj_of hp), ?_⟩
  walk_at "rd"
  refine ⟨_, _, rfl, .inl (sqL_inj_of hp'), ?_⟩
  walk_at "rd"
  rw [decide_eq_true (show V.int (us.length : Int) = V.int (us'.length : Int) by rw [← l1, ← l2])]
  walk_at "rd"
  dsimp only
  refine i_for (i_list ?_)
  walk_at "rd"
  refine ⟨p, rfl, ⟨us, sqL_inj_of hp⟩, ?_⟩
  refine for_list (xs := us) (fun i σ H' => H' = H ∧ ∃ x2 x3, σ = [some (.ref p), some (.ref p'), x2, x3]) ⟨rfl, none, none, rfl⟩ (fun i σ H' _ h => by rw [h.1]; exact sqL_inj_of hp) ?_ ?_
  · rintro i u σ H' hui ⟨rfl, x2, x3, rfl⟩
    have hir : i < rs.length := by rw [l1]; exact (List.getElem?_eq_some_iff.mp hui).1
    have hri := List.getElem?_eq_getElem hir
    have rat := hu.at_ i rs[i] u hri hui
    generalize rs[i] = r at *
    obtain ⟨p1, p2, vs, rfl, h1, h2, h3⟩ := rat
    have l3 := h3.len
    walk_at "rd"
    refine i_isiT h1 T.kTT ?_
    walk_at "rd"
    refine ⟨_, _, rfl, .inr (.inl (.inl h1)), ?_⟩
    walk_at "rd"
    rw [decide_eq_true (show V.int (([V.str r.name, V.str r.d.word, V.ref p1].length : Nat) : Int) = V.int 3 from rfl)]
    walk_at "rd"
    refine i_ixT (.inl (.inl h1)) (show atI _ 2 = some (.ref p1) from rfl) ?_
    walk_at "rd"
    refine i_isiT h2 T.kTT ?_
    walk_at "rd"
    refine i_ixT (.inl (.inl h1)) (show atI _ 0 = some (.str r.name) from rfl) ?_
    walk_at "rd"
    refine ⟨_, _, _, _, rfl, rfl, .str _, T.kSS, ?_⟩
    walk_at "rd"
    refine i_ixT (.inl (.inl h1)) (show atI _ 1 = some (.str r.d.word) from rfl) ?_
    walk_at "rd"
    refine ⟨_, _, _, _, rfl, rfl, .str _, T.kSS, ?_⟩
    walk_at "rd"
    dsimp only
    refine i_for (i_tupI ?_)
    walk_at "rd"
    refine i_ixT (.inl (.inl h1)) (show atI _ 2 = some (.ref p1) from rfl) ?_
    refine ⟨p1, rfl, ⟨vs, .inl (.inl h2)⟩, ?_⟩
    refine for_tup (xs := vs) (fun j σ H2 => H2 = H' ∧ ∃ x3, σ = [some (.ref p), some (.ref p'), some (.ref p2), x3]) ⟨rfl, x3, rfl⟩ (fun j σ H2 _ h => by rw [h.1]; exact .inl (.inl h2)) ?_ ?_
    · rintro j v σ H2 hvj ⟨rfl, x3, rfl⟩
      have hjr : j < r.reads.length := by rw [l3]; exact (List.getElem?_eq_some_iff.mp hvj).1
      have r3 := h3.at_ j r.reads[j] v (List.getElem?_eq_getElem hjr) hvj
      generalize r.reads[j] = rd at *
      cases rd with
      | num n =>
        have e : v = .int n := r3
        subst e
        walk_at "rd"
        refine ⟨_, _, _, _, rfl, rfl, .int n, T.kIT, ?_⟩
        walk_at "rd"
        refine ⟨n, rfl, ?_⟩
        walk_at "rd"
        refine ⟨_, _, _, _, rfl, rfl, .int n, T.kIT, ?_⟩
        walk_at "rd"
        exact ⟨rfl, _, rfl⟩
      | back z b =>
        obtain ⟨t, rfl, ht⟩ := r3
        walk_at "rd"
        refine i_isiT ht T.kTT ?_
        walk_at "rd"
        refine i_isiT ht T.kTT ?_
        walk_at "rd"
        refine ⟨_, _, rfl, .inr (.inl (.inl ht)), ?_⟩
        walk_at "rd"
        rw [decide_eq_true (show V.int (([V.str z, V.int b].length : Nat) : Int) = V.int 2 from rfl)]
        walk_at "rd"
        refine i_ixT (.inl (.inl ht)) (show atI _ 1 = some (.int b) from rfl) ?_
        walk_at "rd"
        refine ⟨b, rfl, ?_⟩
        walk_at "rd"
        exact ⟨rfl, _, rfl⟩
    · rintro σ H2 ⟨rfl, x3, rfl⟩
      exact ⟨rfl, _, _, rfl⟩
  · rintro σ H' ⟨rfl, x2, x3, rfl⟩
    walk_at "rd"
    have d1 := hu.drel (K := K) hp
    have d2 := hu'.drel (K := K) hp'
    refine ⟨_, _, d1, d2, (dep_rows rs).1, (dep_rows rs).2, (dep_rows rs).2, ?_⟩
    rw [deq_self _ K H' _ d1]
    exact q
theorem at_four {c : Int} {a b : Int} (ha : 0 ≤ a) (ha' : a < 1000) (hb : 0 ≤ b) (hb' : b < 10 ^ 60 - 1) : ∃ m : Int, atI [V.int 2, V.int (10 ^ (60 : Int).toNat), V.int (2 + a), V.int (2 + b)] (c % 4) = some (.int m) ∧ 2 ≤ m ∧ m ≤ 10 ^ 60 := by
  have h4 := mod_b c (show (0 : Int) < 4 by decide)
  have p : (1002 : Int) ≤ 10 ^ 60 := by decide +kernel
  rcases (by omega : c % 4 = 0 ∨ c % 4 = 1 ∨ c % 4 = 2 ∨ c % 4 = 3) with z | z | z | z <;> rw [z]
  · exact ⟨2, rfl, by omega, by omega⟩
  · exact ⟨10 ^ (60 : Int).toNat, rfl, by decide +kernel, by decide +kernel⟩
  · exact ⟨2 + a, rfl, by omega, by omega⟩
  · exact ⟨2 + b, rfl, by omega, by omega⟩
def spLaw (K : PySem.W.Frag) (ns : List Int) : Sp := fun vs H Q _ => ∃ a : Addr, vs = [.ref a] ∧ SqL K H a (ns.map V.int) ∧ ∀ H', Q (.bl true) H'
theorem ok_law {f : Addr} {fd : FuncData} (T : Txt K mg C CE) (F : Fun K "law" "law" st_law f fd) (Kb : K.In base) (G : base.Ns mainGlobals mg) {ns : List Int} (hl : ns.length ≤ 63) (hb : ∀ i ∈ ns, Builtin.Int.intBits i ≤ 1048576) : FnOk P w K mg base CX0 8 f fd ["_law_script"] (spLaw K ns) := by
  have D_law_cell_at : Df P w K mg base 1 "_law_cell_at" ["_law_script", "_law_k"] (spCell K) := d_cell T Kb G
  have D_law_whole : Df P w K mg base 1 "_law_whole" ["_law_found"] spWhole := d_whole T Kb G
  have D_law_names : Df P w K mg base 1 "_law_names" ["_law_cell", "_law_count"] spNames := d_names T Kb G
  have D_law_rows : Df P w K mg base 2 "_law_rows" ["_law_script", "_law_names_here"] (spRowsD K) := d_rowsD T Kb G
  have D_law_loop_text : Df P w K mg base 1 "_law_loop_text" ["_law_measure", "_law_rows_here"] spText := d_text T Kb G
  have D_law_rows_right : Df P w K mg base 2 "_law_rows_right" ["_law_found", "_law_rows_here"] spRight := d_right T Kb G
  have Dloop_shown : Df P w K mg base 3 "loop_shown" ["loop"] (spLShown (CE .Loop)) := d_lshown T Kb G
  have Dloop_read : Df P w K mg base 7 "loop_read" ["text"] (spLRead (CE .Loop)) := d_lread T Kb G
  have Mrows : MethI P w K mg base 1 "rows" ["self"] (fun _ : Unit => CE .Loop) (fun _ => spLRows (CE .Loop)) := m_rows T
  have MLoop : MkI P w K mg base 5 (CE .Loop) ["self", "measure", "rows"] (spInitL (CE .Loop)) := mk_loop T Kb G
  refine (F.ok sc_law (k := 7) (by rintro vs H Q E ⟨a, rfl, _⟩; rfl) (fun cdv A outer s H vs Q E hr h => ?_)).mono (by decide)
  obtain ⟨a, rfl, hS0, q⟩ := h
  have hS : Scr K H a ns := ⟨hS0, hl, hb⟩
  refine ⟨_, (pss_cons (ps_set (i := 1) sc_law.nd rfl (by first | exact Or.inl rfl | exact Or.inr rfl) (pe_callD D_law_cell_at (hr.mono (by decide)) rfl (pa_cons (pv 0) (pa_cons pe_int pa_nil (se rfl)) (se rfl)) (he := se rfl) (hpl := nst rfl)))
    (pss_cons (ps_set (i := 2) sc_law.nd rfl (by first | exact Or.inl rfl | exact Or.inr rfl) (pe_callD D_law_rows (hr.mono (by decide)) rfl (pa_cons (pv 0) (pa_cons (pe_callD D_law_names (hr.mono (by decide)) rfl (pa_cons (pv 1) (pa_cons (pe_op op_add pe_int (pe_op op_mod (pe_op op_fdiv (pv 1) pe_int) pe_int)) pa_nil (se rfl)) (se rfl)) (he := se rfl) (hpl := nst rfl)) pa_nil (se rfl)) (se rfl)) (he := se rfl) (hpl := nst rfl)))
    (pss_cons (ps_set (i := 3) sc_law.nd rfl (by first | exact Or.inl rfl | exact Or.inr rfl) (pe_callD D_law_cell_at (hr.mono (by decide)) rfl (pa_cons (pv 0) (pa_cons pe_int pa_nil (se rfl)) (se rfl)) (he := se rfl) (hpl := nst rfl)))
    (pss_cons (ps_set (i := 4) sc_law.nd rfl (by first | exact Or.inl rfl | exact Or.inr rfl) (pe_ix ix_seq (pe_lstA (pa_cons pe_int (pa_cons (pe_op op_pow pe_int pe_int) (pa_cons (pe_op op_add pe_int (pe_op op_mod (pe_op op_fdiv (pv 3) pe_int) pe_int)) (pa_cons (pe_op op_add pe_int (pe_op op_mod (pe_op op_mulO (pv 3) (pv 3)) (pe_op op_sub (pe_op op_pow pe_int pe_int) pe_int))) pa_nil (se rfl)) (se rfl)) (se rfl)) (se rfl))) (pe_op op_mod (pv 3) pe_int) (fun _ _ => rfl)))
    (pss_cons (ps_set (i := 5) sc_law.nd rfl (by first | exact Or.inl rfl | exact Or.inr rfl) (pe_callD D_law_loop_text (hr.mono (by decide)) rfl (pa_cons (pv 4) (pa_cons (pv 2) pa_nil (se rfl)) (se rfl)) (he := se rfl) (hpl := nst rfl)))
    (pss_cons (ps_set (i := 6) sc_law.nd rfl (by first | exact Or.inl rfl | exact Or.inr rfl) (pe_callD Dloop_shown (hr.mono (by decide)) rfl (pa_cons (pe_makeI MLoop (hr.mono (by decide)) rfl T.mg_Loop (pa_cons (pv 4) (pa_cons (pv 2) pa_nil (se rfl)) (se rfl)) (he := se rfl) (hpl := nst rfl)) pa_nil (se rfl)) (he := se rfl) (hpl := nst rfl)))
    (pss_cons (ps_if (PW.pt (pw_or (pt_not (pt_val (pe_callB call_isi rfl T.nisi PyProof.Rows.boot_isinstance (pa_cons (pv 6) (pa_cons (pe_bltn (v := .ty "str") rfl T.nstr PyProof.Rows.boot_str rfl) pa_nil (se rfl)) (se rfl)) (he := se rfl) (hpl := nst rfl)))) (pw_or1 (pt_cmpR op_ne (pv 6) (pv 5) (nomark _))))) (pss_one (ps_ret pe_bl)) pss_nil)
    (pss_cons (ps_for PassesOwn.never rfl (pi_range1 rfl T.nrange (pa_cons pe_int pa_nil (se rfl))) (pg_name (i := 7) sc_law.nd rfl (Or.inl rfl))
      (pss_cons (ps_set (i := 8) sc_law.nd rfl (by first | exact Or.inl rfl | exact Or.inr rfl) (pe_callD Dloop_read (hr.mono (by decide)) rfl (pa_cons (pv 5) pa_nil (se rfl)) (he := se rfl) (hpl := nst rfl)))
    (pss_cons (ps_if (PW.pt (pw_or (pt_not (pt_val (pe_callB call_isi rfl T.nisi PyProof.Rows.boot_isinstance (pa_cons (pv 8) (pa_cons (pe_glob (v := .ref _) rfl (T.mg_Loop) rfl) pa_nil (se rfl)) (se rfl)) (he := se rfl) (hpl := nst rfl)))) (pw_or (pt_not (pt_val (pe_callD D_law_whole (hr.mono (by decide)) rfl (pa_cons (pe_fld (pv 8) rfl) pa_nil (se rfl)) (he := se rfl) (hpl := nst rfl)))) (pw_or1 (pt_cmpR op_ne (pe_fld (pv 8) rfl) (pv 4) (nomark _)))))) (pss_one (ps_ret pe_bl)) pss_nil)
    (pss_one (ps_if (pt_not (pt_val (pe_callD D_law_rows_right (hr.mono (by decide)) rfl (pa_cons (pe_methI0 Mrows (pv 8) (hr.mono (by decide))) (pa_cons (pv 2) pa_nil (se rfl)) (se rfl)) (he := se rfl) (hpl := nst rfl)))) (pss_one (ps_ret pe_bl)) pss_nil)))))
    (pss_one (ps_ret (pe_cmpR op_eq (pe_callD Dloop_shown (hr.mono (by decide)) rfl (pa_cons (pe_callD Dloop_read (hr.mono (by decide)) rfl (pa_cons (pv 5) pa_nil (se rfl)) (he := se rfl) (hpl := nst rfl)) pa_nil (se rfl)) (he := se rfl) (hpl := nst rfl)) (pv 5) (nomark _)))))))))))), ?_⟩
  have lb := line_big
  walk_at "rd"
  refine ⟨a, ns, 0, rfl, hS, fun c hc => ?_⟩
  walk_at "rd"
  have bm := mod_b (c / 2) (show (0 : Int) < 12 by decide)
  obtain ⟨mn, hmn⟩ : ∃ k : Nat, 1 + c / 2 % 12 = (k : Int) := ⟨(1 + c / 2 % 12).toNat, by omega⟩
  rw [hmn]
  have hm1 : 1 ≤ mn := by omega
  have hm12 : mn ≤ 12 := by omega
  clear hmn bm
  refine ⟨c, mn, rfl, by omega, hc, fun np H1 zs s1 hnp0 hnp hzs hzl => ?_⟩
  walk_at "rd"
  refine ⟨a, np, ns, zs, rfl, hS.same s1, hnp, by omega, by omega, hzs, fun p H2 rs us s2 hp0 hp hu hrs => ?_⟩
  have s12 := s1.trans s2
  have l1 := hu.len
  have l2 := hrs.len
  walk_at "rd"
  refine ⟨a, ns, 1, rfl, hS.same s12, fun c1 hc1 => ?_⟩
  walk_at "rd"
  refine i_mul (IntMulOk.of_le hc1 hc1 (by decide)) ?_
  walk_at "rd"
  have ba := mod_b (c1 / 4) (show (0 : Int) < 1000 by decide)
  have bb := mod_b (c1 * c1) (show (0 : Int) < 10 ^ (60 : Int).toNat - 1 by decide +kernel)
  refine ⟨by show 4 ≤ sizeLine; decide, fun lp H3 hN3 => ?_⟩
  walk_at "rd"
  obtain ⟨m, hm, m2, mb⟩ := at_four (c := c1) ba.1 ba.2 bb.1 bb.2
  refine i_ixL hN3.lst hm ?_
  clear hm ba bb
  have hok : TxtOk m rs := ⟨m2, mb, by omega, by omega, fun r hr => row1_of hrs hr⟩
  have hp3 := hN3.same _ _ hp
  have hu3 := hu.same hN3.same
  walk_at "rd"
  refine ⟨p, us, m, rs, rfl, hp3, hu3, hok, fun H4 s4 => ?_⟩
  have hp4 := s4 _ _ hp3
  have hu4 := hu3.same s4
  clear hS hS0 hu hp hp3 hu3
  walk_at "rd"
  refine i_makeI ?_
  walk_at "rd"
  intro x dx hx hdx hne
  have sA : Same H4 (upd (upd H4 dx (.own x)) x (.ins (CE .Loop) dx [])) := Same.upd (Same.new hdx) (by rw [upd_ne hne.symm]; exact hx)
  have xA : upd (upd H4 dx (.own x)) x (.ins (CE .Loop) dx []) x = some (.ins (CE .Loop) dx []) := upd_same
  generalize upd (upd H4 dx (.own x)) x (.ins (CE .Loop) dx []) = HA at *
  refine ⟨x, dx, p, m, us, zs, rs, rfl, xA, m2, mb, sA _ _ hp4, hu4.same sA, hrs, hok.len1, fun k H5 hk b5 hL => ⟨rfl, ?_⟩⟩
  have s45 : Same H4 H5 := fun b u e => b5 b u (ne_of_none e hx) (sA _ _ e)
  walk_at "rd"
  refine ⟨x, k, m, rs, rfl, hL, hok, fun H6 s6 => ?_⟩
  have s46 := s45.trans s6
  have hp6 := s46 _ _ hp4
  have hu6 := hu4.same s46
  walk_at "rd"
  refine ⟨_, _, _, _, rfl, rfl, .str _, T.kSS, ?_⟩
  walk_at "rd"
  rw [decide_eq_true (show V.str (textT m rs) = V.str (textT m rs) from rfl)]
  walk_at "rd"
  dsimp only
  refine i_for (i_rng1 ?_)
  walk_at "rd"
  refine ⟨_, rfl, by decide, by decide, ?_⟩
  refine for_range (lo := 0) (n := 2) (fun i σ H' => Same H6 H' ∧ ∃ x7 x8, σ = [some (.ref a), some (.int c), some (.ref p), some (.int c1), some (.int m), some (.str (textT m rs)), some (.str (textT m rs)), x7, x8]) ⟨Same.refl _, none, none, rfl⟩ ?_ ?_
  · rintro i σ H7 hi ⟨s7, x7, x8, rfl⟩
    walk_at "rd"
    refine ⟨m, zs, rs, rfl, hok, hrs, fun y k' H8 s8 hL8 => ?_⟩
    obtain ⟨dy, fs, hy, f1, f2⟩ := hL8.insM
    have s68 := s7.trans s8
    walk_at "rd"
    refine ⟨_, _, _, _, rfl, rfl, .ins hy T.i_Loop.cl T.kOa T.kOn T.kOt T.kOm, T.kOO, ?_⟩
    walk_at "rd"
    refine i_fld ?_
    walk_at "rd"
    refine ⟨y, _, dy, fs, .int m, rfl, hy, T.i_Loop.cl, T.nM, f2, ?_⟩
    walk_at "rd"
    refine ⟨m, rfl, ?_⟩
    walk_at "rd"
    refine i_fld ?_
    walk_at "rd"
    refine ⟨y, _, dy, fs, .int m, rfl, hy, T.i_Loop.cl, T.nM, f2, ?_⟩
    walk_at "rd"
    rw [decide_eq_true (show V.int m = V.int m from rfl)]
    walk_at "rd"
    dsimp only
    refine i_methI ?_
    walk_at "rd"
    refine ⟨(), y, dy, fs, rfl, hy, f1, ?_⟩
    walk_at "rd"
    refine ⟨y, k', m, rs, rfl, hL8, fun rp ws H9 hN9 hw => ?_⟩
    have s69 := s68.trans hN9.same
    walk_at "rd"
    refine ⟨rp, p, ws, us, rs, rfl, hN9.at, s69 _ _ hp6, hw, hu6.same s69, ?_⟩
    walk_at "rd"
    exact ⟨s69, _, _, rfl⟩
  · rintro σ H7 ⟨s7, x7, x8, rfl⟩
    walk_at "rd"
    refine ⟨m, zs, rs, rfl, hok, hrs, fun y k' H8 s8 hL8 => ?_⟩
    walk_at "rd"
    refine ⟨y, k', m, rs, rfl, hL8, hok, fun H9 s9 => ?_⟩
    walk_at "rd"
    rw [decide_eq_true (show V.str (textT m rs) = V.str (textT m rs) from rfl)]
    exact q _
def Cof (a1 a2 a3 a4 a5 a6 a7 a8 a9 : Addr) : Dk → Addr
  | .sum => a1
  | .less => a2
  | .times => a3
  | .least => a4
  | .most => a5
  | .pick => a6
  | .same => a7
  | .tell => a8
  | .take => a9
def Eof (b1 : Addr) : Xk → Addr
  | .Loop => b1
theorem tp0_mk {K : PySem.W.Frag} {a1 a2 a3 a4 a5 a6 a7 a8 a9 b1 : Addr}
    (c_Sum : HasC K "Sum" a1)
    (c_Less : HasC K "Less" a2)
    (c_Times : HasC K "Times" a3)
    (c_Least : HasC K "Least" a4)
    (c_Most : HasC K "Most" a5)
    (c_Pick : HasC K "Pick" a6)
    (c_Same : HasC K "Same" a7)
    (c_Tell : HasC K "Tell" a8)
    (c_Take : HasC K "Take" a9)
    (g_Loop : PySem.W.nsIn K mainGlobals "Loop" = some (some (.ref b1))) : Tp0 K (Cof a1 a2 a3 a4 a5 a6 a7 a8 a9) (Eof b1) :=
  ⟨c_Sum, c_Less, c_Times, c_Least, c_Most, c_Pick, c_Same, c_Tell, c_Take, g_Loop⟩
theorem tp1_mk {K : PySem.W.Frag} {a1 a2 a3 a4 a5 a6 a7 a8 a9 b1 : Addr}
    (f_wa_sum : HasM K a1 "wants" "Sum.wants" st_Sum_wants)
    (f_wa_less : HasM K a2 "wants" "Less.wants" st_Less_wants)
    (f_wa_times : HasM K a3 "wants" "Times.wants" st_Times_wants)
    (f_wa_least : HasM K a4 "wants" "Least.wants" st_Least_wants)
    (f_wa_most : HasM K a5 "wants" "Most.wants" st_Most_wants)
    (f_wa_pick : HasM K a6 "wants" "Pick.wants" st_Pick_wants)
    (f_wa_same : HasM K a7 "wants" "Deed.wants" st_Deed_wants)
    (f_wa_tell : HasM K a8 "wants" "Deed.wants" st_Deed_wants)
    (f_wa_take : HasM K a9 "wants" "Take.wants" st_Take_wants)
    (i_Loop : HasCI K "Loop" b1 "Loop.__init__" st_Loop___init__)
    (f_Loop_rows : HasM K b1 "rows" "Loop.rows" st_Loop_rows)
    (w_LETTERS : HasV K "LETTERS" (.str (Str.ofString "abcdefghijklmnopqrstuvwxyz")))
    (w_MOST_LETTERS : HasV K "MOST_LETTERS" (.int 12))
    (w_MOST_ROWS : HasV K "MOST_ROWS" (.int 12))
    (w_MOST_BACK : HasV K "MOST_BACK" (.int 6))
    (w_FIGURES : HasV K "FIGURES" (.str (Str.ofString "0123456789")))
    (w_MOST_FIGURES : HasV K "MOST_FIGURES" (.int 61))
    (f_deed : HasF K "deed_of" st_deed_of)
    (f_islet : HasF K "is_lettered" st_is_lettered)
    (f_isname : HasF K "is_name" st_is_name)
    (f_cmeas : HasF K "check_measure" st_check_measure)
    (f_crows : HasF K "check_rows" st_check_rows)
    (f_chead : HasF K "check_head" st_check_head)
    (f_cread : HasF K "check_read" st_check_read)
    (f_cnum : HasF K "check_number" st_check_number)
    (f_clook : HasF K "check_look_back" st_check_look_back)
    (f_copy : HasF K "copy_of_row" st_copy_of_row)
    (f_depths : HasF K "depths_of" st_depths_of)
    (f_lshown : HasF K "loop_shown" st_loop_shown)
    (f_rshown : HasF K "read_shown" st_read_shown)
    (f_lread : HasF K "loop_read" st_loop_read)
    (f_clines : HasF K "check_loop_lines" st_check_loop_lines)
    (f_lines : HasF K "lines_of" st_lines_of)
    (f_mline : HasF K "is_measure_line" st_is_measure_line)
    (f_rline : HasF K "is_row_line" st_is_row_line)
    (f_isread : HasF K "is_read" st_is_read) : Tp1 K (Cof a1 a2 a3 a4 a5 a6 a7 a8 a9) (Eof b1) :=
  ⟨f_wa_sum, f_wa_less, f_wa_times, f_wa_least, f_wa_most, f_wa_pick, f_wa_same, f_wa_tell, f_wa_take, i_Loop, f_Loop_rows, w_LETTERS, w_MOST_LETTERS, w_MOST_ROWS, w_MOST_BACK, w_FIGURES, w_MOST_FIGURES, f_deed, f_islet, f_isname, f_cmeas, f_crows, f_chead, f_cread, f_cnum, f_clook, f_copy, f_depths, f_lshown, f_rshown, f_lread, f_clines, f_lines, f_mline, f_rline, f_isread⟩
theorem tp2_mk {K : PySem.W.Frag} {a1 a2 a3 a4 a5 a6 a7 a8 a9 b1 : Addr}
    (f_figs : HasF K "is_figures" st_is_figures)
    (f_rowof : HasF K "row_of" st_row_of)
    (f_readof : HasF K "read_of" st_read_of)
    (f_cell : HasF K "_law_cell_at" st_law_cell_at)
    (f_whole : HasF K "_law_whole" st_law_whole)
    (f_words : HasF K "_law_words" st_law_words)
    (f_sumat : HasF K "_law_sum_at" st_law_sum_at)
    (f_names : HasF K "_law_names" st_law_names)
    (f_read : HasF K "_law_read" st_law_read)
    (f_rows : HasF K "_law_rows" st_law_rows)
    (f_text : HasF K "_law_loop_text" st_law_loop_text)
    (f_right : HasF K "_law_rows_right" st_law_rows_right)
    (z_len : PySem.W.nsIn K mainGlobals "len" = some none)
    (z_isinstance : PySem.W.nsIn K mainGlobals "isinstance" = some none)
    (z_int : PySem.W.nsIn K mainGlobals "int" = some none)
    (z_bool : PySem.W.nsIn K mainGlobals "bool" = some none)
    (z_range : PySem.W.nsIn K mainGlobals "range" = some none)
    (z_min : PySem.W.nsIn K mainGlobals "min" = some none)
    (z_max : PySem.W.nsIn K mainGlobals "max" = some none)
    (z_list : PySem.W.nsIn K mainGlobals "list" = some none)
    (z_tuple : PySem.W.nsIn K mainGlobals "tuple" = some none)
    (z_str : PySem.W.nsIn K mainGlobals "str" = some none)
    (z_all : PySem.W.nsIn K mainGlobals "all" = some none)
    (z_sum : PySem.W.nsIn K mainGlobals "sum" = some none)
    (z_enumerate : PySem.W.nsIn K mainGlobals "enumerate" = some none)
    (kII : PySem.W.kitOne K (.type "int") (.type "int") = some true)
    (kIB : PySem.W.kitOne K (.type "int") (.type "bool") = some false)
    (kTT : PySem.W.kitOne K (.type "tuple") (.type "tuple") = some true)
    (kTI : PySem.W.kitOne K (.type "tuple") (.type "int") = some false)
    (kIT : PySem.W.kitOne K (.type "int") (.type "tuple") = some false)
    (kLL : PySem.W.kitOne K (.type "list") (.type "list") = some true)
    (kSS : PySem.W.kitOne K (.type "str") (.type "str") = some true)
    (kOO : PySem.W.kitOne K (.ref b1) (.ref b1) = some true)
    (kOa : PySem.W.findIn K (.ref b1) "__class__" = some (some (.builtin "object.__class__")))
    (kOn : PySem.W.specialIn K (.builtin "object.__class__") "__get__" = some (some (.builtin "getset_descriptor.__get__")))
    (kOt : PySem.W.takesIn K (.builtin "object.__class__") = some true) : Tp2 K (Cof a1 a2 a3 a4 a5 a6 a7 a8 a9) (Eof b1) :=
  ⟨f_figs, f_rowof, f_readof, f_cell, f_whole, f_words, f_sumat, f_names, f_read, f_rows, f_text, f_right, z_len, z_isinstance, z_int, z_bool, z_range, z_min, z_max, z_list, z_tuple, z_str, z_all, z_sum, z_enumerate, kII, kIB, kTT, kTI, kIT, kLL, kSS, kOO, kOa, kOn, kOt⟩
theorem tp3_mk {K : PySem.W.Frag} {a1 a2 a3 a4 a5 a6 a7 a8 a9 b1 : Addr}
    (kOm : PySem.W.mroIn K b1 (.type "object") = some true)
    (nM : NoAttr K b1 "measure")
    (nK : NoAttr K b1 "kept")
    (nD : NoAttr K b1 "depths") : Tp3 K (Cof a1 a2 a3 a4 a5 a6 a7 a8 a9) (Eof b1) :=
  ⟨kOm, nM, nK, nD⟩
theorem all_mk {l : PySem.W.OpenLaw} {w : World} {K : PySem.W.Frag} {h : Heap} {mg : Str → Option Value} {fa : Addr} {a1 a2 a3 a4 a5 a6 a7 a8 a9 b1 : Addr} (X : K.In h) (G : h.Ns mainGlobals mg) (hfa : mg "law" = some (.ref fa)) (fl : HasF K "law" st_law)
    (t0 : Tp0 K (Cof a1 a2 a3 a4 a5 a6 a7 a8 a9) (Eof b1)) (t1 : Tp1 K (Cof a1 a2 a3 a4 a5 a6 a7 a8 a9) (Eof b1)) (t2 : Tp2 K (Cof a1 a2 a3 a4 a5 a6 a7 a8 a9) (Eof b1)) (t3 : Tp3 K (Cof a1 a2 a3 a4 a5 a6 a7 a8 a9) (Eof b1)) :
    ∃ fd : FuncData, (∀ (s : Shared) (v : Value), BindsTo s fd ⟨[v], []⟩ [("_law_script", v)]) ∧ ∀ (base : Heap) (ns : List Int), K.In base → base.Ns mainGlobals mg → ns.length ≤ 63 → (∀ i ∈ ns, Builtin.Int.intBits i ≤ 1048576) → FnOk l.prog w K mg base CX0 8 fa fd ["_law_script"] (spLaw K ns) := by
  obtain ⟨f, fdd, a, F⟩ := fl.ex
  have e := hfa.symm.trans (PySem.W.mg_of X G a)
  cases e
  have T := (Tp.mk t0 t1 t2 t3).txt X G
  refine ⟨fdd, fun s v => ?_, fun base ns kb nb hl hb => ok_law T F kb nb hl hb⟩
  obtain ⟨oc, od, kV, doc, pm, an, cdv, ct, osl, rfl, lk, hcd⟩ := F.ex
  exact .of_eq rfl
theorem walk {l : PySem.W.OpenLaw} {q : Program} {loose : List Str} {XP : (Str → Option Value) → Heap → Prop} {YP : World → Heap → Prop} {d : DefRec} {K : Params → PySem.W.Frag} (hn : l.most = some 63) (hdf : d.params.defaults = [])
    (hY : ∀ (w : World) (h : Heap), YP w h → (K w.params).In h)
    (F : ∀ (w : World) (mg : Str → Option Value) (fa : Addr) (h : Heap), (K w.params).In h → h.Ns mainGlobals mg → mg d.name = some (.ref fa) →
      ∃ fd : FuncData, (∀ (s : Shared) (u : Value), BindsTo s fd ⟨[u], []⟩ [("_law_script", u)]) ∧ ∀ (base : Heap) (ns : List Int), (K w.params).In base → base.Ns mainGlobals mg → ns.length ≤ 63 → (∀ i ∈ ns, Builtin.Int.intBits i ≤ 1048576) → FnOk l.prog w (K w.params) mg base CX0 8 fa fd ["_law_script"] (spLaw (K w.params) ns)) :
    PySem.W.WalkO q loose XP YP l.row.toRowW d [] (fun f vs => PySem.call f vs) :=
  L2.walk_bits (n := 63) (k := 8) (x := "_law_script") (CX := fun _ => CX0) (sp := fun w ns => spLaw (K w.params) ns) hn (by decide) hdf ⟨rfl, by decide, by decide⟩ hY F (fun _ _ a ns hl hb _ hS => ⟨a, rfl, hS, fun _ => rfl⟩) fun _ _ _ _ _ z => z
end
end Lap
local macro_rules | `(tactic| walk_at "lapC") => `(tactic| (refine' L2.hasC_mk ?a ?pg ?hd ?po ?sa ?mk ?i ?kc; (case a => k_is); (case pg => k_is); (case hd => k_is); (case po => k_is); (case sa => k_is); (case mk => k_is); (case i => k_is); (case kc => k_is)))
local macro_rules | `(tactic| walk_at "lapM") => `(tactic| (refine' L2.hasM_mk ?a ?i ?l ?c ?k; (case a => k_is); (case i => k_is); (case l => k_is); (case c => k_is); (case k => k_is)))
local macro_rules | `(tactic| walk_at "lapF") => `(tactic| (refine' L2.hasF_mk ?a ?l ?c ?k; (case a => k_is); (case l => k_is); (case c => k_is); (case k => k_is)))
local macro_rules | `(tactic| walk_at "lapX") => `(tactic| (refine' L2.HasX.mk ?a ?e (L2.XCls.mk ?x1 ?x2 ?x3 ?x4 ?x5 ?x6 ?x7); (case a => k_is); (case e => k_exc); (case x1 => k_is); (case x2 => k_is); (case x3 => k_is); (case x4 => k_is); (case x5 => k_is); (case x6 => k_is); (case x7 => k_is)))
local macro_rules | `(tactic| walk_at "lapI") => `(tactic| (refine' L2.hasCI_mk ?a ?pg ?hd ?po ?sa ?mk ?i ?fn ?kc ?l ?c ?k; (case a => k_is); (case pg => k_is); (case hd => k_is); (case po => k_is); (case sa => k_is); (case mk => k_is); (case i => k_is); (case fn => k_is); (case kc => k_is); (case l => k_is); (case c => k_is); (case k => k_is)))
local macro_rules | `(tactic| walk_at "lapV") => `(tactic| first | (refine' L2.hasV_int ?a; (case a => k_is)) | (refine' L2.hasV_str ?a; (case a => k_is)))
namespace PySem.W.Fast
def tw17380275606723219861:=()
def tw7943241328583080728:=()
def tw16805190619403650753:=()
def tw16347466983882732019:=()
def tw15738430849366851793:=()
def tw17334434578560255583:=()
def tw12100489330885693868:=()
def tw963198780475335398:=()
def tw18115540665465676519:=()
def tw906874661383707732:=()
def tw13985054553805241683:=()
def tw5062139066922449892:=()
def tw735903956675335168:=()
def tw18239702966885524512:=()
def tw15536737136813354080:=()
def tw6723277492628228224:=()
def tw14843253740720348288:=()
def tw12620182197997372576:=()
def tw17176025033558419648:=()
def tw18407637146143698144:=()
def tw9990135251432534240:=()
def tw16550240122611996928:=()
def tw13478956313322815872:=()
def tw152179476265706880:=()
def tw12091308887426575744:=()
def tw11989560482333798784:=()
def tw16643341862383088064:=()
def tw11993024652371344864:=()
def tw15401556683121892864:=()
def tw2710064502117643776:=()
def tw1246202056922707616:=()
def tw13725570962547019552:=()
def tw1380566312926255904:=()
def tw9694979085428577056:=()
def tw10649517504120676128:=()
def tw15038035335084017472:=()
def tw18082378777444868928:=()
def tw1204674210297963328:=()
def tw14908160545085100928:=()
def tw14617766195656820640:=()
def tw2829544451259225056:=()
def tw958085953413287041:=()
def tw9082383904326914305:=()
def tw1635432983685844225:=()
def tw11428489473071307009:=()
def tw4278582673529122113:=()
def tw7060762507337602401:=()
def tw7695765219039990113:=()
def tw5939205063784735105:=()
def tw10563262559149023617:=()
def tw4351452050658122145:=()
def tw15698423708059494849:=()
def tw17692174293608083969:=()
def tw9593626973213292033:=()
def tw7776989594228037249:=()
def tw4742291139214312161:=()
def tw4545648730122392353:=()
def tw14833839578804071265:=()
def tw35782515388334017:=()
def tw7155708765509424226:=()
def tw13969842463714189410:=()
def tw13589065686467539042:=()
def tw14762133329830793378:=()
def tw6521405517914361058:=()
def tw8351155344608638178:=()
def tw12251438550386821378:=()
def tw6738160595653717250:=()
def tw11115583717532804386:=()
def tw16403435799309454690:=()
def tw164110162069961058:=()
def tw17964655752935930210:=()
def tw11107770165799911810:=()
def tw15939463541652300290:=()
def tw10439167225852211874:=()
def tw16083363760047943362:=()
def tw15630479098253670082:=()
def tw9222313411104122594:=()
def tw16578228620765678306:=()
def tw13564018469993610978:=()
def tw11897062042992840450:=()
def tw13938589025746522882:=()
def tw8282751002649710338:=()
def tw12093702976809282402:=()
def tw991461536121624482:=()
def tw13887279102955035715:=()
def tw6285374691345211491:=()
def tw18060941553624800355:=()
def tw6007653712598784131:=()
def tw15818393674335344771:=()
def tw8821246140838467747:=()
def tw16460372337667095779:=()
def tw17525541560923802883:=()
def tw12583653038179605763:=()
def tw9686407025821211939:=()
def tw5344414066891022659:=()
def tw9455007108382220643:=()
def tw17443914206494247299:=()
def tw13332444240793816451:=()
def tw16666746648752427427:=()
def tw15129901439261791715:=()
def tw7752115920313992707:=()
def tw10397583360530812483:=()
def tw13846144051567484483:=()
def tw7925880230971952803:=()
def tw14113559402313764643:=()
def tw10230002843224118147:=()
def tw16273147252190615427:=()
def tw16892786108986115011:=()
def tw16279649983424659395:=()
def tw12618452025698590820:=()
def tw5403136586238183524:=()
def tw1295928803770784932:=()
def tw16038499606419901636:=()
def tw693560782163688676:=()
def tw14532649217264659716:=()
def tw15710205442698239268:=()
def tw1368470245640464676:=()
def tw13673963993241635140:=()
def tw2615379467649115492:=()
def tw5801315376217322852:=()
def tw2392222610981689764:=()
def tw9242279696380210660:=()
def tw8683090811349561892:=()
def tw4249052236255020644:=()
def tw11514358073520179812:=()
def tw6424377712236841572:=()
def tw13701494825720179300:=()
def tw13649806973635784388:=()
def tw12897436042816182020:=()
def tw17063821033112122148:=()
def tw7407424346621020996:=()
def tw11156655147060848452:=()
def tw4883070692157126500:=()
def tw3115591244137169796:=()
def tw7544239143722129284:=()
def tw13791319865884098500:=()
def tw12883882130533086148:=()
def tw8256193251838432261:=()
def tw422728199540436005:=()
def tw854846314302300261:=()
def tw6723635734169983237:=()
def tw421152214542228773:=()
def tw10948277073051791653:=()
def tw5674736031143834917:=()
def tw418118609029969189:=()
def tw9601370572883033477:=()
def tw17641843920422269349:=()
def tw14447410525072580101:=()
def tw6310777058257953285:=()
def tw6131522034296823333:=()
def tw18313116383996252773:=()
def tw601414904039857765:=()
def tw2775184779954883205:=()
def tw15048461543023743621:=()
def tw17456628598592454277:=()
def tw4568666186583803589:=()
def tw4063749676501350117:=()
def tw17340039901820014309:=()
def tw17624417638174052101:=()
def tw2152718669502112517:=()
def tw10571463706889478917:=()
def tw7030064529093217061:=()
def tw5636716901730387781:=()
def tw15175618981166127941:=()
def tw10764252967018052421:=()
def tw16398644179219279685:=()
def tw674184890327213957:=()
def tw2750305611702333317:=()
def tw6350037834206303173:=()
def tw14964802735892925381:=()
def tw4863373021538399205:=()
def tw3095543105441747941:=()
def tw7594897552183928838:=()
def tw11390847283280064518:=()
def tw3642440437922742278:=()
def tw12065155702861399078:=()
def tw13233921408555020358:=()
def tw9555840498237248806:=()
def tw17891819976339554630:=()
def tw18188497289528313222:=()
def tw5476019933176706470:=()
def tw16418160949533913574:=()
def tw5293544224918437350:=()
def tw14224620918305933830:=()
def tw14834974133094625958:=()
def tw8865643487596580550:=()
def tw16339827730526699238:=()
def tw18363570304777594630:=()
def tw7418666574407080742:=()
def tw13262845485494859558:=()
def tw18315843877867146054:=()
def tw3653170029086808934:=()
def tw11831605336918105030:=()
def tw17213638482330959814:=()
def tw14099721982168851463:=()
def tw2615748853609833511:=()
def tw5946558611714889831:=()
def tw14619379396728750279:=()
def tw9462145137537677607:=()
def tw13101388996032344423:=()
def tw18182051665987086759:=()
def tw15813673002734536199:=()
def tw10917124551629998663:=()
def tw1436464998370806343:=()
def tw12645016269809924711:=()
def tw6142746526779988647:=()
def tw14827369443561243335:=()
def tw14644742157170487015:=()
def tw14192792077737538279:=()
def tw9595947789151119111:=()
def tw7948008620175371047:=()
def tw3452881279536195367:=()
def tw1781354912731005767:=()
def tw17725916866233914183:=()
def tw12223101409646494599:=()
def tw18397594728386398119:=()
def tw15761933425829493703:=()
def tw12573658438687219687:=()
def tw9763811481491944456:=()
def tw1855646741707782152:=()
def tw59707089033008168:=()
def tw3327760669368219688:=()
def tw12315037700643509448:=()
def tw11219646065177067752:=()
def tw1377598385766647048:=()
def tw10784538820662861096:=()
def tw393342144859788584:=()
def tw15720448539885738376:=()
def tw13144043004890599880:=()
def tw5916112289410790920:=()
def tw11555191062286026408:=()
def tw4160982606819628744:=()
def tw6926818495244020456:=()
def tw3286375522252977928:=()
def tw4458829300329906120:=()
def tw7206108006924725224:=()
def tw13919807729933622281:=()
def tw7323393382079094793:=()
def tw7417162877411357769:=()
def tw6668112876911568105:=()
def tw3686272582256993609:=()
def tw12806585038033393033:=()
def tw14625198494485130633:=()
def tw2444085019821203849:=()
def tw5921540689143595497:=()
def tw3197967653144706569:=()
def tw803330501599259241:=()
def tw15729067788920224393:=()
def tw9675720146401498793:=()
def tw13123971693657165705:=()
def tw9754602779071985545:=()
def tw630768700701768649:=()
def tw614779897498440714:=()
def tw8536777796817627146:=()
def tw13389717594281666570:=()
def tw16701386841214998570:=()
def tw14982399957805349994:=()
def tw4602731616555365578:=()
def tw2169893338351940842:=()
def tw1075652354219622730:=()
def tw12566737622012892586:=()
def tw9208177473276454314:=()
def tw14304628375651398058:=()
def tw4532127338410494410:=()
def tw11035794908691072490:=()
def tw4946164633566942698:=()
def tw15040896406494064106:=()
def tw16862063603477886474:=()
def tw2305308957037674058:=()
def tw9272459309716851274:=()
def tw12017556263763699274:=()
def tw12100877368098120330:=()
def tw10192909301432579754:=()
def tw11530270243486601930:=()
def tw15904809525797242570:=()
def tw18441339438633307914:=()
def tw8947407241254998922:=()
def tw1923727966744016810:=()
def tw15550887014260906059:=()
def tw5429856139058187371:=()
def tw13103312651640306827:=()
def tw968184194194076843:=()
def tw909732602774459595:=()
def tw5017148699540815083:=()
def tw13942376629164218635:=()
def tw17567646860038287659:=()
def tw11860231335810746763:=()
def tw6023794975151744459:=()
def tw7202210658556403179:=()
def tw3955779541937254891:=()
def tw5990389458596106859:=()
def tw3202778905107478187:=()
def tw15009848973980743339:=()
def tw15702321389952188267:=()
def tw6583433468436586379:=()
def tw14453485698843565003:=()
def tw13456885368970808299:=()
def tw11848718057181645900:=()
def tw3335079244422082668:=()
def tw13313932076380355692:=()
def tw11195136241841084588:=()
def tw11205476388288800972:=()
def tw16346989773562664172:=()
def tw3200142224449544524:=()
def tw11113472233405747564:=()
def tw14103147281516088716:=()
def tw2365926754046154156:=()
def tw10171225901494448588:=()
def tw5614309825087285708:=()
def tw18420436192986338828:=()
def tw7774540278509854252:=()
def tw8667416427927078508:=()
def tw14642500440341767788:=()
def tw8438077970698767020:=()
def tw17516429362848783052:=()
def tw14013472368751327980:=()
def tw14613545135806084876:=()
def tw10179486225686234924:=()
def tw15528009043058615116:=()
def tw4623165005238324108:=()
def tw4742294522208237484:=()
def tw13622143894584726508:=()
def tw7079130792505417708:=()
def tw973662136146121741:=()
def tw13408401290963189805:=()
def tw8305693486143391821:=()
def tw14937709580355697869:=()
def tw13248353090838212845:=()
def tw3349553470187052365:=()
def tw14407934975649063277:=()
def tw7029091732763818381:=()
def tw8801634510436409837:=()
def tw14661786585358332397:=()
def tw15178876144433086989:=()
def tw4957552271217419853:=()
def tw3319336569235911309:=()
def tw3852794217315188365:=()
def tw6404988063221372589:=()
def tw9411174480824885933:=()
def tw2966724498331647693:=()
def tw1840790613542300365:=()
def tw2570025258714389325:=()
def tw2125577689492065133:=()
def tw8091151550179487661:=()
def tw17131444760300778445:=()
def tw9024694596683787245:=()
def tw11790731360570224654:=()
def tw2676122832472504366:=()
def tw11087697078145633390:=()
def tw6346455786341433486:=()
def tw16571863162181461166:=()
def tw14649263638672898318:=()
def tw6906319470088307086:=()
def tw8249167056594880910:=()
def tw12611637743815663022:=()
def tw5170919728007654830:=()
def tw1520208383601850798:=()
def tw6183445633805819374:=()
def tw10146469663714359790:=()
def tw5869171849719733774:=()
def tw14847283881686303278:=()
def tw927434623202097710:=()
def tw16456564720246052430:=()
def tw1148223406485679726:=()
def tw17807849358858043022:=()
def tw4179048621440540366:=()
def tw18441197245078965998:=()
def tw12329626847614116686:=()
def tw11059576217748687790:=()
def tw17447429591964475535:=()
def tw8461470278810952879:=()
def tw4003853847016844495:=()
def tw15671545104692923631:=()
def tw1558529959512796431:=()
def tw13722891200740466991:=()
def tw1220329654413992271:=()
def tw8071107803093587279:=()
def tw9616142353406095727:=()
def tw2108510073044058511:=()
def tw17416545027924001263:=()
def tw18086312503464044047:=()
def tw6871107389463610959:=()
def tw9596755074120389295:=()
def tw5968047305329516271:=()
def tw14221430659473003279:=()
def tw1028517227876408079:=()
def tw2123713879581797295:=()
def tw145916964494227472:=()
def tw16534173428636414032:=()
def tw34219416655280240:=()
def tw12389192863625227440:=()
def tw2655577517901931696:=()
def tw2773865381997420784:=()
def tw6931000809216521456:=()
def tw12613122449291342096:=()
def tw7247679610670130480:=()
def tw13545770378022210896:=()
def tw2879088453791096176:=()
def tw14373895705674832240:=()
def tw5673570537417701744:=()
def tw15081395911265736080:=()
def tw8076226147831968144:=()
def tw6896940080602856880:=()
def tw15178639070539739696:=()
def tw14143388391196279376:=()
def tw5517187197867978320:=()
def tw199009966347264624:=()
def tw11200694566923572912:=()
def tw4393250794686293712:=()
def tw2184284284647519952:=()
def tw1842879926032226000:=()
def tw10274699896345511664:=()
def tw353177903770887920:=()
def tw5260575304327011088:=()
def tw11315182301663638288:=()
def tw15189074449628583792:=()
def tw7113711063074532208:=()
def tw509369405278624656:=()
def tw11990840847836048272:=()
def tw5037657787244351601:=()
def tw11810503325738848433:=()
def tw94340366197512369:=()
def tw3904557370547534001:=()
def tw17010637880797228241:=()
def tw7886321425875791121:=()
def tw10761474654087594321:=()
def tw111443506339060081:=()
def tw5852701640120836465:=()
def tw16926449802888853969:=()
def tw2464590506526846449:=()
def tw15256151839641785841:=()
def tw10325551438444305969:=()
def tw2558780025247026737:=()
def tw4782558570411279953:=()
def tw1783256862933363313:=()
def tw17755440645477905041:=()
def tw16936639860268413713:=()
def tw690073465573585713:=()
def tw1147053441016606641:=()
def tw5547688559905914865:=()
def tw10507870525663389746:=()
def tw5078143551989757010:=()
def tw15486056882107889810:=()
def tw16207412949457654930:=()
def tw4621287001731798194:=()
def tw5347751568659719378:=()
def tw9304804436484289746:=()
def tw14991144921957339378:=()
def tw14299314061203539282:=()
def tw4750455798173908370:=()
def tw14889160189416016306:=()
def tw7393660033018509746:=()
def tw7821941109680266674:=()
def tw17214152174287332818:=()
def tw7860236567437228498:=()
def tw1510519259167215058:=()
def tw17969313198895200786:=()
def tw11367569710163873362:=()
def tw14898864962758513298:=()
def tw16471162087612948114:=()
def tw10872669942163999538:=()
def tw2597990610678731666:=()
def tw351744129765336018:=()
def tw1854956332792408018:=()
def tw10292503210272051251:=()
def tw14680661919636662355:=()
def tw17979666916659113075:=()
def tw14981061496861899955:=()
def tw5298604437776154803:=()
def tw14512216288937802995:=()
def tw15666704350976045363:=()
def tw12574185312792643923:=()
def tw14693952950688463219:=()
def tw17410124888535027059:=()
def tw2538927787026500979:=()
def tw14178731743750115699:=()
def tw16091989709672473011:=()
def tw8914201192628464115:=()
def tw2925990532556587635:=()
def tw18212765544615339731:=()
def tw8539207042921723699:=()
def tw15139103098374304627:=()
def tw8957258915003945875:=()
def tw4963642124475610035:=()
def tw10116724272129507251:=()
def tw8047929427341379539:=()
def tw13243796122427737043:=()
def tw7522839683906569203:=()
def tw1571340046609183731:=()
def tw5589342276717172788:=()
def tw4842503671501874292:=()
def tw8543562554653732980:=()
def tw337615484195540180:=()
def tw11443634654923583732:=()
def tw3538690188820445460:=()
def tw3822526907323219252:=()
def tw2759654281015027060:=()
def tw13781609286650036692:=()
def tw14683919981590845940:=()
def tw7469125395074982388:=()
def tw1404176682473829940:=()
def tw11436629427533065876:=()
def tw12477238985862839988:=()
def tw512731923316711188:=()
def tw5999192458354206484:=()
def tw12438518337681592116:=()
def tw14418104408413481812:=()
def tw8606467508456208244:=()
def tw11742457145859636116:=()
def tw14016059412594502580:=()
def tw1905930705405461428:=()
def tw12471248263606500308:=()
def tw4988576024940418069:=()
def tw16004902339757432853:=()
def tw17256866452103017525:=()
def tw17333064870508051541:=()
def tw4626875153025240213:=()
def tw9320105369582275829:=()
def tw583985388080044341:=()
def tw5851381417954997653:=()
def tw14057600893444421013:=()
def tw4208292093196181941:=()
def tw570625213423823349:=()
def tw2697570542852181653:=()
def tw13239627543943405205:=()
def tw15324795367480541941:=()
def tw4321380723997463285:=()
def tw1496060930549810997:=()
def tw6964920581083381557:=()
def tw3643016391460344661:=()
def tw11957368473437766549:=()
def tw10501822691759622133:=()
def tw7947427500880721909:=()
def tw7308016998300630038:=()
def tw7469496181919843382:=()
def tw1651529633485650006:=()
def tw8161648910456204470:=()
def tw14124143684133098742:=()
def tw13132627036908382454:=()
def tw14218270952953789718:=()
def tw3768448422387732758:=()
def tw10827669436449893686:=()
def tw17388430876380800342:=()
def tw10038105673847493974:=()
def tw4091162742961416662:=()
def tw8864242255248491030:=()
def tw2212208652478385942:=()
def tw7621545413435608950:=()
def tw12615444192189991830:=()
def tw6356010325667461207:=()
def tw18184917925494778999:=()
def tw953746162599464151:=()
def tw8745325566492997943:=()
def tw5183088061704209879:=()
def tw16264080133765942775:=()
def tw6772343456330611191:=()
def tw15492017915783566007:=()
def tw15168267088251441879:=()
def tw7020555372289003351:=()
def tw15354673314032907095:=()
def tw5640838568113602391:=()
def tw11979891744639524727:=()
def tw11827350029109736311:=()
def tw14021367680790514551:=()
def tw11370862606711153559:=()
def tw9349895748051168247:=()
def tw8628760828310892664:=()
def tw16644329922066281624:=()
def tw16330697799460961528:=()
def tw2666020768076555512:=()
def tw18066845478821444920:=()
def tw12826112350405175640:=()
def tw17140982876905625944:=()
def tw5281143866554441080:=()
def tw187611393751484888:=()
def tw10354812881678785016:=()
def tw18413218660912758264:=()
def tw13605064581399878232:=()
def tw11075974635694442072:=()
def tw13660445619561270904:=()
def tw15235890049077803640:=()
def tw377846417359775480:=()
def tw1616949672654292728:=()
def tw17324653421612037880:=()
def tw13389996563060902712:=()
def tw13376766099252637560:=()
def tw11736741802520032184:=()
def tw11113551421542153176:=()
def tw14415109627121843225:=()
def tw9353449997488682105:=()
def tw6436806190158683289:=()
def tw968596315408822489:=()
def tw2471304490425151737:=()
def tw18333228073827729689:=()
def tw16741182723396049177:=()
def tw3902237174073995545:=()
def tw6730653649921357081:=()
def tw11083709285536675129:=()
def tw17450361662939322681:=()
def tw16611826244354489689:=()
def tw7851359328676960601:=()
def tw2766526091586340217:=()
def tw14900363140501908953:=()
def tw6500978875236263417:=()
def tw2436586753964241401:=()
def tw3678179878144960249:=()
def tw4565124754421004057:=()
def tw7998063770162943769:=()
def tw16420284520105124665:=()
def tw10671605855602212697:=()
def tw9706709388852038521:=()
def tw8469690966947964825:=()
def tw7266811062351113113:=()
def tw1909362117454550937:=()
def tw10269922906550088922:=()
def tw11267820149921420538:=()
def tw379386681650375002:=()
def tw3133741581316019706:=()
def tw15090293022405915130:=()
def tw17767889708575774234:=()
def tw13962301998907194906:=()
def tw14563909811059462746:=()
def tw16450489131474821850:=()
def tw8189066652227052346:=()
def tw3062476534736933690:=()
def tw14920194508340691930:=()
def tw6402007032831302650:=()
def tw13997212110407952378:=()
def tw4627524093193838651:=()
def tw7349938119178081403:=()
def tw102863719556581531:=()
def tw18288206826934805659:=()
def tw10431164722823020859:=()
def tw8402552252490842459:=()
def tw9771204212625191259:=()
def tw9318425236813243:=()
def tw17825514158384453083:=()
def tw8941037183332249051:=()
def tw15716186108361759227:=()
def tw12094130715000870427:=()
def tw14978312718539792923:=()
def tw13414425294963412635:=()
def tw791996406260509339:=()
def tw5078826440963002171:=()
def tw11755223289410347867:=()
def tw12070288239036561371:=()
def tw14413216893884596187:=()
def tw14488118778766935035:=()
def tw4608641929255604219:=()
def tw1669526011892666492:=()
def tw8316278703405443196:=()
def tw2444271895529958524:=()
def tw4085150621663890684:=()
def tw12263735617523043612:=()
def tw5556643872749379868:=()
def tw15997560467925670204:=()
def tw7047119089255427452:=()
def tw11588584658766302620:=()
def tw15595758813912405532:=()
def tw16772130273297581596:=()
def tw6961814892688306780:=()
def tw7891378177111144060:=()
def tw830284770032303740:=()
def tw17077027464836527772:=()
def tw17557689356349359804:=()
def tw15337624301592838876:=()
def tw16521811020936269532:=()
def tw4047705274436236028:=()
def tw4652575788056820476:=()
def tw6372479438959041372:=()
def tw4093478296620030972:=()
def tw5963721725554423837:=()
def tw1819564073901717533:=()
def tw14223844083604625501:=()
def tw2187793004690756797:=()
def tw16207281122685098205:=()
def tw1052862000520536285:=()
def tw8550561539615476029:=()
def tw17104210321534003581:=()
def tw11498824113722120573:=()
def tw7393502221715192221:=()
def tw15679712029031899613:=()
def tw18192171203989164509:=()
def tw211356990320875005:=()
def tw11880996664952602205:=()
def tw8907596130279685725:=()
def tw15204677286153930429:=()
def tw10269472983589783325:=()
def tw2952426188446773021:=()
def tw16852179538725790525:=()
def tw8962808365856208733:=()
def tw118155629367703389:=()
def tw15025393456996611965:=()
def tw13532751572673141661:=()
def tw1118597618090923997:=()
def tw784387948983623677:=()
def tw3150981410648940541:=()
def tw1444454533944297469:=()
def tw8261626015448729662:=()
def tw6092299309108708446:=()
def tw13244256148220563550:=()
def tw6349546335018236062:=()
def tw653434099866009822:=()
def tw6998327062990618878:=()
def tw1660987377636837694:=()
def tw12456471167460939070:=()
def tw12193875304642258238:=()
def tw5273053522497848670:=()
def tw12501086149691266398:=()
def tw11821782398124775870:=()
def tw6935687841053800926:=()
def tw15305583726408001022:=()
def tw8196679996270947870:=()
def tw3728725590599920190:=()
def tw4792191295997892190:=()
def tw12299332112721841790:=()
def tw10972400630184514206:=()
def tw13826269345517042494:=()
def tw2721116504823885662:=()
def tw17316425116969320350:=()
def tw7133355023922171870:=()
def tw13554922987335173118:=()
def tw7223501181259432958:=()
def tw10131201737015060607:=()
def tw5464408178192286879:=()
def tw9870021178363896063:=()
def tw1474824398926784799:=()
def tw14586451815468579103:=()
def tw14323308833131621695:=()
def tw5272427820984737119:=()
def tw13380569048830490047:=()
def tw13526678287882727903:=()
def tw924897773919799871:=()
def tw14561182768394246719:=()
def tw13331614743238132511:=()
def tw11814444762117211999:=()
def tw2209034022722092927:=()
def tw16627919594655335359:=()
def tw4245953252610927615:=()
end PySem.W.Fast
open PySem PySem.W PyProof.Rows
set_option maxRecDepth 100000 in
set_option maxHeartbeats 0 in
theorem PySem.Challenge.cw_lapwork_k71_loops_shown_and_read_holds : PySem.Challenge.rw_lapwork_k71_loops_shown_and_read.Holds := by
  w_on; o_law; k_head; (case hw => w_witness2)
  k_fill
  refine Lap.walk (l := PySem.Challenge.rw_lapwork_k71_loops_shown_and_read) rfl rfl (fun w h Y => PySem.W.kIn_of Y) ?F
  case F =>
    intro w mg fa h KX G hmg
    refine' Lap.all_mk KX G hmg ?fl ?t0 ?t1 ?t2 ?t3
    (case fl => walk_at "lapF")
    (case t0 =>
      refine' Lap.tp0_mk ?c_Sum ?c_Less ?c_Times ?c_Least ?c_Most ?c_Pick ?c_Same ?c_Tell ?c_Take ?g_Loop
      (case c_Sum => walk_at "lapC")
      (case c_Less => walk_at "lapC")
      (case c_Times => walk_at "lapC")
      (case c_Least => walk_at "lapC")
      (case c_Most => walk_at "lapC")
      (case c_Pick => walk_at "lapC")
      (case c_Same => walk_at "lapC")
      (case c_Tell => walk_at "lapC")
      (case c_Take => walk_at "lapC")
      (case g_Loop => k_is))
    (case t1 =>
      refine' Lap.tp1_mk ?f_wa_sum ?f_wa_less ?f_wa_times ?f_wa_least ?f_wa_most ?f_wa_pick ?f_wa_same ?f_wa_tell ?f_wa_take ?i_Loop ?f_Loop_rows ?w_LETTERS ?w_MOST_LETTERS ?w_MOST_ROWS ?w_MOST_BACK ?w_FIGURES ?w_MOST_FIGURES ?f_deed ?f_islet ?f_isname ?f_cmeas ?f_crows ?f_chead ?f_cread ?f_cnum ?f_clook ?f_copy ?f_depths ?f_lshown ?f_rshown ?f_lread ?f_clines ?f_lines ?f_mline ?f_rline ?f_isread
      (case f_wa_sum => walk_at "lapM")
      (case f_wa_less => walk_at "lapM")
      (case f_wa_times => walk_at "lapM")
      (case f_wa_least => walk_at "lapM")
      (case f_wa_most => walk_at "lapM")
      (case f_wa_pick => walk_at "lapM")
      (case f_wa_same => walk_at "lapM")
      (case f_wa_tell => walk_at "lapM")
      (case f_wa_take => walk_at "lapM")
      (case i_Loop => walk_at "lapI")
      (case f_Loop_rows => walk_at "lapM")
      (case w_LETTERS => walk_at "lapV")
      (case w_MOST_LETTERS => walk_at "lapV")
      (case w_MOST_ROWS => walk_at "lapV")
      (case w_MOST_BACK => walk_at "lapV")
      (case w_FIGURES => walk_at "lapV")
      (case w_MOST_FIGURES => walk_at "lapV")
      (case f_deed => walk_at "lapF")
      (case f_islet => walk_at "lapF")
      (case f_isname => walk_at "lapF")
      (case f_cmeas => walk_at "lapF")
      (case f_crows => walk_at "lapF")
      (case f_chead => walk_at "lapF")
      (case f_cread => walk_at "lapF")
      (case f_cnum => walk_at "lapF")
      (case f_clook => walk_at "lapF")
      (case f_copy => walk_at "lapF")
      (case f_depths => walk_at "lapF")
      (case f_lshown => walk_at "lapF")
      (case f_rshown => walk_at "lapF")
      (case f_lread => walk_at "lapF")
      (case f_clines => walk_at "lapF")
      (case f_lines => walk_at "lapF")
      (case f_mline => walk_at "lapF")
      (case f_rline => walk_at "lapF")
      (case f_isread => walk_at "lapF"))
    (case t2 =>
      refine' Lap.tp2_mk ?f_figs ?f_rowof ?f_readof ?f_cell ?f_whole ?f_words ?f_sumat ?f_names ?f_read ?f_rows ?f_text ?f_right ?z_len ?z_isinstance ?z_int ?z_bool ?z_range ?z_min ?z_max ?z_list ?z_tuple ?z_str ?z_all ?z_sum ?z_enumerate ?kII ?kIB ?kTT ?kTI ?kIT ?kLL ?kSS ?kOO ?kOa ?kOn ?kOt
      (case f_figs => walk_at "lapF")
      (case f_rowof => walk_at "lapF")
      (case f_readof => walk_at "lapF")
      (case f_cell => walk_at "lapF")
      (case f_whole => walk_at "lapF")
      (case f_words => walk_at "lapF")
      (case f_sumat => walk_at "lapF")
      (case f_names => walk_at "lapF")
      (case f_read => walk_at "lapF")
      (case f_rows => walk_at "lapF")
      (case f_text => walk_at "lapF")
      (case f_right => walk_at "lapF")
      (case z_len => k_is)
      (case z_isinstance => k_is)
      (case z_int => k_is)
      (case z_bool => k_is)
      (case z_range => k_is)
      (case z_min => k_is)
      (case z_max => k_is)
      (case z_list => k_is)
      (case z_tuple => k_is)
      (case z_str => k_is)
      (case z_all => k_is)
      (case z_sum => k_is)
      (case z_enumerate => k_is)
      (case kII => kit_is)
      (case kIB => kit_is)
      (case kTT => kit_is)
      (case kTI => kit_is)
      (case kIT => kit_is)
      (case kLL => kit_is)
      (case kSS => kit_is)
      (case kOO => kit_is)
      (case kOa => k_is)
      (case kOn => k_is)
      (case kOt => k_is))
    (case t3 =>
      refine' Lap.tp3_mk ?kOm ?nM ?nK ?nD
      (case kOm => k_is)
      (case nM => (unfold L2.NoAttr; k_is))
      (case nK => (unfold L2.NoAttr; k_is))
      (case nD => (unfold L2.NoAttr; k_is)))
