import PyProof.Rows.All
import Wide.All
import OpenK.AllK
import Wide.FinOn
import Lean
import PyProof.EqAt
import PyProof.EqKinds
import PyProof.TupleCall
import PySem.Challenge.RW_lapwork_k14_runs_refused
-- CHANGE: your row's module here, as the last of these rows
set_option Elab.async false
set_option linter.all false
set_option maxRecDepth 100000
namespace L2
open PySem PySem.Spec PyProof.Rows
abbrev Key := Sum Int Str
def keyIs : Key → Value → Bool
  | .inl k, v => Value.isInt k v
  | .inr x, v => Value.isStrOf x v
def keyH (w : World) : Key → Int
  | .inl k => hashInt k
  | .inr x => hashStr w x
theorem keyIs_shape : ∀ {k : Key} {v : Value}, keyIs k v = true → (∃ i t, k = Sum.inl i ∧ v = Value.int i t) ∨ (∃ x t, k = Sum.inr x ∧ v = Value.str x t)
  | .inl i, v, h => by
    obtain ⟨t, e⟩ := Value.isInt_shape (k := i) (v := v) h
    exact .inl ⟨i, t, rfl, e⟩
  | .inr x, v, h => by
    obtain ⟨t, e⟩ := Value.isStrOf_shape (x := x) (v := v) h
    exact .inr ⟨x, t, rfl, e⟩
theorem keyIs_int (i : Int) (t : Tok) : keyIs (.inl i) (.int i t) = true := by simp [keyIs, Value.isInt]
theorem keyIs_str (x : Str) (t : Tok) : keyIs (.inr x) (.str x t) = true := by simp [keyIs, Value.isStrOf]
theorem key_ll (a b : Int) : decide ((Sum.inl a : Key) = Sum.inl b) = (a == b) := by
  by_cases e : a = b
  · subst e; simp
  · have h : ¬ (Sum.inl a : Key) = Sum.inl b := fun q => e (Sum.inl.inj q)
    rw [decide_eq_false h]
    exact (beq_eq_false_iff_ne.mpr e).symm
theorem key_rr (a b : Str) : decide ((Sum.inr a : Key) = Sum.inr b) = decide (a = b) := by
  by_cases e : a = b
  · subst e; simp
  · have h : ¬ (Sum.inr a : Key) = Sum.inr b := fun q => e (Sum.inr.inj q)
    rw [decide_eq_false h, decide_eq_false e]
theorem key_lr (a : Int) (b : Str) : decide ((Sum.inl a : Key) = Sum.inr b) = false := decide_eq_false (fun q => nomatch q)
theorem key_rl (a : Str) (b : Int) : decide ((Sum.inr a : Key) = Sum.inl b) = false := decide_eq_false (fun q => nomatch q)
def mixKind (prog : Program) (w : World) : PySem.KeyKind prog w Key where
  is := keyIs
  hash := keyH w
  inj := fun v a b ha hb => by
    rcases keyIs_shape ha with ⟨i, t, rfl, rfl⟩ | ⟨x, t, rfl, rfl⟩
    · rcases keyIs_shape hb with ⟨j, u, rfl, e⟩ | ⟨y, u, rfl, e⟩
      · injection e with e1 _; rw [e1]
      · exact nomatch e
    · rcases keyIs_shape hb with ⟨j, u, rfl, e⟩ | ⟨y, u, rfl, e⟩
      · exact nomatch e
      · injection e with e1 _; rw [e1]
  byValue := fun k v h => by
    rcases keyIs_shape h with ⟨i, t, rfl, rfl⟩ | ⟨x, t, rfl, rfl⟩ <;> rfl
  pyHash := fun hv h => by
    rcases keyIs_shape hv with ⟨i, t, rfl, rfl⟩ | ⟨x, t, rfl, rfl⟩
    · exact wpAny_pyHash_int h
    · exact wpAny_pyHash_str h
  eqBool := fun hu hv h => by
    rcases keyIs_shape hu with ⟨i, t, rfl, rfl⟩ | ⟨x, t, rfl, rfl⟩
    · rcases keyIs_shape hv with ⟨j, u, rfl, rfl⟩ | ⟨y, u, rfl, rfl⟩
      · rw [key_ll] at h; exact wpAny_eqBool_int h
      · rw [key_lr] at h; exact SeqAt.EqAt.int_str i t y u _ _ _ _ h
    · rcases keyIs_shape hv with ⟨j, u, rfl, rfl⟩ | ⟨y, u, rfl, rfl⟩
      · rw [key_rl] at h; exact SeqAt.EqAt.str_int x t j u _ _ _ _ h
      · rw [key_rr] at h; exact wpAny_eqBool_str h
  «strs» := fun k x t v h => by
    rcases keyIs_shape h with ⟨i, u, rfl, e⟩ | ⟨y, u, rfl, e⟩
    · exact nomatch e
    · injection e with e1 _
      subst e1
      cases v <;> rfl
theorem mixKind_int (prog : Program) (w : World) (i : Int) (t : Tok) : (mixKind prog w).is (.inl i) (.int i t) = true := keyIs_int i t
theorem mixKind_str (prog : Program) (w : World) (x : Str) (t : Tok) : (mixKind prog w).is (.inr x) (.str x t) = true := keyIs_str x t
end L2
namespace L2
open PySem PySem.Spec PyProof.Rows
inductive V where
  | non | bl (b : Bool) | int (i : Int) | str (x : Str) | byt (b : Array UInt8) | flt (b : UInt64) | ref (a : Addr) | ty (n : String)
  deriving DecidableEq
def RelV : V → Value → Prop
  | .non, u => u = Value.none
  | .bl b, u => u = Value.bool b
  | .int i, u => ∃ t, u = Value.int i t
  | .str x, u => ∃ t, u = Value.str x t
  | .byt b, u => ∃ t, u = Value.bytes b t
  | .flt b, u => ∃ t, u = Value.float b t
  | .ref a, u => u = Value.ref a
  | .ty n, u => u = Value.type n
abbrev Vals : List V → List Value → Prop := Paired RelV
theorem Vals.length {xs : List V} {us : List Value} (r : Vals xs us) : xs.length = us.length := Paired.length r
theorem Vals.get : ∀ {xs : List V} {us : List Value} {i : Nat} {x : V}, Vals xs us → xs[i]? = some x → ∃ u, us[i]? = some u ∧ RelV x u
  | _, _, _, _, .nil, e => by simp at e
  | _, _, 0, _, .cons r _, e => by simp at e; subst e; exact ⟨_, rfl, r⟩
  | _, _, i + 1, x, .cons _ t, e => by
    obtain ⟨u, h1, h2⟩ := Vals.get (i := i) (x := x) t (by simpa using e)
    exact ⟨u, by simpa using h1, h2⟩
theorem Vals.set {x : V} {u : Value} (r : RelV x u) : ∀ {xs : List V} {us : List Value} (i : Nat), Vals xs us → Vals (xs.set i x) (us.set i u)
  | _, _, _, .nil => .nil
  | _, _, 0, .cons _ t => .cons r t
  | _, _, i + 1, .cons q t => .cons q (Vals.set r i t)
theorem Vals.append : ∀ {xs ys : List V} {us ws : List Value}, Vals xs us → Vals ys ws → Vals (xs ++ ys) (us ++ ws)
  | _, _, _, _, .nil, s => s
  | _, _, _, _, .cons r t, s => .cons r (Vals.append t s)
theorem Vals.take : ∀ {xs : List V} {us : List Value} (n : Nat), Vals xs us → Vals (xs.take n) (us.take n)
  | _, _, 0, _ => .nil
  | _, _, _ + 1, .nil => .nil
  | _, _, n + 1, .cons r t => .cons r (Vals.take n t)
theorem Vals.drop : ∀ {xs : List V} {us : List Value} (n : Nat), Vals xs us → Vals (xs.drop n) (us.drop n)
  | _, _, 0, r => r
  | _, _, _ + 1, .nil => .nil
  | _, _, n + 1, .cons _ t => Vals.drop n t
def RelO : Option V → Option Value → Prop
  | some v, some u => RelV v u
  | none, none => True
  | _, _ => False
def KV {κ : Type} : List (κ × V) → List (κ × Value) → Prop := Paired fun (p : κ × V) (q : κ × Value) => p.1 = q.1 ∧ RelV p.2 q.2
def kV : Key → V
  | .inl i => .int i
  | .inr x => .str x
inductive HO where
  | lst (xs : List V)
  | tup (xs : List V)
  | dK (kvs : List (Key × V)) | dT (kvs : List (List Key × V))
  | set (S : Int → Bool) (n : Nat)
  | ins (C dx : Addr) (fs : List (Str × V))
  | own (x : Addr)
  | xd (fs : List (Str × V))
  | met (f x : Addr)
  | rng (lo hi : Int)
  | frz (o : Obj) (u : HO)
  | tbl (ps : Array Value)
  | ext (φ : Heap → Prop)
abbrev Hp := Addr → Option HO
def upd (H : Hp) (a : Addr) (o : HO) : Hp := fun b => if b = a then some o else H b
theorem upd_same {H : Hp} {a : Addr} {o : HO} : upd H a o a = some o := by unfold upd; rw [if_pos rfl]
theorem upd_ne {H : Hp} {a b : Addr} {o : HO} (h : b ≠ a) : upd H a o b = H b := by unfold upd; rw [if_neg h]
theorem upd_upd {H : Hp} {a : Addr} {o u : HO} : upd (upd H a o) a u = upd H a u := by
  funext b; unfold upd; split <;> rfl
theorem ne_of {H : Hp} {a b : Addr} {o u : HO} (h : H a = some o) (h' : H b = some u) (d : o ≠ u) : a ≠ b := by
  intro e; subst e; rw [h] at h'; exact d (Option.some.inj h')
theorem ne_of_none {H : Hp} {a b : Addr} {o : HO} (h : H a = some o) (h' : H b = none) : a ≠ b := by
  intro e; subst e; rw [h] at h'; cases h'
section
variable (P : Program) (w : World)
def ObjOk (H : Hp) (h : Heap) (a : Addr) : HO → Prop
  | .lst xs => xs.length ≤ sizeLine ∧ ∃ (its : List Value) (n : Nat), Vals xs its ∧ h.get? a = some { cls := .type "list", data := .seq its.toArray n }
  | .tup xs => xs.length ≤ sizeLine ∧ ∃ its : List Value, Vals xs its ∧ IsTup h a its.toArray
  | .dK kvs => kvs.length ≤ sizeLine ∧ (a == sysModules) = false ∧ ∃ vs, KV kvs vs ∧ h.DictOf (mixKind P w) a vs
  | .dT kvs => kvs.length ≤ sizeLine ∧ (a == sysModules) = false ∧ ∃ xs : List (List Key × Addr × Value),
      Paired (fun (p : List Key × V) (q : List Key × Addr × Value) => p.1 = q.1 ∧ H q.2.1 = some (.tup (p.1.map kV)) ∧ RelV p.2 q.2.2) kvs xs ∧
      ∃ o es ep, h.get? a = some o ∧ o.ExactDict ∧ o.data = .dict es ep ∧ es.toList = xs.map (entryOfKey (tupleKind (mixKind P w))) ∧ (xs.map (·.1)).Nodup
  | .set S n => h.SetOf (intKind P w) a S n
  | .ins C dx fs => H dx = some (.own a) ∧ fs.length ≤ 1000 ∧ dx ≠ a ∧ h.get? a = some (PySem.W.instObj C dx) ∧
      ∃ mA, h.Ns1 dx mA ∧ (∀ f, RelO (fs.lookup f) (mA f)) ∧ PySem.Within mA (fs.map (·.1))
  | .own _ => ∃ o, h.get? a = some o
  | .xd fs => ∃ mA, h.Ns1 a mA ∧ ∀ f, RelO (fs.lookup f) (mA f)
  | .rng lo hi => ∃ t u v, h.get? a = some { cls := .type "range", data := .fields #[.int lo t, .int hi u, .int 1 v] }
  | .frz o u => h.get? a = some o ∧ ObjOk H h a u
  | .tbl ps => h.get? a = some { cls := .none, data := .fields ps }
  | .met f x => h.get? a = some (PySem.W.methodObj (.ref f) (.ref x))
  | .ext φ => φ h ∧ (∃ o, h.get? a = some o) ∧ ∀ h1 h2 : Heap, φ h1 → (∀ o, h1.get? a = some o → h2.get? a = some o) → φ h2
def HOk (H : Hp) (h : Heap) : Prop := ∀ a o, H a = some o → ObjOk P w H h a o
end
section
variable {P : Program} {w : World} {H H' : Hp} {h h' : Heap} {a : Addr} {o : HO}
theorem ObjOk.lt (x : ObjOk P w H h a o) : a < h.objs.size := by
  cases o with
  | lst xs => obtain ⟨_, _, _, _, e⟩ := x; exact Heap.lt_size e
  | tup xs => obtain ⟨_, _, _, p⟩ := x; exact p.lt
  | dK kvs => obtain ⟨_, _, _, _, o, _, _, e, _⟩ := x; exact Heap.lt_size e
  | dT kvs => obtain ⟨_, _, _, _, o, _, _, e, _⟩ := x; exact Heap.lt_size e
  | set S n => obtain ⟨o, _, _, _, e, _⟩ := x; exact Heap.lt_size e
  | ins C dx fs => obtain ⟨_, _, _, e, _⟩ := x; exact Heap.lt_size e
  | own y => obtain ⟨_, e⟩ := x; exact Heap.lt_size e
  | xd fs => obtain ⟨_, ⟨_, _, _, e, _⟩, _⟩ := x; exact Heap.lt_size e
  | rng lo hi => obtain ⟨_, _, _, e⟩ := x; exact Heap.lt_size e
  | frz ob u => obtain ⟨e, _⟩ := x; exact Heap.lt_size e
  | tbl ps => exact Heap.lt_size (show h.get? a = some _ from x)
  | met f y => exact Heap.lt_size (show h.get? a = some _ from x)
  | ext φ => obtain ⟨_, ⟨_, e⟩, _⟩ := x; exact Heap.lt_size e
theorem Paired.mapP {α β : Type} {F G : α → β → Prop} : ∀ {l₁ : List α} {l₂ : List β}, Paired F l₁ l₂ → (∀ a b, F a b → G a b) → Paired G l₁ l₂
  | _, _, .nil, _ => .nil
  | _, _, .cons r t, f => .cons (f _ _ r) (Paired.mapP t f)
theorem ObjOk.stay (x : ObjOk P w H h a o) (k : ∀ b u, (b = a ∨ H b = some (.own a)) → h.get? b = some u → h'.get? b = some u)
    (ho : ∀ b, H b = some (.own a) → H' b = some (.own a)) (ht : ∀ b xs, H b = some (.tup xs) → H' b = some (.tup xs)) : ObjOk P w H' h' a o := by
  induction o with
  | lst xs => obtain ⟨z, its, n, r, e⟩ := x; exact ⟨z, its, n, r, k _ _ (.inl rfl) e⟩
  | tup xs => obtain ⟨z, its, r, ob, e, c⟩ := x; exact ⟨z, its, r, ob, k _ _ (.inl rfl) e, c⟩
  | dK kvs => obtain ⟨z, y, vs, r, ob, es, ep, e, c⟩ := x; exact ⟨z, y, vs, r, ob, es, ep, k _ _ (.inl rfl) e, c⟩
  | dT kvs =>
    obtain ⟨z, y, xs, r, ob, es, ep, e, c⟩ := x
    exact ⟨z, y, xs, Paired.mapP r fun p q z => ⟨z.1, ht _ _ z.2.1, z.2.2⟩, ob, es, ep, k _ _ (.inl rfl) e, c⟩
  | set S n => obtain ⟨ob, es, ep, t, e, c⟩ := x; exact ⟨ob, es, ep, t, k _ _ (.inl rfl) e, c⟩
  | ins C dx fs =>
    obtain ⟨d, z, ne, e, mA, ⟨od, es, ep, e2, c⟩, r⟩ := x
    exact ⟨ho _ d, z, ne, k _ _ (.inl rfl) e, mA, ⟨od, es, ep, k _ _ (.inr d) e2, c⟩, r⟩
  | own y => obtain ⟨ob, e⟩ := x; exact ⟨ob, k _ _ (.inl rfl) e⟩
  | xd fs => obtain ⟨mA, ⟨od, es, ep, e, c⟩, r⟩ := x; exact ⟨mA, ⟨od, es, ep, k _ _ (.inl rfl) e, c⟩, r⟩
  | rng lo hi => obtain ⟨t, u, v, e⟩ := x; exact ⟨t, u, v, k _ _ (.inl rfl) e⟩
  | frz ob u ih => obtain ⟨e, q⟩ := x; exact ⟨k _ _ (.inl rfl) e, ih q⟩
  | tbl ps =>
    have e : h.get? a = some { cls := .none, data := .fields ps } := x
    show h'.get? a = some { cls := .none, data := .fields ps }
    exact k a _ (.inl rfl) e
  | met f y =>
    have e : h.get? a = some (PySem.W.methodObj (.ref f) (.ref y)) := x
    show h'.get? a = some (PySem.W.methodObj (.ref f) (.ref y))
    exact k a _ (.inl rfl) e
  | ext φ => obtain ⟨p, ⟨o, e⟩, st⟩ := x; exact ⟨st _ _ p fun o q => k _ _ (.inl rfl) q, ⟨o, k _ _ (.inl rfl) e⟩, st⟩
theorem HOk.lt (x : HOk P w H h) (e : H a = some o) : a < h.objs.size := (x a o e).lt
theorem HOk.fresh (x : HOk P w H h) (e : h.objs.size ≤ a) : H a = none := by
  cases q : H a with
  | none => rfl
  | some u => exact absurd (Nat.lt_of_lt_of_le (x.lt q) e) (Nat.lt_irrefl _)
theorem HOk.kept (x : HOk P w H h) (k : ∀ b u, h.get? b = some u → h'.get? b = some u) : HOk P w H h' := fun a o e =>
  (x a o e).stay (fun b u _ q => k b u q) (fun _ q => q) fun _ _ q => q
theorem HOk.laid (x : HOk P w H h) (k : ∀ b u, h.get? b = some u → h'.get? b = some u) (hp : h.objs.size ≤ a) (new : ObjOk P w (upd H a o) h' a o) : HOk P w (upd H a o) h' := fun b u e => by
  have hn := x.fresh hp
  by_cases hb : b = a
  · subst hb; rw [upd_same] at e; cases e; exact new
  · rw [upd_ne hb] at e
    exact (x b u e).stay (fun c v _ q => k c v q) (fun c q => by rw [upd_ne (ne_of_none q hn)]; exact q) fun c xs q => by rw [upd_ne (ne_of_none q hn)]; exact q
end
def Rd (H : Hp) (a : Addr) (u : HO) : Prop := H a = some u ∨ ∃ o, H a = some (.frz o u)
theorem Rd.ok {P : Program} {w : World} {H : Hp} {h : Heap} {a : Addr} {u : HO} (r : Rd H a u) (x : HOk P w H h) : ObjOk P w H h a u := by
  rcases r with r | ⟨o, r⟩
  · exact x a u r
  · obtain ⟨_, q⟩ := x a _ r
    exact q
def Mut : Option HO → Prop
  | some (.lst _) => True
  | some (.dK _) => True
  | some (.dT _) => True
  | some (.set _ _) => True
  | some (.ins _ _ _) => True
  | some (.ext _) => True
  | _ => False
section
variable {P : Program} {w : World} {H : Hp} {h h' : Heap} {x e : Addr} {o' : HO}
theorem HOk.write (ok : HOk P w H h) (mu : Mut (H x)) (he : e = x ∨ H e = some (.own x)) (k : ∀ b u, b ≠ e → h.get? b = some u → h'.get? b = some u) (heo : ∃ u, h'.get? e = some u)
    (new : ObjOk P w (upd H x o') h' x o') : HOk P w (upd H x o') h' := fun b u q => by
  have nown : ∀ c y, H c = some (.own y) → c ≠ x := fun c y r z => by subst z; rw [r] at mu; exact mu
  have ntup : ∀ c xs, H c = some (.tup xs) → c ≠ x := fun c xs r z => by subst z; rw [r] at mu; exact mu
  by_cases hb : b = x
  · subst hb; rw [upd_same] at q; cases q; exact new
  · rw [upd_ne hb] at q
    by_cases hbe : b = e
    · have q' : H b = some (.own x) := by
        rcases he with z | z
        · exact absurd (hbe.trans z) hb
        · rw [hbe]; exact z
      rw [q] at q'; cases q'
      obtain ⟨v, hv⟩ := heo
      exact ⟨v, by rw [hbe]; exact hv⟩
    · refine (ok b u q).stay (fun c v hc r => k c v ?_ r) (fun c r => by rw [upd_ne (nown c b r)]; exact r) fun c xs r => by rw [upd_ne (ntup c xs r)]; exact r
      rcases hc with rfl | hc
      · exact hbe
      · rintro rfl
        rcases he with z | z
        · exact nown c b hc z
        · rw [hc] at z; cases z; exact hb rfl
end
structure Un (fs ex : List Addr) (H H' : Hp) (h h' : Heap) : Prop where
  keep : ∀ b o, h.get? b = some o → H b = none → b ∉ fs → b ∉ ex → h'.get? b = some o
  slot : ∀ b o, h.get? b = some o → H b = none → b ∈ fs → b ∉ ex → ∃ sl, h'.get? b = some { o with slots := sl }
  free : ∀ b o, h.get? b = some o → H b = none → b ∉ ex → H' b = none
  there : ∀ b o, h.get? b = some o → b ∉ ex → ∃ o', h'.get? b = some o'
  tups : ∀ b xs, H b = some (.tup xs) → H' b = some (.tup xs)
  frzs : ∀ b o u, H b = some (.frz o u) → H' b = some (.frz o u)
  tbls : ∀ b ps, H b = some (.tbl ps) → ∃ more, H' b = some (.tbl (ps ++ more))
section
variable {fs fs' ex ex' : List Addr} {H H1 H2 : Hp} {h h1 h2 h' : Heap} {a x e : Addr} {o : HO}
theorem Un.any (u : Un fs ex H H1 h h1) {b : Addr} {ob : Obj} (q : h.get? b = some ob) (n : H b = none) (hx : b ∉ ex) : ∃ sl, h1.get? b = some { ob with slots := sl } := by
  by_cases hb : b ∈ fs
  · exact u.slot b ob q n hb hx
  · exact ⟨ob.slots, u.keep b ob q n hb hx⟩
theorem Un.kept (k : ∀ b u, h.get? b = some u → h'.get? b = some u) : Un fs ex H H h h' :=
  ⟨fun b ob q _ _ _ => k b ob q, fun b ob q _ _ _ => ⟨ob.slots, k b ob q⟩, fun _ _ _ n _ => n, fun b ob q _ => ⟨ob, k b ob q⟩, fun _ _ q => q, fun _ _ _ q => q, fun _ ps q => ⟨#[], by rw [q]; simp⟩⟩
theorem Un.refl : Un fs ex H H h h := Un.kept fun _ _ q => q
theorem Un.laid (k : ∀ b u, h.get? b = some u → h'.get? b = some u) (hp : h.objs.size ≤ a) (hn : H a = none) : Un fs ex H (upd H a o) h h' where
  keep := fun b u q _ _ _ => k b u q
  slot := fun b u q _ _ _ => ⟨u.slots, k b u q⟩
  free := fun b u q n _ => by rw [upd_ne (Nat.ne_of_lt (Nat.lt_of_lt_of_le (Heap.lt_size q) hp))]; exact n
  there := fun b u q _ => ⟨u, k b u q⟩
  tups := fun b xs q => by rw [upd_ne (ne_of_none q hn)]; exact q
  frzs := fun b u xs q => by rw [upd_ne (ne_of_none q hn)]; exact q
  tbls := fun b ps q => ⟨#[], by rw [upd_ne (ne_of_none q hn), q]; simp⟩
theorem Un.write (mu : Mut (H x)) (he : e = x ∨ H e = some (.own x)) (k : ∀ b u, b ≠ e → h.get? b = some u → h'.get? b = some u) (heo : ∃ u, h'.get? e = some u) : Un fs ex H (upd H x o) h h' := by
  have hx : ∀ b, H b = none → b ≠ x := fun b n z => by subst z; rw [n] at mu; exact mu
  have hb : ∀ b, H b = none → b ≠ e := fun b n z => by
    subst z
    rcases he with r | r
    · exact hx b n r
    · rw [n] at r; cases r
  have hm : ∀ b u, H b = some u → ¬ Mut (some u) → b ≠ x := fun b u q nm z => by subst z; rw [q] at mu; exact nm mu
  refine ⟨fun b u q n _ _ => k b u (hb b n) q, fun b u q n _ _ => ⟨u.slots, k b u (hb b n) q⟩, fun b u q n _ => by rw [upd_ne (hx b n)]; exact n, fun b u q _ => ?_,
    fun b xs q => by rw [upd_ne (hm b _ q fun z => z)]; exact q, fun b u xs q => by rw [upd_ne (hm b _ q fun z => z)]; exact q, fun b ps q => ⟨#[], by rw [upd_ne (hm b _ q fun z => z), q]; simp⟩⟩
  by_cases hbe : b = e
  · subst hbe; exact heo
  · exact ⟨u, k b u hbe q⟩
end
def trk (h : Heap) (H : Hp) : List Addr := (List.range h.objs.size).filter fun a => (H a).isSome
def hidT (h : Heap) (H : Hp) : Heap := PySem.W.hideAll h (trk h H)
theorem hidT_size (h : Heap) (H : Hp) : (hidT h H).objs.size = h.objs.size := PySem.W.hideAll_size _ _
theorem hidT_get {h : Heap} {H : Hp} {b : Addr} {o : Obj} (e : h.get? b = some o) (n : H b = none) : (hidT h H).get? b = some o :=
  PySem.W.hideAll_get _ e fun hm => by
    have q : (H b).isSome = true := (List.mem_filter.mp hm).2
    rw [n] at q; simp at q
theorem of_hidT {h : Heap} {H : Hp} {b : Addr} {o : Obj} (e : (hidT h H).get? b = some o) : h.get? b = some o ∧ H b = none := by
  have e' : h.get? b = some o := PySem.W.of_hideAll (trk h H) e
  refine ⟨e', ?_⟩
  cases q : H b with
  | none => rfl
  | some x =>
    have hm : b ∈ trk h H := List.mem_filter.mpr ⟨List.mem_range.mpr (Heap.lt_size e'), by simp [q]⟩
    have z : (hidT h H).get? b = none := PySem.W.hideAll_none (trk h H) hm
    rw [z] at e; cases e
end L2
namespace L2
open PySem PySem.Spec PyProof.Rows
structure Mod (K : PySem.W.Frag) (mg : Str → Option Value) (base : Heap) : Prop where
  kin : K.In base
  glob : base.Ns mainGlobals mg
  blt : ∃ mb, base.Ns builtinsNs mb ∧ ∀ x : Str, x ≠ "__name__" → mb x = bootBuiltins x
  nolimit : base.NoLimit
structure Cx where
  prog : Program
  w : World
  K : PySem.W.Frag
  mg : Str → Option Value
  base : Heap
  A : Around
  N : List Str
  s₀ : Shared
  H₀ : Hp
  env : Env
  outer : List Env
  stack : List Env
  ex : List Addr
  fn : Str → Bool
  calm : Bool
  pn : List (Addr × Obj)
  xe : Value → Shared → Prop
def frs (l : List Env) : List Addr := l.filterMap (·.frame)
abbrev Cx.fs (X : Cx) : List Addr := frs X.outer
def Vis (sc : Scope) (x : Str) : Prop := sc.names.lookup x = some .local ∨ sc.names.lookup x = some .cell ∨ sc.names.lookup x = some .free
def Loc (sc : Scope) (x : Str) : Prop := sc.names.lookup x = some .local ∨ sc.names.lookup x = some .cell
def Look (env : Env) (h : Heap) (m : Str → Option Value) (x : Str) (u : Value) : Prop :=
  (env.kindOf x = some .local ∧ m x = some u) ∨ ((env.kindOf x = some .cell ∨ env.kindOf x = some .free) ∧ ∃ c, env.cells.lookup x = some c ∧ h.IsCell c (some u))
structure Cx.Ok (X : Cx) : Prop where
  mod : Mod X.K X.mg X.base
  kind : X.env.scope.kind = .function
  glob : X.env.globals = mainGlobals
  blt : X.env.builtins = builtinsNs
  above : X.s₀.heap.objs.size ≤ X.env.locals
  inj : ∀ x y c, X.env.cells.lookup x = some c → X.env.cells.lookup y = some c → x = y
  has : ∀ x, (X.env.kindOf x = some .cell ∨ X.env.kindOf x = some .free) → ∃ c, X.env.cells.lookup x = some c
  cab : ∀ x c, X.fn x = true → X.env.cells.lookup x = some c → X.s₀.heap.objs.size ≤ c
  hd : X.calm = true → X.A.handled = none
  frames : X.A.frames = some X.stack
  stk : X.stack = X.outer ∨ (X.stack = X.env :: X.outer ∧ X.env.frame = some X.env.locals)
  exf : ∀ b ∈ X.ex, b ≠ X.env.locals ∧ ∀ x c, X.env.cells.lookup x = some c → c ≠ b
  bs : ∀ b o, X.base.get? b = some o → X.s₀.heap.get? b = some o ∧ X.H₀ b = none
  bsz : X.base.objs.size ≤ X.s₀.heap.objs.size
  noex : ∀ b o, X.base.get? b = some o → b ∉ X.ex
  exfs : ∀ b ∈ X.ex, b ∉ X.fs
  funs : X.s₀.heap.FunFrames X.base X.outer
  frf : ∀ b ∈ X.fs, X.H₀ b = none
structure Inv (X : Cx) (pins : List (Addr × Obj)) (σ : List (Option V)) (H : Hp) (s : Shared) : Prop where
  ok : X.Ok
  os : s.os = X.s₀.os
  bare : AllBare s.gens
  base : Un X.fs X.ex X.H₀ H X.s₀.heap s.heap
  loc : ∃ m, s.heap.Ns X.env.locals m ∧ ∀ (i : Nat) (x : Str) (v : V), X.N[i]? = some x → σ[i]? = some (some v) → Vis X.env.scope x → ∃ u, RelV v u ∧ Look X.env s.heap m x u
  cell : ∀ x c, X.env.cells.lookup x = some c → ∃ v, s.heap.IsCell c v
  free : H X.env.locals = none
  freeC : ∀ x c, X.env.cells.lookup x = some c → H c = none
  pin : ∀ p ∈ X.pn ++ pins, s.heap.get? p.1 = some p.2 ∧ H p.1 = none ∧ p.1 ≠ X.env.locals ∧ p.1 ∉ X.fs ∧ ∀ v, p.2.data ≠ .cell v
  hok : HOk X.prog X.w H s.heap
  len : σ.length = X.N.length
section
variable {X : Cx} {pins : List (Addr × Obj)} {σ : List (Option V)} {H H' : Hp} {s : Shared} {h' : Heap}
theorem Cx.Ok.nofr (ok : X.Ok) {b : Addr} {o : Obj} (e : X.base.get? b = some o) : b ∉ X.fs := fun hb => by
  have := (ok.funs.mem hb).1
  rw [e] at this; cases this
theorem Inv.bs (I : Inv X pins σ H s) : ∀ b o, X.base.get? b = some o → s.heap.get? b = some o ∧ H b = none := fun b o e =>
  ⟨I.base.keep b o (I.ok.bs b o e).1 (I.ok.bs b o e).2 (I.ok.nofr e) (I.ok.noex b o e), I.base.free b o (I.ok.bs b o e).1 (I.ok.bs b o e).2 (I.ok.noex b o e)⟩
theorem Inv.bk (I : Inv X pins σ H s) : ∀ b o, X.base.get? b = some o → s.heap.get? b = some o := fun b o e => (I.bs b o e).1
theorem Inv.mod (I : Inv X pins σ H s) : Mod X.K X.mg X.base := I.ok.mod
theorem Inv.kIn (I : Inv X pins σ H s) : X.K.In s.heap := I.ok.mod.kin.keeps I.bk
theorem Inv.lt (I : Inv X pins σ H s) : X.env.locals < s.heap.objs.size := let ⟨_, hn, _⟩ := I.loc; hn.lt
theorem Inv.sz (I : Inv X pins σ H s) : X.s₀.heap.objs.size ≤ s.heap.objs.size := Nat.le_trans I.ok.above (Nat.le_of_lt I.lt)
theorem Inv.nofs (I : Inv X pins σ H s) {a : Addr} (h : s.heap.objs.size ≤ a) : a ∉ X.fs := fun hb => by
  obtain ⟨_, o, ho, _⟩ := I.ok.funs.mem hb
  exact absurd (Nat.lt_of_lt_of_le (Heap.lt_size ho) (Nat.le_trans I.sz h)) (Nat.lt_irrefl _)
theorem Inv.cne (I : Inv X pins σ H s) : ∀ x c, X.env.cells.lookup x = some c → c ≠ X.env.locals := fun x c e z => by
  obtain ⟨v, o, ho, hd⟩ := I.cell x c e
  obtain ⟨m, ⟨o', es, ep, ho', hd', _⟩, _⟩ := I.loc
  rw [z, ho'] at ho; cases ho; rw [hd'] at hd; cases hd
theorem Inv.funs (I : Inv X pins σ H s) : s.heap.FunFrames X.base X.outer := by
  have all : ∀ (l : List Env), (∀ b ∈ frs l, b ∈ X.fs) → X.s₀.heap.FunFrames X.base l → s.heap.FunFrames X.base l := by
    intro l
    induction l with
    | nil => intro _ _; trivial
    | cons env r ih =>
      intro hs hl
      obtain ⟨hk, ⟨L, o, hf, hn, ho, hd⟩, hr⟩ := hl
      have hL : L ∈ X.fs := hs L (by unfold frs; rw [List.filterMap_cons, hf]; exact List.mem_cons_self)
      obtain ⟨sl, e⟩ := I.base.slot L o ho (I.ok.frf L hL) hL fun z => I.ok.exfs L z hL
      exact ⟨hk, ⟨L, _, hf, hn, e, hd⟩, ih (fun b hb => hs b (by unfold frs; rw [List.filterMap_cons, hf]; exact List.mem_cons_of_mem _ hb)) hr⟩
  exact all X.outer (fun _ hb => hb) I.ok.funs
theorem Inv.stack (I : Inv X pins σ H s) : s.heap.FunFrames X.base X.stack := by
  rcases I.ok.stk with e | ⟨e, hf⟩
  · rw [e]; exact I.funs
  · rw [e]
    obtain ⟨m, hn, _⟩ := I.loc
    refine .cons (by rw [I.ok.kind]; decide) hf hn ?_ I.funs
    exact Heap.get?_none_of_le (Nat.le_trans I.ok.bsz I.ok.above)
theorem Inv.stkSub (I : Inv X pins σ H s) : ∀ b ∈ frs X.stack, b ∈ X.env.locals :: X.fs := fun b hb => by
  rcases I.ok.stk with e | ⟨e, hf⟩
  · rw [e] at hb; exact List.mem_cons_of_mem _ hb
  · rw [e] at hb
    unfold frs at hb
    rw [List.filterMap_cons, hf] at hb
    exact hb
theorem Inv.stkFree (I : Inv X pins σ H s) : ∀ b ∈ frs X.stack, H b = none := fun b hb => by
  rcases List.mem_cons.mp (I.stkSub b hb) with e | hb
  · rw [e]; exact I.free
  · obtain ⟨_, o, ho, _⟩ := I.ok.funs.mem hb
    exact I.base.free b o ho (I.ok.frf b hb) fun z => I.ok.exfs b z hb
theorem Inv.step {g' : Array GenState} {t' : Nat} {d' : Drawn} {ch : List Addr} (I : Inv X pins σ H s)
    (hch : ∀ b ∈ ch, (b ∈ X.ex ∨ X.s₀.heap.get? b = none) ∧ b ≠ X.env.locals ∧ (∀ x c, X.env.cells.lookup x = some c → c ≠ b) ∧ ∀ p ∈ X.pn ++ pins, p.1 ≠ b)
    (keep : ∀ b o, b ≠ X.env.locals → b ∉ X.fs → b ∉ ch → s.heap.get? b = some o → H b = none → h'.get? b = some o)
    (slot : ∀ b o, b ≠ X.env.locals → b ∈ X.fs → b ∉ ch → s.heap.get? b = some o → H b = none → ∃ sl, h'.get? b = some { o with slots := sl }) (free : ∀ b o, b ∉ ch → s.heap.get? b = some o → H b = none → H' b = none)
    (there : ∀ b o, b ∉ ch → s.heap.get? b = some o → ∃ o', h'.get? b = some o')
    (tups : ∀ b xs, H b = some (.tup xs) → H' b = some (.tup xs)) (frzs : ∀ b o u, H b = some (.frz o u) → H' b = some (.frz o u)) (tbls : ∀ b ps, H b = some (.tbl ps) → ∃ more, H' b = some (.tbl (ps ++ more)))
    (ns : ∀ m, s.heap.Ns X.env.locals m → h'.Ns X.env.locals m) (hok : HOk X.prog X.w H' h') (hg : AllBare g') :
    Inv X pins σ H' { s with heap := h', gens := g', drawn := d', toks := t' } := by
  have neL : ∀ b o, X.s₀.heap.get? b = some o → b ≠ X.env.locals := fun b o e => Nat.ne_of_lt (Nat.lt_of_lt_of_le (Heap.lt_size e) I.ok.above)
  have neC : ∀ b o, X.s₀.heap.get? b = some o → b ∉ X.ex → b ∉ ch := fun b o e hx hb => by
    rcases (hch b hb).1 with z | z
    · exact hx z
    · rw [z] at e; cases e
  have cellK : ∀ x c, X.env.cells.lookup x = some c → ∀ v, s.heap.IsCell c v → h'.IsCell c v := fun x c e v ⟨o, ho, hd⟩ => by
    have nch : c ∉ ch := fun z => (hch c z).2.2.1 x c e rfl
    by_cases hc : c ∈ X.fs
    · obtain ⟨sl, q⟩ := slot c o (I.cne x c e) hc nch ho (I.freeC x c e)
      exact ⟨_, q, hd⟩
    · exact ⟨o, keep c o (I.cne x c e) hc nch ho (I.freeC x c e), hd⟩
  refine ⟨I.ok, I.os, hg, ⟨fun b o e n hb hx => ?_, fun b o e n hb hx => ?_, fun b o e n hx => ?_, fun b o e hx => ?_, fun b xs e => tups b xs (I.base.tups b xs e), fun b o xs e => frzs b o xs (I.base.frzs b o xs e), fun b ps e => ?_⟩, ?_, fun x c e => ?_, ?_, fun x c e => ?_, fun p hp => ?_, hok, I.len⟩
  · exact keep b o (neL b o e) hb (neC b o e hx) (I.base.keep b o e n hb hx) (I.base.free b o e n hx)
  · obtain ⟨sl, e1⟩ := I.base.slot b o e n hb hx
    obtain ⟨sl', e2⟩ := slot b _ (neL b o e) hb (neC b o e hx) e1 (I.base.free b o e n hx)
    exact ⟨sl', e2⟩
  · obtain ⟨o', e1⟩ := I.base.there b o e hx
    exact free b o' (neC b o e hx) e1 (I.base.free b o e n hx)
  · obtain ⟨o', e1⟩ := I.base.there b o e hx
    exact there b o' (neC b o e hx) e1
  · obtain ⟨m1, e1⟩ := I.base.tbls b ps e
    obtain ⟨m2, e2⟩ := tbls b _ e1
    exact ⟨m1 ++ m2, by rw [e2, Array.append_assoc]⟩
  · obtain ⟨m, hn, hl⟩ := I.loc
    refine ⟨m, ns m hn, fun i x v e1 e2 e3 => ?_⟩
    obtain ⟨u, r, l⟩ := hl i x v e1 e2 e3
    refine ⟨u, r, ?_⟩
    rcases l with l | ⟨k, c, e, z⟩
    · exact .inl l
    · exact .inr ⟨k, c, e, cellK x c e _ z⟩
  · obtain ⟨v, z⟩ := I.cell x c e
    exact ⟨v, cellK x c e v z⟩
  · obtain ⟨m, ⟨o, _, _, ho, _⟩, _⟩ := I.loc
    exact free _ o (fun z => (hch _ z).2.1 rfl) ho I.free
  · obtain ⟨v, o, ho, hd⟩ := I.cell x c e
    exact free c o (fun z => (hch c z).2.2.1 x c e rfl) ho (I.freeC x c e)
  · obtain ⟨e, n, ne, nf, d⟩ := I.pin p hp
    have nch : p.1 ∉ ch := fun z => (hch p.1 z).2.2.2 p hp rfl
    exact ⟨keep p.1 p.2 ne nf nch e n, free p.1 p.2 nch e n, ne, nf, d⟩
theorem Inv.un {t' : Nat} (I : Inv X pins σ H s) (u : Un X.fs [] H H' s.heap h') (hok : HOk X.prog X.w H' h') : Inv X pins σ H' { s with heap := h', toks := t' } := by
  obtain ⟨m, ⟨o, es, ep, ho, r⟩, _⟩ := id I.loc
  obtain ⟨sl, hL⟩ := u.any ho I.free (by simp)
  exact I.step (g' := s.gens) (d' := s.drawn) (ch := []) (fun _ z => nomatch z) (fun b o _ hb _ e n => u.keep b o e n hb (by simp)) (fun b o _ hb _ e n => u.slot b o e n hb (by simp)) (fun b o _ e n => u.free b o e n (by simp)) (fun b o _ e => u.there b o e (by simp)) u.tups u.frzs u.tbls (fun m' hm => by
    obtain ⟨o', es', ep', ho', r'⟩ := hm
    rw [ho] at ho'; cases ho'
    exact ⟨_, es', ep', hL, r'⟩) hok I.bare
theorem Inv.call {g' : Array GenState} {t' : Nat} {d' : Drawn} {ch : List Addr} (I : Inv X pins σ H s) (u : Un (frs X.stack) ch H H' s.heap h') (hok : HOk X.prog X.w H' h') (hg : AllBare g')
    (hch : ∀ b ∈ ch, (b ∈ X.ex ∨ X.s₀.heap.get? b = none) ∧ b ≠ X.env.locals ∧ (∀ x c, X.env.cells.lookup x = some c → c ≠ b) ∧ ∀ p ∈ X.pn ++ pins, p.1 ≠ b) :
    Inv X pins σ H' { s with heap := h', gens := g', drawn := d', toks := t' } := by
  obtain ⟨m, ⟨o, es, ep, ho, r⟩, _⟩ := id I.loc
  obtain ⟨sl, hL⟩ := u.any ho I.free fun z => (hch _ z).2.1 rfl
  exact I.step (ch := ch) hch (fun b o hL hb hc e n => u.keep b o e n (fun z => (List.mem_cons.mp (I.stkSub b z)).elim hL hb) hc) (fun b o _ _ hc e n => u.any e n hc) (fun b o hc e n => u.free b o e n hc) (fun b o hc e => u.there b o e hc) u.tups u.frzs u.tbls (fun m' hm => by
    obtain ⟨o', es', ep', ho', r'⟩ := hm
    rw [ho] at ho'; cases ho'
    exact ⟨_, es', ep', hL, r'⟩) hok hg
theorem Inv.turned {t' : Nat} {it : Addr} (I : Inv X pins σ H s) (k : ∀ b o, b ≠ it → s.heap.get? b = some o → h'.get? b = some o) (hn : H it = none) (hL : it ≠ X.env.locals)
    (h1 : it ∈ X.ex ∨ X.s₀.heap.get? it = none) (h2 : ∀ x c, X.env.cells.lookup x = some c → c ≠ it) (h3 : ∀ p ∈ X.pn ++ pins, p.1 ≠ it) : Inv X pins σ H { s with heap := h', toks := t' } := by
  have nit : ∀ b u, H b = some u → b ≠ it := fun b u e z => by rw [z, hn] at e; cases e
  refine I.step (g' := s.gens) (d' := s.drawn) (ch := [it]) (fun b hb => ?_) (fun b o _ _ hc e _ => k b o (fun z => hc (by simp [z])) e) (fun b o _ _ hc e _ => ⟨o.slots, k b o (fun z => hc (by simp [z])) e⟩) (fun _ _ _ _ n => n)
    (fun b o hc e => ⟨o, k b o (fun z => hc (by simp [z])) e⟩) (fun _ _ e => e) (fun _ _ _ e => e) (fun b ps e => ⟨#[], by rw [e]; simp⟩) (fun m hm => ?_) (fun b u e => ?_) I.bare
  · have e : b = it := by simpa using hb
    subst e
    exact ⟨h1, hL, h2, h3⟩
  · obtain ⟨o, es, ep, ho, r⟩ := hm
    exact ⟨o, es, ep, k _ o (Ne.symm hL) ho, r⟩
  · refine (I.hok b u e).stay (fun c v hc q => k c v ?_ q) (fun _ q => q) fun _ _ q => q
    rcases hc with z | z
    · rw [z]; exact nit b u e
    · exact nit c _ z
theorem Inv.tok (I : Inv X pins σ H s) (t : Nat) : Inv X pins σ H { s with toks := t } := I.un (h' := s.heap) (t' := t) Un.refl I.hok
theorem Inv.kept {t' : Nat} (I : Inv X pins σ H s) (k : ∀ b u, s.heap.get? b = some u → h'.get? b = some u) : Inv X pins σ H { s with heap := h', toks := t' } := I.un (Un.kept k) (I.hok.kept k)
theorem Inv.laid {a : Addr} {o : HO} {t' : Nat} (I : Inv X pins σ H s) (k : ∀ b u, s.heap.get? b = some u → h'.get? b = some u) (hp : s.heap.objs.size ≤ a) (new : ObjOk X.prog X.w (upd H a o) h' a o) :
    Inv X pins σ (upd H a o) { s with heap := h', toks := t' } := I.un (Un.laid k hp (I.hok.fresh hp)) (I.hok.laid k hp new)
theorem Inv.write {x e : Addr} {o : HO} {t' : Nat} (I : Inv X pins σ H s) (mu : Mut (H x)) (he : e = x ∨ H e = some (.own x)) (k : ∀ b u, b ≠ e → s.heap.get? b = some u → h'.get? b = some u) (heo : ∃ u, h'.get? e = some u)
    (new : ObjOk X.prog X.w (upd H x o) h' x o) : Inv X pins σ (upd H x o) { s with heap := h', toks := t' } := I.un (Un.write mu he k heo) (I.hok.write mu he k heo new)
theorem Inv.pins_of {pins' : List (Addr × Obj)} (I : Inv X pins σ H s) (h : ∀ p ∈ pins', s.heap.get? p.1 = some p.2 ∧ H p.1 = none ∧ p.1 ≠ X.env.locals ∧ p.1 ∉ X.fs ∧ ∀ v, p.2.data ≠ .cell v) : Inv X pins' σ H s :=
  ⟨I.ok, I.os, I.bare, I.base, I.loc, I.cell, I.free, I.freeC, fun p hp => (List.mem_append.mp hp).elim (fun z => I.pin p (List.mem_append_left _ z)) (h p), I.hok, I.len⟩
theorem nodup_ix {N : List Str} (hN : N.Nodup) {i j : Nat} {x : Str} (a : N[i]? = some x) (b : N[j]? = some x) : i = j := by
  obtain ⟨h1, e1⟩ := List.getElem?_eq_some_iff.mp a
  obtain ⟨h2, e2⟩ := List.getElem?_eq_some_iff.mp b
  exact (List.getElem_inj hN).mp (e1.trans e2.symm)
theorem store_ok2 {M : Model} {A : Around} {E : Value → Shared → Prop} {i : Nat} {x : Str} {v : V} {u : Value} {Q : Unit → Shared → Prop} (I : Inv X pins σ H s) (hN : X.N.Nodup) (hi : X.N[i]? = some x) (hx : Loc X.env.scope x) (r : RelV v u)
    (h : ∀ s', Inv X pins (σ.set i (some v)) H s' → (∃ a, Heap.SameBut a s.heap s'.heap ∧ (a = X.env.locals ∨ X.env.cells.lookup x = some a)) → Q () s') (hf : X.fn x = true ∨ X.env.scope.names.lookup x = some .local := by first | exact .inl rfl | exact .inr rfl | assumption) : wpAny M A (storeName X.env x u) Q E s := by
  obtain ⟨m, hn, hl⟩ := id I.loc
  have hcls : (X.env.scope.kind == .class || (X.env.scope.kind == .module && X.env.locals != X.env.globals)) = false := by rw [I.ok.kind]; rfl
  have hiσ : i < σ.length := by rw [I.len]; exact (List.getElem?_eq_some_iff.mp hi).1
  have cne := I.cne
  have tracked : ∀ {a : Addr} {h' : Heap}, (∃ o, s.heap.get? a = some o ∧ H a = none) → Heap.SameBut a s.heap h' → HOk X.prog X.w H h' := fun {a h'} ha hs b ob e => by
    obtain ⟨_, _, hfree⟩ := ha
    refine (I.hok b ob e).stay (fun c w' hc q => (hs.2 c ?_).trans q) (fun _ q => q) fun _ _ q => q
    rintro rfl
    rcases hc with rfl | hc
    · rw [hfree] at e; cases e
    · rw [hfree] at hc; cases hc
  rcases hx with hk | hk
  · refine wpAny_storeName_local hk hn (fun h' hn' hs => ?_) hcls
    obtain ⟨oL, _, _, hoL, _⟩ := id hn
    refine h _ ⟨I.ok, I.os, I.bare, ⟨fun b o e n hb hx => ?_, fun b o e n hb hx => ?_, I.base.free, fun b o e hx => ?_, I.base.tups, I.base.frzs, I.base.tbls⟩, ⟨_, hn', fun j y v' e1 e2 e3 => ?_⟩, fun y c e => ?_, I.free, I.freeC, fun p hp => ?_, tracked ⟨oL, hoL, I.free⟩ hs, by simpa using I.len⟩ ⟨_, hs, .inl rfl⟩
    · exact (hs.2 b (Nat.ne_of_lt (Nat.lt_of_lt_of_le (Heap.lt_size e) I.ok.above))).trans (I.base.keep b o e n hb hx)
    · obtain ⟨sl, e1⟩ := I.base.slot b o e n hb hx
      exact ⟨sl, (hs.2 b (Nat.ne_of_lt (Nat.lt_of_lt_of_le (Heap.lt_size e) I.ok.above))).trans e1⟩
    · obtain ⟨o', e1⟩ := I.base.there b o e hx
      exact ⟨o', (hs.2 b (Nat.ne_of_lt (Nat.lt_of_lt_of_le (Heap.lt_size e) I.ok.above))).trans e1⟩
    · by_cases hj : j = i
      · subst hj
        rw [hi] at e1; cases e1
        rw [List.getElem?_set_self hiσ] at e2
        cases e2
        exact ⟨u, r, .inl ⟨hk, by simp⟩⟩
      · rw [List.getElem?_set_ne (Ne.symm hj)] at e2
        obtain ⟨u', r', q⟩ := hl j y v' e1 e2 e3
        refine ⟨u', r', ?_⟩
        rcases q with ⟨k, e⟩ | ⟨k, c, e, z⟩
        · refine .inl ⟨k, ?_⟩
          have : y ≠ x := fun e => hj (nodup_ix hN e1 (e ▸ hi))
          simp [this, e]
        · exact .inr ⟨k, c, e, z.sameBut hs (cne y c e)⟩
    · obtain ⟨w', z⟩ := I.cell y c e
      exact ⟨w', z.sameBut hs (cne y c e)⟩
    · obtain ⟨e, n, ne, nf, d⟩ := I.pin p hp
      exact ⟨(hs.2 p.1 ne).trans e, n, ne, nf, d⟩
  · have hfn : X.fn x = true := by
      rcases hf with z | z
      · exact z
      · rw [z] at hk; cases hk
    obtain ⟨c, hc⟩ := I.ok.has x (.inl hk)
    obtain ⟨w', z⟩ := I.cell x c hc
    refine wpAny_storeName_cell I.ok.kind hk hc z (fun h' hc' hs => ?_)
    obtain ⟨oc, hoc, hocd⟩ := id z
    refine h { s with heap := h' } ⟨I.ok, I.os, I.bare, ⟨fun b o e n hb hx => ?_, fun b o e n hb hx => ?_, I.base.free, fun b o e hx => ?_, I.base.tups, I.base.frzs, I.base.tbls⟩, ⟨m, hn.sameBut hs (Ne.symm (cne x c hc)), fun j y v' e1 e2 e3 => ?_⟩, fun y c' e => ?_, I.free, I.freeC, fun p hp => ?_, tracked ⟨oc, hoc, I.freeC x c hc⟩ hs, by simpa using I.len⟩ ⟨c, hs, .inr hc⟩
    · exact (hs.2 b (Nat.ne_of_lt (Nat.lt_of_lt_of_le (Heap.lt_size e) (I.ok.cab x c hfn hc)))).trans (I.base.keep b o e n hb hx)
    · obtain ⟨sl, e1⟩ := I.base.slot b o e n hb hx
      exact ⟨sl, (hs.2 b (Nat.ne_of_lt (Nat.lt_of_lt_of_le (Heap.lt_size e) (I.ok.cab x c hfn hc)))).trans e1⟩
    · obtain ⟨o', e1⟩ := I.base.there b o e hx
      exact ⟨o', (hs.2 b (Nat.ne_of_lt (Nat.lt_of_lt_of_le (Heap.lt_size e) (I.ok.cab x c hfn hc)))).trans e1⟩
    · by_cases hj : j = i
      · subst hj
        rw [hi] at e1; cases e1
        rw [List.getElem?_set_self hiσ] at e2
        cases e2
        exact ⟨u, r, .inr ⟨.inl hk, c, hc, hc'⟩⟩
      · rw [List.getElem?_set_ne (Ne.symm hj)] at e2
        obtain ⟨u', r', q⟩ := hl j y v' e1 e2 e3
        refine ⟨u', r', ?_⟩
        rcases q with q | ⟨k, c', e, z'⟩
        · exact .inl q
        · refine .inr ⟨k, c', e, z'.sameBut hs ?_⟩
          rintro rfl
          exact hj (nodup_ix hN e1 (I.ok.inj _ _ _ e hc ▸ hi))
    · by_cases hcc : c' = c
      · subst hcc; exact ⟨_, hc'⟩
      · obtain ⟨w2, z2⟩ := I.cell y c' e
        exact ⟨w2, z2.sameBut hs hcc⟩
    · obtain ⟨e, n, ne, nf, d⟩ := I.pin p hp
      refine ⟨(hs.2 p.1 ?_).trans e, n, ne, nf, d⟩
      intro q
      rw [q, hoc] at e
      have q' : oc = p.2 := Option.some.inj e
      exact d w' (by rw [← q']; exact hocd)
theorem store_ok {M : Model} {A : Around} {E : Value → Shared → Prop} {i : Nat} {x : Str} {v : V} {u : Value} {Q : Unit → Shared → Prop} (I : Inv X pins σ H s) (hN : X.N.Nodup) (hi : X.N[i]? = some x) (hx : Loc X.env.scope x) (r : RelV v u)
    (h : ∀ s', Inv X pins (σ.set i (some v)) H s' → Q () s') (hf : X.fn x = true ∨ X.env.scope.names.lookup x = some .local := by first | exact .inl rfl | exact .inr rfl | assumption) : wpAny M A (storeName X.env x u) Q E s :=
  store_ok2 I hN hi hx r (fun s' I' _ => h s' I') hf
theorem Inv.call' {s' : Shared} {ch : List Addr} (I : Inv X pins σ H s) (ho : s'.os = s.os) (u : Un (frs X.stack) ch H H' s.heap s'.heap) (hok : HOk X.prog X.w H' s'.heap) (hg : AllBare s'.gens)
    (hch : ∀ b ∈ ch, (b ∈ X.ex ∨ X.s₀.heap.get? b = none) ∧ b ≠ X.env.locals ∧ (∀ x c, X.env.cells.lookup x = some c → c ≠ b) ∧ ∀ p ∈ X.pn ++ pins, p.1 ≠ b) : Inv X pins σ H' s' := by
  obtain ⟨h', g', d', t', o'⟩ := s'
  have e : o' = s.os := ho
  subst e
  exact I.call (g' := g') (t' := t') (d' := d') u hok hg hch
end
abbrev XK := Value → Option Addr → Hp → Prop
abbrev St := List (Option V)
abbrev VK := V → Hp → Prop
abbrev TE := St → Hp → VK → Prop
abbrev TT := St → Hp → (Bool → Hp → Prop) → Prop
abbrev TA := St → Hp → (List V → Hp → Prop) → Prop
structure Ends where
  nx : St → Hp → Prop
  rt : VK
  bk : St → Hp → Prop := fun _ _ => False
  ct : St → Hp → Prop := fun _ _ => False
abbrev TS := Ends → St → Hp → Prop
def EP (X : Cx) (pins : List (Addr × Obj)) (σ : St) (Q : VK) (u : Value) (s' : Shared) : Prop := ∃ v H', Inv X pins σ H' s' ∧ RelV v u ∧ Q v H'
def TP (X : Cx) (pins : List (Addr × Obj)) (σ : St) (Q : Bool → Hp → Prop) (b : Bool) (s' : Shared) : Prop := ∃ H', Inv X pins σ H' s' ∧ Q b H'
def AP (X : Cx) (pins : List (Addr × Obj)) (σ : St) (Q : List V → Hp → Prop) (us : List Value) (s' : Shared) : Prop := ∃ vs H', Inv X pins σ H' s' ∧ Vals vs us ∧ Q vs H'
def SP (X : Cx) (pins : List (Addr × Obj)) (D : Ends) (f : Flow) (s' : Shared) : Prop :=
  match f with
  | .next => ∃ σ' H', Inv X pins σ' H' s' ∧ D.nx σ' H'
  | .brk => ∃ σ' H', Inv X pins σ' H' s' ∧ D.bk σ' H'
  | .cont => ∃ σ' H', Inv X pins σ' H' s' ∧ D.ct σ' H'
  | .ret u => ∃ v σ' H', Inv X pins σ' H' s' ∧ RelV v u ∧ D.rt v H'
def PE (X : Cx) (e : Expr) (t : TE) : Prop :=
  ∀ (pins : List (Addr × Obj)) (s : Shared) (σ : St) (H : Hp) (Q : VK), Inv X pins σ H s → t σ H Q → wpAny (model X.prog X.w) X.A (eval e X.env) (EP X pins σ Q) X.xe s
def PT (X : Cx) (e : Expr) (t : TT) : Prop :=
  ∀ (pins : List (Addr × Obj)) (s : Shared) (σ : St) (H : Hp) (Q : Bool → Hp → Prop), Inv X pins σ H s → t σ H Q → wpAny (model X.prog X.w) X.A (isTrue e X.env (eval e X.env)) (TP X pins σ Q) X.xe s
def PW (X : Cx) (e : Expr) (t : TT) : Prop :=
  ∀ (whole : Sem Value) (pins : List (Addr × Obj)) (s : Shared) (σ : St) (H : Hp) (Q : Bool → Hp → Prop), Inv X pins σ H s → t σ H Q → wpAny (model X.prog X.w) X.A (isTrue e X.env whole) (TP X pins σ Q) X.xe s
theorem PW.pt {X : Cx} {e : Expr} {t : TT} (h : PW X e t) : PT X e t := h _
def PA (X : Cx) (es : List Expr) (t : TA) : Prop :=
  ∀ (pos : Pos) (pins : List (Addr × Obj)) (s : Shared) (σ : St) (H : Hp) (Q : List V → Hp → Prop), Inv X pins σ H s → t σ H Q → wpAny (model X.prog X.w) X.A (spliced (backTo pos (starEach es X.env))) (AP X pins σ Q) X.xe s
def PS (X : Cx) (st : Stmt) (t : TS) : Prop :=
  ∀ (pins : List (Addr × Obj)) (s : Shared) (σ : St) (H : Hp) (D : Ends), Inv X pins σ H s → t D σ H → wpAny (model X.prog X.w) X.A (exec st X.env) (SP X pins D) X.xe s
def PSs (X : Cx) (st : List Stmt) (t : TS) : Prop :=
  ∀ (pins : List (Addr × Obj)) (s : Shared) (σ : St) (H : Hp) (D : Ends), Inv X pins σ H s → t D σ H → wpAny (model X.prog X.w) X.A (execs st X.env) (SP X pins D) X.xe s
theorem thn {α : Type} {t : Sem α} {Q Q' : α → Shared → Prop} {M : Model} {A : Around} {E : Value → Shared → Prop} {s : Shared} (h : wpAny M A t Q E s) (hQ : ∀ a s, Q a s → Q' a s) : wpAny M A t Q' E s := wpAny_mono h hQ fun _ _ x => x
end L2
namespace L2
open PySem PySem.Spec PyProof.Rows
section
variable {X : Cx}
theorem bin {a b : Expr} {ta tb : TE} (ha : PE X a ta) (hb : PE X b tb) {pins : List (Addr × Obj)} {s : Shared} {σ : St} {H : Hp} {R : V → V → Hp → Prop} (I : Inv X pins σ H s) (h : ta σ H fun x H1 => tb σ H1 fun y H2 => R x y H2)
    {α : Type} {Q : α → Shared → Prop} {f : Value → Value → Sem α}
    (hf : ∀ v u s2 x y H2, Inv X pins σ H2 s2 → RelV x v → RelV y u → R x y H2 → wpAny (model X.prog X.w) X.A (f v u) Q X.xe s2) :
    wpAny (model X.prog X.w) X.A (eval a X.env) (fun v s₁ => wpAny (model X.prog X.w) X.A (eval b X.env) (fun u s₂ => wpAny (model X.prog X.w) X.A (f v u) Q X.xe s₂) X.xe s₁) X.xe s := by
  refine thn (ha pins s σ H _ I h) fun v s1 ⟨x, H1, I1, r1, q1⟩ => ?_
  refine thn (hb pins s1 σ H1 _ I1 q1) fun u s2 ⟨y, H2, I2, r2, q2⟩ => ?_
  exact hf v u s2 x y H2 I2 r1 r2 q2
def tVar (i : Nat) : TE := fun σ H Q => ∃ v, σ[i]? = some (some v) ∧ Q v H
def tC (v : V) : TE := fun _ H Q => Q v H
theorem pe_var {i : Nat} {x : Str} {pos : Pos} (hN : X.N[i]? = some x) (hv : Vis X.env.scope x) (hd : (x == ("__debug__" : Str)) = false := by decide) (hcd : (x == ("__classdict__" : Str)) = false := by decide) : PE X (.Name x pos) (tVar i) := by
  intro pins s σ H Q I h
  obtain ⟨v, e, h⟩ := h
  obtain ⟨m, hn, hl⟩ := I.loc
  obtain ⟨u, r, l⟩ := hl i x v hN e hv
  have fin : EP X pins σ Q u s := ⟨v, H, I, r, h⟩
  rcases l with ⟨hk, hm⟩ | ⟨hk, c, hc, hcell⟩
  · exact wpAny_Name (wpAny_loadName_local I.ok.kind hk hn hm fin) hd
  · rcases hk with hk | hk
    · exact wpAny_Name (wpAny_loadName_cell I.ok.kind hk hc hcell fin) hd
    · exact wpAny_Name (wpAny_loadName_free I.ok.kind hk hc hcell fin hcd) hd
theorem pe_int {i j pos} : PE X (.Constant (.int i) j pos) (tC (.int i)) := fun _ _ _ H _ I h => wpAny_Constant_int ⟨.int i, H, I.tok _, ⟨_, rfl⟩, h⟩
theorem pe_bl {b j pos} : PE X (.Constant (.bool b) j pos) (tC (.bl b)) := fun _ _ _ H _ I h => Constant_bool ⟨.bl b, H, I, rfl, h⟩
theorem pe_non {j pos} : PE X (.Constant .none j pos) (tC .non) := fun _ _ _ H _ I h => Constant_none ⟨.non, H, I, rfl, h⟩
theorem pe_str {x j pos} : PE X (.Constant (.str x) j pos) (tC (.str x)) := fun _ _ _ H _ I h => Calls.Constant_str ⟨.str x, H, I.tok _, ⟨_, rfl⟩, h⟩
def Gl (X : Cx) (x : Str) : Prop := X.env.kindOf x = some .globalImplicit
theorem ld_glob {E : Value → Shared → Prop} {pins : List (Addr × Obj)} {s : Shared} {σ : St} {H : Hp} {x : Str} {u : Value} {pos : Pos} {Q : Value → Shared → Prop} (I : Inv X pins σ H s) (hg : Gl X x) (hm : X.mg x = some u) (h : Q u s)
    (hd : (x == ("__debug__" : Str)) = false := by decide) : wpAny (model X.prog X.w) X.A (eval (.Name x pos) X.env) Q E s :=
  Calls.Name_function_global I.ok.kind hg (Calls.loadGlobal_global (by rw [I.ok.glob]; exact I.mod.glob.keeps I.bk) hm h) hd
theorem ld_blt {E : Value → Shared → Prop} {pins : List (Addr × Obj)} {s : Shared} {σ : St} {H : Hp} {x : Str} {u : Value} {pos : Pos} {Q : Value → Shared → Prop} (I : Inv X pins σ H s) (hg : Gl X x) (hm : X.mg x = none) (hv : bootBuiltins x = some u) (h : Q u s)
    (hn : x ≠ "__name__" := by decide) (hd : (x == ("__debug__" : Str)) = false := by decide) : wpAny (model X.prog X.w) X.A (eval (.Name x pos) X.env) Q E s := by
  obtain ⟨mb, h1, h2⟩ := I.mod.blt
  exact Calls.Name_function_global I.ok.kind hg (Calls.loadGlobal_builtin (by rw [I.ok.glob]; exact I.mod.glob.keeps I.bk) hm (by rw [I.ok.blt]; exact h1.keeps I.bk) ((h2 x hn).trans hv) h) hd
theorem pe_glob {x : Str} {v : V} {u : Value} {pos : Pos} (hg : Gl X x) (hm : X.mg x = some u) (r : RelV v u) (hd : (x == ("__debug__" : Str)) = false := by decide) : PE X (.Name x pos) (tC v) :=
  fun _ _ _ H _ I h => ld_glob I hg hm ⟨v, H, I, r, h⟩ hd
theorem pe_bltn {x : Str} {v : V} {u : Value} {pos : Pos} (hg : Gl X x) (hm : X.mg x = none) (hv : bootBuiltins x = some u) (r : RelV v u) (hn : x ≠ "__name__" := by decide) (hd : (x == ("__debug__" : Str)) = false := by decide) : PE X (.Name x pos) (tC v) :=
  fun _ _ _ H _ I h => ld_blt I hg hm hv ⟨v, H, I, r, h⟩ hn hd
variable {a b : Expr} {ta tb : TE} {pos : Pos}
def PC (X : Cx) (op : CmpOp) (a b : Expr) (t : TE) : Prop :=
  ∀ (pins : List (Addr × Obj)) (s : Shared) (σ : St) (H : Hp) (Q : VK), Inv X pins σ H s → t σ H Q →
    wpAny (model X.prog X.w) X.A (eval a X.env) (fun v s₁ => wpAny (model X.prog X.w) X.A (eval b X.env) (fun u s₂ => wpAny (model X.prog X.w) X.A (compareOp op v u) (EP X pins σ Q) X.xe s₂) X.xe s₁) X.xe s
def tB (t : TE) : TT := fun σ H Q => t σ H fun x H1 => ∃ c, x = .bl c ∧ Q c H1
theorem pt_cmp {op : CmpOp} {t : TE} (h : PC X op a b t) (h1 : behindInMarks op b = false := by first | exact nobehind _ (by decide) (by decide) | rfl) : PT X (.Compare a [op] [b] pos) (tB t) := by
  intro pins s σ H Q I hw
  refine wpAny_isTrue_Compare1 (thn (h pins s σ H _ I hw) fun v s1 h1 => thn h1 fun u s2 h2 => thn h2 fun c s3 ⟨x, H1, I1, r1, q1⟩ => ?_) h1
  obtain ⟨d, rfl, q⟩ := q1
  cases r1
  exact wpAny_truthy_bool ⟨H1, I1, q⟩
theorem pt_val {e : Expr} {t : TE} (h : PE X e t) (he : ∀ whole, isTrue e X.env whole = (do let v ← whole; standAt e.pos; holding [v] (truthy v)) := by intro _; rfl) : PT X e (tB t) := by
  intro pins s σ H Q I hw
  refine isTrue_plain (thn (h pins s σ H _ I hw) fun v s1 ⟨x, H1, I1, r1, q1⟩ => ?_) (he _)
  obtain ⟨d, rfl, q⟩ := q1
  cases r1
  exact wpAny_truthy_bool ⟨H1, I1, q⟩
variable {tA tB' : TT} {rest : List Expr}
def tAnd (t u : TT) : TT := fun σ H Q => t σ H fun c H1 => if c = true then u σ H1 Q else Q false H1
def tOr (t u : TT) : TT := fun σ H Q => t σ H fun c H1 => if c = true then Q true H1 else u σ H1 Q
def tNot (t : TT) : TT := fun σ H Q => t σ H fun c H1 => Q (!c) H1
theorem pw_and1 (ha : PT X a tA) : PW X (.BoolOp .And [a] pos) tA := by
  intro wh pins s σ H Q I h
  refine isTrue_and (thn (ha pins s σ H Q I h) fun c s1 e => ?_)
  cases c with
  | true => exact isTrue_and_nil e
  | false => exact e
theorem pw_or1 (ha : PT X a tA) : PW X (.BoolOp .Or [a] pos) tA := by
  intro wh pins s σ H Q I h
  refine isTrue_or (thn (ha pins s σ H Q I h) fun c s1 e => ?_)
  cases c with
  | false => exact isTrue_or_nil e
  | true => exact e
theorem pw_and (ha : PT X a tA) (hb : PW X (.BoolOp .And (b :: rest) pos) tB') : PW X (.BoolOp .And (a :: b :: rest) pos) (tAnd tA tB') := by
  intro wh pins s σ H Q I h
  refine isTrue_and (thn (ha pins s σ H _ I h) fun c s1 ⟨H1, I1, q1⟩ => ?_)
  cases c with
  | true => exact hb wh pins s1 σ H1 Q I1 q1
  | false => exact ⟨H1, I1, q1⟩
theorem pw_or (ha : PT X a tA) (hb : PW X (.BoolOp .Or (b :: rest) pos) tB') : PW X (.BoolOp .Or (a :: b :: rest) pos) (tOr tA tB') := by
  intro wh pins s σ H Q I h
  refine isTrue_or (thn (ha pins s σ H _ I h) fun c s1 ⟨H1, I1, q1⟩ => ?_)
  cases c with
  | true => exact ⟨H1, I1, q1⟩
  | false => exact hb wh pins s1 σ H1 Q I1 q1
theorem pt_not (ha : PT X a tA) : PT X (.UnaryOp .Not a pos) (tNot tA) := by
  intro pins s σ H Q I h
  exact isTrue_not (ha pins s σ H (fun c H1 => Q (!c) H1) I h)
def tAndV (ta tb : TE) : TE := fun σ H Q => ta σ H fun x H1 => ∃ c, x = .bl c ∧ if c = true then tb σ H1 Q else Q (.bl false) H1
theorem pe_one {op} {t : TE} (h : PE X a t) : PE X (.BoolOp op [a] pos) t := fun pins s σ H Q I hw => BoolOp_one (h pins s σ H Q I hw)
theorem pe_and (ha : PE X a ta) (hb : PE X (.BoolOp .And (b :: rest) pos) tb) : PE X (.BoolOp .And (a :: b :: rest) pos) (tAndV ta tb) := by
  intro pins s σ H Q I h
  refine BoolOp_and (thn (ha pins s σ H _ I h) fun v s1 ⟨x, H1, I1, r1, q1⟩ => ?_)
  obtain ⟨c, rfl, q1⟩ := q1
  cases r1
  refine wpAny_truthy_bool ?_
  cases c with
  | true => exact hb pins s1 σ H1 Q I1 q1
  | false => exact ⟨.bl false, H1, I1, rfl, q1⟩
def tIf (t : TT) (ta tb : TE) : TE := fun σ H Q => t σ H fun c H1 => if c = true then ta σ H1 Q else tb σ H1 Q
theorem pe_ifExp {c : Expr} (hc : PT X c tA) (ha : PE X a ta) (hb : PE X b tb) : PE X (.IfExp c a b pos) (tIf tA ta tb) := by
  intro pins s σ H Q I h
  refine wpAny_IfExp (thn (hc pins s σ H _ I h) fun d s1 ⟨H1, I1, q1⟩ => ?_)
  cases d with
  | true => exact ha pins s1 σ H1 Q I1 q1
  | false => exact hb pins s1 σ H1 Q I1 q1
end
end L2
namespace L2
open PySem PySem.Spec PyProof.Rows
def SqL (K : PySem.W.Frag) (H : Hp) (a : Addr) (xs : List V) : Prop :=
  Rd H a (.lst xs) ∨
    ∃ (o : Obj) (its : Array Value) (n : Nat), K.lookup a = some o ∧ o.cls = .type "list" ∧ o.dict = none ∧ o.data = .seq its n ∧ its.size ≤ sizeLine ∧ Vals xs its.toList
def SqT (K : PySem.W.Frag) (H : Hp) (a : Addr) (xs : List V) : Prop :=
  Rd H a (.tup xs) ∨
    ∃ (o : Obj) (its : Array Value) (n : Nat), K.lookup a = some o ∧ o.cls = .type "tuple" ∧ o.data = .seq its n ∧ its.size ≤ sizeLine ∧ Vals xs its.toList
def absV : Value → Option V
  | .none => some .non
  | .bool b => some (.bl b)
  | .int i _ => some (.int i)
  | .str x _ => some (.str x)
  | .bytes b _ => some (.byt b)
  | .float b _ => some (.flt b)
  | .ref a => some (.ref a)
  | .type n => some (.ty n)
  | _ => none
theorem RelV.abs {x : V} {u : Value} (r : RelV x u) : absV u = some x := by
  cases x with
  | non => cases r; rfl
  | bl _ => cases r; rfl
  | int _ => obtain ⟨t, rfl⟩ := r; rfl
  | str _ => obtain ⟨t, rfl⟩ := r; rfl
  | byt _ => obtain ⟨t, rfl⟩ := r; rfl
  | flt _ => obtain ⟨t, rfl⟩ := r; rfl
  | ref _ => cases r; rfl
  | ty _ => cases r; rfl
theorem RelV.inj {x y : V} {u : Value} (r : RelV x u) (q : RelV y u) : x = y := Option.some.inj (r.abs.symm.trans q.abs)
theorem Vals.inj : ∀ {xs ys : List V} {us : List Value}, Vals xs us → Vals ys us → xs = ys
  | _, _, _, .nil, .nil => rfl
  | _, _, _, .cons r t, .cons r' t' => by rw [r.inj r', Vals.inj t t']
section
variable {X : Cx} {pins : List (Addr × Obj)} {σ : St} {H : Hp} {s : Shared} {a : Addr} {xs ys : List V}
theorem Inv.list (I : Inv X pins σ H s) (h : SqL X.K H a xs) : ∃ its : List Value, Vals xs its ∧ PlainL s.heap a its.toArray ∧ xs.length ≤ sizeLine := by
  rcases h with h | ⟨o, its, n, hk, hc, hd, hs, hz, r⟩
  · obtain ⟨z, its, n, r, e⟩ := h.ok I.hok
    exact ⟨its, r, ⟨_, n, e, rfl, rfl, rfl⟩, z⟩
  · refine ⟨its.toList, r, ⟨o, n, I.kIn a o hk, hc, hd, by simpa using hs⟩, ?_⟩
    have e := r.length
    simp only [Array.length_toList] at e
    omega
theorem Inv.tuple (I : Inv X pins σ H s) (h : SqT X.K H a xs) : ∃ its : List Value, Vals xs its ∧ IsTup s.heap a its.toArray ∧ xs.length ≤ sizeLine := by
  rcases h with h | ⟨o, its, n, hk, hc, hs, hz, r⟩
  · obtain ⟨z, its, r, p⟩ := h.ok I.hok
    exact ⟨its, r, p, z⟩
  · refine ⟨its.toList, r, ⟨o, I.kIn a o hk, hc, n, by simpa using hs⟩, ?_⟩
    have e := r.length
    simp only [Array.length_toList] at e
    omega
theorem Inv.list_inj (I : Inv X pins σ H s) (h : SqL X.K H a xs) (h' : SqL X.K H a ys) : xs = ys := by
  obtain ⟨its, r, ⟨o, n, e, _, _, d⟩, _⟩ := I.list h
  obtain ⟨its', r', ⟨o', n', e', _, _, d'⟩, _⟩ := I.list h'
  rw [e] at e'; cases e'
  rw [d] at d'
  injection d' with d1 _
  have : its = its' := by simpa using congrArg Array.toList d1
  subst this
  exact r.inj r'
theorem Inv.tuple_inj (I : Inv X pins σ H s) (h : SqT X.K H a xs) (h' : SqT X.K H a ys) : xs = ys := by
  obtain ⟨its, r, ⟨o, e, _, n, d⟩, _⟩ := I.tuple h
  obtain ⟨its', r', ⟨o', e', _, n', d'⟩, _⟩ := I.tuple h'
  rw [e] at e'; cases e'
  rw [d] at d'
  injection d' with d1 _
  have : its = its' := by simpa using congrArg Array.toList d1
  subst this
  exact r.inj r'
end
abbrev Cx.wish (X : Cx) (E : Value → Shared → Prop) : Cx := { X with xe := E }
abbrev Cx.nox (X : Cx) : Cx := X.wish fun _ _ => False
theorem Cx.Ok.wish {X : Cx} (ok : X.Ok) (E : Value → Shared → Prop) : (X.wish E).Ok :=
  ⟨ok.mod, ok.kind, ok.glob, ok.blt, ok.above, ok.inj, ok.has, ok.cab, ok.hd, ok.frames, ok.stk, ok.exf, ok.bs, ok.bsz, ok.noex, ok.exfs, ok.funs, ok.frf⟩
theorem Cx.Ok.unwish {X : Cx} {E : Value → Shared → Prop} (ok : (X.wish E).Ok) : X.Ok :=
  ⟨ok.mod, ok.kind, ok.glob, ok.blt, ok.above, ok.inj, ok.has, ok.cab, ok.hd, ok.frames, ok.stk, ok.exf, ok.bs, ok.bsz, ok.noex, ok.exfs, ok.funs, ok.frf⟩
section
variable {X : Cx} {pins : List (Addr × Obj)} {σ : St} {H : Hp} {s : Shared} {E : Value → Shared → Prop}
theorem Inv.wish (I : Inv X pins σ H s) (E : Value → Shared → Prop) : Inv (X.wish E) pins σ H s := ⟨I.ok.wish E, I.os, I.bare, I.base, I.loc, I.cell, I.free, I.freeC, I.pin, I.hok, I.len⟩
theorem Inv.unwish (I : Inv (X.wish E) pins σ H s) : Inv X pins σ H s := ⟨I.ok.unwish, I.os, I.bare, I.base, I.loc, I.cell, I.free, I.freeC, I.pin, I.hok, I.len⟩
theorem SP.unwish {D : Ends} {f : Flow} {s' : Shared} (h : SP (X.wish E) pins D f s') : SP X pins D f s' := by
  cases f with
  | next => obtain ⟨σ', H', I, q⟩ := h; exact ⟨σ', H', I.unwish, q⟩
  | brk => obtain ⟨σ', H', I, q⟩ := h; exact ⟨σ', H', I.unwish, q⟩
  | cont => obtain ⟨σ', H', I, q⟩ := h; exact ⟨σ', H', I.unwish, q⟩
  | ret u => obtain ⟨v, σ', H', I, r, q⟩ := h; exact ⟨v, σ', H', I.unwish, r, q⟩
theorem PSs.nox {st : List Stmt} {t : TS} (h : PSs X.nox st t) : PSs X st t := fun pins s σ H D I hw =>
  wpAny_mono (h pins s σ H D (I.wish _) hw) (fun _ _ q => q.unwish) fun _ _ z => False.elim z
end
section
variable {X : Cx} {st : Stmt} {rest : List Stmt} {t u : TS} {e : Expr} {te : TE} {pos : Pos}
def tNext : TS := fun D σ H => D.nx σ H
def tSeq (t u : TS) : TS := fun D σ H => t { D with nx := u D } σ H
theorem pss_nil : PSs X [] tNext := fun _ _ σ H _ I h => wpAny_execs_nil ⟨σ, H, I, h⟩
theorem pss_cons (h1 : PS X st t) (h2 : PSs X rest u) : PSs X (st :: rest) (tSeq t u) := by
  intro pins s σ H D I h
  refine wpAny_execs_cons (thn (h1 pins s σ H { D with nx := u D } I h) fun f s1 q => ?_)
  cases f with
  | next =>
    obtain ⟨σ', H', I', q⟩ := q
    exact h2 pins s1 σ' H' D I' q
  | ret v => exact q
  | brk => exact q
  | cont => exact q
theorem pss_one (h1 : PS X st t) : PSs X [st] t := by
  intro pins s σ H D I h
  refine wpAny_execs_cons (thn (h1 pins s σ H D I h) fun f s1 q => ?_)
  cases f with
  | next => exact wpAny_execs_nil q
  | ret v => exact q
  | brk => exact q
  | cont => exact q
theorem Inv.quiet {pins : List (Addr × Obj)} {σ : St} {H : Hp} {s : Shared} (I : Inv X pins σ H s) : interactive X.env = false := by simp [interactive, I.ok.kind]
def tDrop (te : TE) : TS := fun D σ H => te σ H fun _ H1 => D.nx σ H1
theorem ps_expr (he : PE X e te) (hs : swapsWith e none pos.line X.env = pure false := by rfl) : PS X (.Expr e pos) (tDrop te) := by
  intro pins s σ H D I h
  exact wpAny_Expr_any (thn (he pins s σ H _ I h) fun v s1 ⟨x, H1, I1, r1, q1⟩ => ⟨σ, H1, I1, q1⟩) I.quiet hs
def tRet (te : TE) : TS := fun D σ H => te σ H D.rt
theorem ps_ret (he : PE X e te) : PS X (.Return (some e) pos) (tRet te) := by
  intro pins s σ H D I h
  exact wpAny_Return_some (thn (he pins s σ H _ I h) fun v s1 ⟨x, H1, I1, r1, q1⟩ => ⟨x, σ, H1, I1, r1, q1⟩)
def tIfS (c : TT) (t u : TS) : TS := fun D σ H => c σ H fun b H1 => if b = true then t D σ H1 else u D σ H1
theorem ps_if {c : Expr} {a b : List Stmt} {tc : TT} (hc : PT X c tc) (ha : PSs X a t) (hb : PSs X b u) : PS X (.If c a b pos) (tIfS tc t u) := by
  intro pins s σ H D I h
  refine wpAny_If (thn (hc pins s σ H _ I h) fun d s1 ⟨H1, I1, q1⟩ => ?_)
  cases d with
  | true => exact ha pins s1 σ H1 D I1 q1
  | false => exact hb pins s1 σ H1 D I1 q1
def tNever : TS := fun _ _ _ => False
theorem ps_never : PS X st tNever := fun _ _ _ _ _ _ h => h.elim
end
abbrev TG := V → St → Hp → (St → Hp → Prop) → Prop
abbrev TGs := List V → St → Hp → (St → Hp → Prop) → Prop
def PG (X : Cx) (target : Expr) (t : TG) : Prop :=
  ∀ (pins : List (Addr × Obj)) (s : Shared) (σ : St) (H : Hp) (v : V) (u : Value) (Q : St → Hp → Prop), Inv X pins σ H s → RelV v u → t v σ H Q →
    wpAny (model X.prog X.w) X.A (assign target X.env u) (fun _ s' => ∃ σ' H', Inv X pins σ' H' s' ∧ Q σ' H') X.xe s
def PGs (X : Cx) (ts : List Expr) (t : TGs) : Prop :=
  ∀ (pins : List (Addr × Obj)) (s : Shared) (σ : St) (H : Hp) (vs : List V) (us : List Value) (Q : St → Hp → Prop), Inv X pins σ H s → Vals vs us → t vs σ H Q →
    wpAny (model X.prog X.w) X.A (assignInOrder ((assignEach ts X.env).map (·.2)) us) (fun _ s' => ∃ σ' H', Inv X pins σ' H' s' ∧ Q σ' H') X.xe s
abbrev TSet := V → V → V → Hp → (Hp → Prop) → Prop
def PSet (X : Cx) (t : TSet) : Prop :=
  ∀ (pins : List (Addr × Obj)) (s : Shared) (σ : St) (H : Hp) (o i v : V) (ov iv u : Value) (Q : Hp → Prop), Inv X pins σ H s → RelV o ov → RelV i iv → RelV v u → t o i v H Q →
    wpAny (model X.prog X.w) X.A (setItem ov iv u) (fun _ s' => ∃ H', Inv X pins σ H' s' ∧ Q H') X.xe s
section
variable {X : Cx} {pos : Pos}
def gName (i : Nat) : TG := fun v σ H Q => Q (σ.set i (some v)) H
theorem pg_name {i : Nat} {x : Str} (hN : X.N.Nodup) (hi : X.N[i]? = some x) (hx : Loc X.env.scope x) (hf : X.fn x = true ∨ X.env.scope.names.lookup x = some .local := by first | exact .inl rfl | exact .inr rfl | assumption) : PG X (.Name x pos) (gName i) := by
  intro pins s σ H v u Q I r h
  exact wpAny_assign_Name (store_ok I hN hi hx r (fun s' I' => ⟨_, H, I', h⟩) hf)
def gNil : TGs := fun vs σ H Q => vs = [] ∧ Q σ H
def gCons (t : TG) (u : TGs) : TGs := fun vs σ H Q => ∃ v r, vs = v :: r ∧ t v σ H fun σ' H' => u r σ' H' Q
theorem pgs_nil : PGs X [] gNil := by
  intro pins s σ H vs us Q I r h
  obtain ⟨e, h⟩ := h
  subst e
  cases r
  exact assignInOrder_nil ⟨σ, H, I, h⟩
theorem pgs_cons {e : Expr} {es : List Expr} {t : TG} {u : TGs} (h1 : PG X e t) (h2 : PGs X es u)
    (hs : (assignEach (e :: es) X.env).map (·.2) = assign e X.env :: (assignEach es X.env).map (·.2) := by rfl) : PGs X (e :: es) (gCons t u) := by
  intro pins s σ H vs us Q I r h
  obtain ⟨v, vr, e1, h⟩ := h
  subst e1
  cases r with
  | cons r rr =>
    rw [hs]
    refine assignInOrder_cons (thn (h1 pins s σ H _ _ _ I r h) fun _ s1 ⟨σ1, H1, I1, q1⟩ => ?_)
    exact h2 pins s1 σ1 H1 _ _ Q I1 rr q1
def gTup (K : PySem.W.Frag) (n : Nat) (t : TGs) : TG := fun v σ H Q => ∃ a xs, v = .ref a ∧ SqT K H a xs ∧ xs.length = n ∧ t xs σ H Q
theorem pg_tup {es : List Expr} {k : Nat} {t : TGs} {n : Nat} (hc : X.calm = true) (h : PGs X es t)
    (hn : (assignEach es X.env).length = n := by rfl) (hst : (assignEach es X.env).findIdx? (·.1) = none := by rfl) : PG X (.Tuple es k pos) (gTup X.K n t) := by
  intro pins s σ H v u Q I r hw
  obtain ⟨a, xs, e1, hq, hl, hw⟩ := hw
  subst e1
  cases r
  obtain ⟨its, rv, ht, hz⟩ := I.tuple hq
  refine assign_Tuple_tuple (I.ok.hd hc) ht (by simp [hn, ← hl, rv.length]) hst fun h' hx => ?_
  have I1 : Inv X pins σ H { s with heap := h' } := I.kept (t' := s.toks) fun b o e => hx b o (Nat.ne_of_lt (Heap.lt_size e)) e
  exact h pins _ σ H xs _ Q I1 (by simpa using rv) hw
def gSub (to ti : TE) (t : TSet) : TG := fun v σ H Q => to σ H fun o H1 => ti σ H1 fun i H2 => t o i v H2 fun H3 => Q σ H3
theorem pg_sub {o i : Expr} {to ti : TE} {t : TSet} (ho : PE X o to) (hi : PE X i ti) (hs : PSet X t)
    (ha : ∀ v, assign (.Subscript o i pos) X.env v = (do
      let ov ← holding [v] (eval o X.env)
      let iv ← holding [v, ov] (eval i X.env)
      standAt pos
      holding [v, ov, iv] (setItem ov iv v)
      release [v, ov, iv] []) := by intro _; rfl) : PG X (.Subscript o i pos) (gSub to ti t) := by
  intro pins s σ H v u Q I r h
  rw [ha]
  refine wpAny_bind (wpAny_holding (thn (ho pins s σ H _ I h) fun ov s1 ⟨x, H1, I1, r1, q1⟩ => ?_))
  refine wpAny_bind (wpAny_holding (thn (hi pins s1 σ H1 _ I1 q1) fun iv s2 ⟨y, H2, I2, r2, q2⟩ => ?_))
  refine wpAny_bind (wpAny_standAt (wpAny_bind (wpAny_holding (thn (hs pins s2 σ H2 x y v ov iv u _ I2 r1 r2 r q2) fun _ s3 ⟨H3, I3, q3⟩ => ?_))))
  exact wpAny_release ⟨σ, H3, I3, q3⟩
def tAsg (te : TE) (g : TG) : TS := fun D σ H => te σ H fun x H1 => g x σ H1 D.nx
theorem ps_asg {tg e : Expr} {te : TE} {g : TG} (he : PE X e te) (hg : PG X tg g) (hs : swapsWithSole [tg] e pos.line X.env = pure false := by rfl) (hw : swappedStores [tg] e X.env = pure none := by rfl)
    (h1 : (assignEach [tg] X.env).map (·.2) = [assign tg X.env] := by rfl) : PS X (.Assign [tg] e pos) (tAsg te g) := by
  intro pins s σ H D I h
  refine wpAny_Assign_stores (thn (he pins s σ H _ I h) fun v s1 ⟨x, H1, I1, r1, q1⟩ => ?_) hs hw
  rw [h1]
  exact thn (hg pins s1 σ H1 x v _ I1 r1 q1) fun _ s2 q => q
theorem ps_set {i : Nat} {x : Str} {e : Expr} {te : TE} {pos' : Pos} (hN : X.N.Nodup) (hi : X.N[i]? = some x) (hx : Loc X.env.scope x) (he : PE X e te) (hs : swapsWith e (some (.Name x pos')) pos.line X.env = pure false := by rfl) (hf : X.fn x = true ∨ X.env.scope.names.lookup x = some .local := by first | exact .inl rfl | exact .inr rfl | assumption) :
    PS X (.Assign [.Name x pos'] e pos) (tAsg te (gName i)) := by
  intro pins s σ H D I h
  refine wpAny_Assign_Name (thn (he pins s σ H _ I h) fun v s1 ⟨y, H1, I1, r1, q1⟩ => ?_) hs
  exact store_ok I1 hN hi hx r1 (fun s2 I2 => ⟨_, H1, I2, q1⟩) hf
end
section
variable {X : Cx} {pos : Pos}
end
structure It where
  go : Nat → Hp → Prop
  yld : Nat → Hp → V → Hp → Prop
  stop : Nat → Hp → Prop
def FpOk (X : Cx) (pins : List (Addr × Obj)) (H : Hp) (b : Addr) : Prop :=
  H b = none ∧ b ≠ X.env.locals ∧ b ∉ X.fs ∧ (b ∈ X.ex ∨ X.s₀.heap.get? b = none) ∧ (∀ x c, X.env.cells.lookup x = some c → c ≠ b) ∧ ∀ p ∈ X.pn ++ pins, p.1 ≠ b
theorem Inv.fpOk {X : Cx} {pins : List (Addr × Obj)} {σ : St} {H H' : Hp} {s : Shared} {b : Addr} (I : Inv X pins σ H s) (hb : s.heap.objs.size ≤ b) (hn : H' b = none) : FpOk X pins H' b := by
  refine ⟨hn, Nat.ne_of_gt (Nat.lt_of_lt_of_le I.lt hb), I.nofs hb, .inr (Heap.get?_none_of_le (Nat.le_trans I.sz hb)), fun x c e z => ?_, fun p hp z => ?_⟩
  · obtain ⟨v, q⟩ := I.cell x c e
    exact absurd (Nat.lt_of_lt_of_le q.lt (by rw [z]; exact hb)) (Nat.lt_irrefl _)
  · exact absurd (Nat.lt_of_lt_of_le (Heap.lt_size (I.pin p hp).1) (by rw [z]; exact hb)) (Nat.lt_irrefl _)
structure Turn (P : Program) (w : World) (K : PySem.W.Frag) (tg : Expr) (J : It) (fp : List Addr) (it : Addr) (tn : Nat → Heap → Prop) : Prop where
  mem : it ∈ fp
  obj : ∀ i h, tn i h → ∀ b ∈ fp, ∃ o, h.get? b = some o ∧ ∀ v, o.data ≠ .cell v
  keep : ∀ i h h', tn i h → (∀ b ∈ fp, ∀ o, h.get? b = some o → h'.get? b = some o) → tn i h'
  item : ∀ (X : Cx), X.prog = P → X.w = w → X.K = K → X.calm = true → ∀ (i : Nat) (pins : List (Addr × Obj)) (s : Shared) (σ : St) (H : Hp) (E : Value → Shared → Prop), Inv X pins σ H s → (∀ b ∈ fp, FpOk X pins H b) → tn i s.heap → J.go i H →
    wpAny (model P w) X.A (pyNext (.ref it)) (fun r s1 => ∃ u, r = some u ∧
      wpAny (model P w) X.A (letOwnedTupleGo tg (.ref it) u) (fun _ s2 => ∃ x H', Inv X pins σ H' s2 ∧ RelV x u ∧ J.yld i H x H' ∧ tn (i + 1) s2.heap ∧ ∀ b ∈ fp, H' b = none) E s1) E s
  done : ∀ (X : Cx), X.prog = P → X.w = w → X.K = K → X.calm = true → ∀ (i : Nat) (pins : List (Addr × Obj)) (s : Shared) (σ : St) (H : Hp) (E : Value → Shared → Prop), Inv X pins σ H s → (∀ b ∈ fp, FpOk X pins H b) → tn i s.heap → J.stop i H →
    wpAny (model P w) X.A (pyNext (.ref it)) (fun r s1 => r = none ∧ Inv X pins σ H s1) E s
  self : ∀ (A : Around) (i : Nat) (s : Shared) (Q : Value → Shared → Prop) (E : Value → Shared → Prop), tn i s.heap → Q (.ref it) s → wpAny (model P w) A (pyIter (.ref it)) Q E s
abbrev TI := St → Hp → (It → Hp → Prop) → Prop
def PIE (X : Cx) (pins : List (Addr × Obj)) (σ : St) (tg : Expr) (R : It → Hp → Prop) (itv : Value) (s2 : Shared) : Prop :=
  ∃ (it : Addr) (fp : List Addr) (tn : Nat → Heap → Prop) (J : It) (H' : Hp), itv = .ref it ∧ Inv X pins σ H' s2 ∧ Turn X.prog X.w X.K tg J fp it tn ∧ tn 0 s2.heap ∧ (∀ b ∈ fp, FpOk X pins H' b) ∧ R J H'
def PI (X : Cx) (tg iter : Expr) (wi : TI) : Prop :=
  ∀ (pins : List (Addr × Obj)) (s : Shared) (σ : St) (H : Hp) (R : It → Hp → Prop), Inv X pins σ H s → wi σ H R →
    wpAny (model X.prog X.w) X.A (eval iter X.env) (fun v s1 => wpAny (model X.prog X.w) X.A (pyIter v) (PIE X pins σ tg R) X.xe s1) X.xe s
theorem go_of {M : Model} {A : Around} {E : Value → Shared → Prop} {s : Shared} {tg : Expr} {it : Addr} {u : Value} {o : Obj} {n : String} {vs : Array Value} {Q : Unit → Shared → Prop} (ho : s.heap.get? it = some o) (hc : o.cls = .type n) (hd : o.data = .fields vs)
    (hn : ["enumerate", "zip", "dict_itemiterator", "dict_reverseitemiterator", "odict_iterator", "itertools.zip_longest", "itertools.pairwise"].contains n = false) (hQ : Q () s) : wpAny M A (letOwnedTupleGo tg (.ref it) u) Q E s := by
  unfold letOwnedTupleGo
  cases tg <;> first
    | exact wpAny_pure hQ
    | (cases u <;> first
        | exact wpAny_pure hQ
        | (refine wpAny_bind (wpAny_load ho ?_)
           rw [hc, hd]
           show wpAny M A (if (["enumerate", "zip", "dict_itemiterator", "dict_reverseitemiterator", "odict_iterator", "itertools.zip_longest", "itertools.pairwise"].contains n && vs[0]? == some (rawInt _)) = true then _ else _) Q E s
           rw [if_neg (by intro h; rw [hn, Bool.false_and] at h; cases h)]
           exact wpAny_pure hQ))
def Itl (K : PySem.W.Frag) (a : Addr) : It :=
  ⟨fun i H => ∃ xs x, SqL K H a xs ∧ xs[i]? = some x, fun i H x H' => H' = H ∧ ∀ xs, SqL K H a xs → xs[i]? = some x, fun i H => ∃ xs, SqL K H a xs ∧ xs.length ≤ i⟩
def Itt (K : PySem.W.Frag) (a : Addr) : It :=
  ⟨fun i H => ∃ xs x, SqT K H a xs ∧ xs[i]? = some x, fun i H x H' => H' = H ∧ ∀ xs, SqT K H a xs → xs[i]? = some x, fun i H => ∃ xs, SqT K H a xs ∧ xs.length ≤ i⟩
def Itr (lo : Int) (n : Nat) : It := ⟨fun i _ => i < n, fun i H x H' => H' = H ∧ x = .int (lo + i), fun i _ => n ≤ i⟩
theorem turn_list {P : Program} {w : World} {K : PySem.W.Frag} {tg : Expr} (a it : Addr) : Turn P w K tg (Itl K a) [it] it (fun i h => h.IsListIter it a i) where
  mem := by simp
  obj := fun i h st b hb => by
    have e : b = it := by simpa using hb
    subst e
    obtain ⟨o, e, c, d⟩ := st
    exact ⟨o, e, fun v z => by rw [d] at z; cases z⟩
  keep := fun i h h' st k => st.at fun o e => k it (by simp) o e
  item := by
    intro X hP hw hK hc i pins s σ H E I hf st hg
    subst hP hw hK
    obtain ⟨xs, x, hq, hx⟩ := hg
    obtain ⟨its, rv, p, hz⟩ := I.list hq
    obtain ⟨u, hu, ru⟩ := rv.get hx
    obtain ⟨f0, f1, f2, f3, f4, f5⟩ := hf it (by simp)
    refine wpAny_pyNext_list_item st p.isList (x := u) (by simpa using hu) fun h' st' sb => ?_
    have I1 : Inv X pins σ H { s with heap := h' } := I.turned (t' := s.toks) (fun b o hb e => (sb.2 b hb).trans e) f0 f1 f3 f4 f5
    obtain ⟨o, e, c, d⟩ := id st'
    exact ⟨u, rfl, go_of (s := { s with heap := h' }) e c d (by decide) ⟨x, H, I1, ru, ⟨rfl, fun ys hy => by rw [I.list_inj hy hq]; exact hx⟩, st', fun b hb => (hf b hb).1⟩⟩
  done := by
    intro X hP hw hK hc i pins s σ H E I hf st hg
    subst hP hw hK
    obtain ⟨xs, hq, hx⟩ := hg
    obtain ⟨its, rv, p, hz⟩ := I.list hq
    obtain ⟨f0, f1, f2, f3, f4, f5⟩ := hf it (by simp)
    have hl := rv.length
    exact wpAny_pyNext_list_end (I.ok.hd hc) st p.isList (by simp; omega) fun h' eb => ⟨rfl, I.turned (t' := s.toks) (fun b o hb e => eb b o hb e) f0 f1 f3 f4 f5⟩
  self := fun _ _ _ _ _ st h => wpAny_pyIter_listiter st h
theorem turn_tuple {P : Program} {w : World} {K : PySem.W.Frag} {tg : Expr} (a it : Addr) : Turn P w K tg (Itt K a) [it] it (fun i h => h.IsTupleIter it a i) where
  mem := by simp
  obj := fun i h st b hb => by
    have e : b = it := by simpa using hb
    subst e
    obtain ⟨o, e, c, d⟩ := st
    exact ⟨o, e, fun v z => by rw [d] at z; cases z⟩
  keep := fun i h h' st k => st.at fun o e => k it (by simp) o e
  item := by
    intro X hP hw hK hc i pins s σ H E I hf st hg
    subst hP hw hK
    obtain ⟨xs, x, hq, hx⟩ := hg
    obtain ⟨its, rv, p, hz⟩ := I.tuple hq
    obtain ⟨u, hu, ru⟩ := rv.get hx
    obtain ⟨f0, f1, f2, f3, f4, f5⟩ := hf it (by simp)
    refine wpAny_pyNext_tuple_item st (show s.heap.IsTuple a its.toArray from p) (x := u) (by simpa using hu) fun h' st' sb => ?_
    have I1 : Inv X pins σ H { s with heap := h' } := I.turned (t' := s.toks) (fun b o hb e => (sb.2 b hb).trans e) f0 f1 f3 f4 f5
    obtain ⟨o, e, c, d⟩ := id st'
    exact ⟨u, rfl, go_of (s := { s with heap := h' }) e c d (by decide) ⟨x, H, I1, ru, ⟨rfl, fun ys hy => by rw [I.tuple_inj hy hq]; exact hx⟩, st', fun b hb => (hf b hb).1⟩⟩
  done := by
    intro X hP hw hK hc i pins s σ H E I hf st hg
    subst hP hw hK
    obtain ⟨xs, hq, hx⟩ := hg
    obtain ⟨its, rv, p, hz⟩ := I.tuple hq
    obtain ⟨f0, f1, f2, f3, f4, f5⟩ := hf it (by simp)
    have hl := rv.length
    exact wpAny_pyNext_tuple_end (I.ok.hd hc) st (show s.heap.IsTuple a its.toArray from p) (by simp; omega) fun h' eb => ⟨rfl, I.turned (t' := s.toks) (fun b o hb e => eb b o hb e) f0 f1 f3 f4 f5⟩
  self := fun _ _ _ _ _ st h => wpAny_pyIter_tupleiter st h
theorem turn_range {P : Program} {w : World} {K : PySem.W.Frag} {tg : Expr} (it : Addr) (lo : Int) (n : Nat) : Turn P w K tg (Itr lo n) [it] it (fun i h => IsRangeIter h it (lo + (i : Nat) * 1) ((n : Int) - (i : Nat)) 1) where
  mem := by simp
  obj := fun i h st b hb => by
    have e : b = it := by simpa using hb
    subst e
    exact ⟨_, st, fun v z => by
      have z' : Data.fields _ = Data.cell v := z
      cases z'⟩
  keep := fun i h h' st k => k it (by simp) _ st
  item := by
    intro X hP hw hK hc i pins s σ H E I hf st hg
    subst hP hw hK
    obtain ⟨f0, f1, f2, f3, f4, f5⟩ := hf it (by simp)
    have W := Walks.range (prog := X.prog) (w := X.w) (I.ok.hd hc) it lo 1 n
    refine W.item i s _ _ hg st fun v h' tk hv st' kk => ?_
    obtain ⟨t, rfl⟩ := hv
    have I1 : Inv X pins σ H { s with heap := h', toks := tk } := I.turned (fun b o hb e => kk b o (by simpa using hb) e) f0 f1 f3 f4 f5
    refine ⟨_, rfl, go_of (s := { s with heap := h', toks := tk }) (n := "range_iterator") st' rfl rfl (by decide) ⟨.int (lo + i), H, I1, ⟨t, ?_⟩, ⟨rfl, rfl⟩, st', fun b hb => (hf b hb).1⟩⟩
    rw [Int.mul_one]
  done := by
    intro X hP hw hK hc i pins s σ H E I hf st hg
    subst hP hw hK
    obtain ⟨f0, f1, f2, f3, f4, f5⟩ := hf it (by simp)
    exact wpAny_pyNext_range_end (I.ok.hd hc) st (by have : n ≤ i := hg; omega) fun h' eb => ⟨rfl, I.turned (t' := s.toks) (fun b o hb e => eb b o hb e) f0 f1 f3 f4 f5⟩
  self := fun _ _ _ _ _ st h => wpAny_pyIter_rangeiter st h
end L2
namespace L2
open PySem PySem.Spec PyProof.Rows
section
variable {X : Cx} {tg : Expr}
def iList (K : PySem.W.Frag) (tl : TE) : TI := fun σ H R => tl σ H fun x H1 => ∃ a, x = .ref a ∧ (∃ xs, SqL K H1 a xs) ∧ R (Itl K a) H1
def iTup (K : PySem.W.Frag) (tl : TE) : TI := fun σ H R => tl σ H fun x H1 => ∃ a, x = .ref a ∧ (∃ xs, SqT K H1 a xs) ∧ R (Itt K a) H1
theorem pi_list {l : Expr} {tl : TE} (hl : PE X l tl) : PI X tg l (iList X.K tl) := by
  intro pins s σ H R I h
  refine thn (hl pins s σ H _ I h) fun v s1 ⟨x, H1, I1, r1, q1⟩ => ?_
  obtain ⟨a, e, ⟨xs, hq⟩, q⟩ := q1
  subst e
  cases r1
  obtain ⟨its, rv, p, hz⟩ := I1.list hq
  refine wpAny_pyIter_list p.isList ?_
  refine ⟨s1.heap.objs.size, [s1.heap.objs.size], _, _, H1, rfl, I1.kept (t' := s1.toks) fun b o e => Heap.get?_push_of_some _ e, turn_list a _, ⟨_, Heap.get?_push_size _ rfl, rfl, rfl⟩, fun b hb => ?_, q⟩
  have e : b = s1.heap.objs.size := by simpa using hb
  subst e
  exact I1.fpOk (Nat.le_refl _) (I1.hok.fresh (Nat.le_refl _))
theorem pi_tup {l : Expr} {tl : TE} (hl : PE X l tl) : PI X tg l (iTup X.K tl) := by
  intro pins s σ H R I h
  refine thn (hl pins s σ H _ I h) fun v s1 ⟨x, H1, I1, r1, q1⟩ => ?_
  obtain ⟨a, e, ⟨xs, hq⟩, q⟩ := q1
  subst e
  cases r1
  obtain ⟨its, rv, p, hz⟩ := I1.tuple hq
  refine wpAny_pyIter_tuple (show s1.heap.IsTuple a its.toArray from p) ?_
  refine ⟨s1.heap.objs.size, [s1.heap.objs.size], _, _, H1, rfl, I1.kept (t' := s1.toks) fun b o e => Heap.get?_push_of_some _ e, turn_tuple a _, ⟨_, Heap.get?_push_size _ rfl, rfl, rfl⟩, fun b hb => ?_, q⟩
  have e : b = s1.heap.objs.size := by simpa using hb
  subst e
  exact I1.fpOk (Nat.le_refl _) (I1.hok.fresh (Nat.le_refl _))
theorem range_it {pins : List (Addr × Obj)} {σ : St} {H : Hp} {s : Shared} {R : It → Hp → Prop} {E : Value → Shared → Prop} {lo hi : Int} {t u v : Tok} {tk : Nat} (I : Inv X pins σ H s) (h1 : -(2 ^ 62) ≤ lo) (h2 : lo < 2 ^ 62) (h3 : -(2 ^ 62) ≤ hi) (h4 : hi < 2 ^ 62)
    (q : R (Itr lo (hi - lo).toNat) H) : wpAny (model X.prog X.w) X.A (pyIter (.ref s.heap.objs.size)) (PIE X pins σ tg R) E { s with heap := s.heap.push { cls := .type "range", data := .fields #[.int lo t, .int hi u, .int 1 v] }, toks := tk } := by
  refine wpAny_pyIter_range (IsRange.new ..) (small_one h1 h2 h3 h4) ?_
  have I1 : Inv X pins σ H { s with heap := s.heap.push { cls := .type "range", data := .fields #[.int lo t, .int hi u, .int 1 v] }, toks := tk } := I.kept fun b o e => Heap.get?_push_of_some _ e
  refine ⟨(s.heap.push { cls := .type "range", data := .fields #[.int lo t, .int hi u, .int 1 v] }).objs.size, [(s.heap.push { cls := .type "range", data := .fields #[.int lo t, .int hi u, .int 1 v] }).objs.size], _, _, H, rfl,
    I1.kept (t' := tk) fun b o e => Heap.get?_push_of_some _ e, turn_range _ lo (hi - lo).toNat, ?_, fun b hb => ?_, q⟩
  · have e1 : lo + ((0 : Nat) : Int) * 1 = lo := by simp
    have e2 : (((hi - lo).toNat : Nat) : Int) - ((0 : Nat) : Int) = Builtin.Range.rangeSize lo hi 1 := by rw [rangeSize_one]; split <;> omega
    show IsRangeIter _ _ (lo + ((0 : Nat) : Int) * 1) ((((hi - lo).toNat : Nat) : Int) - ((0 : Nat) : Int)) 1
    rw [e1, e2]
    exact Heap.get?_push_size _ rfl
  · have e : b = (s.heap.push { cls := .type "range", data := .fields #[.int lo t, .int hi u, .int 1 v] }).objs.size := by simpa using hb
    subst e
    exact I1.fpOk (Nat.le_refl _) (I1.hok.fresh (Nat.le_refl _))
def iRng1 (ta : TA) : TI := fun σ H R => ta σ H fun vs H1 => ∃ j : Int, vs = [.int j] ∧ -(2 ^ 62) ≤ j ∧ j < 2 ^ 62 ∧ R (Itr 0 j.toNat) H1
def iRng2 (ta : TA) : TI := fun σ H R => ta σ H fun vs H1 => ∃ i j : Int, vs = [.int i, .int j] ∧ (-(2 ^ 62) ≤ i ∧ i < 2 ^ 62 ∧ -(2 ^ 62) ≤ j ∧ j < 2 ^ 62) ∧ R (Itr i (j - i).toNat) H1
theorem pi_range1 {a : Expr} {ta : TA} {p pos : Pos} (hg : Gl X "range") (hm : X.mg "range" = none) (ha : PA X [a] ta) (hs : starEach [a] X.env = [(false, eval a X.env)] := by rfl) : PI X tg (.Call (.Name "range" p) [a] [] pos) (iRng1 ta) := by
  intro pins s σ H R I h
  refine Call_ (ld_blt I hg hm boot_range (PyProof.Rows.callWith_type1 (thn (ha pos pins s σ H _ I h) fun us s1 ⟨vs, H1, I1, r1, q1⟩ => ?_) hs rfl))
  obtain ⟨j, e, q1, q2, q⟩ := q1
  subst e
  cases r1 with
  | cons r rr =>
    cases rr
    obtain ⟨t, rfl⟩ := r
    exact call_range_1 (range_it I1 (by omega) (by omega) q1 q2 (by simpa using q))
theorem pi_range2 {a b : Expr} {ta : TA} {p pos : Pos} (hg : Gl X "range") (hm : X.mg "range" = none) (ha : PA X [a, b] ta) (hs : starEach [a, b] X.env = [(false, eval a X.env), (false, eval b X.env)] := by rfl) (hs2 : starEach [b] X.env = [(false, eval b X.env)] := by rfl) :
    PI X tg (.Call (.Name "range" p) [a, b] [] pos) (iRng2 ta) := by
  intro pins s σ H R I h
  refine Call_ (ld_blt I hg hm boot_range (PyProof.Rows.callWith_type1 (thn (ha pos pins s σ H _ I h) fun us s1 ⟨vs, H1, I1, r1, q1⟩ => ?_) (by rw [hs, hs2]) (by rw [hs2]; rfl)))
  obtain ⟨i, j, e, ⟨q1, q2, q3, q4⟩, q⟩ := q1
  subst e
  cases r1 with
  | cons r rr =>
    cases rr with
    | cons r' rr =>
      cases rr
      obtain ⟨t, rfl⟩ := r
      obtain ⟨t', rfl⟩ := r'
      exact call_range_2 (range_it I1 q1 q2 q3 q4 q)
def tFor (wi : TI) (g : TG) (tb : TS) : TS := fun D σ H => wi σ H fun J H1 => ∃ W : Nat → Nat → St → Hp → Prop, (∃ m, W 0 m σ H1) ∧ ∀ i m σ H, W i m σ H →
  (J.stop i H ∧ D.nx σ H) ∨ (J.go i H ∧ ∃ N : St → Hp → Prop, (∀ σ' H', N σ' H' → ∃ m', m' < m ∧ W (i + 1) m' σ' H') ∧ ∀ x H', J.yld i H x H' → g x σ H' fun σ2 H2 => tb { D with nx := N, ct := N, bk := D.nx } σ2 H2)
def pinsAt (fp : List Addr) (h : Heap) : List (Addr × Obj) := fp.filterMap fun b => (h.get? b).map fun o => (b, o)
theorem mem_pinsAt {fp : List Addr} {h : Heap} {b : Addr} {o : Obj} (hb : b ∈ fp) (e : h.get? b = some o) : (b, o) ∈ pinsAt fp h := List.mem_filterMap.mpr ⟨b, hb, by rw [e]; rfl⟩
theorem of_pinsAt {fp : List Addr} {h : Heap} {p : Addr × Obj} (hp : p ∈ pinsAt fp h) : p.1 ∈ fp ∧ h.get? p.1 = some p.2 := by
  obtain ⟨b, hb, e⟩ := List.mem_filterMap.mp hp
  cases q : h.get? b with
  | none => rw [q] at e; cases e
  | some o =>
    rw [q] at e
    have e' : (b, o) = p := Option.some.inj e
    subst e'
    exact ⟨hb, q⟩
theorem Inv.pinned {pins : List (Addr × Obj)} {σ : St} {H : Hp} {s : Shared} {fp : List Addr} (I : Inv X pins σ H s) (hf : ∀ b ∈ fp, FpOk X pins H b) (ho : ∀ b ∈ fp, ∃ o, s.heap.get? b = some o ∧ ∀ v, o.data ≠ .cell v) : Inv X (pins ++ pinsAt fp s.heap) σ H s :=
  I.pins_of fun p hp => (List.mem_append.mp hp).elim (fun z => I.pin p (List.mem_append_right _ z)) fun z => by
    obtain ⟨hb, e⟩ := of_pinsAt z
    obtain ⟨f0, f1, f2, _⟩ := hf p.1 hb
    obtain ⟨o, e', d⟩ := ho p.1 hb
    rw [e] at e'; cases e'
    exact ⟨e, f0, f1, f2, d⟩
theorem Inv.unpinned {pins pl : List (Addr × Obj)} {σ : St} {H : Hp} {s : Shared} (I : Inv X (pins ++ pl) σ H s) : Inv X pins σ H s := I.pins_of fun p hp => I.pin p (List.mem_append_right _ (List.mem_append_left _ hp))
theorem ps_for {iter : Expr} {body : List Stmt} {wi : TI} {g : TG} {tb : TS} {pos : Pos} (hp : PassesOwn (model X.prog X.w) X.A X.env X.xe) (hc : X.calm = true) (hi : PI X tg iter wi) (hg : PG X tg g) (hb : PSs X body tb)
    (hs : ∀ x, foldedSetIterable iter X.env x = pure x := by intro _; rfl) : PS X (.For tg iter body [] pos) (tFor wi g tb) := by
  intro pins s σ H D I h
  refine wpAny_For (thn (hi pins s σ H _ I h) fun v s1 h1 => thn h1 fun itv s2 h2 => ?_) hs
  obtain ⟨it, fp, tn, J, H2, e, I2, T, st2, f2, W, ⟨m0, w0⟩, turn⟩ := h2
  subst e
  -- what stays true of the iterator's objects through the loop
  have stat : ∀ {H' : Hp}, (∀ b ∈ fp, H' b = none) → ∀ b ∈ fp, FpOk X pins H' b := fun hn b hb => ⟨hn b hb, (f2 b hb).2⟩
  refine codeAny_forLoop_any (fun n s' => ∃ i σ' H', Inv X pins σ' H' s' ∧ tn i s'.heap ∧ (∀ b ∈ fp, H' b = none) ∧ W i n σ' H') ?_ m0 ⟨0, σ, H2, I2, st2, fun b hb => (f2 b hb).1, w0⟩
  rintro n s3 ⟨i, σ3, H3, I3, st3, fr3, w3⟩
  rcases turn i n σ3 H3 w3 with ⟨stop, qn⟩ | ⟨go, N, hN, step⟩
  · refine wpAny_passesOwn hp (thn (T.done X rfl rfl rfl hc i pins s3 σ3 H3 X.xe I3 (stat fr3) st3 stop) fun r s4 ⟨hr, I4⟩ => ?_)
    subst hr
    exact wpAny_execs_nil ⟨σ3, H3, I4, qn⟩
  · refine wpAny_passesOwn hp (thn (T.item X rfl rfl rfl hc i pins s3 σ3 H3 X.xe I3 (stat fr3) st3 go) fun r s4 ⟨u, hr, h4⟩ => ?_)
    subst hr
    refine wpAny_passesOwn hp (thn h4 fun _ s5 ⟨x, H5, I5, r5, y5, st5, fr5⟩ => ?_)
    have I5' := I5.pinned (stat fr5) (T.obj _ _ st5)
    refine wpAny_passesOwn hp (thn (hg _ s5 σ3 H5 x u _ I5' r5 (step x H5 y5)) fun _ s6 ⟨σ6, H6, I6, q6⟩ => ?_)
    refine wpAny_passesOwn hp (thn (hb _ s6 σ6 H6 _ I6 q6) fun f s7 q7 => ?_)
    have again : ∀ {σ7 : St} {H7 : Hp}, Inv X (pins ++ pinsAt fp s5.heap) σ7 H7 s7 → N σ7 H7 → ∃ m, m < n ∧ ∃ i σ' H', Inv X pins σ' H' s7 ∧ tn i s7.heap ∧ (∀ b ∈ fp, H' b = none) ∧ W i m σ' H' := fun {σ7 H7} I7 n7 => by
      obtain ⟨m', hm, w7⟩ := hN σ7 H7 n7
      refine ⟨m', hm, i + 1, σ7, H7, I7.unpinned, T.keep _ _ _ st5 fun b hb o e => (I7.pin (b, o) (List.mem_append_right _ (List.mem_append_right _ (mem_pinsAt hb e)))).1, fun b hb => ?_, w7⟩
      obtain ⟨o, e, d⟩ := T.obj _ _ st5 b hb
      exact (I7.pin (b, o) (List.mem_append_right _ (List.mem_append_right _ (mem_pinsAt hb e)))).2.1
    cases f with
    | next => obtain ⟨σ7, H7, I7, n7⟩ := q7; exact again I7 n7
    | cont => obtain ⟨σ7, H7, I7, n7⟩ := q7; exact again I7 n7
    | brk => obtain ⟨σ7, H7, I7, q7⟩ := q7; exact ⟨σ7, H7, I7.unpinned, q7⟩
    | ret v => obtain ⟨x7, σ7, H7, I7, r7, q7⟩ := q7; exact ⟨x7, σ7, H7, I7.unpinned, r7, q7⟩
end
theorem for_list {K : PySem.W.Frag} {a : Addr} {xs : List V} {g : TG} {tb : TS} {D : Ends} {σ : St} {H : Hp} (Pv : Nat → St → Hp → Prop) (h0 : Pv 0 σ H) (hl : ∀ i σ H, i ≤ xs.length → Pv i σ H → SqL K H a xs)
    (hs : ∀ i x σ H, xs[i]? = some x → Pv i σ H → g x σ H fun σ2 H2 => tb { D with nx := Pv (i + 1), ct := Pv (i + 1), bk := D.nx } σ2 H2) (hd : ∀ σ H, Pv xs.length σ H → D.nx σ H) :
    ∃ W : Nat → Nat → St → Hp → Prop, (∃ m, W 0 m σ H) ∧ ∀ i m σ H, W i m σ H →
      ((Itl K a).stop i H ∧ D.nx σ H) ∨ ((Itl K a).go i H ∧ ∃ N : St → Hp → Prop, (∀ σ' H', N σ' H' → ∃ m', m' < m ∧ W (i + 1) m' σ' H') ∧ ∀ x H', (Itl K a).yld i H x H' → g x σ H' fun σ2 H2 => tb { D with nx := N, ct := N, bk := D.nx } σ2 H2) := by
  refine ⟨fun i m σ H => m = xs.length - i ∧ i ≤ xs.length ∧ Pv i σ H, ⟨xs.length, by simp, Nat.zero_le _, h0⟩, ?_⟩
  rintro i m σ H ⟨rfl, hi, p⟩
  have q := hl i σ H hi p
  by_cases hlt : i < xs.length
  · refine .inr ⟨⟨xs, xs[i], q, by simp [hlt]⟩, Pv (i + 1), fun σ' H' p' => ⟨xs.length - (i + 1), by omega, rfl, hlt, p'⟩, fun x H' y => ?_⟩
    obtain ⟨e, y⟩ := y
    subst e
    exact hs i x σ _ (y xs q) p
  · have e : i = xs.length := by omega
    subst e
    exact .inl ⟨⟨xs, q, Nat.le_refl _⟩, hd σ H p⟩
theorem for_tup {K : PySem.W.Frag} {a : Addr} {xs : List V} {g : TG} {tb : TS} {D : Ends} {σ : St} {H : Hp} (Pv : Nat → St → Hp → Prop) (h0 : Pv 0 σ H) (hl : ∀ i σ H, i ≤ xs.length → Pv i σ H → SqT K H a xs)
    (hs : ∀ i x σ H, xs[i]? = some x → Pv i σ H → g x σ H fun σ2 H2 => tb { D with nx := Pv (i + 1), ct := Pv (i + 1), bk := D.nx } σ2 H2) (hd : ∀ σ H, Pv xs.length σ H → D.nx σ H) :
    ∃ W : Nat → Nat → St → Hp → Prop, (∃ m, W 0 m σ H) ∧ ∀ i m σ H, W i m σ H →
      ((Itt K a).stop i H ∧ D.nx σ H) ∨ ((Itt K a).go i H ∧ ∃ N : St → Hp → Prop, (∀ σ' H', N σ' H' → ∃ m', m' < m ∧ W (i + 1) m' σ' H') ∧ ∀ x H', (Itt K a).yld i H x H' → g x σ H' fun σ2 H2 => tb { D with nx := N, ct := N, bk := D.nx } σ2 H2) := by
  refine ⟨fun i m σ H => m = xs.length - i ∧ i ≤ xs.length ∧ Pv i σ H, ⟨xs.length, by simp, Nat.zero_le _, h0⟩, ?_⟩
  rintro i m σ H ⟨rfl, hi, p⟩
  have q := hl i σ H hi p
  by_cases hlt : i < xs.length
  · refine .inr ⟨⟨xs, xs[i], q, by simp [hlt]⟩, Pv (i + 1), fun σ' H' p' => ⟨xs.length - (i + 1), by omega, rfl, hlt, p'⟩, fun x H' y => ?_⟩
    obtain ⟨e, y⟩ := y
    subst e
    exact hs i x σ _ (y xs q) p
  · have e : i = xs.length := by omega
    subst e
    exact .inl ⟨⟨xs, q, Nat.le_refl _⟩, hd σ H p⟩
theorem for_range {lo : Int} {n : Nat} {g : TG} {tb : TS} {D : Ends} {σ : St} {H : Hp} (Pv : Nat → St → Hp → Prop) (h0 : Pv 0 σ H)
    (hs : ∀ i σ H, i < n → Pv i σ H → g (.int (lo + i)) σ H fun σ2 H2 => tb { D with nx := Pv (i + 1), ct := Pv (i + 1), bk := D.nx } σ2 H2) (hd : ∀ σ H, Pv n σ H → D.nx σ H) :
    ∃ W : Nat → Nat → St → Hp → Prop, (∃ m, W 0 m σ H) ∧ ∀ i m σ H, W i m σ H →
      ((Itr lo n).stop i H ∧ D.nx σ H) ∨ ((Itr lo n).go i H ∧ ∃ N : St → Hp → Prop, (∀ σ' H', N σ' H' → ∃ m', m' < m ∧ W (i + 1) m' σ' H') ∧ ∀ x H', (Itr lo n).yld i H x H' → g x σ H' fun σ2 H2 => tb { D with nx := N, ct := N, bk := D.nx } σ2 H2) := by
  refine ⟨fun i m σ H => m = n - i ∧ i ≤ n ∧ Pv i σ H, ⟨n, by simp, Nat.zero_le _, h0⟩, ?_⟩
  rintro i m σ H ⟨rfl, hi, p⟩
  by_cases hlt : i < n
  · refine .inr ⟨hlt, Pv (i + 1), fun σ' H' p' => ⟨n - (i + 1), by omega, rfl, hlt, p'⟩, fun x H' y => ?_⟩
    obtain ⟨e, y⟩ := y
    subst e y
    exact hs i σ _ hlt p
  · have e : i = n := by omega
    subst e
    exact .inl ⟨Nat.le_refl _, hd σ H p⟩
end L2
namespace L2
open PySem PySem.Spec PyProof.Rows
abbrev R2 := V → V → Hp → VK → Prop
def OpR (X : Cx) (f : Value → Value → Sem Value) (r : R2) : Prop :=
  ∀ (pins : List (Addr × Obj)) (s : Shared) (σ : St) (H : Hp) (x y : V) (v u : Value) (Q : VK), Inv X pins σ H s → RelV x v → RelV y u → r x y H Q →
    wpAny (model X.prog X.w) X.A (f v u) (EP X pins σ Q) X.xe s
def UnR (X : Cx) (f : Value → Sem Value) (r : V → Hp → VK → Prop) : Prop :=
  ∀ (pins : List (Addr × Obj)) (s : Shared) (σ : St) (H : Hp) (x : V) (v : Value) (Q : VK), Inv X pins σ H s → RelV x v → r x H Q →
    wpAny (model X.prog X.w) X.A (f v) (EP X pins σ Q) X.xe s
def CallR (X : Cx) (f : Value) (r : List V → Hp → VK → Prop) : Prop :=
  ∀ (pins : List (Addr × Obj)) (s : Shared) (σ : St) (H : Hp) (xs : List V) (us : List Value) (Q : VK), Inv X pins σ H s → Vals xs us → r xs H Q →
    wpAny (model X.prog X.w) X.A (call f us) (EP X pins σ Q) X.xe s
def tOp (r : R2) (ta tb : TE) : TE := fun σ H Q => ta σ H fun x H1 => tb σ H1 fun y H2 => r x y H2 Q
def tUn (r : V → Hp → VK → Prop) (ta : TE) : TE := fun σ H Q => ta σ H fun x H1 => r x H1 Q
def rI (C : Int → Int → Prop) (g : Int → Int → V) : R2 := fun x y H Q => ∃ i j, x = .int i ∧ y = .int j ∧ C i j ∧ Q (g i j) H
def rI0 (g : Int → Int → V) : R2 := fun x y H Q => ∃ i j, x = .int i ∧ y = .int j ∧ Q (g i j) H
def rU (g : Int → V) : V → Hp → VK → Prop := fun x H Q => ∃ i, x = .int i ∧ Q (g i) H
section
variable {X : Cx} {a b c : Expr} {ta tb tc : TE} {pos : Pos}
theorem binT (ha : PE X a ta) (hb : PE X b tb) {pins : List (Addr × Obj)} {s : Shared} {σ : St} {H : Hp} {R : V → V → Hp → Prop} (I : Inv X pins σ H s)
    (h : ta σ H fun x H1 => tb σ H1 fun y H2 => R x y H2) {Q : Value → Shared → Prop} {f : Value → Value → Sem Value}
    (hf : ∀ v u s2 x y H2, Inv X pins σ H2 s2 → RelV x v → RelV y u → R x y H2 → wpAny (model X.prog X.w) X.A (f v u) Q X.xe s2) :
    wpAny (model X.prog X.w) X.A (eval a X.env) (fun v s₁ => wpAny (model X.prog X.w) X.A (eval b X.env) (fun u s₂ => wpAny (model X.prog X.w) X.A (f v u) Q X.xe s₂) X.xe s₁) X.xe s := by
  refine thn (ha pins s σ H _ I h) fun v s1 ⟨x, H1, I1, r1, q1⟩ => ?_
  refine thn (hb pins s1 σ H1 _ I1 q1) fun u s2 ⟨y, H2, I2, r2, q2⟩ => ?_
  exact hf v u s2 x y H2 I2 r1 r2 q2
theorem pe_op {op : Operator} {r : R2} (ho : OpR X (binaryOp op) r) (ha : PE X a ta) (hb : PE X b tb) : PE X (.BinOp a op b pos) (tOp r ta tb) := by
  intro pins s σ H Q I h
  exact wpAny_BinOp (binT ha hb I h fun v u s2 x y H2 I2 rx ry q => ho pins s2 σ H2 x y v u Q I2 rx ry q)
theorem pe_un {op : UnaryOp} {r : V → Hp → VK → Prop} (ho : UnR X (unaryOp op) r) (ha : PE X a ta) : PE X (.UnaryOp op a pos) (tUn r ta) := by
  intro pins s σ H Q I h
  exact UnaryOp_ (thn (ha pins s σ H _ I h) fun v s1 ⟨x, H1, I1, r1, q1⟩ => ho pins s1 σ H1 x v Q I1 r1 q1)
theorem opI {f : Value → Value → Sem Value} {C : Int → Int → Prop} {g : Int → Int → Int}
    (rule : ∀ (i j : Int) (t u : Tok) (s : Shared) (Q : Value → Shared → Prop) (E : Value → Shared → Prop), C i j → Q (.int (g i j) s.toks) { s with toks := s.toks + 1 } → wpAny (model X.prog X.w) X.A (f (.int i t) (.int j u)) Q E s) :
    OpR X f (rI C fun i j => .int (g i j)) := by
  intro pins s σ H x y v u Q I rx ry h
  obtain ⟨i, j, rfl, rfl, hc, q⟩ := h
  obtain ⟨t, rfl⟩ := rx
  obtain ⟨t', rfl⟩ := ry
  exact rule i j t t' s _ _ hc ⟨.int (g i j), H, I.tok _, ⟨_, rfl⟩, q⟩
theorem opI0 {f : Value → Value → Sem Value} {g : Int → Int → Int}
    (rule : ∀ (i j : Int) (t u : Tok) (s : Shared) (Q : Value → Shared → Prop) (E : Value → Shared → Prop), Q (.int (g i j) s.toks) { s with toks := s.toks + 1 } → wpAny (model X.prog X.w) X.A (f (.int i t) (.int j u)) Q E s) :
    OpR X f (rI0 fun i j => .int (g i j)) := by
  intro pins s σ H x y v u Q I rx ry h
  obtain ⟨i, j, rfl, rfl, q⟩ := h
  obtain ⟨t, rfl⟩ := rx
  obtain ⟨t', rfl⟩ := ry
  exact rule i j t t' s _ _ ⟨.int (g i j), H, I.tok _, ⟨_, rfl⟩, q⟩
theorem opB0 {f : Value → Value → Sem Value} {g : Int → Int → Bool}
    (rule : ∀ (i j : Int) (t u : Tok) (s : Shared) (Q : Value → Shared → Prop) (E : Value → Shared → Prop), Q (.bool (g i j)) s → wpAny (model X.prog X.w) X.A (f (.int i t) (.int j u)) Q E s) :
    OpR X f (rI0 fun i j => .bl (g i j)) := by
  intro pins s σ H x y v u Q I rx ry h
  obtain ⟨i, j, rfl, rfl, q⟩ := h
  obtain ⟨t, rfl⟩ := rx
  obtain ⟨t', rfl⟩ := ry
  exact rule i j t t' s _ _ ⟨.bl (g i j), H, I, rfl, q⟩
def CDiv (i j : Int) : Prop := 0 < j ∧ j < 1073741824
def CPow (i j : Int) : Prop := 0 ≤ j ∧ j ≤ 1000000 ∧ i.natAbs < 2 ^ 64
theorem op_add : OpR X (binaryOp .Add) (rI0 fun i j => .int (i + j)) := opI0 fun _ _ _ _ _ _ _ q => add_int q
theorem op_sub : OpR X (binaryOp .Sub) (rI0 fun i j => .int (i - j)) := opI0 fun _ _ _ _ _ _ _ q => sub_int q
theorem op_fdiv : OpR X (binaryOp .FloorDiv) (rI CDiv fun i j => .int (i / j)) := opI fun i j _ _ _ _ _ hc q => by
  have h1 : (0 : Int) < j := hc.1
  have h2 : j < 1073741824 := hc.2
  exact floordiv_int (by omega) (by rw [Int.fdiv_eq_ediv_of_nonneg i (by omega)]; exact q) (.inl (PyProof.noPylong_small (by omega)))
theorem op_mod : OpR X (binaryOp .Mod) (rI (fun _ j => 0 < j) fun i j => .int (i % j)) := opI fun i j _ _ _ _ _ hc q => by
  have h1 : (0 : Int) < j := hc
  exact mod_int' (by omega) (by rw [Int.fmod_eq_emod_of_nonneg i (by omega)]; exact q)
theorem op_pow : OpR X (binaryOp .Pow) (rI CPow fun i j => .int (i ^ j.toNat)) := opI fun _ _ _ _ _ _ _ hc q => pow_int_small hc.1 hc.2.1 hc.2.2 q
theorem unI {f : Value → Sem Value} {g : Int → Int}
    (rule : ∀ (i : Int) (t : Tok) (s : Shared) (Q : Value → Shared → Prop) (E : Value → Shared → Prop), Q (.int (g i) s.toks) { s with toks := s.toks + 1 } → wpAny (model X.prog X.w) X.A (f (.int i t)) Q E s) :
    UnR X f (rU fun i => .int (g i)) := by
  intro pins s σ H x v Q I rx h
  obtain ⟨i, rfl, q⟩ := h
  obtain ⟨t, rfl⟩ := rx
  exact rule i t s _ _ ⟨.int (g i), H, I.tok _, ⟨_, rfl⟩, q⟩
theorem un_neg : UnR X (unaryOp .USub) (rU fun i => .int (-i)) := unI fun _ _ _ _ _ q => neg_int q
end
def scal : V → V → Bool
  | .non, .non => true | .non, .int _ => true | .int _, .non => true | .non, .bl _ => true | .bl _, .non => true | .non, .str _ => true | .str _, .non => true
  | .int _, .int _ => true | .bl _, .bl _ => true | .str _, .str _ => true | .byt _, .byt _ => true
  | .int _, .str _ => true | .str _, .int _ => true | .bl _, .str _ => true | .str _, .bl _ => true
  | _, _ => false
def rEq : R2 := fun x y H Q => scal x y = true ∧ Q (.bl (decide (x = y))) H
def rNe : R2 := fun x y H Q => scal x y = true ∧ Q (.bl (!decide (x = y))) H
theorem dec_int {i j : Int} : decide (V.int i = V.int j) = (i == j) := by
  rw [Bool.eq_iff_iff]
  simp
theorem dec_bl {i j : Bool} : decide (V.bl i = V.bl j) = (i == j) := by
  rw [Bool.eq_iff_iff]
  simp
theorem dec_str {i j : Str} : decide (V.str i = V.str j) = (i == j) := by
  rw [Bool.eq_iff_iff]
  simp
theorem dec_byt {i j : Array UInt8} : decide (V.byt i = V.byt j) = (i.toList == j.toList) := by
  rw [Bool.eq_iff_iff]
  cases i
  cases j
  simp
section
variable {X : Cx} {a b c : Expr} {ta tb tc : TE} {pos : Pos}
theorem fin_bl {pins : List (Addr × Obj)} {σ : St} {H : Hp} {s : Shared} {Q : VK} {k k' : Bool} (I : Inv X pins σ H s) (q : Q (.bl k) H) (e : k = k') : EP X pins σ Q (.bool k') s := by
  subst e
  exact ⟨.bl k, H, I, rfl, q⟩
theorem op_eq : OpR X (compareOp .Eq) rEq := by
  intro pins s σ H x y v u Q I rx ry h
  obtain ⟨hs, q⟩ := h
  cases x with
  | non =>
    cases rx
    cases y with
    | non => cases ry; exact PySem.EqNone.eq_none_none (fin_bl I q (by simp))
    | bl j => cases ry; exact PySem.EqNone.eq_none_bool (fin_bl I q (by simp))
    | int j => obtain ⟨t', rfl⟩ := ry; exact PySem.EqNone.eq_none_int (fin_bl I q (by simp))
    | str j => obtain ⟨t', rfl⟩ := ry; exact PySem.EqNone.eq_none_str (fin_bl I q (by simp))
    | _ => exact absurd (show false = true from hs) Bool.false_ne_true
  | bl i =>
    cases rx
    cases y with
    | non => cases ry; exact PySem.EqNone.eq_bool_none (fin_bl I q (by simp))
    | bl j => cases ry; exact eq_bool (fin_bl I q dec_bl)
    | str j => obtain ⟨t', rfl⟩ := ry; exact PySem.EqMixed.eq_bool_str (fin_bl I q (by simp))
    | _ => exact absurd (show false = true from hs) Bool.false_ne_true
  | int i =>
    obtain ⟨t, rfl⟩ := rx
    cases y with
    | non => cases ry; exact PySem.EqNone.eq_int_none (fin_bl I q (by simp))
    | int j => obtain ⟨t', rfl⟩ := ry; exact eq_int (fin_bl I q dec_int)
    | str j => obtain ⟨t', rfl⟩ := ry; exact PySem.EqMixed.eq_int_str (fin_bl I q (by simp))
    | _ => exact absurd (show false = true from hs) Bool.false_ne_true
  | str i =>
    obtain ⟨t, rfl⟩ := rx
    cases y with
    | non => cases ry; exact PySem.EqNone.eq_str_none (fin_bl I q (by simp))
    | bl j => cases ry; exact PySem.EqMixed.eq_str_bool (fin_bl I q (by simp))
    | int j => obtain ⟨t', rfl⟩ := ry; exact PySem.EqMixed.eq_str_int (fin_bl I q (by simp))
    | str j => obtain ⟨t', rfl⟩ := ry; exact eq_str (fin_bl I q dec_str)
    | _ => exact absurd (show false = true from hs) Bool.false_ne_true
  | byt i =>
    obtain ⟨t, rfl⟩ := rx
    cases y with
    | byt j => obtain ⟨t', rfl⟩ := ry; exact PySem.W.eq_bytes (fin_bl I q dec_byt)
    | _ => exact absurd (show false = true from hs) Bool.false_ne_true
  | _ => cases y <;> exact absurd (show false = true from hs) Bool.false_ne_true
theorem op_ne : OpR X (compareOp .NotEq) rNe := by
  intro pins s σ H x y v u Q I rx ry h
  obtain ⟨hs, q⟩ := h
  cases x with
  | non =>
    cases rx
    cases y with
    | non => cases ry; exact PySem.EqNone.ne_none_none (fin_bl I q (by simp))
    | bl j => cases ry; exact PySem.EqNone.ne_none_bool (fin_bl I q (by simp))
    | int j => obtain ⟨t', rfl⟩ := ry; exact PySem.EqNone.ne_none_int (fin_bl I q (by simp))
    | str j => obtain ⟨t', rfl⟩ := ry; exact PySem.EqNone.ne_none_str (fin_bl I q (by simp))
    | _ => exact absurd (show false = true from hs) Bool.false_ne_true
  | bl i =>
    cases rx
    cases y with
    | non => cases ry; exact PySem.EqNone.ne_bool_none (fin_bl I q (by simp))
    | bl j => cases ry; exact ne_bool (fin_bl I q (congrArg not dec_bl))
    | str j => obtain ⟨t', rfl⟩ := ry; exact PySem.EqMixed.ne_bool_str (fin_bl I q (by simp))
    | _ => exact absurd (show false = true from hs) Bool.false_ne_true
  | int i =>
    obtain ⟨t, rfl⟩ := rx
    cases y with
    | non => cases ry; exact PySem.EqNone.ne_int_none (fin_bl I q (by simp))
    | int j => obtain ⟨t', rfl⟩ := ry; exact ne_int (fin_bl I q (congrArg not dec_int))
    | str j => obtain ⟨t', rfl⟩ := ry; exact PySem.EqMixed.ne_int_str (fin_bl I q (by simp))
    | _ => exact absurd (show false = true from hs) Bool.false_ne_true
  | str i =>
    obtain ⟨t, rfl⟩ := rx
    cases y with
    | non => cases ry; exact PySem.EqNone.ne_str_none (fin_bl I q (by simp))
    | bl j => cases ry; exact PySem.EqMixed.ne_str_bool (fin_bl I q (by simp))
    | int j => obtain ⟨t', rfl⟩ := ry; exact PySem.EqMixed.ne_str_int (fin_bl I q (by simp))
    | str j => obtain ⟨t', rfl⟩ := ry; exact ne_str (fin_bl I q (congrArg not dec_str))
    | _ => exact absurd (show false = true from hs) Bool.false_ne_true
  | byt i =>
    obtain ⟨t, rfl⟩ := rx
    cases y with
    | byt j => obtain ⟨t', rfl⟩ := ry; exact PySem.W.ne_bytes (fin_bl I q (congrArg not dec_byt))
    | _ => exact absurd (show false = true from hs) Bool.false_ne_true
  | _ => cases y <;> exact absurd (show false = true from hs) Bool.false_ne_true
theorem op_lt : OpR X (compareOp .Lt) (rI0 fun i j => .bl (decide (i < j))) := opB0 fun _ _ _ _ _ _ _ q => lt_int q
theorem op_le : OpR X (compareOp .LtE) (rI0 fun i j => .bl (decide (i ≤ j))) := opB0 fun _ _ _ _ _ _ _ q => le_int q
theorem op_gt : OpR X (compareOp .Gt) (rI0 fun i j => .bl (decide (j < i))) := opB0 fun _ _ _ _ _ _ _ q => gt_int q
theorem op_ge : OpR X (compareOp .GtE) (rI0 fun i j => .bl (decide (j ≤ i))) := opB0 fun _ _ _ _ _ _ _ q => ge_int q
theorem op_in_str : OpR X (compareOp .In) (fun x y H Q => ∃ i j, x = .str i ∧ y = .str j ∧ Q (.bl (!(Builtin.Str.occurrences j i 0 j.length 1).isEmpty)) H) := by
  intro pins s σ H x y v u Q I rx ry h
  obtain ⟨i, j, rfl, rfl, q⟩ := h
  obtain ⟨t, rfl⟩ := rx
  obtain ⟨t', rfl⟩ := ry
  exact in_str (fin_bl I q rfl)
theorem op_isN : OpR X (compareOp .Is) (fun x y H Q => y = .non ∧ Q (.bl (decide (x = .non))) H) := by
  intro pins s σ H x y v u Q I rx ry h
  obtain ⟨rfl, q⟩ := h
  cases ry
  refine is_none_gen (fin_bl I q ?_)
  cases x <;> first
    | (cases rx; rfl)
    | (obtain ⟨t, rfl⟩ := rx; rfl)
theorem op_notN : OpR X (compareOp .IsNot) (fun x y H Q => y = .non ∧ Q (.bl (!decide (x = .non))) H) := by
  intro pins s σ H x y v u Q I rx ry h
  obtain ⟨rfl, q⟩ := h
  cases ry
  refine isnot_none_gen (fin_bl I q ?_)
  cases x <;> first
    | (cases rx; rfl)
    | (obtain ⟨t, rfl⟩ := rx; rfl)
theorem nomark (b : Expr) {op : CmpOp} (h : op ≠ .In := by decide) (h2 : op ≠ .NotIn := by decide) : behindInMarks op b = false := by
  have e1 : (op == CmpOp.In) = false := by cases op <;> first | rfl | exact absurd rfl h
  have e2 : (op == CmpOp.NotIn) = false := by cases op <;> first | rfl | exact absurd rfl h2
  cases b <;> simp [behindInMarks, e1, e2]
theorem pe_cmpR {op : CmpOp} {r : R2} (ho : OpR X (compareOp op) r) (ha : PE X a ta) (hb : PE X b tb) (hm : behindInMarks op b = false) : PE X (.Compare a [op] [b] pos) (tOp r ta tb) := by
  intro pins s σ H Q I h
  exact wpAny_Compare1 (binT ha hb I h fun v u s2 x y H2 I2 rx ry q => ho pins s2 σ H2 x y v u Q I2 rx ry q) hm
def tTest (t : TE) : TT := fun σ H Q => t σ H fun x H' => ∃ k, x = .bl k ∧ Q k H'
theorem pt_cmpR {op : CmpOp} {r : R2} (ho : OpR X (compareOp op) r) (ha : PE X a ta) (hb : PE X b tb) (hm : behindInMarks op b = false) : PT X (.Compare a [op] [b] pos) (tTest (tOp r ta tb)) := by
  intro pins s σ H Q I h
  refine wpAny_isTrue_Compare1 (thn (ha pins s σ H _ I h) fun v s1 ⟨x, H1, I1, r1, q1⟩ => thn (hb pins s1 σ H1 _ I1 q1) fun u s2 ⟨y, H2, I2, r2, q2⟩ =>
    thn (ho pins s2 σ H2 x y v u _ I2 r1 r2 q2) fun c s3 ⟨z, H3, I3, r3, k, e, q3⟩ => ?_) hm
  subst e
  cases r3
  exact wpAny_truthy_bool ⟨H3, I3, q3⟩
def tChain (r r' : R2) (ta tb tc : TE) : TE := fun σ H Q => ta σ H fun x H1 => tb σ H1 fun y H2 => r x y H2 fun z H3 => ∃ k, z = .bl k ∧
  (if k = true then tc σ H3 fun w' H4 => r' y w' H4 Q else Q (.bl false) H3)
theorem pt_chain {op op' : CmpOp} {r r' : R2} (ho : OpR X (compareOp op) r) (ho' : OpR X (compareOp op') r') (ha : PE X a ta) (hb : PE X b tb) (hc : PE X c tc)
    (hm : lastMarks [op, op'] [b, c] = false := by with_unfolding_all rfl) : PT X (.Compare a [op, op'] [b, c] pos) (tTest (tChain r r' ta tb tc)) := by
  intro pins s σ H Q I h
  refine isTrue_chain (thn (ha pins s σ H _ I h) fun v s1 ⟨x, H1, I1, r1, q1⟩ => test_link (thn (hb pins s1 σ H1 _ I1 q1) fun u s2 ⟨y, H2, I2, r2, q2⟩ =>
    thn (ho pins s2 σ H2 x y v u _ I2 r1 r2 q2) fun d s3 ⟨z, H3, I3, r3, k, e, q3⟩ => ?_)) hm
  subst e
  cases r3
  refine wpAny_truthy_bool ?_
  cases k with
  | false =>
    obtain ⟨k', e', q'⟩ := q3
    cases e'
    exact ite_ff ⟨H3, I3, q'⟩
  | true =>
    refine ite_tt (test_last (thn (hc pins s3 σ H3 _ I3 q3) fun w' s4 ⟨z', H4, I4, r4, q4⟩ => thn (ho' pins s4 σ H4 y z' u w' _ I4 r2 r4 q4) fun d' s5 ⟨z2, H5, I5, r5, k2, e2, q5⟩ => ?_))
    subst e2
    cases r5
    exact wpAny_truthy_bool ⟨H5, I5, q5⟩
theorem line63 : (sizeLine : Nat) < 2 ^ 63 := by rw [sizeLine_eq]; decide
theorem op_add_str : OpR X (binaryOp .Add) (fun x y H Q => ∃ i j, x = .str i ∧ y = .str j ∧ i.length + j.length ≤ sizeLine ∧ Q (.str (i ++ j)) H) := by
  intro pins s σ H x y v u Q I rx ry h
  obtain ⟨i, j, rfl, rfl, hz, q⟩ := h
  obtain ⟨t, rfl⟩ := rx
  obtain ⟨t', rfl⟩ := ry
  exact add_str (fun t' tk => ⟨.str (i ++ j), H, I.tok _, ⟨_, rfl⟩, q⟩) hz
theorem vals1 {x : V} {us : List Value} (r : Vals [x] us) : ∃ u, us = [u] ∧ RelV x u := by
  cases r with
  | cons r1 r2 => cases r2; exact ⟨_, rfl, r1⟩
theorem vals2 {x y : V} {us : List Value} (r : Vals [x, y] us) : ∃ u w', us = [u, w'] ∧ RelV x u ∧ RelV y w' := by
  cases r with
  | cons r1 r2 =>
    cases r2 with
    | cons r3 r4 => cases r4; exact ⟨_, _, rfl, r1, r3⟩
theorem call_max2 (hc : X.calm = true) : CallR X (.builtin "max") (fun xs H Q => ∃ i j, xs = [.int i, .int j] ∧ Q (.int (if j > i then j else i)) H) := by
  intro pins s σ H xs us Q I r h
  obtain ⟨i, j, rfl, q⟩ := h
  obtain ⟨u, w', rfl, ⟨t, rfl⟩, ⟨t', rfl⟩⟩ := vals2 r
  refine max_two_ints (I.ok.hd hc) fun h' tk k => ⟨_, H, I.kept k, ?_, q⟩
  by_cases hj : j > i
  · rw [if_pos hj, if_pos hj]; exact ⟨_, rfl⟩
  · rw [if_neg hj, if_neg hj]; exact ⟨_, rfl⟩
theorem call_min2 (hc : X.calm = true) : CallR X (.builtin "min") (fun xs H Q => ∃ i j, xs = [.int i, .int j] ∧ Q (.int (if j < i then j else i)) H) := by
  intro pins s σ H xs us Q I r h
  obtain ⟨i, j, rfl, q⟩ := h
  obtain ⟨u, w', rfl, ⟨t, rfl⟩, ⟨t', rfl⟩⟩ := vals2 r
  refine min_two_ints (I.ok.hd hc) fun h' tk k => ⟨_, H, I.kept k, ?_, q⟩
  by_cases hj : j < i
  · rw [if_pos hj, if_pos hj]; exact ⟨_, rfl⟩
  · rw [if_neg hj, if_neg hj]; exact ⟨_, rfl⟩
theorem call_int1 : CallR X (.type "int") (fun xs H Q => (∃ i, xs = [.int i] ∧ Q (.int i) H) ∨ ∃ k, xs = [.bl k] ∧ Q (.int (if k then 1 else 0)) H) := by
  intro pins s σ H xs us Q I r h
  rcases h with ⟨i, rfl, q⟩ | ⟨k, rfl, q⟩
  · obtain ⟨u, rfl, t, rfl⟩ := vals1 r
    exact call_int_int ⟨.int i, H, I, ⟨_, rfl⟩, q⟩
  · obtain ⟨u, rfl, r1⟩ := vals1 r
    cases r1
    exact call_int_bool ⟨.int (if k then 1 else 0), H, I.tok _, ⟨_, rfl⟩, q⟩
end
end L2
namespace L2
open PySem PySem.Spec PyProof.Rows
structure ObjM (h : Heap) (x dx C : Addr) (mA : Str → Option Value) : Prop where
  obj : h.get? x = some (PySem.W.instObj C dx)
  ns : h.Ns1 dx mA
  ne : dx ≠ x
theorem lookIn_ns {h : Heap} {dx : Addr} {mA : Str → Option Value} (n : h.Ns1 dx mA) : ∃ od, h.get? dx = some od ∧ ∀ name, PySem.W.lookIn name od = some (mA name) := by
  obtain ⟨o, es, ep, ho, hd, hk, _, hm⟩ := n
  refine ⟨o, ho, fun name => ?_⟩
  have e := hm name
  unfold nsFind findBy at e
  rw [← Array.find?_toList] at e
  unfold PySem.W.lookIn
  rw [hd]
  dsimp only
  split
  · rename_i y q
    rw [q] at e
    exact congrArg some e
  · rename_i q
    rw [q] at e
    have a : es.toList.any (·.refKey) = false := by
      rw [List.any_eq_false]
      intro y hy
      obtain ⟨z, t, hkey⟩ := hk y (Array.mem_toList_iff.mp hy)
      simp [DictEntry.refKey, hkey]
    have a' : ¬ es.toList.any (·.refKey) = true := by rw [a]; exact Bool.false_ne_true
    rw [if_neg a']
    exact congrArg some e
theorem ObjM.look {h : Heap} {x dx C : Addr} {mA : Str → Option Value} (I : ObjM h x dx C mA) : ∃ od, PySem.W.InstAt h x (PySem.W.instObj C dx) C (some od) ∧ ∀ name, PySem.W.lookIn name od = some (mA name) :=
  let ⟨od, ho, hl⟩ := lookIn_ns I.ns
  ⟨od, ⟨I.obj, rfl, rfl, ho⟩, hl⟩
section
variable {prog : Program} {w : World} {A : Around} {E : Value → Shared → Prop} {s : Shared} {K : PySem.W.Frag} {x dx C f : Addr} {mA : Str → Option Value} {name : Str} {v : Value}
theorem get_map {expr : Bool} {Q : Value → Shared → Prop} (X : K.In s.heap) (I : ObjM s.heap x dx C mA) (hg : PySem.W.plainGet K C name = true) (hh : PySem.W.hasDictIn K C = true)
    (ha : PySem.W.findIn K (.ref C) name = some none) (hv : mA name = some v) (hv' : PySem.W.handedIn v = true) (h : Q v { s with toks := s.toks + 1 }) :
    wpAny (model prog w) A (getAttr (.ref x) name expr) Q E s := by
  obtain ⟨od, J, hl⟩ := I.look
  exact PySem.W.get_value X J (PySem.W.plainGet_of hg).1 (PySem.W.findObj_own hh ha rfl (by rw [hl, hv])) hv' h
theorem get_meth {pl : Sem Bool} {Q : Value × List Value → Shared → Prop} (X : K.In s.heap) (I : ObjM s.heap x dx C mA) (hg : PySem.W.plainGet K C name = true)
    (hf : PySem.W.findIn K (.ref C) name = some (some (.ref f))) (ht : PySem.W.isFn K (.ref f) = true) (hv : mA name = none) (h : Q (.ref f, [.ref x]) s) :
    wpAny (model prog w) A (getMethod (.ref x) name pl) Q E s := by
  obtain ⟨od, J, hl⟩ := I.look
  exact PySem.W.method_fn X J (PySem.W.plainGet_of hg).1 (PySem.W.plainGet_of hg).2 hf (beq_iff_eq.mp ht) (by show (PySem.W.lookIn name od).map (·.isSome) = some false; rw [hl, hv]; rfl) h
theorem set_map {ns : List Str} {Q : Unit → Shared → Prop} (X : K.In s.heap) (I : ObjM s.heap x dx C mA)
    (hs : PySem.W.findIn K (.ref C) "__setattr__" = some (some (.builtin "object.__setattr__"))) (hp : PySem.W.plainOver K C = true) (ht : PySem.W.takerIn K C name = some none) (hh : PySem.W.hasDictIn K C = true)
    (hw : PySem.Within mA ns) (hsz : ns.length ≤ sizeLine)
    (h : ∀ h', ObjM h' x dx C (fun y => if y = name then some v else mA y) → Heap.SameBut dx s.heap h' → Q () { s with heap := h', toks := s.toks + 2 }) :
    wpAny (model prog w) A (setAttr (.ref x) name v) Q E s := by
  obtain ⟨od, J, hl⟩ := I.look
  refine PySem.W.set_plain X J hs (PySem.W.osa_open (s := { s with toks := s.toks + 1 }) (r := none) X J hp ht fun b => ?_)
  obtain ⟨cd, hc, hd'⟩ := PySem.W.any_some hh
  have hx : s.heap.get? x = some ⟨.ref C, some dx, .plain, #[]⟩ := I.obj
  refine wpAny_bind (wpAny_pure (wpAny_bind (wpAny_bind (wpAny_loadPart hx (wpAny_bind (PySem.W.Looks.here (s := { s with toks := s.toks + 1 }) (PySem.W.looks_clsIn X hc) ?_))))))
  rw [hd']
  refine wpAny_pure (a := some dx) (wpAny_bind (wpAny_pure (wpAny_bind ?_)))
  refine wpAny_nsSet1 (s := { s with toks := s.toks + 1 }) I.ns fun h' hn2 hs2 => ?_
  obtain ⟨oD, esD, epD, hoD, hdD, hcD⟩ := hn2.count (PySem.Within.cons name v hw)
  refine wpAny_bind (wpAny_lookBehind hoD (by rw [hdD]; exact pastItsLine_dict (Nat.le_trans hcD (by rw [List.length_cons]; omega))) ?_)
  exact wpAny_pure (h _ ⟨(hs2.2 _ (Ne.symm I.ne)).trans I.obj, hn2, I.ne⟩ hs2)
theorem make_map {R : Result → Shared → Prop} {vs : List Value} {kw : List (Str × Value)} (X : K.In s.heap) (hm : PySem.W.makesIn K C = true)
    (hi : PySem.W.findIn K (.ref C) "__init__" = some (some (.ref f))) (hf : PySem.W.typeIn K (.ref f) = some (.type "function"))
    (h : codeAny (model prog w) (A.under (.builtin "type.__call__" ⟨.ref C :: vs, kw⟩)) (.call (.ref f) ⟨.ref (s.heap.objs.size + 1) :: vs, kw⟩) (PySem.W.InitBack (s.heap.objs.size + 1) R)
      { s with heap := (s.heap.push PySem.W.emptyDict).push (PySem.W.instObj C s.heap.objs.size) }) :
    codeAny (model prog w) A (.call (.ref C) ⟨vs, kw⟩) R s := by
  obtain ⟨hh, g, d, t, os⟩ := s
  exact PySem.W.make_core (PySem.W.makes_of X hm) (PySem.W.looks_findIn X hi) (fun self => PySem.W.bind_fn X self hf) (.inl rfl) h
end
def putF (f : Str) (v : V) : List (Str × V) → List (Str × V)
  | [] => [(f, v)]
  | (g, x) :: r => if g = f then (g, v) :: r else (g, x) :: putF f v r
theorem lookup_putF (f g : Str) (v : V) : ∀ fs : List (Str × V), (putF f v fs).lookup g = if g = f then some v else fs.lookup g
  | [] => by
    show List.lookup g [(f, v)] = _
    by_cases h : g = f
    · have hb : (g == f) = true := beq_iff_eq.mpr h
      simp only [List.lookup, hb, if_pos h]
    · have hb : (g == f) = false := beq_eq_false_iff_ne.mpr h
      simp only [List.lookup, hb, if_neg h]
  | (k, x) :: r => by
    have ih := lookup_putF f g v r
    rw [show putF f v ((k, x) :: r) = (if k = f then (k, v) :: r else (k, x) :: putF f v r) from rfl]
    by_cases hk : k = f
    · rw [if_pos hk]
      by_cases h : g = k
      · have hb : (g == k) = true := beq_iff_eq.mpr h
        simp only [List.lookup, hb, if_pos (h.trans hk)]
      · have hb : (g == k) = false := beq_eq_false_iff_ne.mpr h
        simp only [List.lookup, hb, if_neg (fun e : g = f => h (e.trans hk.symm))]
    · rw [if_neg hk]
      by_cases h : g = k
      · have hb : (g == k) = true := beq_iff_eq.mpr h
        simp only [List.lookup, hb, if_neg (fun e : g = f => hk (h.symm.trans e))]
      · have hb : (g == k) = false := beq_eq_false_iff_ne.mpr h
        simp only [List.lookup, hb]
        exact ih
theorem keys_putF (f : Str) (v : V) : ∀ fs : List (Str × V), f ∈ (putF f v fs).map (·.1) ∧ ∀ g, g ∈ fs.map (·.1) → g ∈ (putF f v fs).map (·.1)
  | [] => ⟨by simp [putF], fun g h => by simp at h⟩
  | (k, x) :: r => by
    obtain ⟨i1, i2⟩ := keys_putF f v r
    rw [show putF f v ((k, x) :: r) = (if k = f then (k, v) :: r else (k, x) :: putF f v r) from rfl]
    by_cases hk : k = f
    · rw [if_pos hk]
      subst hk
      exact ⟨by simp, fun g h => by simpa using h⟩
    · rw [if_neg hk]
      refine ⟨?_, fun g h => ?_⟩
      · rw [List.map_cons]
        exact List.mem_cons_of_mem _ i1
      · rw [List.map_cons] at h ⊢
        rcases List.mem_cons.mp h with e | e
        · exact List.mem_cons.mpr (.inl e)
        · exact List.mem_cons_of_mem _ (i2 g e)
theorem length_putF (f : Str) (v : V) : ∀ fs : List (Str × V), (putF f v fs).length ≤ fs.length + 1
  | [] => by simp [putF]
  | (k, x) :: r => by
    have ih := length_putF f v r
    rw [show putF f v ((k, x) :: r) = (if k = f then (k, v) :: r else (k, x) :: putF f v r) from rfl]
    by_cases hk : k = f
    · rw [if_pos hk, List.length_cons, List.length_cons]; omega
    · rw [if_neg hk, List.length_cons, List.length_cons]; omega
theorem RelO.some_of {v : V} {o : Option Value} (r : RelO (some v) o) : ∃ u, o = some u ∧ RelV v u := by
  cases o with
  | none => exact (show False from r).elim
  | some u => exact ⟨u, rfl, r⟩
theorem RelO.none_of {o : Option Value} (r : RelO none o) : o = none := by
  cases o with
  | none => rfl
  | some u => exact (show False from r).elim
theorem handed_of {v : V} {u : Value} (r : RelV v u) : PySem.W.handedIn u = true := by
  cases v with
  | non => cases (show u = Value.none from r); rfl
  | bl b => cases (show u = Value.bool b from r); rfl
  | int i => obtain ⟨t, e⟩ := (show ∃ t, u = Value.int i t from r); cases e; rfl
  | str x => obtain ⟨t, e⟩ := (show ∃ t, u = Value.str x t from r); cases e; rfl
  | byt b => obtain ⟨t, e⟩ := (show ∃ t, u = Value.bytes b t from r); cases e; rfl
  | flt b => obtain ⟨t, e⟩ := (show ∃ t, u = Value.float b t from r); cases e; rfl
  | ref a => cases (show u = Value.ref a from r); rfl
  | ty n => cases (show u = Value.type n from r); rfl
section
variable {P : Program} {w : World} {H H' : Hp} {h h' : Heap} {a C dx : Addr} {fs fs' : List (Str × V)}
theorem ins_get (hok : HOk P w H h) (e : H a = some (.ins C dx fs)) : ∃ mA, ObjM h a dx C mA ∧ (∀ f, RelO (fs.lookup f) (mA f)) ∧ PySem.Within mA (fs.map (·.1)) ∧ fs.length ≤ 1000 ∧ H dx = some (.own a) := by
  obtain ⟨d, z, ne, ob, mA, n, r, q⟩ := (show ObjOk P w H h a (.ins C dx fs) from hok a _ e)
  exact ⟨mA, ⟨ob, n, ne⟩, r, q, z, d⟩
end
structure Cls (K : PySem.W.Frag) (C : Addr) : Prop where
  pg : PySem.W.plainGet K C Str.empty = true
  hd : PySem.W.hasDictIn K C = true
  po : PySem.W.plainOver K C = true
  sa : PySem.W.findIn K (.ref C) "__setattr__" = some (some (.builtin "object.__setattr__"))
theorem Cls.get {K : PySem.W.Frag} {C : Addr} (c : Cls K C) (f : Str) : PySem.W.plainGet K C f = true := c.pg
def NoAttr (K : PySem.W.Frag) (C : Addr) (f : Str) : Prop := PySem.W.findIn K (.ref C) f = some none
theorem NoAttr.taker {K : PySem.W.Frag} {C : Addr} {f : Str} (n : NoAttr K C f) : PySem.W.takerIn K C f = some none := by
  unfold PySem.W.takerIn
  rw [show PySem.W.findIn K (.ref C) f = some none from n]
  rfl
structure Meth (K : PySem.W.Frag) (C : Addr) (m : Str) (f : Addr) : Prop where
  at_ : PySem.W.findIn K (.ref C) m = some (some (.ref f))
  fn : PySem.W.isFn K (.ref f) = true
  kp : PySem.W.keepIn K (.ref f) = true
section
variable {X : Cx} {pins : List (Addr × Obj)} {σ : St} {H : Hp} {s : Shared} {a C dx : Addr} {fs : List (Str × V)} {f : Str} {v : V} {A : Around} {E : Value → Shared → Prop}
theorem getattr_ok {b : Bool} {Q : Value → Shared → Prop} (I : Inv X pins σ H s) (e : H a = some (.ins C dx fs)) (c : Cls X.K C) (n : NoAttr X.K C f) (l : fs.lookup f = some v)
    (h : ∀ u s', Inv X pins σ H s' → RelV v u → Q u s') : wpAny (model X.prog X.w) A (getAttr (.ref a) f b) Q E s := by
  obtain ⟨mA, O, r, _, _, _⟩ := ins_get I.hok e
  obtain ⟨u, hu, ru⟩ := RelO.some_of (v := v) (o := mA f) (by rw [← l]; exact r f)
  exact get_map I.kIn O (c.get f) c.hd n hu (handed_of ru) (h u _ (I.tok _) ru)
theorem getmeth_ok {m : Str} {g : Addr} {pl : Sem Bool} {Q : Value × List Value → Shared → Prop} (I : Inv X pins σ H s) (e : H a = some (.ins C dx fs)) (c : Cls X.K C) (k : Meth X.K C m g) (l : fs.lookup m = none)
    (h : Q (.ref g, [.ref a]) s) : wpAny (model X.prog X.w) A (getMethod (.ref a) m pl) Q E s := by
  obtain ⟨mA, O, r, _, _, _⟩ := ins_get I.hok e
  have hn : mA m = none := RelO.none_of (by rw [← l]; exact r m)
  exact get_meth I.kIn O (c.get m) k.at_ k.fn hn h
theorem setattr_ok {y : V} {u : Value} {Q : Unit → Shared → Prop} (I : Inv X pins σ H s) (e : H a = some (.ins C dx fs)) (c : Cls X.K C) (n : NoAttr X.K C f) (hl : fs.length < 1000) (ry : RelV y u)
    (h : ∀ s', Inv X pins σ (upd H a (.ins C dx (putF f y fs))) s' → Q () s') : wpAny (model X.prog X.w) A (setAttr (.ref a) f u) Q E s := by
  obtain ⟨mA, O, r, wi, _, ho⟩ := ins_get I.hok e
  have hz : (fs.map (·.1)).length ≤ sizeLine := by rw [List.length_map, sizeLine_eq]; omega
  refine set_map I.kIn O c.sa c.po n.taker c.hd wi hz fun h' O' sb => h _ ?_
  have hd : ∃ o, h'.get? dx = some o := let ⟨o, _, _, e', _⟩ := O'.ns; ⟨o, e'⟩
  refine I.write (x := a) (e := dx) (by rw [e]; exact True.intro) (.inr ho) (fun b q hb z => (sb.2 b hb).trans z) hd ?_
  refine ⟨by rw [upd_ne O.ne]; exact ho, ?_, O.ne, O'.obj, _, O'.ns, fun g => ?_, fun g hg => ?_⟩
  · have := length_putF f y fs; omega
  · show RelO ((putF f y fs).lookup g) (if g = f then some u else mA g)
    rw [lookup_putF]
    by_cases q : g = f
    · rw [if_pos q, if_pos q]; exact ry
    · rw [if_neg q, if_neg q]; exact r g
  · by_cases q : g = f
    · rw [q]; exact (keys_putF f y fs).1
    · refine (keys_putF f y fs).2 g (wi g fun z => hg ?_)
      show (if g = f then some u else mA g) = none
      rw [if_neg q]; exact z
theorem Inv.made (I : Inv X pins σ H s) : Inv X pins σ (upd (upd H s.heap.objs.size (.own (s.heap.objs.size + 1))) (s.heap.objs.size + 1) (.ins C s.heap.objs.size []))
    { s with heap := (s.heap.push PySem.W.emptyDict).push (PySem.W.instObj C s.heap.objs.size) } := by
  have e1 : (s.heap.push PySem.W.emptyDict).get? s.heap.objs.size = some PySem.W.emptyDict := Heap.get?_push_size s.heap rfl
  have e2 : ((s.heap.push PySem.W.emptyDict).push (PySem.W.instObj C s.heap.objs.size)).get? (s.heap.objs.size + 1) = some (PySem.W.instObj C s.heap.objs.size) := by
    have := Heap.get?_push_size (s.heap.push PySem.W.emptyDict) (o := PySem.W.instObj C s.heap.objs.size) rfl
    rwa [Heap.size_push] at this
  have e3 : (s.heap.push PySem.W.emptyDict).Ns s.heap.objs.size (fun _ => none) := ⟨PySem.W.emptyDict, #[], _, e1, rfl, (fun e he => absurd he (by simp)), fun _ => rfl⟩
  have I1 := I.laid (a := s.heap.objs.size) (o := .own (s.heap.objs.size + 1)) (h' := s.heap.push PySem.W.emptyDict) (t' := s.toks) (fun b u q => Heap.get?_push_of_some _ q) (Nat.le_refl _) ⟨_, e1⟩
  refine I1.laid (a := s.heap.objs.size + 1) (o := .ins C s.heap.objs.size []) (t' := s.toks) (fun b u q => Heap.get?_push_of_some _ q) (Nat.le_of_eq (Heap.size_push _ _)) ?_
  have ne : s.heap.objs.size ≠ s.heap.objs.size + 1 := Nat.ne_of_lt (Nat.lt_succ_self _)
  refine ⟨by rw [upd_ne ne, upd_same], Nat.zero_le _, ne, e2, fun _ => none, (Heap.Ns1.of_empty e3).at fun o q => Heap.get?_push_of_some _ q, fun _ => True.intro, fun y hy => absurd rfl hy⟩
theorem attr_of {prog : Program} {w : World} {env : Env} {e : Expr} {f : Str} {pos : Pos} {s : Shared} {Q : Value → Shared → Prop} (hb : attributeBase e f env (eval e env) = eval e env)
    (h : wpAny (model prog w) A (eval e env) (fun o s₁ => wpAny (model prog w) A (getAttr o f true) Q E s₁) E s) : wpAny (model prog w) A (eval (.Attribute e f pos) env) Q E s :=
  Attribute_any_ h (by rw [arm_eval_Attribute, hb])
end
def tFld (K : PySem.W.Frag) (ta : TE) (f : Str) : TE := fun σ H Q => ta σ H fun x H1 => ∃ a C dx fs v, x = .ref a ∧ H1 a = some (.ins C dx fs) ∧ Cls K C ∧ NoAttr K C f ∧ fs.lookup f = some v ∧ Q v H1
def sFld (K : PySem.W.Frag) (ta tv : TE) (f : Str) : TS := fun D σ H => tv σ H fun y H1 => ta σ H1 fun x H2 => ∃ a C dx fs, x = .ref a ∧ H2 a = some (.ins C dx fs) ∧ Cls K C ∧ NoAttr K C f ∧ fs.length < 1000 ∧
  D.nx σ (upd H2 a (.ins C dx (putF f y fs)))
section
variable {X : Cx} {o e value : Expr} {f : Str} {pos pos' tpos : Pos} {ta tv : TE}
theorem pe_fld (he : PE X e ta) (hb : attributeBase e f X.env (eval e X.env) = eval e X.env) : PE X (.Attribute e f pos) (tFld X.K ta f) := by
  intro pins s σ H Q I h
  refine attr_of hb (thn (he pins s σ H _ I h) fun u s1 ⟨x, H1, I1, rx, a, C, dx, fs, v, ex, ea, c, n, l, q⟩ => ?_)
  subst ex
  obtain rfl : u = Value.ref a := rx
  exact getattr_ok I1 ea c n l fun u' s2 I2 ru => ⟨v, H1, I2, ru, q⟩
theorem ps_fld (ha : PE X o ta) (hv : PE X value tv) (hs : swapsWith value (some (.Attribute o f pos')) pos.line X.env = pure false) : PS X (.Assign [.Attribute o f pos'] value pos) (sFld X.K ta tv f) := by
  intro pins s σ H D I h
  refine plainObj_wpAny_Assign_Attribute (thn (hv pins s σ H _ I h) fun u s1 ⟨y, H1, I1, ry, q⟩ => thn (ha pins s1 σ H1 _ I1 q) fun ov s2 ⟨x, H2, I2, rx, a, C, dx, fs, ex, ea, c, n, l, q2⟩ => ?_) hs
  subst ex
  obtain rfl : ov = Value.ref a := rx
  exact setattr_ok I2 ea c n l ry fun s3 I3 => ⟨σ, _, I3, q2⟩
end
section
variable {X : Cx} {pins : List (Addr × Obj)} {σ : St} {H : Hp} {s : Shared} {A : Around} {E : Value → Shared → Prop} {Q : Value → Shared → Prop} {c : Value} {b : Bool}
inductive TyOf (K : PySem.W.Frag) (H : Hp) : V → Value → Prop where
  | non : TyOf K H .non (.type "NoneType")
  | bl (x : Bool) : TyOf K H (.bl x) (.type "bool")
  | int (i : Int) : TyOf K H (.int i) (.type "int")
  | str (x : Str) : TyOf K H (.str x) (.type "str")
  | flt (x : UInt64) : TyOf K H (.flt x) (.type "float")
  | lst {a : Addr} {xs : List V} (e : H a = some (.lst xs)) : TyOf K H (.ref a) (.type "list")
  | frz {a : Addr} {o : Obj} {xs : List V} (e : H a = some (.frz o (.lst xs))) : TyOf K H (.ref a) (.type "list")
  | tup {a : Addr} {xs : List V} (e : H a = some (.tup xs)) : TyOf K H (.ref a) (.type "tuple")
  | dK {a : Addr} {kvs : List (Key × V)} (e : H a = some (.dK kvs)) : TyOf K H (.ref a) (.type "dict")
  | dT {a : Addr} {kvs : List (List Key × V)} (e : H a = some (.dT kvs)) : TyOf K H (.ref a) (.type "dict")
  | ins {a C dx : Addr} {fs : List (Str × V)} (e : H a = some (.ins C dx fs)) (cl : Cls K C) (ha : PySem.W.findIn K (.ref C) "__class__" = some (some (.builtin "object.__class__")))
      (hn : PySem.W.specialIn K (.builtin "object.__class__") "__get__" = some (some (.builtin "getset_descriptor.__get__"))) (htk : PySem.W.takesIn K (.builtin "object.__class__") = some true)
      (hm : PySem.W.mroIn K C (.type "object") = some true) : TyOf K H (.ref a) (.ref C)
theorem isinst_ok {x : V} {u t : Value} (I : Inv X pins σ H s) (rx : RelV x u) (ty : TyOf X.K H x t) (e : PySem.W.kitOne X.K t c = some b) (h : ∀ tk, Q (.bool b) { s with toks := tk }) :
    wpAny (model X.prog X.w) A (call (.builtin "isinstance") [u, c]) Q E s := by
  cases ty with
  | non => cases (show u = Value.none from rx); exact PySem.W.kia_one PySem.W.kitx_none I.kIn True.intro e (fun z => nomatch z) h
  | bl y => cases (show u = Value.bool y from rx); exact PySem.W.kia_one PySem.W.kitx_bool I.kIn True.intro e (fun z => nomatch z) h
  | int i => obtain ⟨t, q⟩ := (show ∃ t, u = Value.int i t from rx); cases q; exact PySem.W.kia_one PySem.W.kitx_int I.kIn True.intro e (fun z => nomatch z) h
  | str y => obtain ⟨t, q⟩ := (show ∃ t, u = Value.str y t from rx); cases q; exact PySem.W.kia_one PySem.W.kitx_str I.kIn True.intro e (fun z => nomatch z) h
  | flt y => obtain ⟨t, q⟩ := (show ∃ t, u = Value.float y t from rx); cases q; exact PySem.W.kia_one PySem.W.kitx_float I.kIn True.intro e (fun z => nomatch z) h
  | @lst a xs ea =>
    cases (show u = Value.ref a from rx)
    obtain ⟨_, _, n, _, h1⟩ := (show ObjOk X.prog X.w H s.heap a (.lst xs) from I.hok a _ ea)
    exact PySem.W.kia_one PySem.W.kitx_list I.kIn ⟨_, h1, rfl⟩ e (fun z => nomatch z) h
  | @frz a ob xs ea =>
    cases (show u = Value.ref a from rx)
    obtain ⟨_, _, _, n, _, h1⟩ := (show ObjOk X.prog X.w H s.heap a (.frz ob (.lst xs)) from I.hok a _ ea)
    exact PySem.W.kia_one PySem.W.kitx_list I.kIn ⟨_, h1, rfl⟩ e (fun z => nomatch z) h
  | @tup a xs ea =>
    cases (show u = Value.ref a from rx)
    obtain ⟨_, _, _, p⟩ := (show ObjOk X.prog X.w H s.heap a (.tup xs) from I.hok a _ ea)
    obtain ⟨o, h1, h2, _⟩ := p
    exact PySem.W.kia_one PySem.W.kitx_tuple I.kIn ⟨o, h1, h2⟩ e (fun z => nomatch z) h
  | @dK a kvs ea =>
    cases (show u = Value.ref a from rx)
    obtain ⟨_, _, vs, _, p⟩ := (show ObjOk X.prog X.w H s.heap a (.dK kvs) from I.hok a _ ea)
    obtain ⟨o, es, ep, h1, h2, _⟩ := p
    exact PySem.W.kia_one PySem.W.kitx_dict I.kIn ⟨o, h1, h2.1⟩ e (fun z => nomatch z) h
  | @dT a kvs ea =>
    cases (show u = Value.ref a from rx)
    obtain ⟨_, _, xs, _, o, es, ep, h1, h2, _⟩ := (show ObjOk X.prog X.w H s.heap a (.dT kvs) from I.hok a _ ea)
    exact PySem.W.kia_one PySem.W.kitx_dict I.kIn ⟨o, h1, h2.1⟩ e (fun z => nomatch z) h
  | @ins a C dx fs ea cl ha hn htk hm =>
    cases (show u = Value.ref a from rx)
    obtain ⟨mA, O, _⟩ := ins_get I.hok ea
    obtain ⟨od, J, _⟩ := O.look
    exact PySem.W.kia_one (PySem.W.kitx_own (cl.get _) cl.hd ha hn htk hm) I.kIn J e (fun z => nomatch z) h
end
end L2
namespace L2
open PySem PySem.Spec PyProof.Rows
structure Room (k : Nat) (A : Around) : Prop where
  hd : A.handled = none
  dp : A.depth + 3 * k + 5 < recursionLimit
  un : A.units + 16 * k + 200 < cLine
theorem Room.mono {j k : Nat} {A : Around} (r : Room k A) (h : j ≤ k) : Room j A := ⟨r.hd, by have := r.dp; omega, by have := r.un; omega⟩
theorem Room.deeper {k : Nat} {A : Around} (r : Room (k + 1) A) (env : Env) : Room k (A.deeper env) :=
  ⟨r.hd, by have := r.dp; show A.depth + 1 + 3 * k + 5 < _; omega, by have := r.un; show A.units + 3 + 16 * k + 200 < _; omega⟩
theorem make_depth {A : Around} {C : Addr} {us : List Value} {kw : List (Str × Value)} : (A.under (.builtin "type.__call__" ⟨.ref C :: us, kw⟩)).depth = A.depth + 1 := by
  first | rfl | simp [Around.under, Code.weight, Code.isCreation, Code.isGuard, Code.isCaller, Code.frames, Code.isFrame, guardIds]
theorem make_units {A : Around} {C : Addr} {us : List Value} {kw : List (Str × Value)} : (A.under (.builtin "type.__call__" ⟨.ref C :: us, kw⟩)).units = A.units + 1 := by
  first | rfl | simp [Around.under, Code.cUnits, Code.frames, Code.isFrame]
theorem Room.make {k : Nat} {A : Around} (r : Room (k + 1) A) (C : Addr) (us : List Value) (kw : List (Str × Value)) : Room k (A.under (.builtin "type.__call__" ⟨.ref C :: us, kw⟩)) :=
  ⟨r.hd, by have := r.dp; rw [make_depth]; omega, by have := r.un; rw [make_units]; omega⟩
theorem Room.depth {k : Nat} {A : Around} (r : Room k A) : A.depth < recursionLimit := by have := r.dp; omega
theorem Room.units {k : Nat} {A : Around} (r : Room k A) : A.units + 64 < cLine := by have := r.un; omega
def tNil : TA := fun _ H Q => Q [] H
def tCons (ta : TE) (tr : TA) : TA := fun σ H Q => ta σ H fun x H1 => tr σ H1 fun xs H2 => Q (x :: xs) H2
section
variable {X : Cx} {e : Expr} {es : List Expr} {te : TE} {t : TA} {pos : Pos}
theorem pa_nil : PA X [] tNil := fun _ _ _ _ H Q I h => Calls.spliced_nil ⟨[], H, I, .nil, h⟩
theorem pa_cons (ha : PE X e te) (hr : PA X es t) (hs : starEach (e :: es) X.env = (false, eval e X.env) :: starEach es X.env := by rfl) : PA X (e :: es) (tCons te t) := by
  intro pos pins s σ H Q I h
  rw [hs]
  show wpAny _ _ (spliced ((false, eval e X.env) :: backTo pos (starEach es X.env))) _ _ s
  refine Calls.spliced_cons (thn (ha pins s σ H _ I h) fun u s1 ⟨x, H1, I1, r1, q1⟩ => ?_)
  exact thn (hr pos pins s1 σ H1 _ I1 q1) fun us s2 ⟨xs, H2, I2, r2, q2⟩ => ⟨x :: xs, H2, I2, .cons r1 r2, q2⟩
end
abbrev Sp := List V → Hp → VK → XK → Prop
abbrev CXT := List Env → Hp → Shared → XK → Value → Shared → Prop
structure Env0 (P : Program) (w : World) (K : PySem.W.Frag) (mg : Str → Option Value) (base : Heap) (A : Around) (outer : List Env) (s : Shared) (H : Hp) : Prop where
  frames : A.frames = some outer
  mod : Mod K mg base
  bs : ∀ b o, base.get? b = some o → s.heap.get? b = some o ∧ H b = none
  bsz : base.objs.size ≤ s.heap.objs.size
  funs : s.heap.FunFrames base outer
  frf : ∀ b ∈ frs outer, H b = none
  hok : HOk P w H s.heap
  bare : AllBare s.gens
def CE (outer : List Env) (P : Program) (w : World) (H : Hp) (s : Shared) (Q : VK) (u : Value) (s' : Shared) : Prop :=
  ∃ v H', s'.os = s.os ∧ AllBare s'.gens ∧ Un (frs outer) [] H H' s.heap s'.heap ∧ HOk P w H' s'.heap ∧ RelV v u ∧ Q v H'
def CR (CX : CXT) (outer : List Env) (P : Program) (w : World) (H : Hp) (s : Shared) (Q : VK) (E : XK) (r : Result) (s' : Shared) : Prop :=
  match r with
  | .ok (.ret u) => CE outer P w H s Q u s'
  | .ok _ => False
  | .error e => CX outer H s E e s'
structure FnOk (P : Program) (w : World) (K : PySem.W.Frag) (mg : Str → Option Value) (base : Heap) (CX : CXT) (k : Nat) (f : Addr) (fd : FuncData) (ps : List Str) (sp : Sp) : Prop where
  len : ∀ vs H Q E, sp vs H Q E → vs.length = ps.length
  run : ∀ (A : Around) (outer : List Env) (s : Shared) (H : Hp) (args : Args) (us : List Value) (vs : List V) (Q : VK) (E : XK), Room k A → Env0 P w K mg base A outer s H → BindsTo s fd args (ps.zip us) → Vals vs us → sp vs H Q E →
    codeAny (model P w) A (.call (.ref f) args) (CR CX outer P w H s Q E) s
theorem FnOk.mono {P : Program} {w : World} {K : PySem.W.Frag} {mg : Str → Option Value} {base : Heap} {CX : CXT} {j k : Nat} {f : Addr} {fd : FuncData} {ps : List Str} {sp : Sp} (F : FnOk P w K mg base CX j f fd ps sp) (h : j ≤ k) :
    FnOk P w K mg base CX k f fd ps sp := ⟨F.len, fun A outer s H args us vs Q E hr => F.run A outer s H args us vs Q E (hr.mono h)⟩
theorem Env0.make {P : Program} {w : World} {K : PySem.W.Frag} {mg : Str → Option Value} {base : Heap} {A : Around} {outer : List Env} {s : Shared} {H : Hp} (e : Env0 P w K mg base A outer s H) (C : Addr) (us : List Value) (kw : List (Str × Value)) :
    Env0 P w K mg base (A.under (.builtin "type.__call__" ⟨.ref C :: us, kw⟩)) outer s H := ⟨by first | exact e.frames | (simpa [Around.under, Code.envs, Code.isFrame, pushEnvs] using e.frames), e.mod, e.bs, e.bsz, e.funs, e.frf, e.hok, e.bare⟩
section
variable {X : Cx} {pins : List (Addr × Obj)} {σ : St} {H : Hp} {s s' : Shared}
theorem Inv.env0 (I : Inv X pins σ H s) : Env0 X.prog X.w X.K X.mg X.base X.A X.stack s H :=
  ⟨I.ok.frames, I.ok.mod, I.bs, Nat.le_trans I.ok.bsz I.sz, I.stack, I.stkFree, I.hok, I.bare⟩
theorem Inv.after {Q : VK} {u : Value} (I : Inv X pins σ H s) (h : CE X.stack X.prog X.w H s Q u s') : EP X pins σ Q u s' := by
  obtain ⟨v, H', os, bare, un, hok, r, q⟩ := h
  obtain ⟨hh, g, d, t, os'⟩ := s'
  obtain rfl : os' = s.os := os
  exact ⟨v, H', I.call (h' := hh) (g' := g) (d' := d) (t' := t) (ch := []) un hok bare (fun b z => absurd z (by simp)), r, q⟩
end
def tCall (sp : Sp) (dvs : List V) (E : XK) (t : TA) : TE := fun σ H Q => t σ H fun vs H1 => sp (vs ++ dvs) H1 Q E
def tMake (C : Addr) (sp : Sp) (dvs : List V) (E : XK) (t : TA) : TE := fun σ H Q => t σ H fun vs H1 => ∀ x dx, H1 x = none → H1 dx = none → dx ≠ x →
  sp (.ref x :: (vs ++ dvs)) (upd (upd H1 dx (.own x)) x (.ins C dx [])) (fun v H2 => v = .non ∧ Q (.ref x) H2) E
def Binds (K : PySem.W.Frag) (fd : FuncData) (ps : List Str) (ds : List Value) : Prop :=
  ∀ (s : Shared) (us : List Value), K.In s.heap → (us ++ ds).length = ps.length → BindsTo s fd ⟨us, []⟩ (ps.zip (us ++ ds))
theorem Binds.all {K : PySem.W.Frag} {fd : FuncData} {ps : List Str} (h : ∀ us : List Value, us.length = ps.length → bindArgs fd ⟨us, []⟩ = pure (ps.zip us)) : Binds K fd ps [] := fun s us _ hl => by
  rw [List.append_nil] at hl ⊢
  exact .of_eq (h us hl)
def Passes (CX : CXT) (X : Cx) (E : XK) : Prop := ∀ (pins : List (Addr × Obj)) (σ : St) (H : Hp) (s : Shared) (e : Value) (s' : Shared), Inv X pins σ H s → CX X.stack H s E e s' → X.xe e s'
section
variable {X : Cx} {CX : CXT} {k : Nat} {f C : Addr} {fd : FuncData} {ps : List Str} {sp : Sp} {dvs : List V} {ds : List Value} {E : XK} {x m : Str} {p pos apos : Pos} {e o : Expr} {es : List Expr} {ta : TE} {t : TA}
theorem run_fn {pins : List (Addr × Obj)} {σ : St} {H : Hp} {s : Shared} {Q : VK} {us : List Value} {vs : List V} (F : FnOk X.prog X.w X.K X.mg X.base CX k f fd ps sp) (hr : Room k X.A) (hb : Binds X.K fd ps ds) (hd : Vals dvs ds) (hx : Passes CX X E)
    (I : Inv X pins σ H s) (r : Vals vs us) (h : sp (vs ++ dvs) H Q E) : wpAny (model X.prog X.w) X.A (call (.ref f) us) (EP X pins σ Q) X.xe s := by
  have r2 : Vals (vs ++ dvs) (us ++ ds) := r.append hd
  have hl : (us ++ ds).length = ps.length := by rw [← r2.length]; exact F.len _ _ _ _ h
  refine wpAny_call (codeAny_mono (F.run X.A X.stack s H ⟨us, []⟩ (us ++ ds) (vs ++ dvs) Q E hr I.env0 (hb s us I.kIn hl) r2 h) fun r s' hq => ?_)
  cases r with
  | error e => exact hx pins σ H s e s' I hq
  | ok fl =>
    cases fl with
    | ret u => exact I.after hq
    | next => exact False.elim hq
    | brk => exact False.elim hq
    | cont => exact False.elim hq
theorem pe_call (F : FnOk X.prog X.w X.K X.mg X.base CX k f fd ps sp) (hr : Room k X.A) (hg : Gl X x) (hm : X.mg x = some (.ref f)) (hk : PySem.W.keepIn X.K (.ref f) = true) (hb : Binds X.K fd ps ds) (hd : Vals dvs ds) (hx : Passes CX X E)
    (ha : PA X (e :: es) t) (hdb : (x == ("__debug__" : Str)) = false := by decide) (he : starEach (e :: es) X.env = (false, eval e X.env) :: starEach es X.env := by rfl) (hpl : (backTo pos (starEach es X.env)).any (·.1) = false := by rfl) :
    PE X (.Call (.Name x p) (e :: es) [] pos) (tCall sp dvs E t) := by
  intro pins s σ H Q I h
  refine wpAny_Call_Name_kw (ld_glob I hg hm ?_ hdb)
  refine PySem.W.callWith_K (h₀ := X.base) I.ok.mod.kin hk (thn (ha pos pins s σ H _ I h) fun us s1 ⟨vs, H1, I1, r, q⟩ => ⟨I1.kIn, ?_⟩) he hpl
  exact run_fn F hr hb hd hx I1 r q
structure Mk (K : PySem.W.Frag) (C f : Addr) : Prop where
  makes : PySem.W.makesIn K C = true
  init : PySem.W.findIn K (.ref C) "__init__" = some (some (.ref f))
  fn : PySem.W.isFn K (.ref f) = true
  kp : PySem.W.keepIn K (.ref C) = true
theorem run_make {pins : List (Addr × Obj)} {σ : St} {H : Hp} {s : Shared} {Q : VK} {us : List Value} {vs : List V} (M : Mk X.K C f) (F : FnOk X.prog X.w X.K X.mg X.base CX k f fd ps sp) (hr : Room (k + 1) X.A) (hb : Binds X.K fd ps ds) (hd : Vals dvs ds)
    (hx : Passes CX X E) (I : Inv X pins σ H s) (r : Vals vs us)
    (h : ∀ x dx, H x = none → H dx = none → dx ≠ x → sp (.ref x :: (vs ++ dvs)) (upd (upd H dx (.own x)) x (.ins C dx [])) (fun v H2 => v = .non ∧ Q (.ref x) H2) E) :
    wpAny (model X.prog X.w) X.A (call (.ref C) us) (EP X pins σ Q) X.xe s := by
  have hq := h (s.heap.objs.size + 1) s.heap.objs.size (I.hok.fresh (Nat.le_succ _)) (I.hok.fresh (Nat.le_refl _)) (Nat.ne_of_lt (Nat.lt_succ_self _))
  have I2 := Inv.made (C := C) I
  have r2 : Vals (V.ref (s.heap.objs.size + 1) :: (vs ++ dvs)) (Value.ref (s.heap.objs.size + 1) :: (us ++ ds)) := .cons rfl (r.append hd)
  have hl : (Value.ref (s.heap.objs.size + 1) :: us ++ ds).length = ps.length := by
    have e := r2.length
    rw [F.len _ _ _ _ hq] at e
    exact e.symm
  refine wpAny_call (make_map (f := f) I.kIn M.makes M.init (beq_iff_eq.mp M.fn) (codeAny_mono (F.run _ X.stack _ _ ⟨Value.ref (s.heap.objs.size + 1) :: us, []⟩ (Value.ref (s.heap.objs.size + 1) :: (us ++ ds)) _ _ E (hr.make C us [])
    (I2.env0.make C us []) (hb _ (Value.ref (s.heap.objs.size + 1) :: us) I2.kIn hl) r2 hq) fun r s' hq' => ?_))
  cases r with
  | error e => exact hx pins σ _ _ e s' I2 hq'
  | ok fl =>
    cases fl with
    | ret u =>
      obtain ⟨v, H', I3, rv, ev, q3⟩ := I2.after hq'
      subst ev
      exact ⟨rv, ⟨V.ref (s.heap.objs.size + 1), H', I3, rfl, q3⟩⟩
    | next => exact False.elim hq'
    | brk => exact False.elim hq'
    | cont => exact False.elim hq'
theorem pe_make (M : Mk X.K C f) (F : FnOk X.prog X.w X.K X.mg X.base CX k f fd ps sp) (hr : Room (k + 1) X.A) (hg : Gl X x) (hm : X.mg x = some (.ref C)) (hb : Binds X.K fd ps ds) (hd : Vals dvs ds) (hx : Passes CX X E)
    (ha : PA X (e :: es) t) (hdb : (x == ("__debug__" : Str)) = false := by decide) (he : starEach (e :: es) X.env = (false, eval e X.env) :: starEach es X.env := by rfl) (hpl : (backTo pos (starEach es X.env)).any (·.1) = false := by rfl) :
    PE X (.Call (.Name x p) (e :: es) [] pos) (tMake C sp dvs E t) := by
  intro pins s σ H Q I h
  refine wpAny_Call_Name_kw (ld_glob I hg hm ?_ hdb)
  refine PySem.W.callWith_K (h₀ := X.base) I.ok.mod.kin M.kp (thn (ha pos pins s σ H _ I h) fun us s1 ⟨vs, H1, I1, r, q⟩ => ⟨I1.kIn, ?_⟩) he hpl
  exact run_make M F hr hb hd hx I1 r q
end
section
variable {X : Cx} {CX : CXT} {k : Nat} {f C : Addr} {fd : FuncData} {ps ks : List Str} {sp : Sp} {E : XK} {x m : Str} {p pos apos kpos : Pos} {e o : Expr} {es : List Expr} {kws : List Keyword} {te ta : TE} {t tk : TA} {nm : Option Str}
variable {g : List Value → List Value → List Value} {gV : List V → List V → List V}
end
structure FnScope (N P : List Str) (sc : Scope) : Prop where
  kind : sc.kind = .function
  co : sc.isCoroutine = false
  gen : sc.isGenerator = false
  nd : N.Nodup
  pre : N.take P.length = P
  par : ∀ x ∈ P, sc.names.lookup x = some .local ∨ sc.names.lookup x = some .cell
  nofree : ∀ y ∈ sc.names, y.2 ≠ .free
theorem bindL_out {kindOf : Str → Option NameKind} {x : Str} : ∀ {binds : List (Str × Value)} {m : Str → Option Value}, (∀ v, (x, v) ∉ binds) → bindL kindOf binds m x = m x
  | [], _, _ => rfl
  | (n, v) :: r, m, h => by
    unfold bindL
    rw [bindL_out fun w hw => h w (List.mem_cons_of_mem _ hw)]
    split
    · have : x ≠ n := by rintro rfl; exact h v List.mem_cons_self
      simp [this]
    · rfl
theorem bindC_out {kindOf : Str → Option NameKind} {x : Str} : ∀ {binds : List (Str × Value)} {m : Str → Option Value}, (∀ v, (x, v) ∉ binds) → bindC kindOf binds m x = m x
  | [], _, _ => rfl
  | (n, v) :: r, m, h => by
    unfold bindC
    rw [bindC_out fun w hw => h w (List.mem_cons_of_mem _ hw)]
    split
    · rfl
    · have : x ≠ n := by rintro rfl; exact h v List.mem_cons_self
      simp [this]
theorem bindL_get {kindOf : Str → Option NameKind} {x : Str} {v : Value} : ∀ {P : List Str} {vs : List Value} {i : Nat} {m : Str → Option Value}, P.Nodup → P[i]? = some x → vs[i]? = some v → kindOf x = some .local →
    bindL kindOf (P.zip vs) m x = some v
  | [], _, _, _, _, h, _, _ => by simp at h
  | _ :: _, [], _, _, _, _, h, _ => by simp at h
  | p :: P, w :: vs, 0, m, nd, h1, h2, hk => by
    simp at h1 h2; subst h1; subst h2
    show bindL kindOf ((p, w) :: P.zip vs) m p = _
    unfold bindL
    rw [bindL_out fun v hv => (List.nodup_cons.mp nd).1 (List.of_mem_zip hv).1, if_pos hk]
    simp
  | p :: P, w :: vs, i + 1, m, nd, h1, h2, hk => by
    show bindL kindOf ((p, w) :: P.zip vs) m x = _
    unfold bindL
    exact bindL_get (i := i) (List.nodup_cons.mp nd).2 (by simpa using h1) (by simpa using h2) hk
theorem bindC_get {kindOf : Str → Option NameKind} {x : Str} {v : Value} : ∀ {P : List Str} {vs : List Value} {i : Nat} {m : Str → Option Value}, P.Nodup → P[i]? = some x → vs[i]? = some v → kindOf x ≠ some .local →
    bindC kindOf (P.zip vs) m x = some v
  | [], _, _, _, _, h, _, _ => by simp at h
  | _ :: _, [], _, _, _, _, h, _ => by simp at h
  | p :: P, w :: vs, 0, m, nd, h1, h2, hk => by
    simp at h1 h2; subst h1; subst h2
    show bindC kindOf ((p, w) :: P.zip vs) m p = _
    unfold bindC
    rw [bindC_out fun v hv => (List.nodup_cons.mp nd).1 (List.of_mem_zip hv).1, if_neg hk]
    simp
  | p :: P, w :: vs, i + 1, m, nd, h1, h2, hk => by
    show bindC kindOf ((p, w) :: P.zip vs) m x = _
    unfold bindC
    exact bindC_get (i := i) (List.nodup_cons.mp nd).2 (by simpa using h1) (by simpa using h2) hk
def start (N : List Str) (vs : List V) : St := vs.map some ++ List.replicate (N.length - vs.length) none
def cxOf (CX : CXT) (P : Program) (w : World) (K : PySem.W.Frag) (mg : Str → Option Value) (base : Heap) (N : List Str) (qual : Str) (scope : Scope) (f : Addr) (cd : Value) (A : Around) (outer : List Env) (s : Shared) (H : Hp) (E : XK) : Cx where
  prog := P
  w := w
  K := K
  mg := mg
  base := base
  A := A.deeper (envOfC qual scope s.heap.objs.size f cd)
  N := N
  s₀ := s
  H₀ := H
  env := envOfC qual scope s.heap.objs.size f cd
  outer := outer
  stack := envOfC qual scope s.heap.objs.size f cd :: outer
  ex := []
  calm := true
  fn := fun _ => true
  pn := []
  xe := fun e s' => wpAny (model P w) (A.deeper (envOfC qual scope s.heap.objs.size f cd)) (leaving (envOfC qual scope s.heap.objs.size f cd) e) (fun _ s'' => CX outer H s E e s'') (fun e' s'' => CX outer H s E e' s'') s'
theorem cell_has {sc : Scope} {n : Nat} {x : Str} (h : sc.names.lookup x = some .cell) : ∃ c, (cellsFrom n sc.names []).lookup x = some c := by
  have q := PySem.W.cellsFrom_some sc.names n [] (.inl h)
  exact Option.isSome_iff_exists.mp q
theorem inv_start {CX : CXT} {P : Program} {w : World} {K : PySem.W.Frag} {mg : Str → Option Value} {base : Heap} {N ps : List Str} {qual : Str} {scope : Scope} {f : Addr} {cd : Value} {A : Around} {outer : List Env} {s s1 : Shared} {H : Hp} {E : XK} {us : List Value} {vs : List V}
    (S : FnScope N ps scope) (hd : A.handled = none) (e0 : Env0 P w K mg base A outer s H) (hl : vs.length = ps.length) (r : Vals vs us)
    (x : InCallC s s.heap.objs.size (bindL (envOfC qual scope s.heap.objs.size f cd).kindOf (ps.zip us) fun _ => none) (cellsFrom (s.heap.objs.size + 1) scope.names []) (bindC (envOfC qual scope s.heap.objs.size f cd).kindOf (ps.zip us) fun _ => none) s1) :
    Inv (cxOf CX P w K mg base N qual scope f cd A outer s H E) [] (start N vs) H s1 := by
  have hpl : ps.length ≤ N.length := by have := congrArg List.length S.pre; rw [List.length_take] at this; omega
  obtain ⟨h1, tk, rfl, hk⟩ := x.done
  have noA : ∀ b : Addr, b ∉ (cxOf CX P w K mg base N qual scope f cd A outer s H E).ex := fun b z => absurd (show b ∈ ([] : List Addr) from z) (by simp)
  refine ⟨⟨e0.mod, S.kind, rfl, rfl, Nat.le_refl _, fun y z c h1 h2 => ?_, fun y hy => ?_, fun y c _ h => ?_, fun _ => hd, Around.frames_deeper e0.frames, .inr ⟨rfl, rfl⟩, fun b z => absurd z (noA b), e0.bs, e0.bsz, fun b _ _ => noA b, fun b z => absurd z (noA b), e0.funs, e0.frf⟩,
    rfl, e0.bare, Un.kept hk, ⟨_, x.toInCall.ns, fun i y v h1 h2 h3 => ?_⟩, fun y c h => ⟨_, x.cell y c h⟩, e0.hok.fresh (Nat.le_refl _), fun y c h => ?_, fun p hp => absurd (show p ∈ ([] : List (Addr × Obj)) from hp) (by simp), e0.hok.kept hk, ?_⟩
  · exact name_of_addr x.apart (PySem.mem_of_lookup h1) (PySem.mem_of_lookup h2)
  · have hy : scope.names.lookup y = some .cell ∨ scope.names.lookup y = some .free := hy
    rcases hy with hy | hy
    · exact cell_has hy
    · exact absurd rfl (S.nofree _ (PySem.mem_of_lookup hy))
  · exact Nat.le_of_lt (x.above y c (PySem.mem_of_lookup h))
  · have hi : i < vs.length := by
      unfold start at h2
      by_cases hi : i < vs.length
      · exact hi
      · rw [List.getElem?_append_right (by simpa using hi)] at h2
        rw [List.getElem?_replicate] at h2
        split at h2 <;> cases h2
    have ha : vs[i]? = some v := by
      unfold start at h2
      rw [List.getElem?_append_left (by simpa using hi), List.getElem?_map] at h2
      cases e : vs[i]? with
      | none => rw [e] at h2; cases h2
      | some a => rw [e] at h2; cases h2; rfl
    obtain ⟨u, hu, rv⟩ := r.get ha
    have hp : ps[i]? = some y := by
      rw [← S.pre, List.getElem?_take_of_lt (by omega)]; exact h1
    have ndP : ps.Nodup := by rw [← S.pre]; exact S.nd.sublist (List.take_sublist _ _)
    refine ⟨u, rv, ?_⟩
    rcases S.par y (List.mem_of_getElem? hp) with k | k
    · exact .inl ⟨k, bindL_get ndP hp hu k⟩
    · obtain ⟨c, e⟩ := cell_has (n := s.heap.objs.size + 1) k
      refine .inr ⟨.inl k, c, e, ?_⟩
      have q := x.cell y c e
      rw [bindC_get ndP hp hu (by show scope.names.lookup y ≠ _; rw [k]; decide)] at q
      exact q
  · exact e0.hok.fresh (Nat.le_of_lt (x.above y c (PySem.mem_of_lookup h)))
  · unfold start
    show _ = N.length
    rw [List.length_append, List.length_map, List.length_replicate]
    omega
theorem fn_of {CX : CXT} {P : Program} {w : World} {K : PySem.W.Frag} {mg : Str → Option Value} {base : Heap} {k : Nat} {f : Addr} {name qual : Str} {params : Arguments} {body : List Stmt} {scope : Scope} {dV kV doc pm cdv ct oc : Value} {an od : Option Addr}
    {osl : Array (Option Value)} {N ps : List Str} {sp : Sp} (lk : K.lookup f = some ⟨oc, od, .func (PySem.W.fnOf name qual params body scope dV kV doc pm an cdv ct), osl⟩) (hcd : PySem.W.codeIn K cdv qual = true) (S : FnScope N ps scope)
    (len : ∀ vs H Q E, sp vs H Q E → vs.length = ps.length)
    (hbody : ∀ (A : Around) (outer : List Env) (s : Shared) (H : Hp) (vs : List V) (Q : VK) (E : XK), Room k (A.deeper (envOfC qual scope s.heap.objs.size f cdv)) → sp vs H Q E →
      ∃ t, PSs (cxOf CX P w K mg base N qual scope f cdv A outer s H E) body t ∧ t { nx := fun _ H' => Q .non H', rt := Q } (start N vs) H) :
    FnOk P w K mg base CX (k + 1) f (PySem.W.fnOf name qual params body scope dV kV doc pm an cdv ct) ps sp := by
  refine ⟨len, fun A outer s H args us vs Q E hr e0 hb r hsp => ?_⟩
  have hl := len _ _ _ _ hsp
  have KX : K.In s.heap := e0.mod.kin.keeps fun b o e => (e0.bs b o e).1
  have lim : s.heap.NoLimit := e0.mod.nolimit.keeps fun b o e => (e0.bs b o e).1
  have hkind : ∀ y ∈ ps.zip us, scope.names.lookup y.1 = some .local ∨ (scope.names.lookup y.1 = some .cell ∧ ((cellsFrom (s.heap.objs.size + 1) scope.names []).lookup y.1).isSome = true) := fun ⟨n, v⟩ hy => by
    rcases S.par n (List.of_mem_zip hy).1 with q | q
    · exact .inl q
    · exact .inr ⟨q, PySem.W.cellsFrom_some _ _ _ (.inl q)⟩
  refine codeAny_call_function hr.depth (KX _ _ lk) rfl S.co S.gen rfl (PySem.W.codeRec_of KX hcd) (hb _ _ _ _ ?_)
  refine wpAny_newFunctionEnv_cells S.kind hkind fun env he s1 x => ?_
  subst he
  refine ⟨lim.keeps x.toInCall.keep, codeAny_func ?_⟩
  obtain ⟨t, ht, hq⟩ := hbody A outer s H vs Q E (hr.deeper _) hsp
  have I : Inv (cxOf CX P w K mg base N qual scope f cdv A outer s H E) [] (start N vs) H s1 := inv_start S hr.hd e0 hl r x
  refine wpAny_mono (ht [] s1 (start N vs) H _ I hq) (fun fl s' hs => ?_) fun e s' hs => hs
  have fin : ∀ {σ' : St} {H' : Hp} {v : V} {u : Value}, Inv (cxOf CX P w K mg base N qual scope f cdv A outer s H E) [] σ' H' s' → RelV v u → Q v H' → CE outer P w H s Q u s' :=
    fun {σ' H' v u} J rv q => ⟨v, H', J.os, J.bare, J.base, J.hok, rv, q⟩
  cases fl with
  | ret u =>
    obtain ⟨v, σ', H', J, rv, q⟩ := hs
    exact fin J rv q
  | next =>
    obtain ⟨σ', H', J, q⟩ := hs
    exact fin (v := V.non) (u := Value.none) J rfl q
  | brk =>
    obtain ⟨_, _, _, q⟩ := hs
    exact False.elim q
  | cont =>
    obtain ⟨_, _, _, q⟩ := hs
    exact False.elim q
end L2
namespace L2
open PySem PySem.Spec PyProof.Rows
section
variable {X : Cx} {x : Str} {p pos : Pos} {e : Expr} {es : List Expr} {t : TA} {id T : String} {r : List V → Hp → VK → Prop}
def tCB (r : List V → Hp → VK → Prop) (t : TA) : TE := fun σ H Q => t σ H fun vs H1 => r vs H1 Q
theorem pe_callB (hc : CallR X (.builtin id) r) (hg : Gl X x) (hm : X.mg x = none) (hv : bootBuiltins x = some (.builtin id)) (ha : PA X (e :: es) t) (hn : x ≠ "__name__" := by decide) (hdb : (x == ("__debug__" : Str)) = false := by decide)
    (he : starEach (e :: es) X.env = (false, eval e X.env) :: starEach es X.env := by rfl) (hpl : (backTo pos (starEach es X.env)).any (·.1) = false := by rfl) : PE X (.Call (.Name x p) (e :: es) [] pos) (tCB r t) := by
  intro pins s σ H Q I h
  refine wpAny_Call_Name_kw (ld_blt I hg hm hv ?_ hn hdb)
  exact PyProof.Rows.callWith_builtin1 (thn (ha pos pins s σ H _ I h) fun us s1 ⟨vs, H1, I1, r1, q1⟩ => hc pins s1 σ H1 vs us Q I1 r1 q1) he hpl
theorem pe_callTy (hc : CallR X (.type T) r) (hg : Gl X x) (hm : X.mg x = none) (hv : bootBuiltins x = some (.type T)) (ha : PA X (e :: es) t) (hn : x ≠ "__name__" := by decide) (hdb : (x == ("__debug__" : Str)) = false := by decide)
    (he : starEach (e :: es) X.env = (false, eval e X.env) :: starEach es X.env := by rfl) (hpl : (backTo pos (starEach es X.env)).any (·.1) = false := by rfl) : PE X (.Call (.Name x p) (e :: es) [] pos) (tCB r t) := by
  intro pins s σ H Q I h
  refine wpAny_Call_Name_kw (ld_blt I hg hm hv ?_ hn hdb)
  exact PyProof.Rows.callWith_type1 (thn (ha pos pins s σ H _ I h) fun us s1 ⟨vs, H1, I1, r1, q1⟩ => hc pins s1 σ H1 vs us Q I1 r1 q1) he hpl
end
end L2
namespace HT
open PySem PyProof.Rows
section
open PySem.SeqAt
open PySem.AutoSeq1 (wpAny_loadPart')
open PySem.MeetsSeq PySem.MeetsSeq2 PySem.MeetsSeq3
end
section
variable {prog : Program} {w : World} {A : Around} {E : Value → Shared → Prop} {s : Shared}
def sIx (n d : Nat) : Option Int → Nat
  | none => d
  | some v => if v < 0 then (v + (n : Int)).toNat else min v.toNat n
theorem sIx_le (n d : Nat) (hd : d ≤ n) (o : Option Int) : sIx n d o ≤ n := by
  cases o with
  | none => exact hd
  | some v =>
    show (if v < 0 then (v + (n : Int)).toNat else min v.toNat n) ≤ n
    by_cases hv : v < 0
    · rw [if_pos hv]; omega
    · rw [if_neg hv]; exact Nat.min_le_right _ _
end
end HT
namespace L2
open PySem PySem.Spec PyProof.Rows
abbrev TO := St → Hp → (Option Int → Hp → Prop) → Prop
def PO (X : Cx) (e : Option Expr) (t : TO) : Prop :=
  ∀ (pins : List (Addr × Obj)) (s : Shared) (σ : St) (H : Hp) (Q : Option Int → Hp → Prop), Inv X pins σ H s → t σ H Q →
    wpAny (model X.prog X.w) X.A (evalPart e X.env) (fun u s' => ∃ o H', Inv X pins σ H' s' ∧ IsPart u o ∧ Q o H') X.xe s
def tNoPart : TO := fun _ H Q => Q none H
def tPart (t : TE) : TO := fun σ H Q => t σ H fun x H1 => ∃ i, x = .int i ∧ Q (some i) H1
theorem intsAre_of {ns : List Int} : ∀ {us : List Value}, Vals (ns.map V.int) us → IntsAre us ns := by
  induction ns with
  | nil => intro us r; rw [List.map_nil] at r; cases r; exact .nil
  | cons n ns ih =>
    intro us r
    rw [List.map_cons] at r
    cases r with
    | cons r1 r2 =>
      obtain ⟨t, e⟩ := r1
      subst e
      exact .cons n t (ih r2)
section
variable {X : Cx} {e : Expr} {te : TE} {lo hi : Option Expr} {tl th : TO} {pos p2 : Pos}
theorem po_none : PO X none tNoPart := by
  intro pins s σ H Q I h
  rw [evalPart_none]
  exact wpAny_pure ⟨none, H, I, .none, h⟩
theorem po_some (h : PE X e te) : PO X (some e) (tPart te) := by
  intro pins s σ H Q I hw
  rw [evalPart_some]
  refine thn (h pins s σ H _ I hw) fun u s1 ⟨x, H1, I1, r1, q1⟩ => ?_
  obtain ⟨i, rfl, q⟩ := q1
  obtain ⟨t, rfl⟩ := r1
  exact ⟨some i, H1, I1, .int i t, q⟩
def SlR (X : Cx) (r : V → Option Int → Option Int → Hp → VK → Prop) : Prop :=
  ∀ (pins : List (Addr × Obj)) (s : Shared) (σ : St) (H : Hp) (x : V) (v vl vu : Value) (lo hi : Option Int) (sl : Addr) (Q : VK), Inv X pins σ H s → RelV x v → s.heap.IsSliceOf sl vl vu .none → IsPart vl lo → IsPart vu hi → r x lo hi H Q →
    ∃ T id, typeLookup (.type T) "__getitem__" = pure (some (.builtin id)) ∧ s.TypeIs v T ∧ wpAny (model X.prog X.w) X.A (getItem v (.ref sl)) (EP X pins σ Q) X.xe s
def tSl (r : V → Option Int → Option Int → Hp → VK → Prop) (te : TE) (tl th : TO) : TE := fun σ H Q => te σ H fun x H1 => tl σ H1 fun l H2 => th σ H2 fun u H3 => r x l u H3 Q
theorem pe_slice {r : V → Option Int → Option Int → Hp → VK → Prop} (hr : SlR X r) (he : PE X e te) (hl : PO X lo tl) (hu : PO X hi th) : PE X (.Subscript e (.Slice lo hi none p2) pos) (tSl r te tl th) := by
  intro pins s σ H Q I h
  refine Subscript_ (thn (he pins s σ H _ I h) fun v s1 ⟨x, H1, I1, r1, q1⟩ => ?_)
  refine wpAny_Slice (thn (hl pins s1 σ H1 _ I1 q1) fun vl s2 ⟨l, H2, I2, pl, q2⟩ => thn (hu pins s2 σ H2 _ I2 q2) fun vu s3 ⟨u, H3, I3, pu, q3⟩ => ?_)
  rw [evalPart_none]
  refine wpAny_pure ?_
  have I4 : Inv X pins σ H3 { s3 with heap := s3.heap.push { cls := .type "slice", data := .fields #[vl, vu, .none] } } := I3.kept (t' := s3.toks) fun b ob q => Heap.get?_push_of_some _ q
  obtain ⟨T, id, hT, ht, hg⟩ := hr pins { s3 with heap := s3.heap.push { cls := .type "slice", data := .fields #[vl, vu, .none] } } σ H3 x v vl vu l u s3.heap.objs.size Q I4 r1 (Heap.IsSliceOf.new ..) pl pu q3
  show wpAny (model X.prog X.w) X.A (subscriptTail e (.Slice lo hi none p2) v (.ref s3.heap.objs.size)) (EP X pins σ Q) X.xe { s3 with heap := s3.heap.push { cls := .type "slice", data := .fields #[vl, vu, .none] } }
  exact tail_any (ops := [.ref s3.heap.objs.size, v]) ht hT hg (by with_unfolding_all rfl)
def cutV (xs : List V) (lo hi : Option Int) : List V := (xs.drop (HT.sIx xs.length 0 lo)).take (HT.sIx xs.length xs.length hi - HT.sIx xs.length 0 lo)
theorem cutV_length (xs : List V) (lo hi : Option Int) : (cutV xs lo hi).length ≤ xs.length := by
  unfold cutV
  rw [List.length_take, List.length_drop]
  omega
end
end L2
namespace L2
open PySem PySem.Spec PyProof.Rows
def ixN (n : Nat) (i : Int) : Option Nat := if 0 ≤ i then (if i < n then some i.toNat else none) else if -(n : Int) ≤ i then some (i + n).toNat else none
def atI {α : Type} (xs : List α) (i : Int) : Option α := (ixN xs.length i).bind fun j => xs[j]?
theorem ixN_seq {n : Nat} {i : Int} {j : Nat} (h : ixN n i = some j) : seqIndex? i n = some j ∧ j < n ∧ -(n : Int) ≤ i ∧ i < n := by
  unfold ixN at h
  by_cases h0 : 0 ≤ i
  · rw [if_pos h0] at h
    by_cases h1 : i < n
    · rw [if_pos h1] at h
      have e : i.toNat = j := Option.some.inj h
      exact ⟨by rw [seqIndex_of h0 h1, e], by omega, by omega, h1⟩
    · rw [if_neg h1] at h; cases h
  · rw [if_neg h0] at h
    by_cases h1 : -(n : Int) ≤ i
    · rw [if_pos h1] at h
      have e : (i + n).toNat = j := Option.some.inj h
      exact ⟨by rw [seqIndex_neg (by omega) h1, e], by omega, h1, by omega⟩
    · rw [if_neg h1] at h; cases h
theorem atI_get {α : Type} {xs : List α} {i : Int} {v : α} (h : atI xs i = some v) : ∃ j, seqIndex? i xs.length = some j ∧ xs[j]? = some v ∧ j < xs.length ∧ -(xs.length : Int) ≤ i ∧ i < xs.length := by
  unfold atI at h
  cases e : ixN xs.length i with
  | none => rw [e] at h; cases h
  | some j =>
    rw [e] at h
    obtain ⟨h1, h2, h3, h4⟩ := ixN_seq e
    exact ⟨j, h1, h, h2, h3, h4⟩
theorem atI_nat {α : Type} {xs : List α} {j : Nat} {v : α} (h : xs[j]? = some v) : atI xs (j : Int) = some v := by
  have hj : j < xs.length := (List.getElem?_eq_some_iff.mp h).1
  have e : ixN xs.length (j : Int) = some j := by
    unfold ixN
    rw [if_pos (by omega), if_pos (by omega)]; simp
  unfold atI; rw [e]; exact h
def PlainIx (b : Expr) : Prop := ∀ o i, subscripted b false o i = operate [o, i] (getItem o i)
def IxR (X : Cx) (r : R2) : Prop :=
  ∀ (value slice : Expr) (pins : List (Addr × Obj)) (s : Shared) (σ : St) (H : Hp) (x y : V) (v u : Value) (Q : VK), Inv X pins σ H s → RelV x v → RelV y u → r x y H Q →
    subscripted slice false v u = operate [v, u] (getItem v u) → wpAny (model X.prog X.w) X.A (subscriptTail value slice v u) (EP X pins σ Q) X.xe s
def MtR (X : Cx) (id : String) (r : V → List V → Hp → VK → Prop) : Prop :=
  ∀ (pins : List (Addr × Obj)) (s : Shared) (σ : St) (H : Hp) (x : V) (xs : List V) (v : Value) (us : List Value) (Q : VK), Inv X pins σ H s → RelV x v → Vals xs us → r x xs H Q →
    wpAny (model X.prog X.w) X.A (call (.builtin id) (v :: us)) (EP X pins σ Q) X.xe s
section
variable {X : Cx} {a b : Expr} {ta tb : TE} {pos : Pos}
theorem IxR.or {r r' : R2} (h : IxR X r) (h' : IxR X r') : IxR X (fun x y H Q => r x y H Q ∨ r' x y H Q) := by
  intro value slice pins s σ H x y v u Q I rx ry q hs
  rcases q with q | q
  · exact h value slice pins s σ H x y v u Q I rx ry q hs
  · exact h' value slice pins s σ H x y v u Q I rx ry q hs
theorem pe_ix {r : R2} (hr : IxR X r) (ha : PE X a ta) (hb : PE X b tb) (hs : PlainIx b) : PE X (.Subscript a b pos) (tOp r ta tb) := by
  intro pins s σ H Q I h
  exact Subscript_ (binT ha hb I h fun v u s2 x y H2 I2 rx ry q => hr a b pins s2 σ H2 x y v u Q I2 rx ry q (hs _ _))
def rIxL (K : PySem.W.Frag) : R2 := fun x y H Q => ∃ p xs i v, x = .ref p ∧ y = .int i ∧ SqL K H p xs ∧ atI xs i = some v ∧ Q v H
def rIxT (K : PySem.W.Frag) : R2 := fun x y H Q => ∃ p xs i v, x = .ref p ∧ y = .int i ∧ SqT K H p xs ∧ atI xs i = some v ∧ Q v H
def rIxS : R2 := fun x y H Q => ∃ z i c, x = .str z ∧ y = .int i ∧ z.length ≤ sizeLine ∧ atI z.cps.toList i = some c ∧ Q (.str ⟨#[c]⟩) H
theorem ix_list : IxR X (rIxL X.K) := by
  intro value slice pins s σ H x y v u Q I rx ry h hs
  obtain ⟨p, xs, i, z, rfl, rfl, hq, he, q⟩ := h
  cases rx
  obtain ⟨t, rfl⟩ := ry
  obtain ⟨its, r, pl, hz⟩ := I.list hq
  obtain ⟨j, h1, h2, h3, h4, h5⟩ := atI_get he
  obtain ⟨w, ew, rw'⟩ := r.get h2
  have hl := r.length
  have hn := line63
  have fin : EP X pins σ Q w s := ⟨z, H, I, rw', q⟩
  by_cases h0 : 0 ≤ i
  · have hj : i.toNat = j := by
      rw [seqIndex_of h0 h5] at h1
      exact Option.some.inj h1
    exact item_listR pl.isList h0 (by omega) (by rw [hj]; simpa using ew) fin hs
  · have hj : (i + (its.toArray.size : Int)).toNat = j := by
      rw [seqIndex_neg (by omega) h4] at h1
      rw [List.size_toArray, ← hl]
      exact Option.some.inj h1
    exact subscriptTail_builtinR (x := w) pl.isList.typeIs slot_list_getitem.lookup
      (wpAny_getItem_list_neg (Q := fun r s' => r = w ∧ EP X pins σ Q r s') pl.isList (by omega) (by rw [List.size_toArray] <;> omega) (by omega) (by rw [hj]; simpa using ew) ⟨rfl, fin⟩) hs
theorem ix_tup : IxR X (rIxT X.K) := by
  intro value slice pins s σ H x y v u Q I rx ry h hs
  obtain ⟨p, xs, i, z, rfl, rfl, hq, he, q⟩ := h
  cases rx
  obtain ⟨t, rfl⟩ := ry
  obtain ⟨its, r, pl, hz⟩ := I.tuple hq
  obtain ⟨j, h1, h2, h3, h4, h5⟩ := atI_get he
  obtain ⟨w, ew, rw'⟩ := r.get h2
  have hl := r.length
  have hn := line63
  have fin : EP X pins σ Q w s := ⟨z, H, I, rw', q⟩
  exact subscriptTail_builtinR (x := w) pl.typeIs slot_tuple_getitem.lookup
    (getItem_tuple (j := j) (Q := fun r s' => r = w ∧ EP X pins σ Q r s') pl (by omega) (by omega) (by rw [List.size_toArray, ← hl]; exact h1) (by simpa using ew) ⟨rfl, fin⟩) hs
theorem ix_str : IxR X rIxS := by
  intro value slice pins s σ H x y v u Q I rx ry h hs
  obtain ⟨z, i, c, rfl, rfl, hz, he, q⟩ := h
  obtain ⟨t, rfl⟩ := rx
  obtain ⟨t', rfl⟩ := ry
  obtain ⟨j, h1, h2, h3, h4, h5⟩ := atI_get he
  have hl : z.cps.toList.length = z.length := by simp [Str.length]
  rw [hl] at h1 h4 h5
  have hn := line63
  exact tail_any (typeIs_str s z t) slot_str_getitem.lookup (getItem_str (c := c) (by
    have e1 : decide (i < -(2 ^ 63 : Int)) = false := decide_eq_false (by omega)
    have e2 : decide (i ≥ 2 ^ 63) = false := decide_eq_false (by omega)
    rw [e1, e2, Bool.or_false]) (by rw [h1]; simpa using h2) ⟨.str ⟨#[c]⟩, H, I.tok _, ⟨_, rfl⟩, q⟩) hs
def rIx (K : PySem.W.Frag) : R2 := fun x y H Q => rIxL K x y H Q ∨ rIxT K x y H Q ∨ rIxS x y H Q
theorem ix_seq : IxR X (rIx X.K) := ix_list.or (ix_tup.or ix_str)
theorem mapSeq_set (its : List Value) (n j : Nat) (u : Value) : Obj.mapSeq (·.setIfInBounds j u) { cls := .type "list", data := .seq its.toArray n } = { cls := .type "list", data := .seq (its.set j u).toArray n } := by
  simp [Obj.mapSeq]
theorem Inv.lst {pins : List (Addr × Obj)} {σ : St} {H : Hp} {s : Shared} {p : Addr} {xs : List V} (I : Inv X pins σ H s) (h : H p = some (.lst xs)) :
    ∃ (its : List Value) (n : Nat), Vals xs its ∧ s.heap.get? p = some { cls := .type "list", data := .seq its.toArray n } ∧ xs.length ≤ sizeLine := by
  obtain ⟨z, its, n, r, e⟩ := I.hok p _ h
  exact ⟨its, n, r, e, z⟩
theorem Inv.lstUpd {pins : List (Addr × Obj)} {σ : St} {H : Hp} {s : Shared} {p : Addr} {xs ys : List V} {its its' : List Value} {n n' : Nat} {f : Obj → Obj} (I : Inv X pins σ H s) (h : H p = some (.lst xs))
    (ho : s.heap.get? p = some { cls := .type "list", data := .seq its.toArray n }) (hf : f { cls := .type "list", data := .seq its.toArray n } = { cls := .type "list", data := .seq its'.toArray n' }) (r : Vals ys its') (hz : ys.length ≤ sizeLine) (t : Nat) :
    Inv X pins σ (upd H p (.lst ys)) { s with heap := s.heap.update p f, toks := t } := by
  have e : (s.heap.update p f).get? p = some { cls := .type "list", data := .seq its'.toArray n' } := by
    rw [Heap.get?_update_self f ho (by rw [hf] <;> rfl), hf]
  refine I.write (x := p) (e := p) (by rw [h]; trivial) (.inl rfl) (fun b u hb q => (Heap.get?_update_other _ _ (Ne.symm hb)).trans q) ⟨_, e⟩ ?_
  exact ⟨hz, its', n', r, e⟩
def rSetL : V → V → V → Hp → (Hp → Prop) → Prop := fun o i v H Q => ∃ p xs k j, o = .ref p ∧ i = .int k ∧ H p = some (.lst xs) ∧ ixN xs.length k = some j ∧ Q (upd H p (.lst (xs.set j v)))
theorem set_list : PSet X rSetL := by
  intro pins s σ H o i v ov iv u Q I ro ri rv h
  obtain ⟨p, xs, k, j, rfl, rfl, hp, hj, q⟩ := h
  cases ro
  obtain ⟨t, rfl⟩ := ri
  obtain ⟨its, n, r, ho, hz⟩ := I.lst hp
  obtain ⟨h1, h2, h3, h4⟩ := ixN_seq hj
  have hl := r.length
  have hn := line63
  have I' : Inv X pins σ (upd H p (.lst (xs.set j v))) { s with heap := s.heap.update p (Obj.mapSeq (·.setIfInBounds j u)) } :=
    I.lstUpd hp ho (mapSeq_set its n j u) (r.set rv j) (by rw [List.length_set]; exact hz) s.toks
  by_cases h0 : 0 ≤ k
  · have hk : k.toNat = j := by
      rw [seqIndex_of h0 h4] at h1
      exact Option.some.inj h1
    exact PySem.W.ki_setAt ho h0 (by omega) (by rw [List.size_toArray, ← hl]; exact h4) (by rw [hk]; exact ⟨_, I', q⟩)
  · have hk : (k + (its.toArray.size : Int)).toNat = j := by
      rw [seqIndex_neg (by omega) h3] at h1
      rw [List.size_toArray, ← hl]
      exact Option.some.inj h1
    exact PySem.W.ki_setBack ho (by omega) (by rw [List.size_toArray, ← hl]; exact h3) (by omega) (by rw [hk]; exact ⟨_, I', q⟩)
theorem slice_bounds (lo hi : Option Int) (n : Nat) : (sliceBounds lo hi none n).1 = ((HT.sIx n 0 lo : Nat) : Int) ∧ (sliceBounds lo hi none n).2.1 = ((HT.sIx n n hi : Nat) : Int) ∧ (sliceBounds lo hi none n).2.2 = 1 := by
  refine ⟨?_, ?_, rfl⟩
  · cases lo with
    | none => simp [sliceBounds, HT.sIx]
    | some i =>
      simp only [sliceBounds, HT.sIx, Option.getD_none, show (1 : Int) > 0 by decide, if_true]
      by_cases h : i < 0
      · simp only [h, if_true] <;> omega
      · simp only [h, if_false] <;> omega
  · cases hi with
    | none => simp [sliceBounds, HT.sIx]
    | some i =>
      simp only [sliceBounds, HT.sIx, Option.getD_none, show (1 : Int) > 0 by decide, if_true]
      by_cases h : i < 0
      · simp only [h, if_true] <;> omega
      · simp only [h, if_false] <;> omega
theorem slicePick_cut (its : List Value) (lo hi : Option Int) : slicePick its.toArray lo hi none = ((its.drop (HT.sIx its.length 0 lo)).take (HT.sIx its.length its.length hi - HT.sIx its.length 0 lo)).toArray := by
  obtain ⟨h1, h2, h3⟩ := slice_bounds lo hi its.toArray.size
  unfold slicePick
  rw [h1, h2, h3]
  simp only [sliceRange_one, pick_run, List.size_toArray] <;> rfl
def rSlL (K : PySem.W.Frag) : V → Option Int → Option Int → Hp → VK → Prop := fun x lo hi H Q => ∃ a xs, x = .ref a ∧ SqL K H a xs ∧ ∀ p, H p = none → Q (.ref p) (upd H p (.lst (cutV xs lo hi)))
theorem sl_list : SlR X (rSlL X.K) := by
  intro pins s σ H x v vl vu lo hi sl Q I rx hs pl pu h
  obtain ⟨a, xs, rfl, hx, q⟩ := h
  cases rx
  obtain ⟨its, r, ht, hz⟩ := I.list hx
  have hlen := r.length
  refine ⟨"list", _, slot_list_getitem.lookup, ht.isList.typeIs, ?_⟩
  refine wpAny_getItem_list_slice ht.isList hs pl pu .none (by simp) ?_ (by rw [List.size_toArray] <;> omega)
  rw [slicePick_cut, ← hlen]
  refine ⟨.ref s.heap.objs.size, _, I.laid (t' := s.toks) (o := .lst (cutV xs lo hi)) (fun b ob q => Heap.get?_push_of_some _ q) (Nat.le_refl _) ?_, rfl, q _ (I.hok.fresh (Nat.le_refl _))⟩
  exact ⟨Nat.le_trans (cutV_length xs lo hi) hz, _, 0, (r.drop (HT.sIx xs.length 0 lo)).take (HT.sIx xs.length xs.length hi - HT.sIx xs.length 0 lo), Heap.get?_push_size _ rfl⟩
def flatV : V → Bool
  | .non => true
  | .bl _ => true
  | .int _ => true
  | .str _ => true
  | _ => false
def eqV : V → V → Bool
  | .non, .non => true
  | .bl a, .bl b => a == b
  | .bl a, .int b => (if a then 1 else 0) == b
  | .int a, .bl b => a == (if b then 1 else 0)
  | .int a, .int b => a == b
  | .str a, .str b => a == b
  | _, _ => false
theorem eqAt_V {A : Around} {s : Shared} {y x : V} {u v : Value} (ry : RelV y u) (rx : RelV x v) (fy : flatV y = true) (fx : flatV x = true) : SeqAt.EqAt A s u v (eqV y x) := by
  cases y with
  | non =>
    cases ry
    cases x with
    | non => cases rx; exact SeqAt.EqAt.same _
    | bl b => cases rx; exact SeqAt.EqAt.none_bool b
    | int b => obtain ⟨t, rfl⟩ := rx; exact SeqAt.EqAt.none_int b t
    | str b => obtain ⟨t, rfl⟩ := rx; exact SeqAt.EqAt.none_str b t
    | _ => exact absurd (show false = true from fx) Bool.false_ne_true
  | bl a =>
    cases ry
    cases x with
    | non => cases rx; exact SeqAt.EqAt.bool_none a
    | bl b => cases rx; exact SeqAt.EqAt.bool_bool a b
    | int b => obtain ⟨t, rfl⟩ := rx; exact SeqAt.EqAt.bool_int a b t
    | str b => obtain ⟨t, rfl⟩ := rx; exact SeqAt.EqAt.bool_str a b t
    | _ => exact absurd (show false = true from fx) Bool.false_ne_true
  | int a =>
    obtain ⟨t', rfl⟩ := ry
    cases x with
    | non => cases rx; exact SeqAt.EqAt.int_none a t'
    | bl b => cases rx; exact SeqAt.EqAt.int_bool a t' b
    | int b => obtain ⟨t, rfl⟩ := rx; exact SeqAt.EqAt.int_int a t' b t
    | str b => obtain ⟨t, rfl⟩ := rx; exact SeqAt.EqAt.int_str a t' b t
    | _ => exact absurd (show false = true from fx) Bool.false_ne_true
  | str a =>
    obtain ⟨t', rfl⟩ := ry
    cases x with
    | non => cases rx; exact SeqAt.EqAt.str_none a t'
    | bl b => cases rx; exact SeqAt.EqAt.str_bool a t' b
    | int b => obtain ⟨t, rfl⟩ := rx; exact SeqAt.EqAt.str_int a t' b t
    | str b => obtain ⟨t, rfl⟩ := rx; exact SeqAt.EqAt.str_str a t' b t
    | _ => exact absurd (show false = true from fx) Bool.false_ne_true
  | _ => exact absurd (show false = true from fy) Bool.false_ne_true
def eqU (x : V) (u : Value) : Bool := match u with
  | .none => eqV .non x
  | .bool b => eqV (.bl b) x
  | .int i _ => eqV (.int i) x
  | .str z _ => eqV (.str z) x
  | _ => false
theorem eqU_of {x y : V} {u : Value} (r : RelV y u) (f : flatV y = true) : eqU x u = eqV y x := by
  cases y with
  | non => cases r; rfl
  | bl b => cases r; rfl
  | int i => obtain ⟨t, rfl⟩ := r; rfl
  | str z => obtain ⟨t, rfl⟩ := r; rfl
  | _ => exact absurd (show false = true from f) Bool.false_ne_true
theorem any_eqU {x : V} : ∀ {xs : List V} {us : List Value}, Vals xs us → xs.all flatV = true → us.any (eqU x) = xs.any fun y => eqV y x
  | _, _, .nil, _ => rfl
  | y :: xs, u :: us, .cons r t, f => by
    rw [List.all_cons, Bool.and_eq_true] at f
    rw [List.any_cons, List.any_cons, eqU_of r f.1, any_eqU t f.2]
theorem mem_eqAt {A : Around} {s : Shared} {x : V} {v : Value} (rx : RelV x v) (fx : flatV x = true) : ∀ {xs : List V} {us : List Value}, Vals xs us → xs.all flatV = true → ∀ u ∈ us, SeqAt.EqAt A s u v (eqU x u)
  | _, _, .nil, _ => fun u hu => by cases hu
  | y :: xs, u :: us, .cons r t, f => fun u' hu => by
    rw [List.all_cons, Bool.and_eq_true] at f
    rcases List.mem_cons.mp hu with rfl | hu
    · rw [eqU_of r f.1]; exact eqAt_V r rx f.1 fx
    · exact mem_eqAt rx fx t f.2 u' hu
def inV (x : V) (xs : List V) : Bool := xs.any fun y => eqV y x
def rIn (K : PySem.W.Frag) (neg : Bool) : R2 := fun x y H Q => ∃ p xs, y = .ref p ∧ (SqL K H p xs ∨ SqT K H p xs) ∧ flatV x = true ∧ xs.all flatV = true ∧ Q (.bl (if neg then !inV x xs else inV x xs)) H
theorem op_in_seq : OpR X (compareOp .In) (rIn X.K false) := by
  intro pins s σ H x y v u Q I rx ry h
  obtain ⟨p, xs, rfl, hq, fx, fs, q⟩ := h
  cases ry
  rcases hq with hq | hq
  · obtain ⟨its, r, pl, hz⟩ := I.list hq
    refine SeqAt.in_listAt (eqU x) pl.isList (fun w hw => mem_eqAt rx fx r fs w (by simpa using hw)) ⟨.bl _, H, I, rfl, ?_⟩
    rw [show its.toArray.any (eqU x) = its.any (eqU x) by simp, any_eqU r fs]
    exact q
  · obtain ⟨its, r, pl, hz⟩ := I.tuple hq
    refine SeqAt.in_tupleAt (eqU x) pl (fun w hw => mem_eqAt rx fx r fs w (by simpa using hw)) ⟨.bl _, H, I, rfl, ?_⟩
    rw [show its.toArray.any (eqU x) = its.any (eqU x) by simp, any_eqU r fs]
    exact q
theorem op_notIn_seq : OpR X (compareOp .NotIn) (rIn X.K true) := by
  intro pins s σ H x y v u Q I rx ry h
  obtain ⟨p, xs, rfl, hq, fx, fs, q⟩ := h
  cases ry
  rcases hq with hq | hq
  · obtain ⟨its, r, pl, hz⟩ := I.list hq
    refine SeqAt.notIn_listAt (eqU x) pl.isList (fun w hw => mem_eqAt rx fx r fs w (by simpa using hw)) ⟨.bl _, H, I, rfl, ?_⟩
    rw [show its.toArray.any (eqU x) = its.any (eqU x) by simp, any_eqU r fs]
    exact q
  · obtain ⟨its, r, pl, hz⟩ := I.tuple hq
    refine SeqAt.notIn_tupleAt (eqU x) pl (fun w hw => mem_eqAt rx fx r fs w (by simpa using hw)) ⟨.bl _, H, I, rfl, ?_⟩
    rw [show its.toArray.any (eqU x) = its.any (eqU x) by simp, any_eqU r fs]
    exact q
theorem call_len_seq : CallR X (.builtin "len") (fun xs H Q => ∃ p ys, xs = [.ref p] ∧ (SqL X.K H p ys ∨ SqT X.K H p ys) ∧ Q (.int ys.length) H) := by
  intro pins s σ H xs us Q I r h
  obtain ⟨p, ys, rfl, hq, q⟩ := h
  obtain ⟨u, rfl, rx⟩ := vals1 r
  cases rx
  have hn := line63
  rcases hq with hq | hq
  · obtain ⟨its, r', pl, hz⟩ := I.list hq
    have hlen := r'.length
    exact Calls.call_len_list pl.isList (by simp only [List.size_toArray] <;> omega) ⟨.int ys.length, H, I.tok _, ⟨s.toks + 1, by rw [List.size_toArray, hlen]⟩, q⟩
  · obtain ⟨its, r', pl, hz⟩ := I.tuple hq
    have hlen := r'.length
    exact len_tuple pl (by simp only [List.size_toArray] <;> omega) ⟨.int ys.length, H, I.tok _, ⟨s.toks + 1, by rw [List.size_toArray, hlen]⟩, q⟩
theorem call_len_str : CallR X (.builtin "len") (fun xs H Q => ∃ z, xs = [.str z] ∧ z.length ≤ sizeLine ∧ Q (.int z.length) H) := by
  intro pins s σ H xs us Q I r h
  obtain ⟨z, rfl, hz, q⟩ := h
  obtain ⟨u, rfl, t, rfl⟩ := vals1 r
  have hn := line63
  exact len_str (by omega) ⟨.int z.length, H, I.tok _, ⟨_, rfl⟩, q⟩
theorem call_list_of : CallR X (.type "list") (fun xs H Q => ∃ p ys, xs = [.ref p] ∧ (SqL X.K H p ys ∨ SqT X.K H p ys) ∧ ∀ l, H l = none → Q (.ref l) (upd H l (.lst ys))) := by
  intro pins s σ H xs us Q I r h
  obtain ⟨p, ys, rfl, hq, q⟩ := h
  obtain ⟨u, rfl, rx⟩ := vals1 r
  cases rx
  have fin : ∀ (its : List Value), Vals ys its → ys.length ≤ sizeLine → ∀ (h' : Heap) (c' : Nat), (∀ b o', s.heap.get? b = some o' → h'.get? b = some o') →
      h'.get? s.heap.objs.size = some { cls := .type "list", dict := none, data := .seq its.toArray c', slots := #[] } → EP X pins σ Q (.ref s.heap.objs.size) { s with heap := h' } := fun its r' hz h' c' kp e =>
    ⟨.ref s.heap.objs.size, _, I.laid (t' := s.toks) kp (Nat.le_refl _) (show ObjOk X.prog X.w _ h' _ (.lst ys) from ⟨hz, its, c', r', e⟩), rfl, q _ (I.hok.fresh (Nat.le_refl _))⟩
  rcases hq with hq | hq
  · obtain ⟨its, r', pl, hz⟩ := I.list hq
    have hlen := r'.length
    obtain ⟨o, ho, hc, n, hd⟩ := pl.isList
    exact call_list_seq p (.inl rfl) ho hc hd (fun h' c' kp e => fin its r' hz h' c' kp e) (by simp only [List.size_toArray] <;> omega)
  · obtain ⟨its, r', pl, hz⟩ := I.tuple hq
    have hlen := r'.length
    obtain ⟨o, ho, hc, n, hd⟩ := pl
    exact call_list_seq p (.inr rfl) ho hc hd (fun h' c' kp e => fin its r' hz h' c' kp e) (by simp only [List.size_toArray] <;> omega)
theorem call_tuple_of : CallR X (.type "tuple") (fun xs H Q => ∃ p ys, xs = [.ref p] ∧ ((SqL X.K H p ys ∧ ∀ l, H l = none → Q (.ref l) (upd H l (.tup ys))) ∨ (SqT X.K H p ys ∧ Q (.ref p) H))) := by
  intro pins s σ H xs us Q I r h
  obtain ⟨p, ys, rfl, h⟩ := h
  obtain ⟨u, rfl, rx⟩ := vals1 r
  cases rx
  rcases h with ⟨hq, q⟩ | ⟨hq, q⟩
  · obtain ⟨its, r', pl, hz⟩ := I.list hq
    have hlen := r'.length
    refine call_tuple_list pl.isList (fun h' kp => ?_) (by simp only [List.size_toArray] <;> omega)
    have I1 : Inv X pins σ H { s with heap := h' } := I.kept (t' := s.toks) kp
    have I2 : Inv X pins σ (upd H h'.objs.size (.tup ys)) { s with heap := h'.push { cls := .type "tuple", data := .seq its.toArray } } :=
      I1.laid (t' := s.toks) (fun b o e => Heap.get?_push_of_some _ e) (Nat.le_refl _) (show ObjOk X.prog X.w _ _ _ (.tup ys) from ⟨hz, its, r', IsTup.new _ _⟩)
    exact ⟨.ref h'.objs.size, _, I2, rfl, q _ (I1.hok.fresh (Nat.le_refl _))⟩
  · obtain ⟨its, r', pl, hz⟩ := I.tuple hq
    exact call_tuple_same pl ⟨.ref p, H, I, rfl, q⟩
def tyV (K : PySem.W.Frag) (T : String) (x : V) (H : Hp) : Prop := match x with
  | .str _ => T = "str"
  | .int _ => T = "int"
  | .ref p => (T = "list" ∧ ∃ xs, SqL K H p xs) ∨ (T = "tuple" ∧ ∃ o, K.lookup p = some o ∧ o.cls = .type "tuple" ∧ o.dict = none) ∨
      (T = "dict" ∧ ((∃ kvs, H p = some (.dK kvs)) ∨ ∃ kvs, H p = some (.dT kvs))) ∨ (T = "set" ∧ ∃ S n, H p = some (.set S n))
  | _ => False
theorem tyV_is {pins : List (Addr × Obj)} {σ : St} {H : Hp} {s : Shared} {T : String} {x : V} {v : Value} (I : Inv X pins σ H s) (r : RelV x v) (ty : tyV X.K T x H) :
    s.TypeIs v T ∧ ∀ a, v = .ref a → ∃ ob, s.heap.get? a = some ob ∧ ob.dict = none := by
  cases x with
  | str z =>
    obtain ⟨t, rfl⟩ := r
    cases (show T = "str" from ty)
    exact ⟨typeIs_str s z t, fun _ e => nomatch e⟩
  | int i =>
    obtain ⟨t, rfl⟩ := r
    cases (show T = "int" from ty)
    exact ⟨typeIs_int s i t, fun _ e => nomatch e⟩
  | ref p =>
    cases r
    rcases ty with ⟨rfl, xs, hq⟩ | ⟨rfl, o, hk, hc, hd⟩ | ⟨rfl, hk⟩ | ⟨rfl, S, n, hk⟩
    · obtain ⟨its, _, pl, _⟩ := I.list hq
      refine ⟨pl.isList.typeIs, fun a e => ?_⟩
      cases e
      obtain ⟨o, n, e, c, hd, _⟩ := pl
      exact ⟨o, e, hd⟩
    · refine ⟨⟨o, I.kIn p o hk, hc⟩, fun a e => ?_⟩
      cases e
      exact ⟨o, I.kIn _ o hk, hd⟩
    · have z : ∃ o, s.heap.get? p = some o ∧ o.ExactDict := by
        rcases hk with ⟨kvs, hk⟩ | ⟨kvs, hk⟩
        · obtain ⟨_, _, _, _, o, _, _, e, ex, _⟩ := I.hok p _ hk
          exact ⟨o, e, ex⟩
        · obtain ⟨_, _, _, _, o, _, _, e, ex, _⟩ := I.hok p _ hk
          exact ⟨o, e, ex⟩
      obtain ⟨o, e, ex⟩ := z
      refine ⟨⟨o, e, ex.1⟩, fun a e2 => ?_⟩
      cases e2
      exact ⟨o, e, ex.2.1⟩
    · obtain ⟨o, _, _, _, e, ex, _⟩ := I.hok p _ hk
      refine ⟨⟨o, e, ex.1⟩, fun a e2 => ?_⟩
      cases e2
      exact ⟨o, e, ex.2.1⟩
  | _ => exact False.elim ty
def tBM (K : PySem.W.Frag) (T : String) (r : V → List V → Hp → VK → Prop) (to : TE) (t : TA) : TE := fun σ H Q => to σ H fun x H1 => tyV K T x H1 ∧ t σ H1 fun xs H2 => r x xs H2 Q
variable {o e : Expr} {es : List Expr} {to : TE} {t : TA} {name : Str} {apos cpos : Pos} {T id : String} {r : V → List V → Hp → VK → Prop}
theorem pe_bm (pa : PlainAttrs T) (slot : Slot T name id) (hty : typeOf (.builtin id) = pure (.type "method_descriptor")) (hm : MtR X id r) (ho : PE X o to) (ha : PA X (e :: es) t)
    (hbase : attributeBase o name X.env (eval o X.env) = eval o X.env := by rfl)
    (hfew : ((backTo cpos (starEach (e :: es) X.env)).all (fun x => !x.1) && (backToKw cpos (keywordEach [] X.env)).all (fun x => x.1.isSome)
      && decide ((e :: es).length + ([] : List Keyword).length + (if ([] : List Keyword).isEmpty then 0 else 1) < 30)) = true := by rfl)
    (hline : (apos.endLine == cpos.line) = true := by rfl) (hs : starEach (e :: es) X.env = (false, eval e X.env) :: starEach es X.env := by rfl) (hplain : (backTo cpos (starEach es X.env)).any (·.1) = false := by rfl) :
    PE X (.Call (.Attribute o name apos) (e :: es) [] cpos) (tBM X.K T r to t) := by
  intro pins s σ H Q I h
  refine wpAny_Call_method_late hbase hfew hline rfl (thn (ho pins s σ H _ I h) fun v s1 ⟨x, H1, I1, r1, ty, q1⟩ => ?_)
  obtain ⟨h1, h2⟩ := tyV_is I1 r1 ty
  refine ⟨T, id, pa, slot, hty, h1, h2, ?_⟩
  have hA := ha cpos pins s1 σ H1 _ I1 q1
  rw [hs] at hA ⊢
  refine Calls.callWith_builtin (by show (false || (backTo cpos (starEach es X.env)).any (·.1)) = false; rw [hplain] <;> rfl) (Calls.evalArgs_plain ?_)
  exact thn hA fun us s2 ⟨vs, H2, I2, r2, q2⟩ => hm pins s2 σ H2 x vs v us Q I2 r1 r2 q2
end
end L2
namespace L2
open PySem PySem.Spec PyProof.Rows
def MtM (X : Cx) (id : String) (r : V → List V → Hp → VK → Prop) : Prop :=
  ∀ (pins : List (Addr × Obj)) (s : Shared) (σ : St) (H : Hp) (x : V) (xs : List V) (v : Value) (us : List Value) (Q : VK), Inv X pins σ H s → RelV x v → Vals xs us → r x xs H Q →
    wpAny (model X.prog X.w) X.A (call (.builtin id) (v :: us)) (EP X pins σ Q) X.xe s
theorem Vals.one : ∀ {x : V} {us : List Value}, Vals [x] us → ∃ u, us = [u] ∧ RelV x u
  | _, _, .cons r .nil => ⟨_, rfl, r⟩
section
variable {X : Cx} {pins : List (Addr × Obj)} {σ : St} {H : Hp} {s : Shared} {l b : Addr} {xs ys zs : List V}
theorem Inv.lset {its its' : List Value} {n : Nat} {f : Array Value → Array Value} {t' : Nat} (I : Inv X pins σ H s) (hH : H l = some (.lst xs))
    (e : s.heap.get? l = some { cls := .type "list", data := .seq its.toArray n }) (hf : f its.toArray = its'.toArray) (hv : Vals ys its') (hz : ys.length ≤ sizeLine) :
    Inv X pins σ (upd H l (.lst ys)) { s with heap := s.heap.update l (Obj.mapSeq f), toks := t' } := by
  have q := PySem.IsL.update e f
  rw [hf] at q
  refine I.write (x := l) (e := l) (by rw [hH]; exact trivial) (.inl rfl) (fun b' u hb hu => (Heap.get?_update_other s.heap (Obj.mapSeq f) (Ne.symm hb)).trans hu) ⟨_, q⟩ ?_
  exact ⟨hz, its', _, hv, q⟩
theorem Inv.lnew {its : List Value} {t' : Nat} (I : Inv X pins σ H s) (hv : Vals ys its) (hz : ys.length ≤ sizeLine) :
    Inv X pins σ (upd H s.heap.objs.size (.lst ys)) { s with heap := s.heap.push { cls := .type "list", data := .seq its.toArray }, toks := t' } :=
  I.laid (fun _ _ q => Heap.get?_push_of_some _ q) (Nat.le_refl _) ⟨hz, its, 0, hv, Heap.get?_push_size _ rfl⟩
theorem Inv.fresh (I : Inv X pins σ H s) : H s.heap.objs.size = none := I.hok.fresh (Nat.le_refl _)
theorem Inv.lstM (I : Inv X pins σ H s) (hH : H l = some (.lst xs)) : xs.length ≤ sizeLine ∧ ∃ (its : List Value) (n : Nat), Vals xs its ∧ xs.length = its.length ∧ s.heap.get? l = some { cls := .type "list", data := .seq its.toArray n } := by
  obtain ⟨z, its, n, r, e⟩ := I.hok l _ hH
  exact ⟨z, its, n, r, r.length, e⟩
theorem notLongL {n : Nat} (h : n ≤ sizeLine) : Builtin.List.listTooLong n = false := by
  unfold Builtin.List.listTooLong
  exact decide_eq_false (by omega)
end
section
variable {X : Cx}
def rAppend : V → List V → Hp → VK → Prop := fun x vs H Q => ∃ l xs y, x = .ref l ∧ vs = [y] ∧ H l = some (.lst xs) ∧ xs.length < sizeLine ∧ Q .non (upd H l (.lst (xs ++ [y])))
theorem mt_append : MtM X "list.append" rAppend := by
  intro pins s σ H x vs v us Q I rx rv h
  obtain ⟨l, xs, y, rfl, rfl, hH, hz, q⟩ := h
  cases rx
  obtain ⟨u, rfl, ru⟩ := rv.one
  obtain ⟨z, its, n, r, hl, e⟩ := I.lstM hH
  refine call_meets F.slot_list_append ⟨_, e, rfl⟩ F.entry_list_append (F.args_list_append_2 _ _) (PySem.list_append l its.toArray n u (by rw [List.size_toArray]; omega)) ⟨e, ?_⟩
  refine ⟨.non, _, I.lset (its' := its ++ [u]) hH e (by simp) (r.append (.cons ru .nil)) ?_, rfl, q⟩
  rw [List.length_append, List.length_singleton]
  omega
def rExtend : V → List V → Hp → VK → Prop := fun x vs H Q => ∃ l b xs zs, x = .ref l ∧ vs = [.ref b] ∧ H l = some (.lst xs) ∧ H b = some (.lst zs) ∧ xs.length + zs.length ≤ sizeLine ∧ Q .non (upd H l (.lst (xs ++ zs)))
theorem mt_extend : MtM X "list.extend" rExtend := by
  intro pins s σ H x vs v us Q I rx rv h
  obtain ⟨l, b, xs, zs, rfl, rfl, hH, hB, hz, q⟩ := h
  cases rx
  obtain ⟨u, rfl, ru⟩ := rv.one
  cases ru
  obtain ⟨z, its, n, r, hl, e⟩ := I.lstM hH
  obtain ⟨z2, its2, n2, r2, hl2, e2⟩ := I.lstM hB
  have hsz : its.toArray.size + its2.toArray.size ≤ sizeLine := by rw [List.size_toArray, List.size_toArray]; omega
  have hlong : ¬ (!its.toArray.isEmpty && Builtin.List.listTooLong (its.toArray.size + its2.toArray.size)) = true := by
    rw [notLongL hsz, Bool.and_false]
    exact Bool.false_ne_true
  refine call_meets F.slot_list_extend ⟨_, e, rfl⟩ F.entry_list_extend (F.args_list_extend_2 _ _)
    (AutoSeq1.list_extend_list_list_0 l its.toArray n b its2.toArray n2 hlong (by rw [List.size_toArray]; omega) (by omega)) ⟨e, e2, ?_⟩
  refine ⟨.non, _, I.lset (its' := its ++ its2) hH e (by simp) (r.append r2) ?_, rfl, q⟩
  rw [List.length_append]
  omega
def rCat : R2 := fun x y H Q => ∃ l b xs zs, x = .ref l ∧ y = .ref b ∧ H l = some (.lst xs) ∧ H b = some (.lst zs) ∧ xs.length + zs.length ≤ sizeLine ∧ ∀ p, H p = none → Q (.ref p) (upd H p (.lst (xs ++ zs)))
theorem op_cat : OpR X (binaryOp .Add) rCat := by
  intro pins s σ H x y v u Q I rx ry h
  obtain ⟨l, b, xs, zs, rfl, rfl, hH, hB, hz, q⟩ := h
  cases rx
  cases ry
  obtain ⟨z, its, n, r, hl, e⟩ := I.lstM hH
  obtain ⟨z2, its2, n2, r2, hl2, e2⟩ := I.lstM hB
  refine PySem.P.add_list e e2 ?_ (by rw [List.size_toArray, List.size_toArray]; omega)
  have ea : its.toArray ++ its2.toArray = (its ++ its2).toArray := by simp
  rw [ea]
  exact ⟨.ref _, _, I.lnew (t' := s.toks) (r.append r2) (by rw [List.length_append]; omega), rfl, q _ I.fresh⟩
end
section
variable {prog : Program} {w : World} {A : Around} {E : Value → Shared → Prop} {s : Shared}
set_option maxRecDepth 100000 in
end
section
variable {X : Cx}
end
end L2
namespace Att
open PySem PySem.W PySem.Calls PyProof.Rows
theorem ints_of_wellAll {P : Params} {h : Heap} : ∀ (ns : List Int) (vs : List Value), WellAll P h vs (ns.map WData.int) → IntsAre vs ns := by
  intro ns
  induction ns with
  | nil =>
    intro vs w
    rw [List.map_nil] at w
    cases w
    exact .nil
  | cons n ns ih =>
    intro vs w
    rw [List.map_cons] at w
    cases w with
    | cons a b =>
      cases a
      exact .cons _ _ (ih _ b)
theorem script_of {l : OpenLaw} {n : Nat} (hn : l.most = some n) {P : Params} {h : Heap} {args : List WData} {vals : List Value}
    (hpre : l.row.toRowW.claim.pre args = true) (hwl : WellAll P h vals args) :
    ∃ a vs ns, vals = [Value.ref a] ∧ args = [WData.list (ns.map WData.int)] ∧ h.get? a = some { cls := .type "list", data := .seq vs.toArray } ∧ IntsAre vs ns ∧ ns.length ≤ n := by
  have hsh : WShape.hasAll [] args [.list .int] = true := (pre_splitW hpre).1
  have hc : l.pre.holds [] { args := args } = true := (pre_splitW hpre).2
  obtain ⟨d, r, rfl, h1, h2⟩ := hasAllW_cons hsh
  obtain rfl := hasAllW_nil h2
  obtain ⟨xs, rfl, h3⟩ := hasW_list h1
  obtain ⟨ns, rfl⟩ := items_int h3
  have hlen : ns.length ≤ n := by
    unfold OpenLaw.pre at hc
    have h4 : (WTm.not (.lt (.lit (.int (n : Int))) (.len (.arg 0)))).holds [] { args := [.list (ns.map .int)] } = true := by
      have h4 := (holds_andW hc).1
      rw [hn] at h4
      exact h4
    have h5 := condW_of h4 (w_not (w_lt w_lit (w_len_list (w_arg rfl))))
    rw [List.length_map] at h5
    refine Nat.le_of_not_lt fun q => ?_
    have q' : (n : Int) < ((ns.length : Nat) : Int) := by omega
    first
      | (rw [decide_eq_true q'] at h5; exact absurd h5 (by decide))
      | (simp at h5; omega)
  cases hwl with
  | cons w1 w2 =>
    cases w2
    cases w1 with
    | list ho hall => exact ⟨_, _, ns, rfl, rfl, ho, ints_of_wellAll ns _ hall, hlen⟩
theorem post_true (l : OpenLaw) (args : List WData) : l.row.toRowW.claim.post args (.bool true) args = true :=
  postW_of (r := l.row.toRowW) (X := (true == true))
    (show WShape.has [] (.bool true) .bool = true by first | rfl | decide | simp [WShape.has, WShape.arms, WShape.armsAll])
    (show (WTm.eq .res (.lit (.bool true))).value [] { args := args, res := some (.bool true), after := args } = some (.bool (true == true)) from w_eq_bool (w_res rfl) w_lit) rfl
section
variable {prog : Program} {w : World} {A : Around} {E : Value → Shared → Prop} {s : Shared} {K : Frag}
end
end Att
namespace L2
open PySem PySem.Spec PyProof.Rows
theorem vals_ints : ∀ {vs : List Value} {ns : List Int}, IntsAre vs ns → Vals (ns.map V.int) vs
  | _, _, .nil => .nil
  | _, _, .cons n t h => .cons ⟨t, rfl⟩ (vals_ints h)
def Only (H : Hp) : Prop := ∀ b, H b = none ∨ ∃ o xs, H b = some (.frz o (.lst xs))
theorem law_call {P : Program} {w : World} {K : PySem.W.Frag} {mg mb : Str → Option Value} {CX : CXT} {k : Nat} {fa a : Addr} {fd : FuncData} {x : Str} {sp : Sp} {s₁ : Shared} {vs : List Value} {ns : List Int}
    (KX : K.In s₁.heap) (hns : s₁.heap.Ns mainGlobals mg) (hb : s₁.heap.Ns builtinsNs mb) (hbb : ∀ x : Str, x ≠ "__name__" → mb x = bootBuiltins x) (hlim : s₁.heap.NoLimit) (hg : s₁.gens = #[])
    (ha : s₁.heap.get? a = some { cls := .type "list", data := .seq vs.toArray }) (hi : IntsAre vs ns) (hl : ns.length ≤ sizeLine) (hr : Room k callerA)
    (F : ∀ base : Heap, K.In base → base.Ns mainGlobals mg → FnOk P w K mg base CX k fa fd [x] sp) (hbind : ∀ (s : Shared) (u : Value), BindsTo s fd ⟨[u], []⟩ [(x, u)])
    (hsp : ∀ H : Hp, Only H → SqL K H a (ns.map V.int) → sp [.ref a] H (fun v _ => v = .bl true) fun _ _ _ => False)
    (hCX : ∀ H e s', CX [] H s₁ (fun _ _ _ => False) e s' → False) :
    codeAny (model P w) callerA (.call (.ref fa) ⟨[.ref a], []⟩) (fun r s' => r = .ok (.ret (.bool true)) ∧ OldK s₁.heap s'.heap ∧ s'.os = s₁.os ∧ AllBare s'.gens) s₁ := by
  have rv := vals_ints hi
  have lenV := hi.length
  -- from an abstract heap in which nothing but the script may be tracked
  have core : ∀ H : Hp, Only H → SqL K H a (ns.map V.int) → HOk P w H s₁.heap → (∀ b, H b ≠ none → b = a) → (H a ≠ none → K.lookup a = none) →
      codeAny (model P w) callerA (.call (.ref fa) ⟨[.ref a], []⟩) (fun r s' => r = .ok (.ret (.bool true)) ∧ OldK s₁.heap s'.heap ∧ s'.os = s₁.os ∧ AllBare s'.gens) s₁ := by
    intro H hO hS hok hA hK
    have base_of : ∀ {b : Addr} {o : Obj}, s₁.heap.get? b = some o → H b = none → (hidT s₁.heap H).get? b = some o := fun e n => hidT_get e n
    have noA : ∀ {b : Addr} {o : Obj} {es : Array DictEntry} {ep : Nat}, s₁.heap.get? b = some o → o.data = .dict es ep → H b = none := fun {b o es ep} e d => by
      cases q : H b with
      | none => rfl
      | some u =>
        have e' : b = a := hA b (by rw [q]; simp)
        subst e'
        rw [ha] at e; cases e
        have d' : Data.seq vs.toArray _ = Data.dict es ep := d
        cases d'
    have nsK : ∀ {b : Addr} {m : Str → Option Value}, s₁.heap.Ns b m → (hidT s₁.heap H).Ns b m := fun {b m} ⟨o, es, ep, e, d, r⟩ => ⟨o, es, ep, base_of e (noA e d), d, r⟩
    have hKb : K.In (hidT s₁.heap H) := fun b o e => base_of (KX b o e) (by
      cases q : H b with
      | none => rfl
      | some u =>
        have e' : b = a := hA b (by rw [q]; simp)
        subst e'
        rw [hK (by rw [q]; simp)] at e; cases e)
    have hM : Mod K mg (hidT s₁.heap H) := ⟨hKb, nsK hns, ⟨mb, nsK hb, hbb⟩, let ⟨mc, h1, h2⟩ := hlim; ⟨mc, nsK h1, h2⟩⟩
    have e0 : Env0 P w K mg (hidT s₁.heap H) callerA [] s₁ H := ⟨rfl, hM, fun b o e => of_hidT e, Nat.le_of_eq (hidT_size _ _), trivial, fun b hb => absurd (show b ∈ ([] : List Addr) from hb) (by simp), hok, .of_eq hg⟩
    refine codeAny_mono ((F _ hKb (nsK hns)).run callerA [] s₁ H ⟨[.ref a], []⟩ [.ref a] [.ref a] _ _ hr e0 (hbind s₁ (.ref a)) (.cons rfl .nil) (hsp H hO hS)) fun r s' h => ?_
    cases r with
    | error e => exact (hCX H e s' h).elim
    | ok fl =>
      cases fl with
      | next => exact False.elim h
      | brk => exact False.elim h
      | cont => exact False.elim h
      | ret u =>
        obtain ⟨v, H', os, bare, un, hok', r', q⟩ := h
        have q' : v = .bl true := q
        subst q'
        obtain rfl : u = Value.bool true := r'
        refine ⟨rfl, OldK.of_keep fun b o e => ?_, os, bare⟩
        cases q : H b with
        | none => exact un.keep b o e q (by intro z; exact absurd (show b ∈ ([] : List Addr) from z) (by simp)) (by simp)
        | some u =>
          rcases hO b with z | ⟨ob, xs, z⟩
          · rw [q] at z; cases z
          · have z2 := un.frzs b ob _ z
            obtain ⟨e1, _⟩ := hok b _ z
            obtain ⟨e2, _⟩ := hok' b _ z2
            rw [e] at e1; cases e1
            exact e2
  cases hk : K.lookup a with
  | some o =>
    -- the script is one of the module's own objects
    have e := KX a o hk
    rw [ha] at e
    cases e
    refine core (fun _ => none) (fun _ => .inl rfl) (.inr ⟨_, vs.toArray, _, hk, rfl, rfl, rfl, by rw [List.size_toArray, lenV]; exact hl, by simpa using rv⟩) (fun b u z => by have z' : (none : Option HO) = some u := z; cases z') (fun b z => absurd rfl z) fun z => absurd rfl z
  | none =>
    refine core (fun b => if b = a then some (.frz { cls := .type "list", data := .seq vs.toArray } (.lst (ns.map V.int))) else none) (fun b => ?_) (.inl (.inr ⟨{ cls := .type "list", data := .seq vs.toArray }, if_pos rfl⟩)) (fun b u z => ?_) (fun b z => ?_) fun _ => hk
    · by_cases hb : b = a
      · exact .inr ⟨_, _, if_pos hb⟩
      · exact .inl (if_neg hb)
    · by_cases hb : b = a
      · have z' := (if_pos hb).symm.trans z
        cases z'
        subst hb
        exact ⟨ha, by rw [List.length_map]; exact hl, vs, _, rv, ha⟩
      · have z' := (if_neg hb).symm.trans z
        cases z'
    · by_cases hb : b = a
      · exact hb
      · exact absurd (if_neg hb) z
end L2
namespace L2
open PySem PySem.Spec PyProof.Rows
end L2
namespace L2
open PySem PySem.Spec PyProof.Rows
def inClass (s : Stmt) (j : Nat) : Stmt := match s with
  | .ClassDef _ _ _ body _ _ _ _ _ _ _ => body.getD j (.Pass ⟨0, 0, 0, 0⟩)
  | _ => .Pass ⟨0, 0, 0, 0⟩
def defArgs (s : Stmt) : Arguments := match s with
  | .FunctionDef _ a _ _ _ _ _ _ _ _ => a
  | _ => { posonlyargs := [], args := [], vararg := none, kwonlyargs := [], kw_defaults := [], kwarg := none, defaults := [] }
def defBody (s : Stmt) : List Stmt := match s with
  | .FunctionDef _ _ b _ _ _ _ _ _ _ => b
  | _ => []
def defScope (s : Stmt) : Scope := match s with
  | .FunctionDef _ _ _ _ _ _ sc _ _ _ => sc
  | _ => { kind := .function, names := [], isGenerator := false, isCoroutine := false }
abbrev CX0 : CXT := fun _ _ _ _ _ _ => False
abbrev E0 : XK := fun _ _ _ => False
theorem pass0 {X : Cx} : Passes CX0 X E0 := fun _ _ _ _ _ _ _ h => h.elim
structure Fun (K : PySem.W.Frag) (x qual : Str) (st : Stmt) (f : Addr) (fd : FuncData) : Prop where
  ex : ∃ (oc : Value) (od : Option Addr) (kV doc pm : Value) (an : Option Addr) (cdv ct : Value) (osl : Array (Option Value)),
    fd = PySem.W.fnOf x qual (defArgs st) (defBody st) (defScope st) .none kV doc pm an cdv ct ∧ K.lookup f = some ⟨oc, od, .func fd, osl⟩ ∧ PySem.W.codeIn K cdv qual = true
  kp : PySem.W.keepIn K (.ref f) = true
section
variable {P : Program} {w : World} {K : PySem.W.Frag} {mg : Str → Option Value} {base : Heap}
theorem Fun.ok {x qual : Str} {st : Stmt} {f : Addr} {fd : FuncData} {N ps : List Str} {k : Nat} {sp : Sp} (F : Fun K x qual st f fd) (S : FnScope N ps (defScope st)) (len : ∀ vs H Q E, sp vs H Q E → vs.length = ps.length)
    (hbody : ∀ (cdv : Value) (A : Around) (outer : List Env) (s : Shared) (H : Hp) (vs : List V) (Q : VK) (E : XK), Room k (A.deeper (envOfC qual (defScope st) s.heap.objs.size f cdv)) → sp vs H Q E →
      ∃ t, PSs (cxOf CX0 P w K mg base N qual (defScope st) f cdv A outer s H E).nox (defBody st) t ∧ t { nx := fun _ H' => Q .non H', rt := Q } (start N vs) H) : FnOk P w K mg base CX0 (k + 1) f fd ps sp := by
  obtain ⟨oc, od, kV, doc, pm, an, cdv, ct, osl, rfl, lk, hcd⟩ := F.ex
  refine fn_of lk hcd S len fun A outer s H vs Q E hr hsp => ?_
  obtain ⟨t, h, q⟩ := hbody cdv A outer s H vs Q E hr hsp
  exact ⟨t, h.nox, q⟩
theorem Fun.binds {x qual : Str} {st : Stmt} {f : Addr} {fd : FuncData} {ps : List Str} (F : Fun K x qual st f fd)
    (h : ∀ (kV doc pm : Value) (an : Option Addr) (cdv ct : Value) (us : List Value), us.length = ps.length → bindArgs (PySem.W.fnOf x qual (defArgs st) (defBody st) (defScope st) .none kV doc pm an cdv ct) ⟨us, []⟩ = pure (ps.zip us)) : Binds K fd ps [] := by
  obtain ⟨oc, od, kV, doc, pm, an, cdv, ct, osl, rfl, lk, hcd⟩ := F.ex
  exact .all (h kV doc pm an cdv ct)
theorem fun_mk {x qual : Str} {st : Stmt} {f : Addr} {oc : Value} {od an : Option Addr} {osl : Array (Option Value)} {kV doc pm cdv ct : Value} (l : K.lookup f = some ⟨oc, od, .func (PySem.W.fnOf x qual (defArgs st) (defBody st) (defScope st) .none kV doc pm an cdv ct), osl⟩)
    (c : PySem.W.codeIn K cdv qual = true) (k : PySem.W.keepIn K (.ref f) = true) : Fun K x qual st f (PySem.W.fnOf x qual (defArgs st) (defBody st) (defScope st) .none kV doc pm an cdv ct) := ⟨⟨oc, od, kV, doc, pm, an, cdv, ct, osl, rfl, l, c⟩, k⟩
end
theorem hu_of {A : Around} {k : Nat} (hr : Room k A) : A.units + 1 < cLine := Nat.lt_of_le_of_lt (Nat.add_le_add_left (by decide : 1 ≤ 64) _) hr.units
section
variable {X : Cx}
theorem pv (i : Nat) {x : Str} {pos : Pos} (hN : X.N[i]? = some x := by rfl) (hv : Vis X.env.scope x := by first | exact Or.inl rfl | exact Or.inr (Or.inl rfl) | exact Or.inr (Or.inr rfl)) (hd : (x == ("__debug__" : Str)) = false := by decide)
    (hcd : (x == ("__classdict__" : Str)) = false := by decide) : PE X (.Name x pos) (tVar i) := pe_var hN hv hd hcd
end
theorem iteF {A B : Prop} (h : B) : if false = true then A else B := by
  rw [if_neg Bool.false_ne_true]
  exact h
theorem iteT {A B : Prop} (h : A) : if true = true then A else B := by
  rw [if_pos rfl]
  exact h
theorem ite2 {c A B : Prop} [Decidable c] (h1 : c → A) (h2 : ¬ c → B) : if c then A else B := by
  by_cases h : c
  · rw [if_pos h]
    exact h1 h
  · rw [if_neg h]
    exact h2 h
def Same (H H' : Hp) : Prop := ∀ b o, H b = some o → H' b = some o
theorem Same.refl (H : Hp) : Same H H := fun _ _ h => h
theorem Same.trans {H H1 H2 : Hp} (a : Same H H1) (b : Same H1 H2) : Same H H2 := fun c o h => b c o (a c o h)
theorem Same.free {H H' : Hp} (e : Same H H') {l : Addr} (h : H' l = Option.none) : H l = Option.none := by
  cases q : H l with
  | none => rfl
  | some o =>
    rw [e l o q] at h
    cases h
theorem Same.seq {K : PySem.W.Frag} {H H' : Hp} {a : Addr} {xs : List V} (e : Same H H') (h : SqL K H a xs) : SqL K H' a xs := by
  rcases h with (h | ⟨o, h⟩) | h
  · exact .inl (.inl (e _ _ h))
  · exact .inl (.inr ⟨o, e _ _ h⟩)
  · exact .inr h
end L2
set_option Elab.async false
set_option linter.all false
set_option maxRecDepth 100000
namespace L2
open PySem PySem.Spec PyProof.Rows
section
variable {X : Cx}
theorem op_mulO : OpR X (binaryOp .Mult) (rI IntMulOk fun i j => .int (i * j)) := opI fun _ _ _ _ _ _ _ hc q => mul_int q hc
theorem mulOk_abs {i j : Int} (m n : Nat) (hi : i.natAbs < 2 ^ m) (hj : j.natAbs < 2 ^ n) (h : m + n ≤ 134217728) : IntMulOk i j :=
  IntMulOk.of_le (intBits_le_iff.mpr hi) (intBits_le_iff.mpr hj) h
def clsV : V → Value
  | .ty n => .type n
  | .ref a => .ref a
  | _ => .none
def isC : V → Bool
  | .ty _ => true
  | .ref _ => true
  | _ => false
theorem clsV_of {c : V} {u : Value} (h : isC c = true) (r : RelV c u) : u = clsV c := by
  cases c with
  | ty n => exact r
  | ref a => exact r
  | _ => cases h
def rIsi (K : PySem.W.Frag) : List V → Hp → VK → Prop := fun xs H Q => ∃ x c t b, xs = [x, c] ∧ isC c = true ∧ TyOf K H x t ∧ PySem.W.kitOne K t (clsV c) = some b ∧ Q (.bl b) H
theorem call_isi : CallR X (.builtin "isinstance") (rIsi X.K) := by
  intro pins s σ H xs us Q I r h
  obtain ⟨x, c, t, b, rfl, hc, ty, e, q⟩ := h
  obtain ⟨v, u, rfl, r1, r2⟩ := vals2 r
  rw [clsV_of hc r2]
  exact isinst_ok I r1 ty e fun tk => ⟨.bl b, H, I.tok _, rfl, q⟩
structure MkN (K : PySem.W.Frag) (C : Addr) : Prop where
  makes : PySem.W.makesIn K C = true
  init : PySem.W.findIn K (.ref C) "__init__" = some (some (.builtin "object.__init__"))
  kp : PySem.W.keepIn K (.ref C) = true
theorem make_n {prog : Program} {w : World} {A : Around} {s : Shared} {K : PySem.W.Frag} {C : Addr} {R : Result → Shared → Prop} (X : K.In s.heap) (hm : PySem.W.makesIn K C = true)
    (hi : PySem.W.findIn K (.ref C) "__init__" = some (some (.builtin "object.__init__")))
    (h : R (.ok (.ret (.ref (s.heap.objs.size + 1)))) { s with heap := (s.heap.push PySem.W.emptyDict).push (PySem.W.instObj C s.heap.objs.size) }) :
    codeAny (model prog w) A (.call (.ref C) ⟨[], []⟩) R s := by
  obtain ⟨hh, g, d, t, os⟩ := s
  have Y := PySem.W.makes_of (M := model prog w) X hm
  refine PySem.W.make_core Y (PySem.W.looks_findIn X hi) (fun self => PySem.W.Looks.of_pure (PySem.W.oi_bind self)) (.inr ⟨rfl, rfl⟩) ?_
  have e2 : ((hh.push PySem.W.emptyDict).push (PySem.W.instObj C hh.objs.size)).get? (hh.objs.size + 1) = some (PySem.W.instObj C hh.objs.size) := by
    have := Heap.get?_push_size (hh.push PySem.W.emptyDict) (o := PySem.W.instObj C hh.objs.size) rfl
    rwa [Heap.size_push] at this
  have t1 : PySem.W.Looks (model prog w) ((hh.push PySem.W.emptyDict).push (PySem.W.instObj C hh.objs.size)) (typeOf (.ref (hh.objs.size + 1))) (.ref C) := (PySem.W.Looks.ld e2).andThen .now
  have t2 : PySem.W.Looks (model prog w) ((hh.push PySem.W.emptyDict).push (PySem.W.instObj C hh.objs.size)) (isInstance (.ref (hh.objs.size + 1)) (.type "object")) true := t1.andThen (Y.top.keeps fun b o e => Heap.get?_push_of_some _ (Heap.get?_push_of_some _ e))
  refine codeAny_call_builtin PySem.W.oi_plain PySem.W.entry_oi (@PySem.W.check_slot (model prog w) _ _ _ "object.__init__" "object" "__init__" (.ref (hh.objs.size + 1)) [] [] _ PySem.W.oi_kind PySem.W.oi_split t2 (PySem.W.oi_args (.ref (hh.objs.size + 1))) ?_)
  rw [PySem.W.oi_run]
  exact wpAny_pure (And.intro rfl h)
def tMakeN (C : Addr) : TE := fun _ H Q => ∀ x dx, H x = none → H dx = none → dx ≠ x → Q (.ref x) (upd (upd H dx (.own x)) x (.ins C dx []))
theorem pe_makeN {C : Addr} {x : Str} {p pos : Pos} (M : MkN X.K C) (hg : Gl X x) (hm : X.mg x = some (.ref C)) (hdb : (x == ("__debug__" : Str)) = false := by decide) : PE X (.Call (.Name x p) [] [] pos) (tMakeN C) := by
  intro pins s σ H Q I h
  refine wpAny_Call_Name_kw (ld_glob I hg hm ?_ hdb)
  refine PySem.W.callWith_K0 I.kIn M.kp (wpAny_call (make_n I.kIn M.makes M.init ?_))
  exact ⟨.ref (s.heap.objs.size + 1), _, Inv.made (C := C) I, rfl, h _ _ (I.hok.fresh (Nat.le_succ _)) (I.hok.fresh (Nat.le_refl _)) (Nat.ne_of_lt (Nat.lt_succ_self _))⟩
structure MethI {ι : Type} (P : Program) (w : World) (K : PySem.W.Frag) (mg : Str → Option Value) (base : Heap) (k : Nat) (m : Str) (ps : List Str) (C : ι → Addr) (sp : ι → Sp) : Prop where
  ex : ∀ i, Cls K (C i) ∧ ∃ f fd, Meth K (C i) m f ∧ FnOk P w K mg base CX0 k f fd ps (sp i) ∧ Binds K fd ps []
def tMethI {ι : Type} (m : Str) (C : ι → Addr) (sp : ι → Sp) (ta : TE) (t : TA) : TE := fun σ H Q => ta σ H fun x H1 => ∃ i a dx fs, x = .ref a ∧ H1 a = some (.ins (C i) dx fs) ∧ fs.lookup m = none ∧
  t σ H1 fun vs H2 => sp i (x :: (vs ++ [])) H2 Q E0
theorem pe_methI {ι : Type} {C : ι → Addr} {sp : ι → Sp} {k : Nat} {m : Str} {ps : List Str} {o e : Expr} {es : List Expr} {ta : TE} {t : TA} {apos pos : Pos} {pl : Sem Bool} (M : MethI X.prog X.w X.K X.mg X.base k m ps C sp) (he : PE X o ta) (hr : Room k X.A) (ha : PA X (e :: es) t)
    (hst : starEach (e :: es) X.env = (false, eval e X.env) :: starEach es X.env := by rfl) (hpl : (backTo pos (starEach es X.env)).any (·.1) = false := by rfl)
    (ht : eval (.Call (.Attribute o m apos) (e :: es) [] pos) X.env = (do
      let ov ← eval o X.env
      standAt apos.atName
      let (f, first) ← holding [ov] (getMethod ov m pl)
      callWith pos f first (backTo pos (starEach (e :: es) X.env)) (backToKw pos (keywordEach [] X.env))) := by rfl) :
    PE X (.Call (.Attribute o m apos) (e :: es) [] pos) (tMethI m C sp ta t) := by
  intro pins s σ H Q I h
  refine PySem.W.methodCall_KW (pl := pl) (thn (he pins s σ H _ I h) fun u s1 ⟨x, H1, I1, rx, i, a, dx, fs, ex, ea, l, q⟩ => ?_) ht
  subst ex
  obtain rfl : u = Value.ref a := rx
  obtain ⟨c, f, fd, hm, F, hb⟩ := M.ex i
  refine getmeth_ok I1 ea c hm l ?_
  refine PySem.W.callWith_K (first := [.ref a]) (h₀ := X.base) I.ok.mod.kin hm.kp (thn (ha pos pins s1 σ H1 _ I1 q) fun us s2 ⟨vs, H2, I2, r, q2⟩ => ⟨I2.kIn, ?_⟩) hst hpl
  exact run_fn (us := .ref a :: us) (vs := .ref a :: vs) F hr hb .nil pass0 I2 (.cons rfl r) q2
theorem pe_methI0 {ι : Type} {C : ι → Addr} {sp : ι → Sp} {k : Nat} {m : Str} {ps : List Str} {o : Expr} {ta : TE} {apos pos : Pos} {pl : Sem Bool} (M : MethI X.prog X.w X.K X.mg X.base k m ps C sp) (he : PE X o ta) (hr : Room k X.A)
    (ht : eval (.Call (.Attribute o m apos) [] [] pos) X.env = (do
      let ov ← eval o X.env
      standAt apos.atName
      let (f, first) ← holding [ov] (getMethod ov m pl)
      callWith pos f first (backTo pos (starEach [] X.env)) (backToKw pos (keywordEach [] X.env))) := by rfl) :
    PE X (.Call (.Attribute o m apos) [] [] pos) (tMethI m C sp ta tNil) := by
  intro pins s σ H Q I h
  refine PySem.W.methodCall_KW (pl := pl) (thn (he pins s σ H _ I h) fun u s1 ⟨x, H1, I1, rx, i, a, dx, fs, ex, ea, l, q⟩ => ?_) ht
  subst ex
  obtain rfl : u = Value.ref a := rx
  obtain ⟨c, f, fd, hm, F, hb⟩ := M.ex i
  refine getmeth_ok I1 ea c hm l ?_
  exact PySem.W.callWith_K0 (first := [.ref a]) I1.kIn hm.kp (run_fn (us := [.ref a]) (vs := [.ref a]) F hr hb .nil pass0 I1 (.cons rfl .nil) q)
structure Df (P : Program) (w : World) (K : PySem.W.Frag) (mg : Str → Option Value) (base : Heap) (k : Nat) (x : Str) (ps : List Str) (sp : Sp) : Prop where
  ex : ∃ f fd, mg x = some (.ref f) ∧ PySem.W.keepIn K (.ref f) = true ∧ Binds K fd ps [] ∧ FnOk P w K mg base CX0 k f fd ps sp
theorem pe_callD {k : Nat} {x : Str} {ps : List Str} {sp : Sp} {e : Expr} {es : List Expr} {t : TA} {p pos : Pos} (D : Df X.prog X.w X.K X.mg X.base k x ps sp) (hr : Room k X.A) (hg : Gl X x) (ha : PA X (e :: es) t)
    (hdb : (x == ("__debug__" : Str)) = false := by decide) (he : starEach (e :: es) X.env = (false, eval e X.env) :: starEach es X.env := by rfl) (hpl : (backTo pos (starEach es X.env)).any (·.1) = false := by rfl) :
    PE X (.Call (.Name x p) (e :: es) [] pos) (tCall sp [] E0 t) := by
  obtain ⟨f, fd, hm, hk, hb, F⟩ := D.ex
  exact pe_call F hr hg hm hk hb .nil pass0 ha hdb he hpl
end
structure HasF (K : PySem.W.Frag) (x : Str) (st : Stmt) : Prop where
  ex : ∃ (f : Addr) (fd : FuncData), PySem.W.nsIn K mainGlobals x = some (some (.ref f)) ∧ Fun K x x st f fd
theorem hasF_mk {K : PySem.W.Frag} {x : Str} {st : Stmt} {f : Addr} {oc : Value} {od an : Option Addr} {osl : Array (Option Value)} {kV doc pm cdv ct : Value} (a : PySem.W.nsIn K mainGlobals x = some (some (.ref f)))
    (l : K.lookup f = some ⟨oc, od, .func (PySem.W.fnOf x x (defArgs st) (defBody st) (defScope st) .none kV doc pm an cdv ct), osl⟩)
    (c : PySem.W.codeIn K cdv x = true) (k : PySem.W.keepIn K (.ref f) = true) : HasF K x st := ⟨f, _, a, fun_mk l c k⟩
structure HasC (K : PySem.W.Frag) (x : Str) (C : Addr) : Prop where
  ns : PySem.W.nsIn K mainGlobals x = some (some (.ref C))
  cl : Cls K C
  mkn : MkN K C
theorem hasC_mk {K : PySem.W.Frag} {x : Str} {C : Addr} (a : PySem.W.nsIn K mainGlobals x = some (some (.ref C))) (pg : PySem.W.plainGet K C Str.empty = true) (hd : PySem.W.hasDictIn K C = true) (po : PySem.W.plainOver K C = true)
    (sa : PySem.W.findIn K (.ref C) "__setattr__" = some (some (.builtin "object.__setattr__"))) (mk : PySem.W.makesIn K C = true) (i : PySem.W.findIn K (.ref C) "__init__" = some (some (.builtin "object.__init__"))) (kc : PySem.W.keepIn K (.ref C) = true) : HasC K x C :=
  ⟨a, ⟨pg, hd, po, sa⟩, ⟨mk, i, kc⟩⟩
structure HasM (K : PySem.W.Frag) (C : Addr) (m qual : Str) (st : Stmt) : Prop where
  ex : ∃ (f : Addr) (fd : FuncData), Meth K C m f ∧ Fun K m qual st f fd
theorem hasM_mk {K : PySem.W.Frag} {C : Addr} {m qual : Str} {st : Stmt} {f : Addr} {oc : Value} {od an : Option Addr} {osl : Array (Option Value)} {kV doc pm cdv ct : Value} (a : PySem.W.findIn K (.ref C) m = some (some (.ref f))) (i : PySem.W.isFn K (.ref f) = true)
    (l : K.lookup f = some ⟨oc, od, .func (PySem.W.fnOf m qual (defArgs st) (defBody st) (defScope st) .none kV doc pm an cdv ct), osl⟩)
    (c : PySem.W.codeIn K cdv qual = true) (k : PySem.W.keepIn K (.ref f) = true) : HasM K C m qual st := ⟨f, _, ⟨a, i, k⟩, fun_mk l c k⟩
theorem HasF.df {P : Program} {w : World} {K : PySem.W.Frag} {mg : Str → Option Value} {base : Heap} {k : Nat} {x : Str} {st : Stmt} {N ps : List Str} {sp : Sp} (F : HasF K x st) (Kb : K.In base) (G : base.Ns mainGlobals mg) (S : FnScope N ps (defScope st))
    (hbi : ∀ (kV doc pm : Value) (an : Option Addr) (cdv ct : Value) (us : List Value), us.length = ps.length → bindArgs (PySem.W.fnOf x x (defArgs st) (defBody st) (defScope st) .none kV doc pm an cdv ct) ⟨us, []⟩ = pure (ps.zip us))
    (len : ∀ vs H Q E, sp vs H Q E → vs.length = ps.length)
    (hbody : ∀ (f : Addr) (cdv : Value) (A : Around) (outer : List Env) (s : Shared) (H : Hp) (vs : List V) (Q : VK) (E : XK), Room k (A.deeper (envOfC x (defScope st) s.heap.objs.size f cdv)) → sp vs H Q E →
      ∃ t, PSs (cxOf CX0 P w K mg base N x (defScope st) f cdv A outer s H E).nox (defBody st) t ∧ t { nx := fun _ H' => Q .non H', rt := Q } (start N vs) H) : Df P w K mg base (k + 1) x ps sp := by
  obtain ⟨f, fd, a, F⟩ := F.ex
  exact ⟨f, fd, PySem.W.mg_of Kb G a, F.kp, F.binds hbi, F.ok S len (hbody f)⟩
theorem HasM.fn {P : Program} {w : World} {K : PySem.W.Frag} {mg : Str → Option Value} {base : Heap} {k : Nat} {C : Addr} {m qual : Str} {st : Stmt} {N ps : List Str} {sp : Sp} (F : HasM K C m qual st) (S : FnScope N ps (defScope st))
    (hbi : ∀ (kV doc pm : Value) (an : Option Addr) (cdv ct : Value) (us : List Value), us.length = ps.length → bindArgs (PySem.W.fnOf m qual (defArgs st) (defBody st) (defScope st) .none kV doc pm an cdv ct) ⟨us, []⟩ = pure (ps.zip us))
    (len : ∀ vs H Q E, sp vs H Q E → vs.length = ps.length)
    (hbody : ∀ (f : Addr) (cdv : Value) (A : Around) (outer : List Env) (s : Shared) (H : Hp) (vs : List V) (Q : VK) (E : XK), Room k (A.deeper (envOfC qual (defScope st) s.heap.objs.size f cdv)) → sp vs H Q E →
      ∃ t, PSs (cxOf CX0 P w K mg base N qual (defScope st) f cdv A outer s H E).nox (defBody st) t ∧ t { nx := fun _ H' => Q .non H', rt := Q } (start N vs) H) :
    ∃ f fd, Meth K C m f ∧ FnOk P w K mg base CX0 (k + 1) f fd ps sp ∧ Binds K fd ps [] := by
  obtain ⟨f, fd, a, F⟩ := F.ex
  exact ⟨f, fd, a, F.ok S len (hbody f), F.binds hbi⟩
theorem walk_bits {l : PySem.W.OpenLaw} {n k : Nat} {q : Program} {loose : List Str} {XP : (Str → Option Value) → Heap → Prop} {YP : World → Heap → Prop} {d : DefRec} {K : Params → PySem.W.Frag} {CX : World → CXT} {sp : World → List Int → Sp} {x : Str}
    (hn : l.most = some n) (hn2 : n ≤ sizeLine) (hdf : d.params.defaults = []) (hr : Room k callerA)
    (hY : ∀ (w : World) (h : Heap), YP w h → (K w.params).In h)
    (F : ∀ (w : World) (mg : Str → Option Value) (fa : Addr) (h : Heap), (K w.params).In h → h.Ns mainGlobals mg → mg d.name = some (.ref fa) →
      ∃ fd : FuncData, (∀ (s : Shared) (u : Value), BindsTo s fd ⟨[u], []⟩ [(x, u)]) ∧
        ∀ (base : Heap) (ns : List Int), (K w.params).In base → base.Ns mainGlobals mg → ns.length ≤ n → (∀ i ∈ ns, Builtin.Int.intBits i ≤ 1048576) → FnOk l.prog w (K w.params) mg base (CX w) k fa fd [x] (sp w ns))
    (hsp : ∀ (w : World) (H : Hp) (a : Addr) (ns : List Int), ns.length ≤ n → (∀ i ∈ ns, Builtin.Int.intBits i ≤ 1048576) → Only H → SqL (K w.params) H a (ns.map V.int) → sp w ns [.ref a] H (fun v _ => v = .bl true) fun _ _ _ => False)
    (hCX : ∀ (w : World) (H : Hp) (s : Shared) (e : Value) (s' : Shared), CX w [] H s (fun _ _ _ => False) e s' → False) :
    PySem.W.WalkO q loose XP YP l.row.toRowW d [] (fun f vs => PySem.call f vs) := by
  intro w s₀ s₁ mg mb G Y fa o pm cd doc dV kV ho hd hcd hD hmg hg args vals as hpre hlay hrd hwl hlo
  obtain rfl : dV = .none := PySem.W.Dflts.none hD hdf
  obtain rfl : kV = .none := PySem.W.Dflts.noKw hD
  obtain ⟨a, vs, ns, rfl, rfl, hobj, hints, hlen⟩ := Att.script_of hn hpre hwl
  have hbits : ∀ i ∈ ns, Builtin.Int.intBits i ≤ 1048576 := fun i hi => by
    have h1 := PySem.W.layableW_arg hlay _ (List.mem_singleton.mpr rfl)
    have h2 := PySem.W.layableW_item h1 (.int i) (List.mem_map.mpr ⟨i, hi, rfl⟩)
    have h3 : PyData.layableAll0 [.int i] = true := PySem.W.lay0_int h2
    have h4 : PyData.layable0 (.int i) = true := PySem.W.layable0_of_all h3
    exact intBits_le_of_layable h4
  have KX := hY w _ Y
  obtain ⟨fd, hb, hF⟩ := F w mg fa _ KX G.T.g hmg
  refine PySem.W.enter_call (codeAny_mono (law_call KX G.T.g G.T.b G.T.builtins G.T.nolimit hg hobj hints (Nat.le_trans hlen hn2) hr (fun base kb nb => hF base ns kb nb hlen hbits) hb (fun H hO hS => hsp w H a ns hlen hbits hO hS) fun H e s' => hCX w H s₁ e s') fun r s' hq => ?_)
  obtain ⟨rfl, h2, h3, h4⟩ := hq
  exact ⟨.inl ⟨.bool true, .bool true, [], rfl, fun _ => rfl, .bool true, Att.post_true l _, fun _ => ⟨List.Pairwise.nil, fun _ hm => (nomatch hm)⟩⟩, h2, h3, h4⟩
end L2
namespace L2
open PySem PySem.Spec PyProof.Rows
section
variable {σ : St} {H : Hp} {Q : VK} {D : Ends} {ta tb : TE} {v : V} {i j : Int}
theorem i_C (q : Q v H) : tC v σ H Q := q
theorem i_op {r : R2} (q : ta σ H fun x H1 => tb σ H1 fun y H2 => r x y H2 Q) : tOp r ta tb σ H Q := q
theorem i_un {r : V → Hp → VK → Prop} (q : ta σ H fun x H1 => r x H1 Q) : tUn r ta σ H Q := q
theorem i_I0 {g : Int → Int → V} (q : Q (g i j) H) : rI0 g (.int i) (.int j) H Q := ⟨i, j, rfl, rfl, q⟩
theorem i_mod {g : Int → Int → V} (c : 0 < j) (q : Q (g i j) H) : rI (fun _ j => 0 < j) g (.int i) (.int j) H Q := ⟨i, j, rfl, rfl, c, q⟩
theorem i_div {g : Int → Int → V} (c : 0 < j ∧ j < 1073741824) (q : Q (g i j) H) : rI CDiv g (.int i) (.int j) H Q := ⟨i, j, rfl, rfl, c, q⟩
theorem i_pow {g : Int → Int → V} (c : 0 ≤ j ∧ j ≤ 1000000 ∧ i.natAbs < 2 ^ 64) (q : Q (g i j) H) : rI CPow g (.int i) (.int j) H Q := ⟨i, j, rfl, rfl, c, q⟩
theorem i_mul {g : Int → Int → V} (c : IntMulOk i j) (q : Q (g i j) H) : rI IntMulOk g (.int i) (.int j) H Q := ⟨i, j, rfl, rfl, c, q⟩
theorem i_U {g : Int → V} (q : Q (g i) H) : rU g (.int i) H Q := ⟨i, rfl, q⟩
theorem i_test {t : TE} {Q : Bool → Hp → Prop} (q : t σ H fun x H' => ∃ k, x = .bl k ∧ Q k H') : tTest t σ H Q := q
theorem i_B {t : TE} {Q : Bool → Hp → Prop} (q : t σ H fun x H' => ∃ k, x = .bl k ∧ Q k H') : tB t σ H Q := q
theorem i_bl {b : Bool} {P : Bool → Prop} (q : P b) : ∃ k, V.bl b = V.bl k ∧ P k := ⟨b, rfl, q⟩
theorem i_and {t u : TT} {Q : Bool → Hp → Prop} (q : t σ H fun c H1 => if c = true then u σ H1 Q else Q false H1) : tAnd t u σ H Q := q
theorem i_or {t u : TT} {Q : Bool → Hp → Prop} (q : t σ H fun c H1 => if c = true then Q true H1 else u σ H1 Q) : tOr t u σ H Q := q
theorem i_not {t : TT} {Q : Bool → Hp → Prop} (q : t σ H fun c H1 => Q (!c) H1) : tNot t σ H Q := q
theorem i_andV (q : ta σ H fun x H1 => ∃ c, x = .bl c ∧ if c = true then tb σ H1 Q else Q (.bl false) H1) : tAndV ta tb σ H Q := q
theorem i_ifS {c : TT} {t u : TS} (q : c σ H fun b H1 => if b = true then t D σ H1 else u D σ H1) : tIfS c t u D σ H := q
theorem i_if {c : TT} (q : c σ H fun b H1 => if b = true then ta σ H1 Q else tb σ H1 Q) : tIf c ta tb σ H Q := q
theorem i_seq {t u : TS} (q : t { D with nx := u D } σ H) : tSeq t u D σ H := q
theorem i_ret (q : ta σ H D.rt) : tRet ta D σ H := q
theorem i_next (q : D.nx σ H) : tNext D σ H := q
theorem i_asg {g : TG} (q : ta σ H fun x H1 => g x σ H1 D.nx) : tAsg ta g D σ H := q
theorem i_name {n : Nat} {Q : St → Hp → Prop} (q : Q (σ.set n (some v)) H) : gName n v σ H Q := q
theorem i_drop (q : ta σ H fun _ H1 => D.nx σ H1) : tDrop ta D σ H := q
theorem i_call {sp : Sp} {dvs : List V} {E : XK} {t : TA} (q : t σ H fun vs H1 => sp (vs ++ dvs) H1 Q E) : tCall sp dvs E t σ H Q := q
theorem i_CB {r : List V → Hp → VK → Prop} {t : TA} (q : t σ H fun vs H1 => r vs H1 Q) : tCB r t σ H Q := q
theorem i_nil {Q : List V → Hp → Prop} (q : Q [] H) : tNil σ H Q := q
theorem i_cons {t : TA} {Q : List V → Hp → Prop} (q : ta σ H fun x H1 => t σ H1 fun xs H2 => Q (x :: xs) H2) : tCons ta t σ H Q := q
theorem i_ixL {K : PySem.W.Frag} {p : Addr} {xs : List V} (h : SqL K H p xs) (a : atI xs i = some v) (q : Q v H) : rIx K (.ref p) (.int i) H Q := .inl ⟨p, xs, i, v, rfl, rfl, h, a, q⟩
theorem i_ixT {K : PySem.W.Frag} {p : Addr} {xs : List V} (h : SqT K H p xs) (a : atI xs i = some v) (q : Q v H) : rIx K (.ref p) (.int i) H Q := .inr (.inl ⟨p, xs, i, v, rfl, rfl, h, a, q⟩)
theorem i_iteI {A B : Prop} (h1 : i = j → A) (h2 : ¬ i = j → B) : if decide (V.int i = V.int j) = true then A else B :=
  ite2 (fun h => h1 (V.int.inj (of_decide_eq_true h))) fun h => h2 fun e => h (decide_eq_true (congrArg V.int e))
theorem i_iteD {c A B : Prop} [Decidable c] (h1 : c → A) (h2 : ¬ c → B) : if decide c = true then A else B :=
  ite2 (fun h => h1 (of_decide_eq_true h)) fun h => h2 fun e => h (decide_eq_true e)
theorem i_iteSf {x y : Str} {A B : Prop} (n : ¬ x = y) (q : B) : if decide (V.str x = V.str y) = true then A else B := by
  rw [decide_eq_false fun e => n (V.str.inj e)]; exact iteF q
theorem Same.upd {H' : Hp} {p : Addr} {o : HO} (s : Same H H') (n : H' p = none) : Same H (L2.upd H' p o) := fun b u e => by
  rw [upd_ne (ne_of_none (s b u e) n)]; exact s b u e
theorem Same.new (n : H p = none) : Same H (L2.upd H p o) := Same.upd (Same.refl H) n
end
end L2
namespace L2
open PySem PySem.Spec PyProof.Rows
section
variable {H : Hp} {Q : VK} {i j : Int} {x y : Str}
theorem i_eqI (q : Q (.bl (decide (V.int i = V.int j))) H) : rEq (.int i) (.int j) H Q := ⟨rfl, q⟩
theorem i_eqS (q : Q (.bl (decide (V.str x = V.str y))) H) : rEq (.str x) (.str y) H Q := ⟨rfl, q⟩
theorem i_neI (q : Q (.bl (!decide (V.int i = V.int j))) H) : rNe (.int i) (.int j) H Q := ⟨rfl, q⟩
theorem i_neS (q : Q (.bl (!decide (V.str x = V.str y))) H) : rNe (.str x) (.str y) H Q := ⟨rfl, q⟩
theorem at_ints {ns : List Int} (k : Nat) (h : k < ns.length) : atI (ns.map V.int) (k : Int) = some (.int (ns.getD k 0)) := by
  refine atI_nat ?_
  rw [List.getElem?_map, List.getElem?_eq_getElem h]
  simp [List.getD, h]
end
end L2
namespace Lap
open PySem L2
inductive Dk where
  | sum | less | times | least | most | pick | same | tell | take
  deriving DecidableEq
def Dk.word : Dk → Str
  | .sum => "sum" | .less => "less" | .times => "times" | .least => "least" | .most => "most" | .pick => "pick" | .same => "same" | .tell => "tell" | .take => "take"
def Dk.need : Dk → Nat
  | .pick => 3 | .same => 1 | .tell => 1 | .take => 1 | _ => 2
def Dk.of : Dk → List Int → Int → Int
  | .sum, ns, m => (ns.getD 0 0 + ns.getD 1 0) % m
  | .less, ns, m => (ns.getD 0 0 - ns.getD 1 0) % m
  | .times, ns, m => ns.getD 0 0 * ns.getD 1 0 % m
  | .least, ns, m => if ns.getD 1 0 % m < ns.getD 0 0 % m then ns.getD 1 0 % m else ns.getD 0 0 % m
  | .most, ns, m => if ns.getD 1 0 % m > ns.getD 0 0 % m then ns.getD 1 0 % m else ns.getD 0 0 % m
  | .pick, ns, m => if ns.getD 0 0 % m = 0 then ns.getD 2 0 % m else ns.getD 1 0 % m
  | _, ns, m => ns.getD 0 0 % m
def spOf (K : PySem.W.Frag) (d : Dk) : Sp := fun vs H Q _ => ∃ (a p : Addr) (ns : List Int) (m : Int), vs = [.ref a, .ref p, .int m] ∧ SqL K H p (ns.map V.int) ∧ d.need ≤ ns.length ∧ 0 < m ∧
  (d = .times → IntMulOk (ns.getD 0 0) (ns.getD 1 0)) ∧ Q (.int (d.of ns m)) H
end Lap
namespace L2
open PySem PySem.Spec PyProof.Rows
section
variable {σ : St} {H : Hp} {Q : VK} {D : Ends}
theorem i_methI {ι : Type} {m : Str} {C : ι → Addr} {sp : ι → Sp} {ta : TE} {t : TA} (q : ta σ H fun x H1 => ∃ i a dx fs, x = .ref a ∧ H1 a = some (.ins (C i) dx fs) ∧ fs.lookup m = none ∧ t σ H1 fun vs H2 => sp i (x :: (vs ++ [])) H2 Q E0) : tMethI m C sp ta t σ H Q := q
theorem i_for {wi : TI} {g : TG} {tb : TS} (q : wi σ H fun J H1 => ∃ W : Nat → Nat → St → Hp → Prop, (∃ m, W 0 m σ H1) ∧ ∀ i m σ H, W i m σ H →
  (J.stop i H ∧ D.nx σ H) ∨ (J.go i H ∧ ∃ N : St → Hp → Prop, (∀ σ' H', N σ' H' → ∃ m', m' < m ∧ W (i + 1) m' σ' H') ∧ ∀ x H', J.yld i H x H' → g x σ H' fun σ2 H2 => tb { D with nx := N, ct := N, bk := D.nx } σ2 H2)) : tFor wi g tb D σ H := q
theorem i_rng1 {ta : TA} {R : It → Hp → Prop} (q : ta σ H fun vs H1 => ∃ j : Int, vs = [.int j] ∧ -(2 ^ 62) ≤ j ∧ j < 2 ^ 62 ∧ R (Itr 0 j.toNat) H1) : iRng1 ta σ H R := q
theorem i_list {K : PySem.W.Frag} {tl : TE} {R : It → Hp → Prop} (q : tl σ H fun x H1 => ∃ a, x = .ref a ∧ (∃ xs, SqL K H1 a xs) ∧ R (Itl K a) H1) : iList K tl σ H R := q
end
end L2
namespace L2
theorem iteNT {A B : Prop} (h : B) : if (!true) = true then A else B := iteF h
theorem iteNF {A B : Prop} (h : A) : if (!false) = true then A else B := iteT h
end L2
namespace L2
open PySem PySem.Spec PyProof.Rows
def noStar : Expr → Bool
  | .Starred _ _ => false
  | _ => true
theorem se {e : Expr} {es : List Expr} {env : Env} (h : noStar e = true) : starEach (e :: es) env = (false, eval e env) :: starEach es env := by
  cases e <;> first | rfl | cases h
theorem nst {es : List Expr} {env : Env} {pos : Pos} (h : es.all noStar = true) : (backTo pos (starEach es env)).any (·.1) = false := by
  induction es with
  | nil => rfl
  | cons e es ih =>
    rw [List.all_cons, Bool.and_eq_true] at h
    rw [se h.1]
    show (false || (backTo pos (starEach es env)).any (·.1)) = false
    rw [ih h.2]
    rfl
end L2
set_option Elab.async false
set_option linter.all false
set_option maxRecDepth 100000
namespace L2
open PySem PySem.Spec PyProof.Rows
def capL (env : Env) : List (Str × NameKind) → List (Str × Addr) → List (Str × Addr)
  | [], cs => cs
  | (n, k) :: r, cs => if k == .free then capL env r ((n, (env.cells.lookup n).getD 0) :: cs) else capL env r cs
theorem closure_run {env : Env} : ∀ (names : List (Str × NameKind)) (cs : List (Str × Addr)), (∀ y ∈ names, y.2 = .free → ∃ c, env.cells.lookup y.1 = some c) →
    (forIn names cs fun (x : Str × NameKind) (r : List (Str × Addr)) => (do
      if x.2 == .free then
        let a ← cellOf env x.1
        pure (ForInStep.yield ((x.1, a) :: r))
      else pure (ForInStep.yield r) : Sem (ForInStep (List (Str × Addr))))) = pure (capL env names cs)
  | [], cs, _ => rfl
  | (n, k) :: r, cs, h => by
    have ih := fun cs => closure_run (env := env) r cs fun y hy => h y (List.mem_cons_of_mem _ hy)
    rw [List.forIn_cons]
    by_cases hk : (k == NameKind.free) = true
    · have hk' : k = .free := by simpa using hk
      obtain ⟨c, hc⟩ := h (n, k) List.mem_cons_self hk'
      have hc' : env.cells.lookup n = some c := hc
      simp only [capL, hk, if_true, cellOf, hc', Option.getD_some, pure_bind]
      exact ih _
    · simp only [capL, hk, if_false, pure_bind, Bool.false_eq_true]
      exact ih _
theorem closure_eq {scope : Scope} {env : Env} (h : ∀ y ∈ scope.names, y.2 = .free → ∃ c, env.cells.lookup y.1 = some c) : closureFor scope env = pure (capL env scope.names []) := by
  have e := closure_run scope.names [] h
  unfold closureFor
  simp only [← e, bind_pure]
theorem capL_sub {env : Env} {y : Str} {c : Addr} : ∀ (names : List (Str × NameKind)) (cs : List (Str × Addr)), (∀ y ∈ names, y.2 = .free → ∃ c, env.cells.lookup y.1 = some c) →
    (∀ y c, cs.lookup y = some c → env.cells.lookup y = some c) → (capL env names cs).lookup y = some c → env.cells.lookup y = some c
  | [], cs, _, hs, e => hs y c e
  | (n, k) :: r, cs, h, hs, e => by
    have h' : ∀ y ∈ r, y.2 = .free → ∃ c, env.cells.lookup y.1 = some c := fun y hy => h y (List.mem_cons_of_mem _ hy)
    by_cases hk : (k == NameKind.free) = true
    · have hk' : k = .free := by simpa using hk
      obtain ⟨d, hd⟩ := h (n, k) List.mem_cons_self hk'
      simp only [capL, hk, if_true] at e
      refine capL_sub r _ h' (fun z c' q => ?_) e
      rw [List.lookup_cons] at q
      cases hz : z == n with
      | true =>
        rw [hz] at q
        have hz' : z = n := by simpa using hz
        subst hz'
        have hd' : env.cells.lookup z = some d := hd
        rw [hd', Option.getD_some] at q
        rw [hd']; exact q
      | false => rw [hz] at q; exact hs z c' q
    · simp only [capL, hk, if_false, Bool.false_eq_true] at e
      exact capL_sub r cs h' hs e
theorem capL_keep {env : Env} {y : Str} : ∀ (names : List (Str × NameKind)) (cs : List (Str × Addr)), (∃ c, cs.lookup y = some c) → ∃ c, (capL env names cs).lookup y = some c
  | [], cs, h => h
  | (n, k) :: r, cs, h => by
    by_cases hk : (k == NameKind.free) = true
    · simp only [capL, hk, if_true]
      refine capL_keep r _ ?_
      rw [List.lookup_cons]
      cases y == n with
      | true => exact ⟨_, rfl⟩
      | false => exact h
    · simp only [capL, hk, if_false, Bool.false_eq_true]
      exact capL_keep r cs h
theorem capL_has {env : Env} {y : Str} : ∀ (names : List (Str × NameKind)) (cs : List (Str × Addr)), (y, NameKind.free) ∈ names → ∃ c, (capL env names cs).lookup y = some c
  | (n, k) :: r, cs, h => by
    rcases List.mem_cons.mp h with e | h
    · cases e
      exact capL_keep r _ ⟨(env.cells.lookup y).getD 0, by rw [List.lookup_cons, beq_self_eq_true]⟩
    · by_cases hk : (k == NameKind.free) = true
      · simp only [capL, hk, if_true]; exact capL_has r _ h
      · simp only [capL, hk, if_false, Bool.false_eq_true]; exact capL_has r cs h
theorem lookup_mem {α : Type} {x : Str} {k : α} : ∀ {l : List (Str × α)}, l.lookup x = some k → (x, k) ∈ l
  | [], h => by simp at h
  | (n, k') :: r, h => by
    rw [List.lookup_cons] at h
    cases hx : x == n with
    | true =>
      rw [hx] at h
      have : x = n := by simpa using hx
      subst this; cases h; exact List.mem_cons_self
    | false => rw [hx] at h; exact List.mem_cons_of_mem _ (lookup_mem h)
theorem relabel_look {env : Env} {y : Str} {k : NameKind} : ∀ {names : List (Str × NameKind)}, (∀ z ∈ names, z.2 ≠ .cell) →
    (names.map fun (n, k) => if (k == NameKind.free && env.scope.kind == .function && env.kindOf n == some .cell) then (n, NameKind.cell) else (n, k)).lookup y = some k →
    names.lookup y = some k ∨ (k = .cell ∧ names.lookup y = some .free)
  | [], _, h => by simp at h
  | (n, k') :: r, hc, h => by
    have ih := @relabel_look env y k r fun z hz => hc z (List.mem_cons_of_mem _ hz)
    rw [List.map_cons, List.lookup_cons] at h
    rw [List.lookup_cons]
    by_cases hk : (k' == NameKind.free && env.scope.kind == .function && env.kindOf n == some .cell) = true
    · have h' := h
      rw [if_pos hk] at h'
      dsimp only at h'
      cases hy : y == n with
      | true =>
        rw [hy] at h'
        have e1 : NameKind.cell = k := Option.some.inj h'
        have e2 : k' = .free := by
          rw [Bool.and_eq_true, Bool.and_eq_true] at hk
          simpa using hk.1.1
        exact .inr ⟨e1.symm, by rw [e2]⟩
      | false => rw [hy] at h'; exact ih h'
    · have h' := h
      rw [if_neg hk] at h'
      dsimp only at h'
      cases hy : y == n with
      | true => rw [hy] at h'; exact .inl h'
      | false => rw [hy] at h'; exact ih h'
def blk (X : Cx) (scope : Scope) (x : Str) (caps : List Str) (C : Addr) (s₀ : Shared) (H₀ : Hp) (ex : List Addr) : Cx :=
  { X with N := x :: caps, env := compEnvC scope (capL X.env scope.names []) C X.env, s₀ := s₀, H₀ := H₀, outer := X.stack, stack := X.stack, ex := ex, fn := fun _ => false, xe := fun _ _ => False }
structure Blk (X : Cx) (scope : Scope) (x : Str) (caps : List Str) (ix : List Nat) : Prop where
  kind : scope.kind = .function
  cell : ∀ y ∈ scope.names, y.2 ≠ .cell
  loc : scope.names.lookup x = some .local
  names : ∀ y ∈ scope.names, y.2 = .local → scope.names.lookup y.1 = some .local
  free : ∀ y ∈ scope.names, y.2 = .free → X.env.kindOf y.1 = some .cell ∨ X.env.kindOf y.1 = some .free
  len : caps.length = ix.length
  nd : (x :: caps).Nodup
  ix : ∀ (j : Nat) (y : Str) (i : Nat), caps[j]? = some y → ix[j]? = some i → X.N[i]? = some y ∧ scope.names.lookup y = some .free
def capV (ix : List Nat) (σ : St) : St := ix.map fun i => (σ[i]?).join
theorem Blk.cells {X : Cx} {scope : Scope} {x : Str} {caps : List Str} {ix : List Nat} (B : Blk X scope x caps ix) (ok : X.Ok) : ∀ y ∈ scope.names, y.2 = .free → ∃ c, X.env.cells.lookup y.1 = some c :=
  fun y hy e => ok.has y.1 (B.free y hy e)
theorem Blk.sub {X : Cx} {scope : Scope} {x : Str} {caps : List Str} {ix : List Nat} (B : Blk X scope x caps ix) (ok : X.Ok) {y : Str} {c : Addr} (e : (capL X.env scope.names []).lookup y = some c) : X.env.cells.lookup y = some c :=
  capL_sub _ _ (B.cells ok) (fun _ _ q => by simp at q) e
theorem Blk.freeOf {X : Cx} {scope : Scope} {x : Str} {caps : List Str} {ix : List Nat} {C : Addr} (B : Blk X scope x caps ix) {y : Str} {k : NameKind} (e : (compEnvC scope (capL X.env scope.names []) C X.env).kindOf y = some k) (hk : k = .cell ∨ k = .free) : scope.names.lookup y = some .free := by
  rcases relabel_look (env := X.env) B.cell (show (scope.names.map _).lookup y = some k from e) with q | ⟨_, q⟩
  · rcases hk with rfl | rfl
    · exact absurd rfl (B.cell _ (lookup_mem q))
    · exact q
  · exact q
def blkOk (sc scope : Scope) (N : List Str) (x : Str) (caps : List Str) (ix : List Nat) : Bool :=
  scope.kind == .function && scope.names.all (fun y => y.2 != .cell) && scope.names.lookup x == some .local && scope.names.all (fun y => y.2 != .local || scope.names.lookup y.1 == some .local) &&
  scope.names.all (fun y => y.2 != .free || (sc.names.lookup y.1 == some .cell || sc.names.lookup y.1 == some .free)) && caps.length == ix.length && decide (x :: caps).Nodup &&
  (caps.zip ix).all (fun p => N[p.2]? == some p.1 && scope.names.lookup p.1 == some .free)
theorem Blk.of {X : Cx} {scope : Scope} {x : Str} {caps : List Str} {ix : List Nat} (h : blkOk X.env.scope scope X.N x caps ix = true) : Blk X scope x caps ix := by
  unfold blkOk at h
  simp only [Bool.and_eq_true] at h
  obtain ⟨⟨⟨⟨⟨⟨⟨h1, h2⟩, h3⟩, h4⟩, h5⟩, h6⟩, h7⟩, h8⟩ := h
  refine ⟨by simpa using h1, fun y hy => by simpa using List.all_eq_true.mp h2 y hy, by simpa using h3, fun y hy e => ?_, fun y hy e => ?_, by simpa using h6, of_decide_eq_true h7, fun j y i e1 e2 => ?_⟩
  · have := List.all_eq_true.mp h4 y hy
    rw [e] at this
    simpa using this
  · have := List.all_eq_true.mp h5 y hy
    rw [e] at this
    have this : (X.env.scope.names.lookup y.1 == some NameKind.cell || X.env.scope.names.lookup y.1 == some NameKind.free) = true := by simpa using this
    rw [Bool.or_eq_true] at this
    rcases this with z | z
    · exact .inl (show X.env.scope.names.lookup y.1 = _ by simpa using z)
    · exact .inr (show X.env.scope.names.lookup y.1 = _ by simpa using z)
  · have hm : (y, i) ∈ caps.zip ix := by
      refine List.mem_iff_getElem?.mpr ⟨j, ?_⟩
      rw [List.getElem?_zip_eq_some]
      exact ⟨e1, e2⟩
    have := List.all_eq_true.mp h8 _ hm
    rw [Bool.and_eq_true] at this
    exact ⟨by simpa using this.1, by simpa using this.2⟩
def PF (X : Cx) (ifs : List Expr) (t : TT) : Prop :=
  ∀ (pins : List (Addr × Obj)) (s : Shared) (σ : St) (H : Hp) (Q : Bool → Hp → Prop), Inv X pins σ H s → t σ H Q →
    wpAny (model X.prog X.w) X.A (forIn ifs true fun c r => if r = true then do let ok ← isTrue c X.env (eval c X.env); pure (ForInStep.yield ok) else pure (ForInStep.yield r)) (TP X pins σ Q) X.xe s
def tYes : TT := fun _ H Q => Q true H
theorem pf_nil {X : Cx} : PF X [] tYes := fun _ _ _ H _ I h => wpAny_tests_nil ⟨H, I, h⟩
theorem pf_one {X : Cx} {c : Expr} {t : TT} (h : PT X c t) : PF X [c] t := fun pins s σ H Q I q => wpAny_tests_one (h pins s σ H Q I q)
def tLc (wi : TI) (tf : TT) (te : TE) (ix : List Nat) : TE := fun σ H Q => wi σ H fun J H1 => ∀ D, H1 D = none → ∃ W : Nat → Nat → List V → Hp → Prop, (∃ m, W 0 m [] (upd H1 D (.lst []))) ∧ ∀ i m ys H, W i m ys H →
  H D = some (.lst ys) ∧ ((J.stop i H ∧ Q (.ref D) H) ∨ (J.go i H ∧ ys.length < sizeLine ∧ ∀ x H', J.yld i H x H' → tf (some x :: capV ix σ) H' fun b H2 =>
    if b = true then te (some x :: capV ix σ) H2 fun y H3 => H3 D = some (.lst ys) ∧ ∃ m', m' < m ∧ W (i + 1) m' (ys ++ [y]) (upd H3 D (.lst (ys ++ [y]))) else ∃ m', m' < m ∧ W (i + 1) m' ys H2))
section
variable {X : Cx} {scope : Scope} {x : Str} {caps : List Str} {ix : List Nat} {pins : List (Addr × Obj)} {σ : St} {H : Hp} {s : Shared}
theorem blk_ok (B : Blk X scope x caps ix) (I : Inv X pins σ H s) {fp : List Addr} (f : ∀ b ∈ fp, FpOk X pins H b) (fo : ∀ b ∈ fp, b < s.heap.objs.size) : (blk X scope x caps s.heap.objs.size s H fp).Ok where
  mod := I.ok.mod
  kind := B.kind
  glob := I.ok.glob
  blt := I.ok.blt
  above := Nat.le_refl _
  inj := fun y z c e1 e2 => I.ok.inj y z c (B.sub I.ok e1) (B.sub I.ok e2)
  has := fun y h => by
    have q : scope.names.lookup y = some .free := by
      rcases h with h | h
      · exact B.freeOf h (.inl rfl)
      · exact B.freeOf h (.inr rfl)
    exact capL_has _ _ (lookup_mem q)
  cab := fun _ _ h => nomatch h
  hd := I.ok.hd
  frames := I.ok.frames
  stk := .inl rfl
  exf := fun b hb => ⟨Nat.ne_of_lt (fo b hb), fun y c e => (f b hb).2.2.2.2.1 y c (B.sub I.ok e)⟩
  bs := I.bs
  bsz := Nat.le_trans I.ok.bsz I.sz
  noex := fun b o e hb => by
    rcases (f b hb).2.2.2.1 with z | z
    · exact I.ok.noex b o e z
    · have := (I.ok.bs b o e).1; rw [z] at this; cases this
  exfs := fun b hb z => by
    rcases List.mem_cons.mp (I.stkSub b z) with q | q
    · exact (f b hb).2.1 q
    · exact (f b hb).2.2.1 q
  funs := I.stack
  frf := I.stkFree
theorem capV_get {j : Nat} {v : V} (h : (capV ix σ)[j]? = some (some v)) : ∃ i, ix[j]? = some i ∧ σ[i]? = some (some v) := by
  unfold capV at h
  rw [List.getElem?_map] at h
  cases e : ix[j]? with
  | none => rw [e] at h; cases h
  | some i =>
    rw [e] at h
    have h' : (σ[i]?).join = some v := Option.some.inj h
    refine ⟨i, rfl, ?_⟩
    cases q : σ[i]? with
    | none => rw [q] at h'; cases h'
    | some o => rw [q] at h'; exact congrArg some h'
theorem blk_inv (B : Blk X scope x caps ix) (I : Inv X pins σ H s) {fp : List Addr} (f : ∀ b ∈ fp, FpOk X pins H b) (fo : ∀ b ∈ fp, b < s.heap.objs.size) {h' : Heap} {t' : Nat} (hn : h'.Ns s.heap.objs.size (fun _ => none)) (k : ∀ b o, s.heap.get? b = some o → h'.get? b = some o) :
    Inv (blk X scope x caps s.heap.objs.size s H fp) pins (none :: capV ix σ) H { s with heap := h', toks := t' } where
  ok := blk_ok B I f fo
  os := rfl
  bare := I.bare
  base := Un.kept k
  loc := by
    refine ⟨_, hn, fun i y v e1 e2 e3 => ?_⟩
    cases i with
    | zero => cases e2
    | succ j =>
      have e1' : caps[j]? = some y := e1
      have e2' : (capV ix σ)[j]? = some (some v) := e2
      obtain ⟨i, hi, hv⟩ := capV_get e2'
      obtain ⟨hN, hf⟩ := B.ix j y i e1' hi
      obtain ⟨m, hm, hl⟩ := I.loc
      have hk := B.free _ (lookup_mem hf) rfl
      have hvis : Vis X.env.scope y := by
        rcases hk with q | q
        · exact .inr (.inl q)
        · exact .inr (.inr q)
      obtain ⟨u, ru, lk⟩ := hl i y v hN hv hvis
      refine ⟨u, ru, .inr ?_⟩
      obtain ⟨c', hc'⟩ := capL_has (env := X.env) scope.names [] (lookup_mem hf)
      have hc := B.sub I.ok hc'
      refine ⟨?_, c', hc', ?_⟩
      · have hvv : (compEnvC scope (capL X.env scope.names []) s.heap.objs.size X.env).kindOf y = some .local ∨ _ := e3
        rcases hvv with q | q
        · rcases relabel_look (env := X.env) B.cell (show (scope.names.map _).lookup y = some NameKind.local from q) with z | ⟨z, _⟩
          · rw [hf] at z; cases z
          · cases z
        · exact q
      · rcases lk with ⟨l, _⟩ | ⟨_, c, ec, z⟩
        · rcases hk with q | q <;> (rw [q] at l; cases l)
        · have ecc : c = c' := Option.some.inj (ec.symm.trans hc)
          rw [← ecc]
          obtain ⟨o, ho, hd⟩ := z
          exact ⟨o, k _ _ ho, hd⟩
  cell := fun y c e => by
    obtain ⟨v, o, ho, hd⟩ := I.cell y c (B.sub I.ok e)
    exact ⟨v, o, k _ _ ho, hd⟩
  free := I.hok.fresh (Nat.le_refl _)
  freeC := fun y c e => I.freeC y c (B.sub I.ok e)
  pin := fun p hp => by
    obtain ⟨e, n, ne, nf, d⟩ := I.pin p hp
    refine ⟨k _ _ e, n, Nat.ne_of_lt (Heap.lt_size e), fun z => ?_, d⟩
    rcases List.mem_cons.mp (I.stkSub _ z) with q | q
    · exact ne q
    · exact nf q
  hok := I.hok.kept k
  len := by
    show (none :: capV ix σ).length = (x :: caps).length
    rw [List.length_cons, List.length_cons, capV, List.length_map, B.len]
theorem blk_out (I : Inv X pins σ H s) {fp : List Addr} (f : ∀ b ∈ fp, FpOk X pins H b) {σ' : St} {H' : Hp} {s' : Shared} (I' : Inv (blk X scope x caps s.heap.objs.size s H fp) pins σ' H' s') : Inv X pins σ H' s' ∧ FpOk X pins H' s.heap.objs.size := by
  have fC : FpOk X pins H' s.heap.objs.size := I.fpOk (Nat.le_refl _) I'.free
  refine ⟨I.call' (ch := fp) I'.os I'.base I'.hok I'.bare fun b hb => ?_, fC⟩
  obtain ⟨f0, f1, f2, f3, f4, f5⟩ := f b hb
  exact ⟨f3, f1, f4, f5⟩
theorem lc_core {elt iter : Expr} {ifs : List Expr} {px pos pos' : Pos} {wi : TI} {tf : TT} {te : TE} {use : Option (Value → Sem Unit)} {R : VK} {QQ : Value → Shared → Prop}
    (B : Blk X scope x caps ix) (hc : X.calm = true) (hi : PI X (.Name x px) iter wi) (hf : ∀ C s₀ H₀ ex, PF (blk X scope x caps C s₀ H₀ ex) ifs tf) (he : ∀ C s₀ H₀ ex, PE (blk X scope x caps C s₀ H₀ ex) elt te)
    (I : Inv X pins σ H s) (h : tLc wi tf te ix σ H R)
    (hQ : ∀ (v : V) (u : Value) (H' : Hp) (C : Addr) (m : Str → Option Value) (s' : Shared), Inv X pins σ H' s' → RelV v u → R v H' → FpOk X pins H' C → s'.heap.Ns C m → compPost (model X.prog X.w) X.A X.xe use QQ u C (.ok .next) s')
    (hs : ∀ x, foldedSetIterable iter X.env x = pure x) :
    wpAny (model X.prog X.w) X.A (comprehension (.ListComp elt [⟨.Name x px, iter, ifs, 0⟩] scope pos) scope X.env pos' (newList []) false (eval iter X.env) use) QQ X.xe s := by
  refine wpAny_comprehension_free rfl hs (closure_eq (B.cells I.ok)) B.kind B.names (thn (hi pins s σ H _ I h) fun xv s1 h1 => thn h1 fun itv s2 h2 => ?_)
  obtain ⟨it, fp, tn, J, H2, e, I2, T, st2, f2, rest⟩ := h2
  subst e
  refine wpAny_newObj_type (wpAny_newFunctionEnv B.cell (by intro y hy; simp at hy) (fun h₁ hns₁ hsb₁ => ?_) B.kind)
  have hD : H2 s2.heap.objs.size = none := I2.fresh
  obtain ⟨W, ⟨m0, w0⟩, turn⟩ := rest s2.heap.objs.size hD
  generalize hDn : s2.heap.objs.size = D at *
  have I3 : Inv X pins σ (upd H2 D (.lst [])) { s2 with heap := s2.heap.push { cls := .type "list", data := .seq ([] : List Value).toArray } } := by
    have := I2.lnew (ys := []) (its := []) (t' := s2.toks) .nil (Nat.zero_le _)
    rw [hDn] at this
    exact this
  generalize hs3 : ({ s2 with heap := s2.heap.push { cls := .type "list", data := .seq ([] : List Value).toArray } } : Shared) = s3 at *
  have fpD : ∀ b ∈ fp, b ≠ D := fun b hb => by
    obtain ⟨o, e, _⟩ := T.obj _ _ st2 b hb
    rw [← hDn]; exact Nat.ne_of_lt (Heap.lt_size e)
  have up3 : ∀ b o, s2.heap.get? b = some o → s3.heap.get? b = some o := fun b o e => by rw [← hs3]; exact Heap.get?_push_of_some _ e
  have f3 : ∀ b ∈ fp, FpOk X pins (upd H2 D (.lst [])) b := fun b hb => by
    obtain ⟨f0, fr⟩ := f2 b hb
    exact ⟨by rw [upd_ne (fpD b hb)]; exact f0, fr⟩
  have st3 : tn 0 s3.heap := T.keep _ _ _ st2 fun b _ o e => up3 b o e
  have fo : ∀ b ∈ fp, b < s3.heap.objs.size := fun b hb => by
    obtain ⟨o, e, _⟩ := T.obj _ _ st3 b hb
    exact Heap.lt_size e
  have eh : s2.heap.push { cls := .type "list", data := .seq ([] : List Value).toArray } = s3.heap := by rw [← hs3]
  have es : ∀ (g : Heap) (t : Nat), ({ s2 with heap := g, toks := t } : Shared) = { s3 with heap := g, toks := t } := fun g t => by rw [← hs3]
  have hn1 : h₁.Ns s3.heap.objs.size (fun _ => none) := hns₁
  have k1 : ∀ b o, s3.heap.get? b = some o → h₁.get? b = some o := fun b o e => by
    exact hsb₁.extBut b o (Nat.ne_of_lt (Heap.lt_size e)) (Heap.get?_push_of_some _ e)
  have I4 := blk_inv B I3 f3 fo (t' := s3.toks + ([] : List (Str × Value)).length) hn1 k1
  have st4 : tn 0 h₁ := T.keep _ _ _ st3 fun b _ o e => k1 b o e
  have post : ∀ σ' H' s', Inv (blk X scope x caps s3.heap.objs.size s3 (upd H2 D (.lst [])) fp) pins σ' H' s' → R (.ref D) H' → compPost (model X.prog X.w) X.A X.xe use QQ (.ref D) s3.heap.objs.size (.ok .next) s' := fun σ' H' s' I' r => by
    obtain ⟨I5, fC⟩ := blk_out I3 f3 I'
    obtain ⟨m, hm, _⟩ := I'.loc
    exact hQ (.ref D) _ H' _ m s' I5 rfl r fC hm
  have loop : codeAny (model X.prog X.w) X.A (.compLoop (.ListComp elt [⟨.Name x px, iter, ifs, 0⟩] scope pos) 0 (.ref it) (.ref D) (blk X scope x caps s3.heap.objs.size s3 (upd H2 D (.lst [])) fp).env)
      (compPost (model X.prog X.w) X.A X.xe use QQ (.ref D) s3.heap.objs.size) { s3 with heap := h₁, toks := s3.toks + ([] : List (Str × Value)).length } := by
    have fpc : ∀ {H' : Hp}, (∀ b ∈ fp, H' b = none) → ∀ b ∈ fp, FpOk (blk X scope x caps s3.heap.objs.size s3 (upd H2 D (.lst [])) fp) pins H' b := fun hn b hb => by
      obtain ⟨f0, f1, f2, f3, f4, f5⟩ := f3 b hb
      refine ⟨hn b hb, Nat.ne_of_lt (fo b hb), fun z => ?_, .inl hb, fun y c e => f4 y c (B.sub I3.ok e), f5⟩
      rcases List.mem_cons.mp (I3.stkSub b z) with q | q
      · exact f1 q
      · exact f2 q
    have hfx := hf s3.heap.objs.size s3 (upd H2 D (.lst [])) fp
    have hex := he s3.heap.objs.size s3 (upd H2 D (.lst [])) fp
    have hgx : PG (blk X scope x caps s3.heap.objs.size s3 (upd H2 D (.lst [])) fp) (.Name x px) (gName 0) := pg_name B.nd rfl (.inl (lookup_relabel_local B.loc)) (.inr (lookup_relabel_local B.loc))
    have hcx : (blk X scope x caps s3.heap.objs.size s3 (upd H2 D (.lst [])) fp).calm = true := hc
    refine codeAny_compLoop_tests (fun n s' => ∃ i ys H' o, Inv (blk X scope x caps s3.heap.objs.size s3 (upd H2 D (.lst [])) fp) pins (o :: capV ix σ) H' s' ∧ tn i s'.heap ∧ (∀ b ∈ fp, H' b = none) ∧ W i n ys H') ?_ m0
      ⟨0, [], _, none, I4, st4, fun b hb => (f3 b hb).1, w0⟩
    rintro n s5 ⟨i, ys, H5, o5, I5, st5, fr5, w5⟩
    obtain ⟨hD5, hstep⟩ := turn i n ys H5 w5
    rcases hstep with ⟨stop, r⟩ | ⟨go, hz, step⟩
    · refine thn (T.done (blk X scope x caps s3.heap.objs.size s3 (upd H2 D (.lst [])) fp) rfl rfl rfl hcx i pins s5 _ H5 _ I5 (fpc fr5) st5 stop) fun r' s6 ⟨hr, I6⟩ => ?_
      subst hr
      exact post _ _ _ I6 r
    · refine thn (T.item (blk X scope x caps s3.heap.objs.size s3 (upd H2 D (.lst [])) fp) rfl rfl rfl hcx i pins s5 _ H5 _ I5 (fpc fr5) st5 go) fun r' s6 ⟨u, hr, h6⟩ => ?_
      subst hr
      show wpAny _ _ (letOwnedTupleGo (.Name x px) (.ref it) u >>= fun _ => assign (.Name x px) (blk X scope x caps s3.heap.objs.size s3 (upd H2 D (.lst [])) fp).env u) _ _ _
      refine wpAny_bind (thn h6 fun _ s7 ⟨v, H7, I7, rv, y7, st7, fr7⟩ => ?_)
      have I7' := I7.pinned (fpc fr7) (T.obj _ _ st7)
      refine wpAny_mono (hgx _ s7 _ H7 v u _ I7' rv (show gName 0 v _ H7 (fun σ' H' => σ' = some v :: capV ix σ ∧ H' = H7) from ⟨rfl, rfl⟩)) (fun _ s8 ⟨σ8, H8, I8, e8, eH8⟩ => ?_) fun _ _ f => f.elim
      subst e8 eH8
      refine wpAny_mono (hfx _ s8 _ _ _ I8 (step v _ y7)) (fun ok s9 ⟨H9, I9, q9⟩ => ?_) fun _ _ f => f.elim
      have again : ∀ {n' : Nat} {ys' : List V} {HA : Hp} {sA : Shared}, n' < n → Inv (blk X scope x caps s3.heap.objs.size s3 (upd H2 D (.lst [])) fp) (pins ++ pinsAt fp s7.heap) (some v :: capV ix σ) HA sA → W (i + 1) n' ys' HA →
          ∃ m, m < n ∧ ∃ i ys H' o, Inv (blk X scope x caps s3.heap.objs.size s3 (upd H2 D (.lst [])) fp) pins (o :: capV ix σ) H' sA ∧ tn i sA.heap ∧ (∀ b ∈ fp, H' b = none) ∧ W i m ys H' := fun {n' ys' HA sA} hn IA wA => by
        refine ⟨n', hn, i + 1, ys', HA, _, IA.unpinned, T.keep _ _ _ st7 fun b hb o e => (IA.pin (b, o) (List.mem_append_right _ (List.mem_append_right _ (mem_pinsAt hb e)))).1, fun b hb => ?_, wA⟩
        obtain ⟨o, e, d⟩ := T.obj _ _ st7 b hb
        exact (IA.pin (b, o) (List.mem_append_right _ (List.mem_append_right _ (mem_pinsAt hb e)))).2.1
      cases ok with
      | false =>
        obtain ⟨n', hn, wA⟩ := q9
        exact again hn I9 wA
      | true =>
        refine wpAny_mono (hex _ s9 _ _ _ I9 q9) (fun u9 sA ⟨vA, HA, IA, rA, hDA, n', hn, wA⟩ => ?_) fun _ _ f => f.elim
        refine wpAny_mono (mt_append (X := blk X scope x caps s3.heap.objs.size s3 (upd H2 D (.lst [])) fp) _ sA _ HA (.ref D) [vA] (.ref D) [u9] (fun _ HB => W (i + 1) n' (ys ++ [vA]) HB) IA rfl (.cons rA .nil) ⟨D, ys, vA, rfl, rfl, hDA, hz, wA⟩) (fun _ sB ⟨_, HB, IB, _, wB⟩ => ?_) fun _ _ f => f.elim
        exact again hn IB wB
  exact codeAny_compStart_list loop (T.self _ 0 _ _ _ st4 loop)
theorem pe_lc {elt iter : Expr} {ifs : List Expr} {px pos : Pos} {wi : TI} {tf : TT} {te : TE} (B : Blk X scope x caps ix) (hc : X.calm = true) (hi : PI X (.Name x px) iter wi)
    (hf : ∀ C s₀ H₀ ex, PF (blk X scope x caps C s₀ H₀ ex) ifs tf) (he : ∀ C s₀ H₀ ex, PE (blk X scope x caps C s₀ H₀ ex) elt te) (hs : ∀ x, foldedSetIterable iter X.env x = pure x := by intro _; rfl) :
    PE X (.ListComp elt [⟨.Name x px, iter, ifs, 0⟩] scope pos) (tLc wi tf te ix) := by
  intro pins s σ H Q I h
  rw [eval_ListComp]
  refine lc_core (use := none) B hc hi hf he I h (fun v u H' C m s' I' r q fC hn => ⟨m, hn, fun h' sb => ⟨v, H', ?_, r, q⟩⟩) hs
  obtain ⟨f0, f1, f2, f3, f4, f5⟩ := fC
  exact I'.turned (t' := s'.toks) (fun b o hb e => (sb.2 b hb).trans e) f0 f1 f3 f4 f5
def tSetLc (i : Nat) (t : TE) : TS := fun D σ H => t σ H fun v H' => D.nx (σ.set i (some v)) H'
theorem ps_lc {i : Nat} {y : Str} {elt iter : Expr} {ifs : List Expr} {px py pos spos : Pos} {wi : TI} {tf : TT} {te : TE} (hN : X.N.Nodup) (hy : X.N[i]? = some y) (hl : X.env.kindOf y = some .local)
    (hsw : swapsWith (.ListComp elt [⟨.Name x px, iter, ifs, 0⟩] scope pos) (some (.Name y py)) spos.line X.env = pure true) (B : Blk X scope x caps ix) (hc : X.calm = true) (hi : PI X (.Name x px) iter wi)
    (hf : ∀ C s₀ H₀ ex, PF (blk X scope x caps C s₀ H₀ ex) ifs tf) (he : ∀ C s₀ H₀ ex, PE (blk X scope x caps C s₀ H₀ ex) elt te) (hs : ∀ x, foldedSetIterable iter X.env x = pure x := by intro _; rfl) :
    PS X (.Assign [.Name y py] (.ListComp elt [⟨.Name x px, iter, ifs, 0⟩] scope pos) spos) (tSetLc i (tLc wi tf te ix)) := by
  intro pins s σ H D I h
  rw [exec_Assign_Name_used _ _ _ _ hsw]
  refine wpAny_bind (wpAny_standAt (wpAny_bind ?_))
  show wpAny _ X.A (do let _ ← comprehension (.ListComp elt [⟨.Name x px, iter, ifs, 0⟩] scope pos) scope X.env _ (newList []) false (eval iter X.env) (some (assign (.Name y py) X.env))) _ _ s
  refine wpAny_bind (wpAny_mono (lc_core (use := some (assign (.Name y py) X.env)) (QQ := fun _ s' => SP X pins D .next s') B hc hi hf he I h (fun v u H' C m s' I' r q fC hn => ?_) hs) (fun _ s' hq => wpAny_pure (wpAny_pure hq)) fun _ _ e => e)
  obtain ⟨oC, esC, epC, hoC, hdC, rC⟩ := id hn
  have I1 : Inv X (pins ++ pinsAt [C] s'.heap) σ H' s' := I'.pinned (fun b hb => by rw [List.mem_singleton.mp hb]; exact fC) (fun b hb => ⟨oC, by rw [List.mem_singleton.mp hb]; exact hoC, fun v z => by rw [hdC] at z; cases z⟩)
  show wpAny _ X.A (assign (.Name y py) X.env u) _ _ s'
  refine wpAny_assign_Name (store_ok I1 hN hy (.inl hl) r (fun s'' I2 => ?_) (.inr hl))
  have hC2 := I2.pin (C, oC) (List.mem_append_right _ (List.mem_append_right _ (mem_pinsAt (List.mem_singleton.mpr rfl) hoC)))
  refine ⟨m, ⟨oC, esC, epC, hC2.1, hdC, rC⟩, fun h' sb => ⟨σ.set i (some v), H', ?_, q⟩⟩
  obtain ⟨f0, f1, f2, f3, f4, f5⟩ := fC
  exact I2.unpinned.turned (t' := s''.toks) (fun b o hb e => (sb.2 b hb).trans e) f0 f1 f3 f4 f5
end
theorem i_lc {wi : TI} {tf : TT} {te : TE} {ix : List Nat} {σ : St} {H : Hp} {Q : VK} (q : wi σ H fun J H1 => ∀ D, H1 D = none → ∃ W : Nat → Nat → List V → Hp → Prop, (∃ m, W 0 m [] (upd H1 D (.lst []))) ∧ ∀ i m ys H, W i m ys H →
  H D = some (.lst ys) ∧ ((J.stop i H ∧ Q (.ref D) H) ∨ (J.go i H ∧ ys.length < sizeLine ∧ ∀ x H', J.yld i H x H' → tf (some x :: capV ix σ) H' fun b H2 =>
    if b = true then te (some x :: capV ix σ) H2 fun y H3 => H3 D = some (.lst ys) ∧ ∃ m', m' < m ∧ W (i + 1) m' (ys ++ [y]) (upd H3 D (.lst (ys ++ [y]))) else ∃ m', m' < m ∧ W (i + 1) m' ys H2))) : tLc wi tf te ix σ H Q := q
theorem i_setLc {i : Nat} {t : TE} {D : Ends} {σ : St} {H : Hp} (q : t σ H fun v H' => D.nx (σ.set i (some v)) H') : tSetLc i t D σ H := q
theorem lc_list {K : PySem.W.Frag} {a : Addr} {xs : List V} {te : TE} {cs : St} {H1 : Hp} {Q : VK} (f : V → V) (hS : SqL K H1 a xs) (hz : xs.length ≤ sizeLine)
    (hx : ∀ (i : Nat) (v : V) (H' : Hp) (R : VK), xs[i]? = some v → Same H1 H' → R (f v) H' → te (some v :: cs) H' R) (q : ∀ D, H1 D = none → Q (.ref D) (upd H1 D (.lst (xs.map f)))) :
    ∀ D, H1 D = none → ∃ W : Nat → Nat → List V → Hp → Prop, (∃ m, W 0 m [] (upd H1 D (.lst []))) ∧ ∀ i m ys H, W i m ys H →
      H D = some (.lst ys) ∧ (((Itl K a).stop i H ∧ Q (.ref D) H) ∨ ((Itl K a).go i H ∧ ys.length < sizeLine ∧ ∀ x H', (Itl K a).yld i H x H' → tYes (some x :: cs) H' fun b H2 =>
        if b = true then te (some x :: cs) H2 fun y H3 => H3 D = some (.lst ys) ∧ ∃ m', m' < m ∧ W (i + 1) m' (ys ++ [y]) (upd H3 D (.lst (ys ++ [y]))) else ∃ m', m' < m ∧ W (i + 1) m' ys H2)) := by
  intro D hD
  refine ⟨fun i m ys H => m = xs.length - i ∧ i ≤ xs.length ∧ ys = (xs.take i).map f ∧ H = upd H1 D (.lst ys), ⟨xs.length, by simp, Nat.zero_le _, by simp, rfl⟩, ?_⟩
  rintro i m ys H ⟨rfl, hi, hys, rfl⟩
  have s1 : Same H1 (upd H1 D (.lst ys)) := Same.upd (Same.refl H1) hD
  have q1 := s1.seq hS
  refine ⟨upd_same, ?_⟩
  by_cases hlt : i < xs.length
  · have hyl : ys.length = i := by rw [hys, List.length_map, List.length_take]; omega
    refine .inr ⟨⟨xs, xs[i], q1, by simp [hlt]⟩, by omega, fun x H' y => ?_⟩
    obtain ⟨e, y⟩ := y
    subst e
    have hxi := y xs q1
    unfold tYes; dsimp only
    rw [if_pos rfl]
    refine (hx i x _ _ hxi s1 ⟨upd_same, xs.length - (i + 1), by omega, rfl, hlt, ?_, by rw [upd_upd]⟩)
    rw [List.take_add_one, List.map_append, ← hys, hxi]; rfl
  · have e : i = xs.length := by omega
    subst e
    refine .inl ⟨⟨xs, q1, Nat.le_refl _⟩, ?_⟩
    rw [hys, List.take_length]
    exact q D hD
def tJoin (t : TS) : TS := fun D σ H => ∃ J : St → Hp → Prop, t { D with nx := J } σ H ∧ ∀ σ' H', J σ' H' → D.nx σ' H'
theorem ps_join {X : Cx} {st : Stmt} {t : TS} (h : PS X st t) : PS X st (tJoin t) := by
  intro pins s σ H D I q
  obtain ⟨J, q, hJ⟩ := q
  refine thn (h pins s σ H _ I q) fun f s' z => ?_
  cases f with
  | next => obtain ⟨σ', H', I', z⟩ := z; exact ⟨σ', H', I', hJ _ _ z⟩
  | brk => exact z
  | cont => exact z
  | ret v => exact z
theorem i_join {t : TS} {D : Ends} {σ : St} {H : Hp} (J : St → Hp → Prop) (h1 : t { D with nx := J } σ H) (h2 : ∀ σ' H', J σ' H' → D.nx σ' H') : tJoin t D σ H := ⟨J, h1, h2⟩
theorem i_sl {r : V → Option Int → Option Int → Hp → VK → Prop} {te : TE} {tl th : TO} {σ : St} {H : Hp} {Q : VK} (q : te σ H fun x H1 => tl σ H1 fun l H2 => th σ H2 fun u H3 => r x l u H3 Q) : tSl r te tl th σ H Q := q
theorem i_noPart {σ : St} {H : Hp} {Q : Option Int → Hp → Prop} (q : Q none H) : tNoPart σ H Q := q
theorem i_part {t : TE} {σ : St} {H : Hp} {Q : Option Int → Hp → Prop} (q : t σ H fun x H1 => ∃ i, x = .int i ∧ Q (some i) H1) : tPart t σ H Q := q
theorem i_partI {i : Int} {P : Int → Prop} (q : P i) : ∃ j, V.int i = .int j ∧ P j := ⟨i, rfl, q⟩
structure New (H : Hp) (p : Addr) (o : HO) (H2 : Hp) : Prop where
  free : H p = none
  eq : H2 = upd H p o
theorem New.at {H H2 : Hp} {p : Addr} {o : HO} (n : New H p o H2) : H2 p = some o := by rw [n.eq]; exact upd_same
theorem New.same {H H2 : Hp} {p : Addr} {o : HO} (n : New H p o H2) : Same H H2 := by rw [n.eq]; exact Same.new n.free
theorem New.lst {K : PySem.W.Frag} {H H2 : Hp} {p : Addr} {xs : List V} (n : New H p (.lst xs) H2) : SqL K H2 p xs := .inl (.inl n.at)
theorem New.tup {K : PySem.W.Frag} {H H2 : Hp} {p : Addr} {xs : List V} (n : New H p (.tup xs) H2) : SqT K H2 p xs := .inl (.inl n.at)
theorem Same.tup {K : PySem.W.Frag} {H H' : Hp} {a : Addr} {xs : List V} (e : Same H H') (h : SqT K H a xs) : SqT K H' a xs := by
  rcases h with (h | ⟨o, h⟩) | h
  · exact .inl (.inl (e _ _ h))
  · exact .inl (.inr ⟨o, e _ _ h⟩)
  · exact .inr h
section
variable {X : Cx} {es : List Expr} {t : TA} {pos : Pos}
def tTupA (t : TA) : TE := fun σ H Q => t σ H fun xs H1 => xs.length ≤ sizeLine ∧ ∀ p H2, New H1 p (.tup xs) H2 → Q (.ref p) H2
def tLstA (t : TA) : TE := fun σ H Q => t σ H fun xs H1 => xs.length ≤ sizeLine ∧ ∀ p H2, New H1 p (.lst xs) H2 → Q (.ref p) H2
theorem pe_tupA {x1} (h : PA X es t) : PE X (.Tuple es x1 pos) (tTupA t) := by
  intro pins s σ H Q I hq
  refine wpAny_Tuple_spliced (thn (h pos pins s σ H _ I hq) fun us s1 ⟨xs, H1, I1, r, z, q⟩ => ⟨by rw [← r.length]; exact z, ?_⟩)
  have hf : H1 s1.heap.objs.size = none := I1.hok.fresh (Nat.le_refl _)
  refine ⟨.ref s1.heap.objs.size, upd H1 s1.heap.objs.size (.tup xs), I1.laid (t' := s1.toks) (fun b u e => Heap.get?_push_of_some _ e) (Nat.le_refl _) ?_, rfl, q _ _ ⟨hf, rfl⟩⟩
  exact ⟨z, us, r, ⟨_, Heap.get?_push_size _ rfl, rfl, _, rfl⟩⟩
theorem pe_lstA (h : PA X es t) : PE X (.List es pos) (tLstA t) := by
  intro pins s σ H Q I hq
  refine wpAny_List_spliced (thn (h pos pins s σ H _ I hq) fun us s1 ⟨xs, H1, I1, r, z, q⟩ => ⟨by rw [← r.length]; exact z, ?_⟩)
  have hf : H1 s1.heap.objs.size = none := I1.hok.fresh (Nat.le_refl _)
  refine ⟨.ref s1.heap.objs.size, upd H1 s1.heap.objs.size (.lst xs), I1.laid (t' := s1.toks) (fun b u e => Heap.get?_push_of_some _ e) (Nat.le_refl _) ?_, rfl, q _ _ ⟨hf, rfl⟩⟩
  exact ⟨z, us, 0, r, Heap.get?_push_size _ rfl⟩
theorem CallR.imp {f : Value} {r r' : List V → Hp → VK → Prop} (h : CallR X f r) (i : ∀ xs H Q, r' xs H Q → r xs H Q) : CallR X f r' := fun pins s σ H xs us Q I rv q => h pins s σ H xs us Q I rv (i _ _ _ q)
def rListA (K : PySem.W.Frag) : List V → Hp → VK → Prop := fun xs H Q => ∃ p ys, xs = [.ref p] ∧ (SqL K H p ys ∨ SqT K H p ys) ∧ ∀ l H2, New H l (.lst ys) H2 → Q (.ref l) H2
theorem call_listA : CallR X (.type "list") (rListA X.K) := call_list_of.imp fun xs H Q ⟨p, ys, e, h, q⟩ => ⟨p, ys, e, h, fun l hl => q l _ ⟨hl, rfl⟩⟩
def rTupleA (K : PySem.W.Frag) : List V → Hp → VK → Prop := fun xs H Q => ∃ p ys, xs = [.ref p] ∧ ((SqL K H p ys ∧ ∀ l H2, New H l (.tup ys) H2 → Q (.ref l) H2) ∨ (SqT K H p ys ∧ Q (.ref p) H))
theorem call_tupleA : CallR X (.type "tuple") (rTupleA X.K) := call_tuple_of.imp fun xs H Q ⟨p, ys, e, h⟩ => ⟨p, ys, e, h.imp (fun ⟨a, q⟩ => ⟨a, fun l hl => q l _ ⟨hl, rfl⟩⟩) id⟩
def rSlLA (K : PySem.W.Frag) : V → Option Int → Option Int → Hp → VK → Prop := fun x lo hi H Q => ∃ a xs, x = .ref a ∧ SqL K H a xs ∧ ∀ p H2, New H p (.lst (cutV xs lo hi)) H2 → Q (.ref p) H2
theorem sl_listA : SlR X (rSlLA X.K) := fun pins s σ H x v vl vu lo hi sl Q I rx hs pl pu ⟨a, xs, e, h, q⟩ => sl_list pins s σ H x v vl vu lo hi sl Q I rx hs pl pu ⟨a, xs, e, h, fun p hp => q p _ ⟨hp, rfl⟩⟩
end
section
variable {K : PySem.W.Frag} {σ : St} {H : Hp} {Q : VK} {p : Addr} {xs : List V}
theorem i_lstA {t : TA} (q : t σ H fun xs H1 => xs.length ≤ sizeLine ∧ ∀ p H2, New H1 p (.lst xs) H2 → Q (.ref p) H2) : tLstA t σ H Q := q
theorem i_tupA {t : TA} (q : t σ H fun xs H1 => xs.length ≤ sizeLine ∧ ∀ p H2, New H1 p (.tup xs) H2 → Q (.ref p) H2) : tTupA t σ H Q := q
theorem i_listAL (h : SqL K H p xs) (q : ∀ l H2, New H l (.lst xs) H2 → Q (.ref l) H2) : rListA K [.ref p] H Q := ⟨p, xs, rfl, .inl h, q⟩
theorem i_tupleAL (h : SqL K H p xs) (q : ∀ l H2, New H l (.tup xs) H2 → Q (.ref l) H2) : rTupleA K [.ref p] H Q := ⟨p, xs, rfl, .inl ⟨h, q⟩⟩
theorem i_tupleAT (h : SqT K H p xs) (q : Q (.ref p) H) : rTupleA K [.ref p] H Q := ⟨p, xs, rfl, .inr ⟨h, q⟩⟩
theorem i_slLA {lo hi : Option Int} (h : SqL K H p xs) (q : ∀ l H2, New H l (.lst (cutV xs lo hi)) H2 → Q (.ref l) H2) : rSlLA K (.ref p) lo hi H Q := ⟨p, xs, rfl, h, q⟩
end
structure NewI (H : Hp) (x dx C : Addr) (fs : List (Str × V)) (H2 : Hp) : Prop where
  fx : H x = none
  fd : H dx = none
  ne : dx ≠ x
  eq : H2 = upd (upd H dx (.own x)) x (.ins C dx fs)
theorem NewI.at {H H2 : Hp} {x dx C : Addr} {fs : List (Str × V)} (n : NewI H x dx C fs H2) : H2 x = some (.ins C dx fs) := by rw [n.eq]; exact upd_same
theorem NewI.same {H H2 : Hp} {x dx C : Addr} {fs : List (Str × V)} (n : NewI H x dx C fs H2) : Same H H2 := by
  rw [n.eq]; exact Same.upd (Same.new n.fd) (by rw [upd_ne n.ne.symm]; exact n.fx)
theorem i_iteSe {x y : Str} {A B : Prop} (n : x = y) (q : A) : if decide (V.str x = V.str y) = true then A else B := by
  rw [decide_eq_true (congrArg V.str n)]; exact iteT q
theorem lcL {K : PySem.W.Frag} {a : Addr} {te : TE} {cs : St} {H1 : Hp} {Q : Addr → Hp → Prop} (xs : List V) (f : V → V) (hS : SqL K H1 a xs) (hz : xs.length ≤ sizeLine)
    (hx : ∀ (i : Nat) (v : V) (H' : Hp) (R : VK), xs[i]? = some v → Same H1 H' → R (f v) H' → te (some v :: cs) H' R) (q : ∀ D H2, New H1 D (.lst (xs.map f)) H2 → Q D H2) :
    ∃ a', V.ref a = .ref a' ∧ (∃ xs, SqL K H1 a' xs) ∧ ∀ D, H1 D = none → ∃ W : Nat → Nat → List V → Hp → Prop, (∃ m, W 0 m [] (upd H1 D (.lst []))) ∧ ∀ i m ys H, W i m ys H →
      H D = some (.lst ys) ∧ (((Itl K a').stop i H ∧ Q D H) ∨ ((Itl K a').go i H ∧ ys.length < sizeLine ∧ ∀ x H', (Itl K a').yld i H x H' → tYes (some x :: cs) H' fun b H2 =>
        if b = true then te (some x :: cs) H2 fun y H3 => H3 D = some (.lst ys) ∧ ∃ m', m' < m ∧ W (i + 1) m' (ys ++ [y]) (upd H3 D (.lst (ys ++ [y]))) else ∃ m', m' < m ∧ W (i + 1) m' ys H2)) :=
  ⟨a, rfl, ⟨xs, hS⟩, fun D hD => by
    obtain ⟨W, w0, h⟩ := lc_list (K := K) (Q := fun v H => ∃ D, v = .ref D ∧ Q D H) (te := te) (cs := cs) f hS hz hx (fun D hD => ⟨D, rfl, q D _ ⟨hD, rfl⟩⟩) D hD
    refine ⟨W, w0, fun i m ys H w => ?_⟩
    obtain ⟨a1, a2⟩ := h i m ys H w
    refine ⟨a1, a2.imp (fun ⟨st, D', e, q'⟩ => ⟨st, ?_⟩) id⟩
    cases e; exact q'⟩
theorem sqL_inj_of {K : PySem.W.Frag} {a : Addr} {xs : List V} {H : Hp} (h : H a = some (.lst xs)) : SqL K H a xs := .inl (.inl h)
end L2
namespace Lap
open PySem L2
def spDeedA (C : Dk → Addr) : Sp := fun vs H Q _ => ∃ d : Dk, vs = [.str d.word] ∧ ∀ x dx H2, NewI H x dx (C d) [] H2 → Q (.ref x) H2
end Lap
set_option Elab.async false
set_option linter.all false
set_option maxRecDepth 100000
namespace L2
open PySem PySem.Spec PyProof.Rows
section
variable {X : Cx} {pins : List (Addr × Obj)} {σ : St} {H : Hp} {s : Shared}
theorem Inv.slots {h' : Heap} (I : Inv X pins σ H s) (k : Heap.SlotsOnly (frs X.stack) s.heap h') : Inv X pins σ H { s with heap := h' } := by
  have hok : HOk X.prog X.w H h' := fun b u e => (I.hok b u e).stay (fun c v hc q => (k.2.1 c fun hm => by
    have hn := I.stkFree c hm
    rcases hc with z | z
    · rw [z, e] at hn; cases hn
    · rw [z] at hn; cases hn).trans q) (fun _ q => q) fun _ _ q => q
  refine I.call' (s' := { s with heap := h' }) (ch := []) rfl ⟨fun b o q _ hb _ => (k.2.1 b hb).trans q, fun b o q _ _ _ => k.2.2 b o q, fun _ _ _ n _ => n, fun b o q _ => ?_, fun _ _ q => q, fun _ _ _ q => q, fun b ps q => ⟨#[], by rw [q]; simp⟩⟩ hok I.bare fun _ z => nomatch z
  obtain ⟨sl, e⟩ := k.2.2 b o q
  exact ⟨_, e⟩
theorem Inv.rec' {a : Addr} {h' : Heap} (I : Inv X pins σ H s) (f : FpOk X pins H a) (k : ∀ b, b ≠ a → h'.get? b = s.heap.get? b) : Inv X pins σ H { s with heap := h' } := by
  obtain ⟨f0, f1, f2, f3, f4, f5⟩ := f
  exact I.turned (t' := s.toks) (fun b o hb e => (k b hb).trans e) f0 f1 f3 f4 f5
end
def TbAt (P : Addr → Prop) (h : Heap) (e : Addr) (c : Value) (d : Option Addr) : Option Value → Prop
  | none => ∃ sl vs, h.get? e = some ⟨c, d, .fields vs, sl⟩ ∧ vs[1]? = some .none
  | some fl => ∃ sl vs T oT ts, h.get? e = some ⟨c, d, .fields vs, sl⟩ ∧ vs[1]? = some (.ref T) ∧ P T ∧ T ≠ e ∧ h.get? T = some oT ∧ oT.data = .fields ts ∧ ts[3]? = some fl
theorem TbAt.there {P : Addr → Prop} {h : Heap} {e : Addr} {c : Value} {d : Option Addr} {fl : Option Value} (x : TbAt P h e c d fl) : ∃ sl vs, h.get? e = some ⟨c, d, .fields vs, sl⟩ := by
  cases fl with
  | none => obtain ⟨sl, vs, q, _⟩ := x; exact ⟨sl, vs, q⟩
  | some v => obtain ⟨sl, vs, T, oT, ts, q, _⟩ := x; exact ⟨sl, vs, q⟩
structure Exc (X : Cx) (pins : List (Addr × Obj)) (σ : St) (H : Hp) (s : Shared) (e : Addr) (c : Value) (d : Option Addr) (fl : Option Value) : Prop where
  inv : Inv X pins σ H s
  fe : FpOk X pins H e
  tb : TbAt (FpOk X pins H) s.heap e c d fl
section
variable {X : Cx} {pins : List (Addr × Obj)} {σ : St} {H : Hp} {s : Shared} {e : Addr} {c : Value} {d : Option Addr} {M : Model} {E : Value → Shared → Prop} {Q : Unit → Shared → Prop}
theorem upd_rec {h : Heap} {a : Addr} {cl : Value} {dd : Option Addr} {vs : Array Value} {sl : Array (Option Value)} (ho : h.get? a = some ⟨cl, dd, .fields vs, sl⟩) (f : Array Value → Array Value) : (h.update a (Obj.mapFields f)).get? a = some ⟨cl, dd, .fields (f vs), sl⟩ :=
  Heap.get?_update_self _ ho rfl
theorem note_entry {hadNext : Bool} {head : Value} {vs : Array Value} {sl : Array (Option Value)} (hst : X.stack = X.env :: X.outer) (hf : X.env.frame = some X.env.locals) (I : Inv X pins σ H s) (fe : FpOk X pins H e)
    (he : s.heap.get? e = some ⟨c, d, .fields vs, sl⟩) (hsz : 1 < vs.size)
    (h : ∀ s', Exc X pins σ H s' e c d (some (rawInt X.env.locals)) → Q () s') :
    wpAny M X.A (do setField (.ref e) 1 (← EntryCells.newEntry head (← frameOf X.env) .none (rawInt X.env.locals) .none (← entryPlaceOf X.env.locals hadNext))) Q E s := by
  have hl : s.heap.FunFrames X.base (X.env :: X.outer) := hst ▸ I.stack
  have hfr : X.A.frames = some (X.env :: X.outer) := by rw [I.ok.frames, hst]
  refine wpAny_bind (wpAny_frameOf_fun hfr hl hf fun h₁ hs₁ => ?_)
  have hs₁' : Heap.SlotsOnly (frs X.stack) s.heap h₁ := by rw [hst]; exact hs₁
  have I1 := I.slots hs₁'
  have ene : e ∉ frs X.stack := fun z => by
    rcases List.mem_cons.mp (I.stkSub e z) with q | q
    · exact fe.2.1 q
    · exact fe.2.2.1 q
  have he1 : h₁.get? e = some ⟨c, d, .fields vs, sl⟩ := (hs₁'.2.1 e ene).trans he
  refine wpAny_bind (wpAny_entryPlaceOf fun pl hpl => ?_)
  unfold EntryCells.newEntry newFields
  refine wpAny_bind (wpAny_newObj_type ?_ (hpl.sizeOk5 _ _ _ _ _))
  generalize hts : ([head, Value.ref X.env.locals, Value.none, rawInt X.env.locals, Value.none] ++ (if pl.isEmpty then List.replicate 6 Value.none else pl)).toArray = ts
  have h3 : ts[3]? = some (rawInt X.env.locals) := by rw [← hts]; rfl
  have I2 : Inv X pins σ H { s with heap := h₁.push { cls := .type "traceback", dict := none, data := .fields ts } } := I1.kept (t' := s.toks) fun b o q => Heap.get?_push_of_some _ q
  have he2 := Heap.get?_push_of_some (h := h₁) { cls := .type "traceback", dict := none, data := .fields ts } he1
  refine wpAny_setField he2 rfl hsz (h _ ⟨I2.rec' fe fun b hb => Heap.get?_update_other _ _ (Ne.symm hb), fe, ?_⟩)
  have hTe : h₁.objs.size ≠ e := Nat.ne_of_gt (Heap.lt_size he1)
  refine ⟨sl, _, h₁.objs.size, { cls := .type "traceback", dict := none, data := .fields ts }, ts, upd_rec he2 _, by simp [hsz], I1.fpOk (Nat.le_refl _) (I1.hok.fresh (Nat.le_refl _)), hTe, ?_, rfl, h3⟩
  rw [Heap.get?_update_other _ _ (Ne.symm hTe)]
  exact Heap.get?_push_size h₁ rfl
theorem Exc.note {fl : Option Value} (hst : X.stack = X.env :: X.outer) (hf : X.env.frame = some X.env.locals) (x : Exc X pins σ H s e c d fl) (hfl : fl = none ∨ fl = some .none ∨ fl = some (rawInt X.env.locals))
    (h : ∀ s', Exc X pins σ H s' e c d (some (rawInt X.env.locals)) → Q () s') : wpAny M X.A (noteFrame (.ref e) X.env) Q E s := by
  obtain ⟨I, fe, tb⟩ := x
  unfold noteFrame
  simp only [hf]
  rcases hfl with z | z | z
  · subst z
    obtain ⟨sl, vs, he, h1⟩ := tb
    refine wpAny_bind (wpAny_field he rfl h1 ?_)
    rw [if_neg (by decide)]
    exact note_entry hst hf I fe he (Array.getElem?_eq_some_iff.mp h1).1 h
  · subst z
    obtain ⟨sl, vs, T, oT, ts, he, h1, fT, hTe, hT, hdT, h3⟩ := tb
    refine wpAny_bind (wpAny_field he rfl h1 ?_)
    rw [if_pos (show (Value.ref T != Value.none) = true from by simp)]
    refine wpAny_bind (wpAny_field hT hdT h3 ?_)
    rw [if_neg (show ¬ ((Value.none == rawInt X.env.locals) = true) from by simp [rawInt])]
    refine wpAny_bind (wpAny_setField hT hdT (Array.getElem?_eq_some_iff.mp h3).1 ?_)
    have I1 := I.rec' (h' := s.heap.update T (Obj.mapFields (·.setIfInBounds 3 .none))) fT fun b hb => Heap.get?_update_other _ _ (Ne.symm hb)
    exact note_entry (s := { s with heap := _ }) hst hf I1 fe ((Heap.get?_update_other _ _ hTe).trans he) (Array.getElem?_eq_some_iff.mp h1).1 h
  · subst z
    obtain ⟨sl, vs, T, oT, ts, he, h1, fT, hTe, hT, hdT, h3⟩ := tb
    refine wpAny_bind (wpAny_field he rfl h1 ?_)
    rw [if_pos (show (Value.ref T != Value.none) = true from by simp)]
    refine wpAny_bind (wpAny_field hT hdT h3 ?_)
    rw [if_pos (show (rawInt X.env.locals == rawInt X.env.locals) = true from by simp)]
    exact wpAny_pure (h s ⟨I, fe, sl, vs, T, oT, ts, he, h1, fT, hTe, hT, hdT, h3⟩)
theorem Exc.fly {fl : Value} {to : Option Addr} (x : Exc X pins σ H s e c d (some fl)) (h : ∀ s', Exc X pins σ H s' e c d (some (to.elim .none fun f => rawInt f)) → Q () s') : wpAny M X.A (setFlight (.ref e) to) Q E s := by
  obtain ⟨I, fe, sl, vs, T, oT, ts, he, h1, fT, hTe, hT, hdT, h3⟩ := x
  unfold setFlight
  refine wpAny_bind (wpAny_field he rfl h1 ?_)
  rw [if_pos (show (Value.ref T != Value.none) = true from by simp)]
  have hsz : 3 < ts.size := (Array.getElem?_eq_some_iff.mp h3).1
  refine wpAny_setField hT hdT hsz (h _ ⟨I.rec' fT fun b hb => Heap.get?_update_other _ _ (Ne.symm hb), fe, sl, vs, T, _, _, (Heap.get?_update_other _ _ hTe).trans he, h1, fT, hTe, Heap.get?_update_self _ hT (Obj.isFreed_of_fields (Obj.data_mapFields hdT _)), Obj.data_mapFields hdT _, by simp [hsz]⟩)
end
theorem ObjOk.get {P : Program} {w : World} {H : Hp} {h : Heap} {a : Addr} {o : HO} (x : ObjOk P w H h a o) : ∃ ob, h.get? a = some ob := by
  induction o with
  | lst xs => obtain ⟨_, _, _, _, e⟩ := x; exact ⟨_, e⟩
  | tup xs => obtain ⟨_, _, _, ob, e, _⟩ := x; exact ⟨_, e⟩
  | dK kvs => obtain ⟨_, _, _, _, ob, _, _, e, _⟩ := x; exact ⟨_, e⟩
  | dT kvs => obtain ⟨_, _, _, _, ob, _, _, e, _⟩ := x; exact ⟨_, e⟩
  | set S n => obtain ⟨ob, _, _, _, e, _⟩ := x; exact ⟨_, e⟩
  | ins C dx fs => obtain ⟨_, _, _, e, _⟩ := x; exact ⟨_, e⟩
  | own y => exact x
  | xd fs => obtain ⟨_, ⟨od, _, _, e, _⟩, _⟩ := x; exact ⟨_, e⟩
  | rng lo hi => obtain ⟨_, _, _, e⟩ := x; exact ⟨_, e⟩
  | frz ob u ih => exact ⟨_, x.1⟩
  | tbl ps => exact ⟨_, x⟩
  | met f y => exact ⟨_, x⟩
  | ext φ => exact x.2.1
section
variable {X : Cx} {pins : List (Addr × Obj)} {σ : St} {H H' : Hp} {s : Shared} {b : Addr}
theorem Inv.noObj (I : Inv X pins σ H s) (hb : s.heap.get? b = none) : H b = none := by
  cases q : H b with
  | none => rfl
  | some u => obtain ⟨ob, e⟩ := (I.hok b u q).get; rw [hb] at e; cases e
theorem Inv.fpNew (I : Inv X pins σ H s) (hb : s.heap.get? b = none) (hn : H' b = none) : FpOk X pins H' b := by
  obtain ⟨m, ⟨oL, _, _, hoL, _⟩, _⟩ := I.loc
  refine ⟨hn, fun z => ?_, fun z => ?_, ?_, fun x c e z => ?_, fun p hp z => ?_⟩
  · rw [z, hoL] at hb; cases hb
  · obtain ⟨_, o, ho, _⟩ := I.funs.mem z
    rw [ho] at hb; cases hb
  · by_cases hx : b ∈ X.ex
    · exact .inl hx
    · refine .inr ?_
      cases q : X.s₀.heap.get? b with
      | none => rfl
      | some o => obtain ⟨o', e⟩ := I.base.there b o q hx; rw [hb] at e; cases e
  · obtain ⟨v, o, ho, _⟩ := I.cell x c e
    rw [z, hb] at ho; cases ho
  · have := (I.pin p hp).1
    rw [z, hb] at this; cases this
theorem FpOk.nil (f : FpOk X pins H b) : FpOk X.nox [] H b := by
  obtain ⟨f0, f1, f2, f3, f4, f5⟩ := f
  exact ⟨f0, f1, f2, f3, f4, fun p hp => f5 p (List.mem_append_left _ (by simpa using hp))⟩
theorem Inv.nil (I : Inv X pins σ H s) : Inv X.nox [] σ H s := (I.pins_of (pins' := []) fun _ z => nomatch z).wish _
theorem TbAt.imp {P P' : Addr → Prop} {h : Heap} {e : Addr} {c : Value} {d : Option Addr} {fl : Option Value} (x : TbAt P h e c d fl) (i : ∀ T, P T → P' T) : TbAt P' h e c d fl := by
  cases fl with
  | none => exact x
  | some v => obtain ⟨sl, vs, T, oT, ts, h1, h2, h3, r⟩ := x; exact ⟨sl, vs, T, oT, ts, h1, h2, i T h3, r⟩
end
abbrev XS := St → Value → Option Addr → Hp → Prop
def flOk (X : Cx) (fl : Option Value) : Prop := fl = none ∨ fl = some .none ∨ fl = some (rawInt X.env.locals)
def xeOf (X : Cx) (ES : XS) : Value → Shared → Prop := fun v s' => ∃ e c d fl σ H, v = .ref e ∧ Exc X.nox [] σ H s' e c d fl ∧ flOk X fl ∧ ES σ c d H
structure OwnFr (X : Cx) : Prop where
  st : X.stack = X.env :: X.outer
  fr : X.env.frame = some X.env.locals
theorem passes_own {X : Cx} {ES : XS} (hO : OwnFr X) : PassesOwn (model X.prog X.w) X.A X.env (xeOf X ES) := by
  rintro v s' ⟨e, c, d, fl, σ, H, rfl, x, hfl, q⟩
  refine x.note (X := X.nox) hO.st hO.fr hfl fun s1 x1 => ?_
  obtain ⟨sl, vs, T, oT, ts, he, h1, r⟩ := id x1.tb
  show wpAny _ _ (field (.ref e) 1 >>= _) _ _ _
  refine wpAny_bind (wpAny_field he rfl h1 ?_)
  rw [if_neg (by simp)]
  refine x1.fly (X := X.nox) fun s2 x2 => ⟨e, c, d, _, σ, H, rfl, x2, ?_, q⟩
  exact .inr (.inr (by rw [show X.nox.env.frame = some X.env.locals from hO.fr]; rfl))
def CX1 (P : Program) (w : World) : CXT := fun outer H s E v s' => ∃ e c d H', v = .ref e ∧ s'.os = s.os ∧ AllBare s'.gens ∧ Un (frs outer) [] H H' s.heap s'.heap ∧ HOk P w H' s'.heap ∧ (s.heap.get? e = none ∧ H' e = none) ∧
  TbAt (fun T => s.heap.get? T = none ∧ H' T = none) s'.heap e c d (some .none) ∧ E c d H'
theorem leave_x {P : Program} {w : World} {K : PySem.W.Frag} {mg : Str → Option Value} {base : Heap} {N : List Str} {qual : Str} {scope : Scope} {f : Addr} {cd : Value} {A : Around} {outer : List Env} {s : Shared} {H : Hp} {E : XK} {v : Value} {s' : Shared}
    (h : xeOf (cxOf (CX1 P w) P w K mg base N qual scope f cd A outer s H E) (fun _ c d H' => E c d H') v s') : (cxOf (CX1 P w) P w K mg base N qual scope f cd A outer s H E).xe v s' := by
  obtain ⟨e, c, d, fl, σ, H', rfl, x, hfl, q⟩ := h
  show wpAny _ _ (leaving _ _) _ _ _
  unfold leaving
  refine wpAny_bind (x.note (X := (cxOf (CX1 P w) P w K mg base N qual scope f cd A outer s H E).nox) rfl rfl hfl fun s1 x1 => ?_)
  refine x1.fly (to := none) fun s2 x2 => ⟨e, c, d, H', rfl, x2.inv.os, x2.inv.bare, x2.inv.base, x2.inv.hok, ?_, x2.tb.imp fun T fT => ?_, q⟩
  · obtain ⟨f0, _, _, f3, _⟩ := x2.fe
    exact ⟨f3.resolve_left (fun z => nomatch z), f0⟩
  · obtain ⟨f0, _, _, f3, _⟩ := fT
    exact ⟨f3.resolve_left (fun z => nomatch z), f0⟩
section
variable {X : Cx} {CX : CXT} {k : Nat} {f C : Addr} {fd : FuncData} {ps : List Str} {sp : Sp} {ES : XS} {x m : Str} {p pos apos : Pos} {e o : Expr} {es : List Expr} {ta : TE} {t : TA}
theorem run_fnX {pins : List (Addr × Obj)} {σ : St} {H : Hp} {s : Shared} {Q : VK} {us : List Value} {vs : List V} (F : FnOk X.prog X.w X.K X.mg X.base (CX1 X.prog X.w) k f fd ps sp) (hr : Room k X.A) (hb : Binds X.K fd ps []) (hx : ∀ v s, xeOf X ES v s → X.xe v s)
    (I : Inv X pins σ H s) (r : Vals vs us) (h : sp (vs ++ []) H Q (ES σ)) : wpAny (model X.prog X.w) X.A (call (.ref f) us) (EP X pins σ Q) X.xe s := by
  have r2 : Vals (vs ++ []) (us ++ []) := r.append .nil
  have hl : (us ++ []).length = ps.length := by rw [← r2.length]; exact F.len _ _ _ _ h
  refine wpAny_call (codeAny_mono (F.run X.A X.stack s H ⟨us, []⟩ (us ++ []) (vs ++ []) Q (ES σ) hr I.env0 (hb s us I.kIn hl) r2 h) fun r s' hq => ?_)
  cases r with
  | error e =>
    obtain ⟨e, c, d, H', rfl, os, bare, un, hok, fe, tb, q⟩ := hq
    have I1 : Inv X pins σ H' s' := I.call' os un hok bare fun _ z => nomatch z
    exact hx _ _ ⟨e, c, d, _, σ, H', rfl, ⟨I1.nil, (I.fpNew fe.1 fe.2).nil, tb.imp fun T fT => (I.fpNew fT.1 fT.2).nil⟩, .inr (.inl rfl), q⟩
  | ok fl =>
    cases fl with
    | ret u => exact I.after hq
    | next => exact False.elim hq
    | brk => exact False.elim hq
    | cont => exact False.elim hq
structure DfX (P : Program) (w : World) (K : PySem.W.Frag) (mg : Str → Option Value) (base : Heap) (k : Nat) (x : Str) (ps : List Str) (sp : Sp) : Prop where
  ex : ∃ f fd, mg x = some (.ref f) ∧ PySem.W.keepIn K (.ref f) = true ∧ Binds K fd ps [] ∧ FnOk P w K mg base (CX1 P w) k f fd ps sp
def tCallX (sp : Sp) (ES : XS) (t : TA) : TE := fun σ H Q => t σ H fun vs H1 => sp (vs ++ []) H1 Q (ES σ)
theorem pe_callX (D : DfX X.prog X.w X.K X.mg X.base k x ps sp) (hr : Room k X.A) (hx : ∀ v s, xeOf X ES v s → X.xe v s) (hg : Gl X x) (ha : PA X (e :: es) t)
    (hdb : (x == ("__debug__" : Str)) = false := by decide) (he : starEach (e :: es) X.env = (false, eval e X.env) :: starEach es X.env := by rfl) (hpl : (backTo pos (starEach es X.env)).any (·.1) = false := by rfl) :
    PE X (.Call (.Name x p) (e :: es) [] pos) (tCallX sp ES t) := by
  obtain ⟨f, fd, hm, hk, hb, F⟩ := D.ex
  intro pins s σ H Q I h
  refine wpAny_Call_Name_kw (ld_glob I hg hm ?_ hdb)
  refine PySem.W.callWith_K (h₀ := X.base) I.ok.mod.kin hk (thn (ha pos pins s σ H _ I h) fun us s1 ⟨vs, H1, I1, r, q⟩ => ⟨I1.kIn, ?_⟩) he hpl
  exact run_fnX F hr hb hx I1 r q
theorem i_callX {σ : St} {H : Hp} {Q : VK} (q : t σ H fun vs H1 => sp (vs ++ []) H1 Q (ES σ)) : tCallX sp ES t σ H Q := q
end
theorem PSs.weak {X : Cx} {E E' : Value → Shared → Prop} {st : List Stmt} {t : TS} (h : PSs (X.wish E) st t) (i : ∀ v s, E v s → E' v s) : PSs (X.wish E') st t := fun pins s σ H D I hw =>
  wpAny_mono (h pins s σ H D (I.unwish.wish _) hw) (fun f s' q => by
    have q' := SP.unwish (X := X) q
    cases f with
    | next => obtain ⟨σ', H', I, q⟩ := q'; exact ⟨σ', H', I.wish _, q⟩
    | brk => obtain ⟨σ', H', I, q⟩ := q'; exact ⟨σ', H', I.wish _, q⟩
    | cont => obtain ⟨σ', H', I, q⟩ := q'; exact ⟨σ', H', I.wish _, q⟩
    | ret u => obtain ⟨v, σ', H', I, r, q⟩ := q'; exact ⟨v, σ', H', I.wish _, r, q⟩) i
abbrev cxX (P : Program) (w : World) (K : PySem.W.Frag) (mg : Str → Option Value) (base : Heap) (N : List Str) (qual : Str) (scope : Scope) (f : Addr) (cd : Value) (A : Around) (outer : List Env) (s : Shared) (H : Hp) (E : XK) : Cx :=
  (cxOf (CX1 P w) P w K mg base N qual scope f cd A outer s H E).wish (xeOf (cxOf (CX1 P w) P w K mg base N qual scope f cd A outer s H E) fun _ c d H' => E c d H')
section
variable {P : Program} {w : World} {K : PySem.W.Frag} {mg : Str → Option Value} {base : Heap}
theorem Fun.okX {x qual : Str} {st : Stmt} {f : Addr} {fd : FuncData} {N ps : List Str} {k : Nat} {sp : Sp} (F : Fun K x qual st f fd) (S : FnScope N ps (defScope st)) (len : ∀ vs H Q E, sp vs H Q E → vs.length = ps.length)
    (hbody : ∀ (cdv : Value) (A : Around) (outer : List Env) (s : Shared) (H : Hp) (vs : List V) (Q : VK) (E : XK), Room k (A.deeper (envOfC qual (defScope st) s.heap.objs.size f cdv)) → sp vs H Q E →
      ∃ t, PSs (cxX P w K mg base N qual (defScope st) f cdv A outer s H E) (defBody st) t ∧ t { nx := fun _ H' => Q .non H', rt := Q } (start N vs) H) : FnOk P w K mg base (CX1 P w) (k + 1) f fd ps sp := by
  obtain ⟨oc, od, kV, doc, pm, an, cdv, ct, osl, rfl, lk, hcd⟩ := F.ex
  refine fn_of lk hcd S len fun A outer s H vs Q E hr hsp => ?_
  obtain ⟨t, h, q⟩ := hbody cdv A outer s H vs Q E hr hsp
  exact ⟨t, PSs.weak h fun v s' z => leave_x z, q⟩
theorem HasF.dfX {k : Nat} {x : Str} {st : Stmt} {N ps : List Str} {sp : Sp} (F : HasF K x st) (Kb : K.In base) (G : base.Ns mainGlobals mg) (S : FnScope N ps (defScope st))
    (hbi : ∀ (kV doc pm : Value) (an : Option Addr) (cdv ct : Value) (us : List Value), us.length = ps.length → bindArgs (PySem.W.fnOf x x (defArgs st) (defBody st) (defScope st) .none kV doc pm an cdv ct) ⟨us, []⟩ = pure (ps.zip us))
    (len : ∀ vs H Q E, sp vs H Q E → vs.length = ps.length)
    (hbody : ∀ (f : Addr) (cdv : Value) (A : Around) (outer : List Env) (s : Shared) (H : Hp) (vs : List V) (Q : VK) (E : XK), Room k (A.deeper (envOfC x (defScope st) s.heap.objs.size f cdv)) → sp vs H Q E →
      ∃ t, PSs (cxX P w K mg base N x (defScope st) f cdv A outer s H E) (defBody st) t ∧ t { nx := fun _ H' => Q .non H', rt := Q } (start N vs) H) : DfX P w K mg base (k + 1) x ps sp := by
  obtain ⟨f, fd, a, F⟩ := F.ex
  exact ⟨f, fd, PySem.W.mg_of Kb G a, F.kp, F.binds hbi, F.okX S len (hbody f)⟩
theorem own_cxX {N : List Str} {qual : Str} {scope : Scope} {f : Addr} {cd : Value} {A : Around} {outer : List Env} {s : Shared} {H : Hp} {E : XK} : OwnFr (cxX P w K mg base N qual scope f cd A outer s H E) := ⟨rfl, rfl⟩
end
end L2
set_option Elab.async false
set_option linter.all false
set_option maxRecDepth 100000
namespace L2
open PySem PySem.Spec PySem.W PyProof.Rows
structure XCls (K : PySem.W.Frag) (C : Addr) : Prop where
  ga : findIn K (.ref C) "__getattribute__" = some (some (.builtin "BaseException.__getattribute__"))
  gt : findIn K (.ref C) "__getattr__" = some none
  bx : mroIn K C (.type "BaseException") = some true
  ob : mroIn K C (.type "object") = some true
  kc : findIn K (.ref C) "__class__" = some (some (.builtin "object.__class__"))
  kg : specialIn K (.builtin "object.__class__") "__get__" = some (some (.builtin "getset_descriptor.__get__"))
  kt : takesIn K (.builtin "object.__class__") = some true
section
variable {prog : Program} {w : World} {A : Around} {E : Value → Shared → Prop} {K : PySem.W.Frag} {h : Heap} {g : Array GenState} {d : Drawn} {t : Nat} {os : OsState} {e C : Addr} {oe : Obj} {od : Option Obj} {name : Str}
theorem ga_check {M : Model} {nameV : Value} {Q : Unit → Shared → Prop} (X : K.In h) (I : InstAt h e oe C od) (k : XCls K C) (hq : Q () ⟨h, g, d, t, os⟩) :
    wpAny M A (checkBuiltinCall "BaseException.__getattribute__" ⟨[.ref e, nameV], []⟩) Q E ⟨h, g, d, t, os⟩ := by
  have hk : builtinKind "BaseException.__getattribute__" = some .slot := by decide +kernel
  have hsplit : splitId "BaseException.__getattribute__" = some ("BaseException", "__getattribute__") := by decide +kernel
  have L : Looks M h (isInstance (.ref e) (.type "BaseException")) true := I.type.andThen (looks_mroIn X k.bx)
  have ha := F.args_bexc_ga (.ref e) nameV
  simp only [checkBuiltinCall, hk, hsplit]
  refine wpAny_bind (L.at ?_)
  repeat (first | assumption | wp_step)
  all_goals exact hq
theorem exc_by {tk : Tok} {fill expr : Bool} {Q : Value → Shared → Prop} (X : K.In h) (I : InstAt h e oe C od) (k : XCls K C)
    (hq : wpAny (model prog w) A.in1 (Builtin.«object.__getattribute__» ⟨[.ref e, .str name tk], []⟩)
      (fun fin s' => match fin with | .done (.ret v) => wpAny (model prog w) A (handedOut v) Q E s' | .done _ => False | .again c' => c'.quiet = true ∧ codeAny (model prog w) A c' (fun r s' => match r with | .ok (.ret v) => wpAny (model prog w) A (handedOut v) Q E s' | _ => False) s') (fun _ _ => False) ⟨h, g, d, t, os⟩) :
    wpAny (model prog w) A (getAttrBy (.ref e) (.str name tk) fill expr) Q E ⟨h, g, d, t, os⟩ := by
  have L0 := I.type (M := model prog w)
  have L1 := looks_findIn (M := model prog w) X k.ga
  have L2 := looks_findIn (M := model prog w) X k.gt
  have f3 := PySem.F.attr_ValueError.ga.bind (.ref e)
  have hx0 : (expr && onTheHeap (Value.builtin "BaseException.__getattribute__")) = false := by cases expr <;> rfl
  have hx2 : (Value.builtin "BaseException.__getattribute__" == Value.builtin "object.__getattribute__") = false := by decide +kernel
  unfold getAttrBy
  refine wpAny_holding (wpAny_bind (L0.at (wpAny_bind (L1.at ?_))))
  dsimp only
  rw [hx2, Bool.and_false, if_neg (by decide)]
  unfold getAttrByItsOwn hookBefore callGetattribute
  show wpAny _ _ (typeLookup (.ref C) "__getattr__" >>= _) _ _ _
  refine wpAny_bind (L2.at ?_)
  rw [if_neg (by rw [hx0]; decide)]
  unfold boundAndCalled
  refine wpAny_bind (wpAny_attempt (wpAny_holding (wpAny_bind (wpAny_of_eq f3 ?_))))
  refine wpAny_call (codeAny_call_builtin PySem.F.attr_ValueError.ga.plain F.entry_bexc_ga (ga_check X I k (wpAny_mono hq (fun fin s' z => ?_) fun _ _ z => z.elim)))
  cases fin with
  | done f => cases f <;> first | exact z | exact z.elim
  | again c =>
    refine ⟨z.1, codeAny_mono z.2 fun r s'' zz => ?_⟩
    cases r with
    | ok f => cases f <;> first | exact zz | exact zz.elim
    | error x => exact zz.elim
theorem exc_class {Q : Option Value → Shared → Prop} (X : K.In h) (I : InstAt h e oe C od) (hc : (clsIn K C).isSome = true) (k : XCls K C) (hq : Q (some (.ref C)) ⟨h, g, d, t + 1, os⟩) :
    wpAny (model prog w) A (getAttr? (.ref e) "__class__") Q E ⟨h, g, d, t, os⟩ := by
  have hf : findObj K C od "__class__" = some (.bind (.builtin "getset_descriptor.__get__") (.builtin "object.__class__")) := by
    obtain ⟨cd, hc⟩ := Option.isSome_iff_exists.mp hc
    unfold findObj
    rw [hc, Option.bind_some, k.kc, Option.bind_some]
    simp [k.kg, k.kt]
  have L0 := I.type (M := model prog w)
  have L3 := looks_find (M := model prog w) X I hf
  unfold getAttr? getAttrBy?
  refine wpAny_bind (wpAny_mkText (wpAny_bind (wpAny_attempt ?_)))
  refine exc_by X I k ?_
  unfold Builtin.«object.__getattribute__»
  refine wpAny_bind (m := slotArgs "__getattribute__" 1 _) (wpAny_of_eq (a := (.ref e, [.str "__class__" t])) rfl ?_)
  dsimp only
  refine wpAny_bind (m := Builtin.ObjectAttr.attrName _) (wpAny_of_eq (a := ("__class__" : Str)) rfl ?_)
  refine wpAny_bind (L0.at (wpAny_bind (L3.at ?_)))
  dsimp only
  show wpAny _ _ (holding [Value.builtin "object.__class__"] (call (.builtin "getset_descriptor.__get__") [.builtin "object.__class__", .ref e, .ref C]) >>= ret) _ _ _
  refine wpAny_bind (wpAny_holding (wpAny_call (class_get (ox := oe) (od := od) X I k.ob ?_)))
  exact wpAny_pure (handed_on rfl (wpAny_pure hq))
theorem kitx_exc (hc : (clsIn K C).isSome = true) (k : XCls K C) : KitX K (.ref e) (.ref C) (fun h => ∃ oe od, InstAt h e oe C od) where
  ty := fun _ _ _ ⟨_, _, I⟩ => I.type
  it := fun _ _ X _ => by
    obtain ⟨cd, hcD⟩ := Option.isSome_iff_exists.mp hc
    unfold clsIn at hcD
    split at hcD
    · rename_i c' d' cd' sl' ho
      intro A' Q' E' s' kk q
      unfold isType loadHead
      exact wpAny_bind (wpAny_loadPart (kk _ _ (X _ _ ho)) (wpAny_pure q))
    · cases hcD
  ne := fun h tp dd its n sl X htp => by
    obtain ⟨cd, hcD⟩ := Option.isSome_iff_exists.mp hc
    refine Bool.eq_false_iff.mpr fun q => ?_
    have ee : C = tp := Value.ref.inj (beq_iff_eq.mp q)
    subst ee
    unfold clsIn at hcD
    split at hcD
    · rename_i c' d' cd' sl' ho
      have z := (X _ _ ho).symm.trans htp
      cases z
    · cases hcD
  ca := fun {_ _ _ _ _ s} X ⟨_, _, I⟩ q => by
    obtain ⟨h, g, d, t, os⟩ := s
    exact exc_class X I hc k q
end
abbrev vBases : List Value := [.type "ValueError", .type "Exception", .type "BaseException", .type "object"]
structure HasX (K : PySem.W.Frag) (x : Str) (C : Addr) : Prop where
  ns : nsIn K mainGlobals x = some (some (.ref C))
  ex : excIn K C vBases "ValueError.__new__" = true
  xc : XCls K C
theorem XCls.isc {K : PySem.W.Frag} {C : Addr} (k : XCls K C) : (clsIn K C).isSome = true := by
  have h := k.bx
  unfold mroIn at h
  cases e : clsIn K C with
  | none => rw [e] at h; cases h
  | some cd => rfl
theorem exc_obj {K : PySem.W.Frag} {h : Heap} {C : Addr} {bmB : List Value} {newId : String} (X : K.In h) (q : excIn K C bmB newId = true) :
    ∃ bm N nm qn bs hdct sn sub ab col dd k0 k1 k2 k3 k5 mN, h.get? C = some (excClassObj nm qn C N bs bm hdct sn sub ab col dd k0 k1 k2 k3 k5 newId) ∧ h.Ns N mN ∧ mN "__init__" = none ∧ OwnTail h bmB bm := by
  unfold excIn at q
  split at q
  · rename_i dx cx sx lk
    split at q
    · rename_i C1 tl q0 q1 q2 q3 nid q5 hmro hsl
      rw [Bool.and_eq_true, Bool.and_eq_true, Bool.and_eq_true, Bool.and_eq_true, Bool.and_eq_true] at q
      obtain ⟨⟨⟨⟨⟨z1, z2⟩, z3⟩, z4⟩, z5⟩, z6⟩ := q
      replace z1 : C1 = C := by simpa using z1
      replace z2 : nid = newId := by simpa using z2
      replace z3 : cx.hasDel = false := by simpa using z3
      replace z6 : nsIn K cx.ns "__init__" = some none := by simpa using z6
      have obj := X _ _ lk
      have Nok : h.Ns cx.ns (h.nsMap cx.ns) := .of_isNs (isNs_of_in X z5)
      refine ⟨tl, cx.ns, cx.name, cx.qualname, cx.bases, cx.hasDict, cx.slotNames, cx.subclasses, cx.abstract, cx.collection, dx, q0, q1, q2, q3, q5, h.nsMap cx.ns, ?_, Nok, ns_none_of X Nok z6, tail_of_in X z4⟩
      rw [obj]
      cases cx
      cases sx
      simp only at hmro hsl z3
      subst hmro hsl z3 z1 z2
      rfl
    · cases q
  · cases q
section
variable {X : Cx} {ES : XS} {x : Str} {C : Addr} {np cpos pos : Pos} {a : Expr} {rest : List Expr} {t : TA}
def tRaise (ES : XS) (C : Addr) (t : TA) : TS := fun _ σ H => t σ H fun vs H1 => vs.length ≤ sizeLine ∧ ES σ (.ref C) none H1
theorem ps_raise (hX : HasX X.K x C) (hc : X.calm = true) (hx : ∀ v s, xeOf X ES v s → X.xe v s) (hg : Gl X x) (ha : PA X (a :: rest) t) (hdb : (x == ("__debug__" : Str)) = false := by decide)
    (he : starEach (a :: rest) X.env = (false, eval a X.env) :: starEach rest X.env := by rfl) (hpl : (backTo cpos (starEach rest X.env)).any (·.1) = false := by rfl) :
    PS X (.Raise (some (.Call (.Name x np) (a :: rest) [] cpos)) none pos) (tRaise ES C t) := by
  intro pins s σ H D I h
  obtain ⟨tl, N, nm, q, bs, hdct, sn, sub, ab, col, dd, k0, k1, k2, k3, k5, mN, hC, hN, hni, T⟩ := exc_obj I.ok.mod.kin hX.ex
  have FB := PySem.F.excBase_ValueError
  refine wpAny_Raise_call_subT (C := C) (nm := nm) (q := q) (N := N) (bs := bs) (bm := tl) (hdct := hdct) (sn := sn) (sub := sub) (ab := ab) (col := col) (dd := dd) (k0 := k0) (k1 := k1) (k2 := k2) (k3 := k3) (k5 := k5) (mN := mN)
    FB (T.hasType FB.hasBase) (I.ok.hd hc) (by rw [he]; show (false || (backTo cpos (starEach rest X.env)).any (·.1)) = false; rw [hpl]; rfl) hni (ld_glob I hg (PySem.W.mg_of I.ok.mod.kin I.ok.mod.glob hX.ns) ⟨rfl, ?_⟩ hdb)
  have hr := ha cpos pins s σ H _ I h
  rw [he] at hr ⊢
  refine Calls.evalArgs_plain (thn hr fun us s2 ⟨vs, H2, I2, rv, z, q2⟩ => ⟨rfl, by rw [← rv.length]; exact z, I2.bk _ _ hC, hN.keeps I2.bk, T.keeps I2.bk, fun h' e m => hx _ _ ?_⟩)
  have I3 : Inv X pins σ H2 { s2 with heap := h' } := I2.kept (t' := s2.toks) m.keeps
  obtain ⟨tp, ht, _, _⟩ := m.there
  exact ⟨e, .ref C, none, none, σ, H2, rfl, ⟨I3.nil, (I2.fpNew m.new (I2.noObj m.new)).nil, _, _, ht, rfl⟩, .inl rfl, q2⟩
end
end L2
set_option Elab.async false
set_option linter.all false
set_option maxRecDepth 100000
namespace L2
open PySem PySem.Spec PySem.W PyProof.Rows
abbrev Cx.re (X : Cx) (A : Around) (calm : Bool) (pn : List (Addr × Obj)) (xe : Value → Shared → Prop) : Cx := { X with A := A, calm := calm, pn := pn, xe := xe }
theorem Cx.Ok.re {X : Cx} {A : Around} {calm : Bool} {pn : List (Addr × Obj)} {xe : Value → Shared → Prop} (ok : X.Ok) (hd : calm = true → A.handled = none) (hf : A.frames = some X.stack) : (X.re A calm pn xe).Ok :=
  ⟨ok.mod, ok.kind, ok.glob, ok.blt, ok.above, ok.inj, ok.has, ok.cab, hd, hf, ok.stk, ok.exf, ok.bs, ok.bsz, ok.noex, ok.exfs, ok.funs, ok.frf⟩
section
variable {X : Cx} {A : Around} {calm : Bool} {pn pins pins' : List (Addr × Obj)} {xe : Value → Shared → Prop} {σ σ' : St} {H : Hp} {s : Shared} {e : Addr} {o : HO}
theorem Inv.re (I : Inv X pins σ H s) (hd : calm = true → A.handled = none) (hf : A.frames = some X.stack) (hp : ∀ p ∈ pn ++ pins', p ∈ X.pn ++ pins) : Inv (X.re A calm pn xe) pins' σ H s :=
  ⟨I.ok.re hd hf, I.os, I.bare, I.base, I.loc, I.cell, I.free, I.freeC, fun p q => I.pin p (hp p q), I.hok, I.len⟩
theorem Inv.back (ok : X.Ok) (I : Inv (X.re A calm pn xe) pins' σ H s) (hp : ∀ p ∈ X.pn ++ pins, p ∈ pn ++ pins') : Inv X pins σ H s :=
  ⟨ok, I.os, I.bare, I.base, I.loc, I.cell, I.free, I.freeC, fun p q => I.pin p (hp p q), I.hok, I.len⟩
theorem Inv.track (I : Inv X pins σ H s) (f : FpOk X pins H e) (new : ObjOk X.prog X.w (upd H e o) s.heap e o) : Inv X pins σ (upd H e o) s := by
  obtain ⟨f0, f1, f2, f3, f4, f5⟩ := f
  have hne : ∀ b u, H b = some u → b ≠ e := fun b u q => ne_of_none q f0
  refine ⟨I.ok, I.os, I.bare, ⟨I.base.keep, I.base.slot, fun b ob q n hx => ?_, I.base.there, fun b xs q => ?_, fun b ob u q => ?_, fun b ps q => ?_⟩, I.loc, I.cell, ?_, fun x c q => ?_, fun p hp => ?_, fun b u q => ?_, I.len⟩
  · have hb : b ≠ e := fun z => by
      subst z
      rcases f3 with w | w
      · exact hx w
      · rw [w] at q; cases q
    rw [upd_ne hb]; exact I.base.free b ob q n hx
  · have := I.base.tups b xs q; rw [upd_ne (hne _ _ this)]; exact this
  · have := I.base.frzs b ob u q; rw [upd_ne (hne _ _ this)]; exact this
  · obtain ⟨more, this⟩ := I.base.tbls b ps q; exact ⟨more, by rw [upd_ne (hne _ _ this)]; exact this⟩
  · rw [upd_ne (Ne.symm f1)]; exact I.free
  · rw [upd_ne (f4 x c q)]; exact I.freeC x c q
  · obtain ⟨a, b, c, d⟩ := I.pin p hp
    exact ⟨a, by rw [upd_ne (f5 p hp)]; exact b, c, d⟩
  · by_cases z : b = e
    · subst z
      rw [upd_same] at q; cases q; exact new
    · rw [upd_ne z] at q
      refine (I.hok b u q).stay (fun _ _ _ q => q) (fun c q => ?_) fun c xs q => ?_
      · rw [upd_ne (hne _ _ q)]; exact q
      · rw [upd_ne (hne _ _ q)]; exact q
theorem Inv.frameTo {h' : Heap} {m' : Str → Option Value} (I : Inv X pins σ H s) (sb : Heap.SameBut X.env.locals s.heap h') (hn : h'.Ns X.env.locals m')
    (hl : ∀ (i : Nat) (x : Str) (v : V), X.N[i]? = some x → σ'[i]? = some (some v) → Vis X.env.scope x → ∃ u, RelV v u ∧ Look X.env h' m' x u) (len : σ'.length = X.N.length) : Inv X pins σ' H { s with heap := h' } := by
  obtain ⟨m, ⟨oL, _, _, hoL, _⟩, _⟩ := I.loc
  have nL : ∀ b o', X.s₀.heap.get? b = some o' → b ≠ X.env.locals := fun b o' q => Nat.ne_of_lt (Nat.lt_of_lt_of_le (Heap.lt_size q) I.ok.above)
  have nT : ∀ b u, H b = some u → b ≠ X.env.locals := fun b u q => ne_of_none q I.free
  refine ⟨I.ok, I.os, I.bare, ⟨fun b ob q n hb hx => (sb.2 b (nL b ob q)).trans (I.base.keep b ob q n hb hx), fun b ob q n hb hx => ?_, I.base.free, fun b ob q hx => ?_, I.base.tups, I.base.frzs, I.base.tbls⟩, ⟨m', hn, hl⟩, fun x c q => ?_, I.free, I.freeC, fun p hp => ?_, fun b u q => ?_, len⟩
  · obtain ⟨sl, z⟩ := I.base.slot b ob q n hb hx; exact ⟨sl, (sb.2 b (nL b ob q)).trans z⟩
  · obtain ⟨o', z⟩ := I.base.there b ob q hx; exact ⟨o', (sb.2 b (nL b ob q)).trans z⟩
  · obtain ⟨v, ob, ho, hd⟩ := I.cell x c q; exact ⟨v, ob, (sb.2 c (I.cne x c q)).trans ho, hd⟩
  · obtain ⟨a, b, c, d⟩ := I.pin p hp; exact ⟨(sb.2 p.1 c).trans a, b, c, d⟩
  · refine (I.hok b u q).stay (fun c v hc z => (sb.2 c ?_).trans z) (fun _ z => z) fun _ _ z => z
    rcases hc with w | w
    · rw [w]; exact nT b u q
    · exact nT c _ w
theorem unbind_ok {M : Model} {E : Value → Shared → Prop} {i : Nat} {x : Str} {v : V} {Q : Unit → Shared → Prop} (I : Inv X pins σ H s) (hN : X.N.Nodup) (hi : X.N[i]? = some x) (hx : X.env.kindOf x = some .local) (hv : σ[i]? = some (some v))
    (h : ∀ s', Inv X pins (σ.set i none) H s' → Q () s') : wpAny M A (unbindName X.env x) Q E s := by
  obtain ⟨m, hn, hl⟩ := id I.loc
  obtain ⟨u, _, lk⟩ := hl i x v hi hv (.inl hx)
  have hm : m x = some u := by
    rcases lk with ⟨_, q⟩ | ⟨q, _⟩
    · exact q
    · rcases q with q | q <;> (rw [hx] at q; cases q)
  refine wpAny_unbindName_local hx hn hm (by rw [I.ok.kind]; rfl) fun h' u' hn' sb => h _ (I.frameTo sb hn' (fun j y w e1 e2 e3 => ?_) (by rw [List.length_set]; exact I.len))
  by_cases hj : j = i
  · subst hj
    have hjl : j < σ.length := by rw [I.len]; exact (List.getElem?_eq_some_iff.mp e1).1
    rw [List.getElem?_set_self hjl] at e2; cases e2
  · rw [List.getElem?_set_ne (Ne.symm hj)] at e2
    obtain ⟨u2, r2, l2⟩ := hl j y w e1 e2 e3
    have hy : y ≠ x := fun z => hj (nodup_ix hN e1 (z ▸ hi))
    refine ⟨u2, r2, ?_⟩
    rcases l2 with ⟨k2, q⟩ | ⟨k2, c, ec, ob, ho, hd⟩
    · exact .inl ⟨k2, by show (if y = x then u' else m y) = some u2; rw [if_neg hy]; exact q⟩
    · exact .inr ⟨k2, c, ec, ob, (sb.2 c (I.cne y c ec)).trans ho, hd⟩
end
def excO (e C : Addr) (d : Option Addr) : HO := .ext fun h => ∃ vs sl, h.get? e = some ⟨.ref C, d, .fields vs, sl⟩
theorem excO_ok {P : Program} {w : World} {H : Hp} {h : Heap} {e C : Addr} {d : Option Addr} {Pr : Addr → Prop} {fl : Option Value} (x : TbAt Pr h e (.ref C) d fl) : ObjOk P w H h e (excO e C d) := by
  obtain ⟨sl, vs, q⟩ := x.there
  exact ⟨⟨vs, sl, q⟩, ⟨_, q⟩, fun h1 h2 ⟨vs, sl, q⟩ k => ⟨vs, sl, k _ q⟩⟩
section
variable {X : Cx} {pins : List (Addr × Obj)} {σ : St} {H : Hp} {s : Shared} {e C Cy : Addr}
theorem matches_ok {A : Around} {E : Value → Shared → Prop} {Q : Bool → Shared → Prop} {d : Option Addr} {Pr : Addr → Prop} {fl : Option Value} {b : Bool} (I : Inv X pins σ H s) (x : TbAt Pr s.heap e (.ref C) d fl)
    (hy : mroIn X.K Cy (.type "BaseException") = some true) (hty : typeIn X.K (.ref Cy) = some (.type "type")) (hc : mroIn X.K C (.ref Cy) = some b) (q : Q b s) : wpAny (model X.prog X.w) A (excMatches (.ref e) (.ref Cy)) Q E s := by
  obtain ⟨h, g, dr, t, os⟩ := s
  obtain ⟨sl, vs, he⟩ := x.there
  have L1 : Looks (model X.prog X.w) h (typeOf (.ref Cy)) (.type "type") := looks_typeIn I.kIn hty
  have L2 : Looks (model X.prog X.w) h (isInstance (.ref Cy) (.type "tuple")) false := L1.andThen (.of_pure tc_notTuple)
  have L3 : Looks (model X.prog X.w) h (typeOf (.ref e)) (.ref C) := (Looks.ld he).andThen .now
  have L4 := looks_mroIn (M := model X.prog X.w) I.kIn hc
  have L5 := looks_mroIn (M := model X.prog X.w) I.kIn hy
  have hcl : (clsIn X.K Cy).isSome = true := by
    have z := hy
    unfold mroIn at z
    cases e : clsIn X.K Cy with
    | none => rw [e] at z; cases z
    | some cd => rfl
  have L6 : Looks (model X.prog X.w) h (isType (.ref Cy)) true := by
    obtain ⟨cd, hcD⟩ := Option.isSome_iff_exists.mp hcl
    unfold clsIn at hcD
    split at hcD
    · rename_i c' d' cd' sl' ho
      intro A' Q' E' s' kk q
      unfold isType loadHead
      exact wpAny_bind (wpAny_loadPart (kk _ _ (I.kIn _ _ ho)) (wpAny_pure q))
    · cases hcD
  unfold excMatches
  refine wpAny_bind (L2.at ?_)
  simp only [Bool.false_eq_true, if_false]
  refine wpAny_bind (wpAny_pure ?_)
  simp only [List.forIn_cons, List.forIn_nil]
  have L7 : Looks (model X.prog X.w) h (isExcClass (.ref Cy)) true := by
    unfold isExcClass
    refine L6.andThen ?_
    rw [if_pos rfl]; exact L5
  refine wpAny_bind (wpAny_bind (wpAny_bind (L7.at ?_)))
  simp only [Bool.not_true, Bool.false_eq_true, if_false]
  refine wpAny_pure (wpAny_pure ?_)
  refine wpAny_bind (L3.at (wpAny_bind (wpAny_bind (wpAny_bind (L4.at ?_)))))
  cases b with
  | true =>
    simp only [if_true]
    exact wpAny_pure (wpAny_pure (wpAny_pure q))
  | false =>
    simp only [Bool.false_eq_true, if_false]
    exact wpAny_pure (wpAny_pure (wpAny_pure q))
end
theorem suite_as {prog : Program} {w : World} {A : Around} {s : Shared} {env : Env} {R : Result → Shared → Prop} {e : Value} {n : Str} {b₀ : Stmt} {body : List Stmt} {pos : Pos}
    (h : wpAny (model prog w) A (setFlight e none) (fun _ s₁ => wpAny (model prog w) A (bindName env n e) (fun _ s₂ => wpAny (model prog w) A (execs (b₀ :: body) env) (fun f s₃ => R (.ok f) s₃) (fun _ _ => False) s₂) (fun _ _ => False) s₁) (fun _ _ => False) s) :
    codeAny (model prog w) A (.handlers e [.ExceptHandler none (some n) (b₀ :: body) pos] env) R s := by
  refine codeAny_of_tree ?_
  show wpAny _ A (do return Fin.done (← (handleWith e env [.ExceptHandler none (some n) (b₀ :: body) pos]).onRaise (fun x => do noteFrame x env; theTreesLotGoes x))) _ _ s
  refine wpAny_bind (wpAny_noted ?_)
  unfold handleWith
  refine wpAny_bind (wpAny_standAt (wpAny_bind (wpAny_mono h (fun _ s₁ h₁ => wpAny_bind (wpAny_mono h₁ (fun _ s₂ h₂ => wpAny_bind (wpAny_attempt (wpAny_mono h₂ (fun f s₃ h₃ => ?_) fun _ _ z => z.elim))) fun _ _ z => z.elim)) fun _ _ z => z.elim)))
  exact wpAny_pure (wpAny_pure h₃)
abbrev Cx.tryB (X : Cx) (pn : List (Addr × Obj)) (ES : XS) : Cx := X.re X.A X.calm pn (xeOf { X with pn := pn } ES)
abbrev Cx.suite (X : Cx) (pn : List (Addr × Obj)) (e : Addr) : Cx := X.re (X.A.mark (some (.ref e))) false pn (fun _ _ => False)
def tClause (K : PySem.W.Frag) (Cy : Addr) (i : Nat) (th : TS) (D : Ends) : XS := fun σ c d H => ∃ C, c = .ref C ∧ XCls K C ∧ mroIn K C (.ref Cy) = some true ∧
  ∀ e H2, New H e (excO e C d) H2 → th { nx := fun σ' H' => (∃ v, σ'[i]? = some (some v)) ∧ D.nx (σ'.set i none) H', rt := fun _ _ => False, bk := fun _ _ => False, ct := fun _ _ => False } (σ.set i (some (.ref e))) H2
def tTry (K : PySem.W.Frag) (Cy : Addr) (i : Nat) (tb : XS → TS) (th : TS) : TS := fun D σ H => tb (tClause K Cy i th D) D σ H
theorem ps_try {X : Cx} {y n : Str} {np hpos pos : Pos} {body : List Stmt} {b₀ : Stmt} {suite : List Stmt} {Cy : Addr} {i : Nat} {tb : XS → TS} {th : TS} (hO : OwnFr X) (hcl : X.calm = true) (hN : X.N.Nodup) (hi : X.N[i]? = some n) (hn : X.env.kindOf n = some .local)
    (hy : mroIn X.K Cy (.type "BaseException") = some true) (hty : typeIn X.K (.ref Cy) = some (.type "type")) (hg : Gl X y) (hm : X.mg y = some (.ref Cy))
    (hb : ∀ pn ES, PSs (X.tryB pn ES) body (tb ES)) (hs : ∀ pn e, PSs (X.suite pn e) (b₀ :: suite) th) (hdb : (y == ("__debug__" : Str)) = false := by decide) :
    PS X (.Try body [.ExceptHandler (some (.Name y np)) (some n) (b₀ :: suite) hpos] [] [] pos) (tTry X.K Cy i tb th) := by
  intro pins s σ H D I h
  have Ib : Inv (X.tryB (X.pn ++ pins) (tClause X.K Cy i th D)) [] σ H s := I.re I.ok.hd I.ok.frames (fun p hp => by simpa using hp)
  have back : ∀ {A : Around} {calm : Bool} {xe : Value → Shared → Prop} {σ' : St} {H' : Hp} {s' : Shared}, Inv (X.re A calm (X.pn ++ pins) xe) [] σ' H' s' → Inv X pins σ' H' s' := fun J => J.back I.ok fun p hp => by simpa using hp
  refine wpAny_Try_except (wpAny_mono (hb _ _ [] s σ H D Ib h) (fun f s1 q => ?_) fun v s1 hx => ?_)
  · cases f with
    | next => obtain ⟨σ', H', J, q⟩ := q; exact wpAny_execs_nil ⟨σ', H', back J, q⟩
    | brk => obtain ⟨σ', H', J, q⟩ := q; exact ⟨σ', H', back J, q⟩
    | cont => obtain ⟨σ', H', J, q⟩ := q; exact ⟨σ', H', back J, q⟩
    | ret u => obtain ⟨v, σ', H', J, r, q⟩ := q; exact ⟨v, σ', H', back J, r, q⟩
  · obtain ⟨e, c, d, fl, σ1, H1, rfl, x, hfl, C, rfl, xc, hmr, q⟩ := hx
    refine x.note (X := (X.re X.A X.calm (X.pn ++ pins) (fun _ _ => False))) hO.st hO.fr hfl fun s2 x2 => ?_
    refine x2.fly (to := none) fun s3 x3 => ?_
    have hh : (X.A.mark (some (.ref e))).frames = some X.stack := I.ok.frames
    have Is : Inv (X.suite (X.pn ++ pins) e) [] σ1 H1 s3 := x3.inv.re (X := X.re X.A X.calm (X.pn ++ pins) (fun _ _ => False)) (fun z => nomatch z) hh (fun p hp => hp)
    refine wpAny_handleBy_cons (codeAny_handlers_test (ld_glob (X := X.suite (X.pn ++ pins) e) Is hg hm (matches_ok (X := X.suite (X.pn ++ pins) e) Is x3.tb hy hty hmr ?_) hdb)) (by intro z; cases z)
    dsimp only [if_true]
    refine suite_as ?_
    have xs : Exc (X.suite (X.pn ++ pins) e) [] σ1 H1 s3 e (.ref C) d (some .none) := ⟨Is, x3.fe, x3.tb⟩
    refine xs.fly (to := none) fun s4 x4 => ?_
    have I5 := x4.inv.track x4.fe (excO_ok x4.tb)
    refine wpAny_bindName (store_ok (X := X.suite (X.pn ++ pins) e) I5 hN hi (.inl hn) (v := .ref e) rfl (fun s5 I6 => ?_) (.inr hn))
    refine wpAny_mono (hs _ e [] s5 _ _ _ I6 (q e _ ⟨x4.fe.1, rfl⟩)) (fun f s6 z => ?_) fun _ _ z => z
    cases f with
    | next =>
      obtain ⟨σ2, H2, J, ⟨v, hv⟩, qn⟩ := z
      have J' := back J
      have hil : i < σ2.length := (List.getElem?_eq_some_iff.mp hv).1
      refine wpAny_bind (wpAny_bindName (store_ok J' hN hi (.inl hn) (v := .non) rfl (fun s7 I7 => ?_) (.inr hn)))
      refine wpAny_onRaise (unbind_ok I7 hN hi hn (v := .non) (by rw [List.getElem?_set_self hil]) fun s8 I8 => ?_)
      rw [List.set_set] at I8
      exact ⟨_, _, I8, qn⟩
    | brk => obtain ⟨_, _, _, z⟩ := z; exact z.elim
    | cont => obtain ⟨_, _, _, z⟩ := z; exact z.elim
    | ret u => obtain ⟨_, _, _, _, _, z⟩ := z; exact z.elim
def rIsiX (K : PySem.W.Frag) : List V → Hp → VK → Prop := fun xs H Q => ∃ e C d c b, xs = [.ref e, c] ∧ isC c = true ∧ H e = some (excO e C d) ∧ (d = none ∨ ∃ dx fs, d = some dx ∧ H dx = some (.xd fs)) ∧ XCls K C ∧ kitOne K (.ref C) (clsV c) = some b ∧ Q (.bl b) H
theorem call_isiX {X : Cx} : CallR X (.builtin "isinstance") (rIsiX X.K) := by
  intro pins s σ H xs us Q I r h
  obtain ⟨e, C, d, c, b, rfl, hc, he, hd, k, kb, q⟩ := h
  obtain ⟨v, u, rfl, r1, r2⟩ := vals2 r
  rw [clsV_of hc r2]
  cases r1
  obtain ⟨⟨vs, sl, ho⟩, _, _⟩ := I.hok e _ he
  have hat : ∃ oe od, InstAt s.heap e oe C od := by
    rcases hd with rfl | ⟨dx, fs, rfl, hdx⟩
    · exact ⟨_, none, ho, rfl, rfl, trivial⟩
    · obtain ⟨mA, ⟨od, _, _, hod, _⟩, _⟩ := I.hok dx _ hdx
      exact ⟨_, some od, ho, rfl, rfl, hod⟩
  exact kia_one (kitx_exc k.isc k) I.kIn hat kb (fun z => nomatch z) fun tk => ⟨.bl b, H, I.tok _, rfl, q⟩
def Sm (z : Str) : Prop := z.length ≤ 1000 ∧ ∀ c ∈ z.cps.toList, c < 16 ^ 8
abbrev TJ := St → Hp → (Hp → Prop) → Prop
def PJ (X : Cx) (es : List Expr) (t : TJ) : Prop := ∀ (pins : List (Addr × Obj)) (s : Shared) (σ : St) (H : Hp) (acc : Str) (Q : Hp → Prop), Inv X pins σ H s → acc.length + 100000 * es.length ≤ sizeLine → t σ H Q →
  Joins (model X.prog X.w) X.A X.xe (evalEach es X.env) acc (fun out s1 => out.length ≤ sizeLine ∧ ∃ H', Inv X pins σ H' s1 ∧ Q H') s
def jNil : TJ := fun _ H Q => Q H
def jRepr (te : TE) (t : TJ) : TJ := fun σ H Q => te σ H fun x H1 => (∃ z, x = .str z ∧ Sm z) ∧ t σ H1 Q
section
variable {X : Cx} {es : List Expr} {t : TJ} {te : TE} {e : Expr} {pos : Pos} {z : Str} {k : Option Nat}
theorem pj_nil : PJ X [] jNil := fun pins s σ H acc Q I hl q => ⟨by simpa using hl, H, I, q⟩
theorem glue_len {a b : Str} {n : Nat} (h : a.length + 100000 * (n + 1) ≤ sizeLine) (hb : b.length ≤ 100000) : (a ++ b).length + 100000 * n ≤ sizeLine := by
  rw [strLen_append]; omega
theorem pj_str {j} (hz : z.length ≤ 1000) (h : PJ X es t) : PJ X (.Constant (.str z) j pos :: es) t := by
  intro pins s σ H acc Q I hl q
  have hg : (acc ++ z).length + 100000 * es.length ≤ sizeLine := glue_len hl (by omega)
  show wpAny _ _ (eval (.Constant (.str z) j pos) X.env) _ _ s
  refine Calls.Constant_str ⟨z, _, rfl, by omega, ?_⟩
  exact h pins _ σ H (acc ++ z) Q (I.tok _) hg q
theorem pj_repr (he : PE X e te) (h : PJ X es t) : PJ X (.FormattedValue e 114 none pos :: es) (jRepr te t) := by
  intro pins s σ H acc Q I hl q
  show wpAny _ _ (eval (.FormattedValue e 114 none pos) X.env) _ _ s
  refine wpAny_FormattedValue_repr (thn (he pins s σ H _ I q) fun v s1 ⟨x, H1, I1, r1, ⟨z, ex, hz⟩, q1⟩ => ?_)
  subst ex
  obtain ⟨tk, rfl⟩ := r1
  have hr := PySem.StrLaws.reprText_len z hz.2
  have hs : (reprText z).length ≤ 100000 := by have := hz.1; omega
  have hsz : 100000 ≤ sizeLine := by rw [sizeLine_eq]; decide
  have hg : (acc ++ reprText z).length + 100000 * es.length ≤ sizeLine := glue_len hl hs
  refine pyReprObj_str ?_ (by omega)
  refine wpAny_formatField_str ⟨_, _, rfl, by omega, h pins _ σ H1 _ Q (I1.tok _) hg q1⟩ ⟨_, _, rfl, by omega, ?_⟩ (by omega)
  exact h pins _ σ H1 _ Q (I1.tok _) hg q1
theorem joins_mono {M : Model} {A : Around} {E : Value → Shared → Prop} {Q Q' : Str → Shared → Prop} : ∀ {ts : List (Sem Value)} {acc : Str} {s : Shared}, Joins M A E ts acc Q s → (∀ out s1, Q out s1 → Q' out s1) → Joins M A E ts acc Q' s
  | [], _, _, h, i => i _ _ h
  | _ :: _, _, _, h, i => wpAny_mono h (fun _ _ ⟨y, t, e, l, r⟩ => ⟨y, t, e, l, joins_mono r i⟩) fun _ _ z => z
def tFmt (t : TJ) : TE := fun σ H Q => t σ H fun H' => ∀ z : Str, Q (.str z) H'
theorem i_fmt {σ : St} {H : Hp} {Q : VK} (q : t σ H fun H' => ∀ z : Str, Q (.str z) H') : tFmt t σ H Q := q
theorem i_jNil {σ : St} {H : Hp} {Q : Hp → Prop} (q : Q H) : jNil σ H Q := q
theorem i_jRepr {σ : St} {H : Hp} {Q : Hp → Prop} (q : te σ H fun x H1 => (∃ z, x = .str z ∧ Sm z) ∧ t σ H1 Q) : jRepr te t σ H Q := q
theorem pe_fstr {e1 e2 : Expr} (h : PJ X (e1 :: e2 :: es) t) (hn : (e1 :: e2 :: es).length ≤ 50 := by decide) : PE X (.JoinedStr (e1 :: e2 :: es) pos) (tFmt t) := by
  intro pins s σ H Q I q
  have hsz : 100000 * 50 ≤ sizeLine := by rw [sizeLine_eq]; decide
  have e0 : Str.empty.length = 0 := rfl
  have hl : Str.empty.length + 100000 * (e1 :: e2 :: es).length ≤ sizeLine := by
    rw [e0]; generalize (e1 :: e2 :: es).length = n at hn ⊢; omega
  have hj := h pins s σ H Str.empty _ I hl q
  refine wpAny_JoinedStr (joins_mono hj fun out s1 z => ?_)
  obtain ⟨hl, H', I', q'⟩ := z
  exact ⟨hl, .str out, H', I'.tok _, ⟨_, rfl⟩, q' out⟩
end
end L2
set_option Elab.async false
set_option linter.all false
set_option maxRecDepth 100000
namespace L2
open PySem PySem.Spec PyProof.Rows
section
variable {κ : Type} [DecidableEq κ]
def valV (kvs : List (κ × V)) (k : κ) : Option V := (kvs.find? fun kv => decide (kv.1 = k)).map (·.2)
def putK (kvs : List (κ × V)) (k : κ) (v : V) : List (κ × V) :=
  if (kvs.any fun kv => decide (kv.1 = k)) = true then kvs.map (fun kv => if kv.1 = k then (kv.1, v) else kv) else kvs ++ [(k, v)]
def dropK (kvs : List (κ × V)) (k : κ) : List (κ × V) := kvs.filter fun kv => decide (kv.1 ≠ k)
theorem valV_nil {k : κ} : valV ([] : List (κ × V)) k = none := rfl
theorem valV_pos {p : κ × V} {r : List (κ × V)} {k : κ} (e : p.1 = k) : valV (p :: r) k = some p.2 := by simp [valV, List.find?_cons, e]
theorem valV_neg {p : κ × V} {r : List (κ × V)} {k : κ} (e : ¬ p.1 = k) : valV (p :: r) k = valV r k := by simp [valV, List.find?_cons, e]
theorem valV_any (k : κ) : ∀ kvs : List (κ × V), (kvs.any fun kv => decide (kv.1 = k)) = (valV kvs k).isSome
  | [] => rfl
  | p :: r => by
    rw [List.any_cons]
    by_cases e : p.1 = k
    · simp only [valV_pos e, decide_eq_true e, Bool.true_or, Option.isSome_some]
    · rw [valV_neg e, decide_eq_false e, Bool.false_or]; exact valV_any k r
theorem valV_map (k j : κ) (y : V) : ∀ kvs : List (κ × V), valV (kvs.map fun kv => if kv.1 = k then (kv.1, y) else kv) j = (valV kvs j).map fun x => if j = k then y else x
  | [] => rfl
  | p :: r => by
    have ih := valV_map k j y r
    rw [List.map_cons]
    by_cases h : p.1 = k
    · rw [if_pos h]
      by_cases e : p.1 = j
      · rw [valV_pos (p := (p.1, y)) e, valV_pos e, Option.map_some, if_pos (e.symm.trans h)]
      · rw [valV_neg (p := (p.1, y)) e, valV_neg e, ih]
    · rw [if_neg h]
      by_cases e : p.1 = j
      · rw [valV_pos (p := p) e, valV_pos e, Option.map_some, if_neg (fun z => h (e.trans z))]
      · rw [valV_neg (p := p) e, valV_neg e, ih]
theorem valV_snoc (k j : κ) (y : V) : ∀ kvs : List (κ × V), valV kvs k = none → valV (kvs ++ [(k, y)]) j = if j = k then some y else valV kvs j
  | [], _ => by
    by_cases e : k = j
    · rw [if_pos e.symm]; exact valV_pos (p := (k, y)) e
    · rw [if_neg (fun z => e z.symm)]; exact valV_neg (p := (k, y)) e
  | p :: r, hn => by
    rw [List.cons_append]
    have hk : ¬ p.1 = k := fun z => by rw [valV_pos z] at hn; cases hn
    rw [valV_neg hk] at hn
    have ih := valV_snoc k j y r hn
    by_cases e : p.1 = j
    · rw [valV_pos e, valV_pos e, if_neg (fun z => hk (e.trans z))]
    · rw [valV_neg e, valV_neg e, ih]
theorem valV_put (kvs : List (κ × V)) (k j : κ) (y : V) : valV (putK kvs k y) j = if j = k then some y else valV kvs j := by
  unfold putK
  by_cases a : (kvs.any fun kv => decide (kv.1 = k)) = true
  · rw [if_pos a, valV_map]
    rw [valV_any] at a
    by_cases e : j = k
    · obtain ⟨x, hx⟩ := Option.isSome_iff_exists.mp a
      rw [if_pos e, e, hx, Option.map_some, if_pos rfl]
    · rw [if_neg e]
      cases valV kvs j with
      | none => rfl
      | some x => rw [Option.map_some, if_neg e]
  · rw [if_neg a]
    refine valV_snoc k j y kvs ?_
    rw [valV_any] at a
    cases q : valV kvs k with
    | none => rfl
    | some x => rw [q] at a; exact (a rfl).elim
theorem length_putK (kvs : List (κ × V)) (k : κ) (v : V) : (putK kvs k v).length ≤ kvs.length + 1 := by
  unfold putK
  split
  · rw [List.length_map]; omega
  · rw [List.length_append, List.length_cons, List.length_nil]; omega
theorem putK_new {kvs : List (κ × V)} {k : κ} (v : V) (h : valV kvs k = none) : putK kvs k v = kvs ++ [(k, v)] := by
  unfold putK
  rw [valV_any, h]
  exact if_neg (by decide)
theorem RelO.isSome_eq {o : Option V} {u : Option Value} (r : RelO o u) : o.isSome = u.isSome := by
  cases o with
  | none => cases u with
    | none => rfl
    | some _ => exact (show False from r).elim
  | some _ => cases u with
    | none => exact (show False from r).elim
    | some _ => rfl
theorem RelO.getD {o : Option V} {u : Option Value} {d : V} {d' : Value} (r : RelO o u) (rd : RelV d d') : RelV (o.getD d) (u.getD d') := by
  cases o with
  | none => cases u with
    | none => exact rd
    | some _ => exact (show False from r).elim
  | some _ => cases u with
    | none => exact (show False from r).elim
    | some _ => exact r
theorem KV.val {kvs : List (κ × V)} {vs : List (κ × Value)} (r : KV kvs vs) (k : κ) : RelO (valV kvs k) (valueAt vs k) := by
  unfold KV at r
  induction r with
  | nil => exact True.intro
  | @cons p q ps qs h t ih =>
    obtain ⟨h1, h2⟩ := h
    by_cases e : p.1 = k
    · have e' : q.1 = k := h1.symm.trans e
      have b : valueAt (q :: qs) k = some q.2 := by simp [valueAt, List.find?_cons, e']
      rw [valV_pos e, b]; exact h2
    · have e' : ¬ q.1 = k := fun z => e (h1.trans z)
      have b : valueAt (q :: qs) k = valueAt qs k := by simp [valueAt, List.find?_cons, e']
      rw [valV_neg e, b]; exact ih
theorem KV.any {kvs : List (κ × V)} {vs : List (κ × Value)} (r : KV kvs vs) (k : κ) : (kvs.any fun kv => decide (kv.1 = k)) = vs.any fun kv => decide (kv.1 = k) := by
  unfold KV at r
  induction r with
  | nil => rfl
  | cons h t ih => rw [List.any_cons, List.any_cons, ih, h.1]
theorem KV.repl {kvs : List (κ × V)} {vs : List (κ × Value)} (r : KV kvs vs) (k : κ) {y : V} {u : Value} (ry : RelV y u) :
    KV (kvs.map fun kv => if kv.1 = k then (kv.1, y) else kv) (vs.map fun kv => if kv.1 = k then (kv.1, u) else kv) := by
  unfold KV at r ⊢
  induction r with
  | nil => exact .nil
  | @cons p q ps qs h t ih =>
    rw [List.map_cons, List.map_cons]
    refine .cons ?_ ih
    obtain ⟨h1, h2⟩ := h
    by_cases e : p.1 = k
    · rw [if_pos e, if_pos (h1.symm.trans e)]; exact ⟨h1, ry⟩
    · rw [if_neg e, if_neg (fun z => e (h1.trans z))]; exact ⟨h1, h2⟩
theorem KV.put {kvs : List (κ × V)} {vs : List (κ × Value)} (r : KV kvs vs) (k : κ) {y : V} {u : Value} (ry : RelV y u) : KV (putK kvs k y) (stored vs k u) := by
  unfold putK stored
  rw [r.any k]
  by_cases e : (vs.any fun kv => decide (kv.1 = k)) = true
  · rw [if_pos e, if_pos e]; exact r.repl k ry
  · rw [if_neg e, if_neg e]; exact Paired.snoc r ⟨rfl, ry⟩
theorem KV.drop {kvs : List (κ × V)} {vs : List (κ × Value)} (r : KV kvs vs) (k : κ) : KV (dropK kvs k) (without vs k) := by
  unfold KV at r ⊢
  unfold dropK without
  induction r with
  | nil => exact .nil
  | @cons p q ps qs h t ih =>
    obtain ⟨h1, h2⟩ := h
    rw [List.filter_cons, List.filter_cons]
    by_cases e : p.1 = k
    · have a : ¬ decide (p.1 ≠ k) = true := by simp [e]
      have b : ¬ decide (q.1 ≠ k) = true := by simp [h1.symm.trans e]
      rw [if_neg a, if_neg b]; exact ih
    · have e' : ¬ q.1 = k := fun z => e (h1.trans z)
      have a : decide (p.1 ≠ k) = true := by simp [e]
      have b : decide (q.1 ≠ k) = true := by simp [e']
      rw [if_pos a, if_pos b]; exact .cons ⟨h1, h2⟩ ih
theorem KV.length {kvs : List (κ × V)} {vs : List (κ × Value)} (r : KV kvs vs) : kvs.length = vs.length := Paired.length r
theorem dropK_le (kvs : List (κ × V)) (k : κ) : (dropK kvs k).length ≤ kvs.length := List.length_filter_le _ _
end
theorem kV_is {P : Program} {w : World} {k : Key} {u : Value} (r : RelV (kV k) u) : (mixKind P w).is k u = true := by
  cases k with
  | inl i => obtain ⟨t, e⟩ := (show ∃ t, u = Value.int i t from r); subst e; exact mixKind_int P w i t
  | inr x => obtain ⟨t, e⟩ := (show ∃ t, u = Value.str x t from r); subst e; exact mixKind_str P w x t
theorem items_are {P : Program} {w : World} : ∀ {ks : List Key} {us : List Value}, Vals (ks.map kV) us → ItemsAre (mixKind P w) ks us
  | [], _, r => by rw [List.map_nil] at r; cases r; exact .nil
  | k :: ks, _, r => by
    rw [List.map_cons] at r
    cases r with
    | cons h t => exact .cons (kV_is h) (items_are t)
abbrev KT (H : Hp) : List (List Key × V) → List (List Key × Addr × Value) → Prop := Paired fun p q => p.1 = q.1 ∧ H q.2.1 = some (.tup (p.1.map kV)) ∧ RelV p.2 q.2.2
theorem KT.val {H : Hp} {kvs : List (List Key × V)} {xs : List (List Key × Addr × Value)} (r : KT H kvs xs) (k : List Key) : RelO (valV kvs k) ((atKey xs k).map (·.2)) := by
  induction r with
  | nil => exact True.intro
  | @cons p q ps qs h t ih =>
    obtain ⟨h1, _, h2⟩ := h
    by_cases e : p.1 = k
    · have e' : q.1 = k := h1.symm.trans e
      have b : atKey (q :: qs) k = some q.2 := by simp [atKey, List.find?_cons, e']
      rw [valV_pos e, b]; exact h2
    · have e' : ¬ q.1 = k := fun z => e (h1.trans z)
      have b : atKey (q :: qs) k = atKey qs k := by simp [atKey, List.find?_cons, e']
      rw [valV_neg e, b]; exact ih
theorem KT.repl {H : Hp} {kvs : List (List Key × V)} {xs : List (List Key × Addr × Value)} (r : KT H kvs xs) (k : List Key) {y : V} {u : Value} (ry : RelV y u) :
    KT H (kvs.map fun kv => if kv.1 = k then (kv.1, y) else kv) (xs.map (putAt k u)) := by
  induction r with
  | nil => exact .nil
  | @cons p q ps qs h t ih =>
    rw [List.map_cons, List.map_cons]
    refine .cons ?_ ih
    obtain ⟨h1, h2, h3⟩ := h
    unfold putAt
    by_cases e : p.1 = k
    · rw [if_pos e, if_pos (h1.symm.trans e)]; exact ⟨h1, h2, ry⟩
    · rw [if_neg e, if_neg (fun z => e (h1.trans z))]; exact ⟨h1, h2, h3⟩
theorem KT.put {H : Hp} {kvs : List (List Key × V)} {xs : List (List Key × Addr × Value)} (r : KT H kvs xs) (k : List Key) {b : Addr} {y : V} {u : Value} (hb : H b = some (.tup (k.map kV))) (ry : RelV y u) :
    KT H (putK kvs k y) (storedH xs k b u) := by
  have e : (kvs.any fun kv => decide (kv.1 = k)) = (atKey xs k).isSome := by
    rw [valV_any, (r.val k).isSome_eq, Option.isSome_map]
  unfold putK storedH
  rw [e]
  by_cases q : (atKey xs k).isSome = true
  · rw [if_pos q, if_pos q]; exact r.repl k ry
  · rw [if_neg q, if_neg q]; exact Paired.snoc r ⟨rfl, hb, ry⟩
theorem KT.keeps {H H' : Hp} {kvs : List (List Key × V)} {xs : List (List Key × Addr × Value)} (r : KT H kvs xs) (ht : ∀ b ys, H b = some (.tup ys) → H' b = some (.tup ys)) : KT H' kvs xs :=
  Paired.mapP r fun _ _ z => ⟨z.1, ht _ _ z.2.1, z.2.2⟩
section
variable {P : Program} {w : World} {H : Hp} {h : Heap} {a : Addr}
theorem rd_of {u : HO} (ok : HOk P w H h) (e : Rd H a u) : ObjOk P w H h a u := e.ok ok
theorem dk_rd {kvs : List (Key × V)} (ok : HOk P w H h) (e : Rd H a (.dK kvs)) : kvs.length ≤ sizeLine ∧ (a == sysModules) = false ∧ ∃ vs, KV kvs vs ∧ h.DictOf (mixKind P w) a vs :=
  show ObjOk P w H h a (.dK kvs) from rd_of ok e
theorem dk_of {kvs : List (Key × V)} (ok : HOk P w H h) (e : H a = some (.dK kvs)) : kvs.length ≤ sizeLine ∧ (a == sysModules) = false ∧ ∃ vs, KV kvs vs ∧ h.DictOf (mixKind P w) a vs := dk_rd ok (.inl e)
theorem key_of {ks : List Key} (ok : HOk P w H h) (e : H a = some (.tup (ks.map kV))) : (tupleKind (mixKind P w)).is h ks a := by
  obtain ⟨_, its, r, o, h1, h2, n, h3⟩ := (show ObjOk P w H h a (.tup (ks.map kV)) from ok a _ e)
  exact ⟨o, its.toArray, n, h1, h2, h3, by simpa using items_are r⟩
theorem dt_rd {kvs : List (List Key × V)} (ok : HOk P w H h) (e : Rd H a (.dT kvs)) : kvs.length ≤ sizeLine ∧ (a == sysModules) = false ∧
    ∃ xs, KT H kvs xs ∧ h.DictOfH (tupleKind (mixKind P w)) a xs := by
  obtain ⟨z, y, xs, r, o, es, ep, h1, h2, h3, h4, h5⟩ := (show ObjOk P w H h a (.dT kvs) from rd_of ok e)
  refine ⟨z, y, xs, r, o, es, ep, h1, h2, h3, h4, fun x hx => ?_, h5⟩
  have all : ∀ {l : List (List Key × V)} {m : List (List Key × Addr × Value)}, KT H l m → ∀ x ∈ m, (tupleKind (mixKind P w)).is h x.1 x.2.1 := by
    intro l m q
    induction q with
    | nil => intro x hx; exact nomatch hx
    | @cons p q ps qs hq t ih =>
      intro x hx
      rcases List.mem_cons.mp hx with e | hx
      · subst e
        exact key_of ok (by rw [← hq.1]; exact hq.2.1)
      · exact ih x hx
  exact all r x hx
theorem dt_of {kvs : List (List Key × V)} (ok : HOk P w H h) (e : H a = some (.dT kvs)) : kvs.length ≤ sizeLine ∧ (a == sysModules) = false ∧
    ∃ xs, KT H kvs xs ∧ h.DictOfH (tupleKind (mixKind P w)) a xs := dt_rd ok (.inl e)
end
def DGet (H : Hp) (a : Addr) (y : V) (r : Option V) : Prop :=
  (∃ kvs k, Rd H a (.dK kvs) ∧ y = kV k ∧ r = valV kvs k) ∨ ∃ kvs k b, Rd H a (.dT kvs) ∧ y = .ref b ∧ H b = some (.tup (k.map kV)) ∧ r = valV kvs k
def DPut (H : Hp) (a : Addr) (y v : V) (H' : Hp) : Prop :=
  (∃ kvs k, H a = some (.dK kvs) ∧ y = kV k ∧ kvs.length < sizeLine ∧ H' = upd H a (.dK (putK kvs k v))) ∨
  ∃ kvs k b, H a = some (.dT kvs) ∧ y = .ref b ∧ H b = some (.tup (k.map kV)) ∧ kvs.length < sizeLine ∧ H' = upd H a (.dT (putK kvs k v))
theorem DGet.k {H : Hp} {a : Addr} {kvs : List (Key × V)} {k : Key} (e : H a = some (.dK kvs)) : DGet H a (kV k) (valV kvs k) := .inl ⟨kvs, k, .inl e, rfl, rfl⟩
theorem DPut.k {H : Hp} {a : Addr} {kvs : List (Key × V)} {k : Key} {v : V} (e : H a = some (.dK kvs)) (hl : kvs.length < sizeLine) : DPut H a (kV k) v (upd H a (.dK (putK kvs k v))) := .inl ⟨kvs, k, e, rfl, hl, rfl⟩
section
variable {X : Cx} {pins : List (Addr × Obj)} {σ : St} {H : Hp} {s : Shared} {a : Addr} {y v : V} {u r : Value} {o : Option V} {A : Around} {E : Value → Shared → Prop}
theorem Inv.big (I : Inv X pins σ H s) : sysModules < s.heap.objs.size := by
  have h : mainGlobals < s.heap.objs.size := (I.mod.glob.keeps I.bk).lt
  exact Nat.lt_trans (by decide) h
theorem d_getItem {Q : Value → Shared → Prop} (hu : A.units + 1 < cLine) (I : Inv X pins σ H s) (g : DGet H a y (some v)) (ry : RelV y u) (h : ∀ w' s', Inv X pins σ H s' → RelV v w' → Q w' s') :
    wpAny (model X.prog X.w) A (getItem (.ref a) u) Q E s := by
  rcases g with ⟨kvs, k, e, ey, l⟩ | ⟨kvs, k, b, e, ey, eb, l⟩
  · subst ey
    obtain ⟨z, hd, vs, rel, dd⟩ := dk_rd I.hok e
    obtain ⟨w', hw, rw'⟩ := RelO.some_of (v := v) (o := valueAt vs k) (by rw [l]; exact rel.val k)
    exact wpAny_getItem_of (kV_is ry) dd.mapOf hw (h w' _ (I.tok _) rw')
  · subst ey
    cases (show u = Value.ref b from ry)
    obtain ⟨z, hd, xs, rel, dd⟩ := dt_rd I.hok e
    obtain ⟨w', hw, rw'⟩ := RelO.some_of (v := v) (o := (atKey xs k).map (·.2)) (by rw [l]; exact rel.val k)
    obtain ⟨p, hp, hp2⟩ := Option.map_eq_some_iff.mp hw
    refine wpAny_getItem_heap (tupleKind_room_in1 hu) (key_of I.hok eb) dd hp ?_
    rw [hp2]
    exact h w' _ (I.tok _) rw'
theorem d_write {h' : Heap} {t' : Nat} {ob : HO} (I : Inv X pins σ H s) (mu : Mut (H a)) (hs : Heap.SameBut a s.heap h') (he : ∃ q, h'.get? a = some q) (new : ObjOk X.prog X.w (upd H a ob) h' a ob) :
    Inv X pins σ (upd H a ob) { s with heap := h', toks := t' } :=
  I.write (x := a) (e := a) mu (.inl rfl) (fun b q hb z => (hs.2 b hb).trans z) he new
theorem dk_new {P : Program} {w : World} {H' : Hp} {h' : Heap} {kvs : List (Key × V)} {vs : List (Key × Value)} (z : kvs.length ≤ sizeLine) (hd : (a == sysModules) = false) (rel : KV kvs vs) (dd : h'.DictOf (mixKind P w) a vs) :
    ObjOk P w H' h' a (.dK kvs) := ⟨z, hd, vs, rel, dd⟩
theorem d_setItem {H' : Hp} {Q : Unit → Shared → Prop} (hu : A.units + 1 < cLine) (I : Inv X pins σ H s) (g : DPut H a y v H') (ry : RelV y u) (rv : RelV v r) (h : ∀ s', Inv X pins σ H' s' → Q () s') :
    wpAny (model X.prog X.w) A (setItem (.ref a) u r) Q E s := by
  rcases g with ⟨kvs, k, e, ey, l, eH⟩ | ⟨kvs, k, b, e, ey, eb, l, eH⟩
  · subst ey eH
    obtain ⟨z, hd, vs, rel, dd⟩ := dk_of I.hok e
    have hz : vs.length ≤ sizeLine := by rw [← rel.length]; exact z
    have hl : (putK kvs k v).length ≤ sizeLine := by have := length_putK kvs k v; omega
    refine wpAny_setItem_pairs (hsz := hz) (kV_is ry) dd fun h' dd' hs => h _ ?_
    have he : ∃ q, h'.get? a = some q := let ⟨q, _, _, hq, _⟩ := dd'; ⟨q, hq⟩
    exact d_write I (by rw [e]; exact True.intro) hs he (dk_new hl hd (rel.put k rv) dd')
  · subst ey eH
    cases (show u = Value.ref b from ry)
    obtain ⟨z, hd, xs, rel, dd⟩ := dt_of I.hok e
    have hz : xs.length ≤ sizeLine := by rw [← Paired.length rel]; exact z
    have hl : (putK kvs k v).length ≤ sizeLine := by have := length_putK kvs k v; omega
    refine wpAny_setItem_heap (hsz := hz) (tupleKind_room_in1 hu) (key_of I.hok eb) dd fun h' dd' hs => h _ ?_
    obtain ⟨q, es, ep, hq, h2, h3, h4, _, h5⟩ := dd'
    refine d_write I (by rw [e]; exact True.intro) hs ⟨q, hq⟩ ⟨hl, hd, _, (rel.put k eb rv).keeps fun c ys ec => ?_, q, es, ep, hq, h2, h3, h4, h5⟩
    rw [upd_ne (ne_of ec e (fun z => nomatch z))]
    exact ec
end
section
variable {X : Cx} {pins : List (Addr × Obj)} {σ : St} {H : Hp} {s : Shared} {a : Addr} {kvs : List (Key × V)} {k : Key} {u : Value} {A : Around} {E : Value → Shared → Prop}
theorem d_delItem {Q : Unit → Shared → Prop} (I : Inv X pins σ H s) (e : H a = some (.dK kvs)) (ry : RelV (kV k) u) (l : (valV kvs k).isSome = true) (h : ∀ s', Inv X pins σ (upd H a (.dK (dropK kvs k))) s' → Q () s') :
    wpAny (model X.prog X.w) A (delItem (.ref a) u) Q E s := by
  obtain ⟨z, hd, vs, rel, dd⟩ := dk_of I.hok e
  refine wpAny_delItem_slot dd.typeIs (by decide) PySem.F.slot_dict_delitem
    (call_meetsIn PySem.F.slot_dict_delitem dd.typeIs PySem.F.entry_dict_delitem (PySem.F.args_dict_delitem_2 _ _) (meets_dict_delitem_pairs (mixKind X.prog X.w) a (kV_is ry)) ⟨vs, dd, by rw [← rel.length]; exact z, by rw [← (rel.val k).isSome_eq]; exact l, fun h' dd' hs => h _ ?_⟩)
  have he : ∃ q, h'.get? a = some q := let ⟨q, _, _, hq, _⟩ := dd'; ⟨q, hq⟩
  exact d_write I (by rw [e]; exact True.intro) hs he (dk_new (Nat.le_trans (dropK_le kvs k) z) hd (rel.drop k) dd')
theorem d_pop {v : V} {more : List Value} {Q : Value → Shared → Prop} (I : Inv X pins σ H s) (e : H a = some (.dK kvs)) (ry : RelV (kV k) u) (l : valV kvs k = some v) (hm : more = [] ∨ ∃ x, more = [x])
    (h : ∀ w' s', Inv X pins σ (upd H a (.dK (dropK kvs k))) s' → RelV v w' → Q w' s') : wpAny (model X.prog X.w) A (call (.builtin "dict.pop") (.ref a :: u :: more)) Q E s := by
  obtain ⟨z, hd, vs, rel, dd⟩ := dk_of I.hok e
  obtain ⟨w', hw, rw'⟩ := RelO.some_of (v := v) (o := valueAt vs k) (by rw [← l]; exact rel.val k)
  have hp : (keyPart u).isSome = true := by
    cases k with
    | inl i => obtain ⟨t, q⟩ := (show ∃ t, u = Value.int i t from ry); subst q; rfl
    | inr x => obtain ⟨t, q⟩ := (show ∃ t, u = Value.str x t from ry); subst q; rfl
  have ha : argsOk "dict.pop" ⟨.ref a :: u :: more, []⟩ := by
    rcases hm with q | ⟨x, q⟩
    · subst q; exact PySem.F.args_dict_pop_2 _ _
    · subst q; exact PySem.F.args_dict_pop_3 _ _ _
  refine call_meetsIn PySem.F.slot_dict_pop dd.typeIs PySem.F.entry_dict_pop ha (meets_dict_pop_there (mixKind X.prog X.w) a (kV_is ry) more hm hp)
    ⟨vs, w', dd, by rw [← rel.length]; exact z, hw, fun h' dd' hs => h w' _ ?_ rw'⟩
  have he : ∃ q, h'.get? a = some q := let ⟨q, _, _, hq, _⟩ := dd'; ⟨q, hq⟩
  exact d_write I (by rw [e]; exact True.intro) hs he (dk_new (Nat.le_trans (dropK_le kvs k) z) hd (rel.drop k) dd')
theorem d_len {Q : Value → Shared → Prop} (I : Inv X pins σ H s) (e : Rd H a (.dK kvs)) (h : ∀ t s', Inv X pins σ H s' → Q (.int kvs.length t) s') : wpAny (model X.prog X.w) A (call (.builtin "len") [.ref a]) Q E s := by
  obtain ⟨z, hd, vs, rel, dd⟩ := dk_rd I.hok e
  refine call_len_dict hd dd (by rw [← rel.length]; rw [sizeLine_eq] at z; omega) ?_
  rw [← rel.length]
  exact h _ _ (I.tok _)
end
def NoSl (i : Expr) : Prop := ∀ ov iv, subscripted i false ov iv = operate [ov, iv] (getItem ov iv)
theorem subD_of {prog : Program} {w : World} {A : Around} {E : Value → Shared → Prop} {s : Shared} {env : Env} {value slice : Expr} {pos : Pos} {T id : String} {Q : Value → Shared → Prop}
    (hl : typeLookup (.type T) "__getitem__" = pure (some (.builtin id))) (hs : NoSl slice)
    (h : wpAny (model prog w) A (eval value env) (fun o s₁ => wpAny (model prog w) A (eval slice env) (fun i s₂ => s₂.TypeIs o T ∧ wpAny (model prog w) A (getItem o i) Q E s₂) E s₁) E s) :
    wpAny (model prog w) A (eval (.Subscript value slice pos) env) Q E s := by
  refine Subscript_ (wpAny_mono h (fun o s₁ h₁ => wpAny_mono h₁ (fun i s₂ h₂ => ?_) fun _ _ x => x) fun _ _ x => x)
  obtain ⟨hT, h₂⟩ := h₂
  unfold subscriptTail
  refine wpAny_bind ?_
  rw [getitemInPython_of_ne hT.not_modules]
  refine wpAny_bind (wpAny_specialOf hT hl ?_)
  have fin : wpAny (model prog w) A (subscripted slice false o i) (fun r s₃ => wpAny (model prog w) A (letTemporaryGo value o r >>= fun _ => pure r) Q E s₃) E s₂ := by
    rw [hs o i]
    exact wpAny_operating (wpAny_mono h₂ (fun r s₃ h₃ => wpAny_bind (wpAny_letTemporaryGo (wpAny_pure h₃))) fun _ _ x => x)
  first
    | exact wpAny_pure (wpAny_bind fin)
    | exact wpAny_bind (wpAny_pure (wpAny_bind fin))
    | exact wpAny_bind fin
theorem dict_typeIs {X : Cx} {pins : List (Addr × Obj)} {σ : St} {H : Hp} {s : Shared} {a : Addr} {y : V} {o : Option V} (I : Inv X pins σ H s) (g : DGet H a y o) : s.TypeIs (.ref a) "dict" := by
  rcases g with ⟨kvs, k, e, _, _⟩ | ⟨kvs, k, b, e, _, _, _⟩
  · obtain ⟨_, _, vs, _, dd⟩ := dk_rd I.hok e
    exact dd.typeIs
  · obtain ⟨_, _, xs, _, dd⟩ := dt_rd I.hok e
    exact dd.typeIs
def tDGet (td ty : TE) : TE := fun σ H Q => td σ H fun x H1 => ty σ H1 fun y H2 => ∃ a v, x = .ref a ∧ DGet H2 a y (some v) ∧ Q v H2
def sDPut (td ty tv : TE) : TS := fun D σ H => tv σ H fun v H1 => td σ H1 fun x H2 => ty σ H2 fun y H3 => ∃ a H4, x = .ref a ∧ DPut H3 a y v H4 ∧ D.nx σ H4
section
variable {X : Cx} {o i e value : Expr} {pos pos' tpos : Pos} {td ty tv : TE}
theorem pe_dget (hu : X.A.units + 1 < cLine) (ho : PE X o td) (hi : PE X i ty) (hs : NoSl i) : PE X (.Subscript o i pos) (tDGet td ty) := by
  intro pins s σ H Q I h
  refine subD_of PySem.F.slot_dict_getitem.lookup hs (thn (ho pins s σ H _ I h) fun u s1 ⟨x, H1, I1, rx, q1⟩ => thn (hi pins s1 σ H1 _ I1 q1) fun iv s2 ⟨y, H2, I2, ry, a, v, ex, g, q2⟩ => ?_)
  subst ex
  obtain rfl : u = Value.ref a := rx
  exact ⟨dict_typeIs I2 g, d_getItem hu I2 g ry fun w' s3 I3 rw' => ⟨v, H2, I3, rw', q2⟩⟩
theorem ps_dput (hu : X.A.units + 1 < cLine) (ho : PE X o td) (hi : PE X i ty) (hv : PE X value tv) (hs : swapsWith value (some (.Subscript o i pos')) pos.line X.env = pure false) :
    PS X (.Assign [.Subscript o i pos'] value pos) (sDPut td ty tv) := by
  intro pins s σ H D I h
  refine wpAny_Assign_Subscript (thn (hv pins s σ H _ I h) fun r s1 ⟨v, H1, I1, rv, q1⟩ => thn (ho pins s1 σ H1 _ I1 q1) fun u s2 ⟨x, H2, I2, rx, q2⟩ => thn (hi pins s2 σ H2 _ I2 q2) fun iv s3 ⟨y, H3, I3, ry, a, H4, ex, g, q3⟩ => ?_) hs
  subst ex
  obtain rfl : u = Value.ref a := rx
  exact d_setItem hu I3 g ry rv fun s4 I4 => ⟨σ, H4, I4, q3⟩
end
theorem dk_empty {P : Program} {w : World} {H : Hp} (h : Heap) (hb : sysModules < h.objs.size) : ObjOk P w H (h.push { cls := .type "dict", data := .dict #[] }) h.objs.size (.dK []) :=
  ⟨Nat.zero_le _, beq_eq_false_iff_ne.mpr (Ne.symm (Nat.ne_of_lt hb)), [], .nil, Heap.DictOf.new h⟩
def tDNewK : TE := fun _ H Q => ∀ p, H p = none → Q (.ref p) (upd H p (.dK []))
section
variable {X : Cx} {pos : Pos}
theorem pe_dnewK : PE X (.Dict [] [] pos) tDNewK := fun pins s σ H Q I h =>
  wpAny_Dict_empty ⟨.ref s.heap.objs.size, _, I.laid (a := s.heap.objs.size) (o := .dK []) (t' := s.toks) (fun _ _ q => Heap.get?_push_of_some _ q) (Nat.le_refl _) (dk_empty s.heap I.big), rfl, h _ (I.hok.fresh (Nat.le_refl _))⟩
end
structure M1 (X : Cx) (o : Expr) (m : Str) (apos : Pos) (e : Expr) (cpos : Pos) : Prop where
  base : attributeBase o m X.env (eval o X.env) = eval o X.env
  few : ((backTo cpos (starEach [e] X.env)).all (fun x => !x.1) && (backToKw cpos (keywordEach [] X.env)).all (fun x => x.1.isSome)
    && decide (([e] : List Expr).length + ([] : List Keyword).length + (if ([] : List Keyword).isEmpty then 0 else 1) < 30)) = true
  line : (apos.endLine == cpos.line) = true
  trees : backTo cpos (starEach [e] X.env) = [(false, eval e X.env)]
structure M2 (X : Cx) (o : Expr) (m : Str) (apos : Pos) (e f : Expr) (cpos : Pos) : Prop where
  base : attributeBase o m X.env (eval o X.env) = eval o X.env
  few : ((backTo cpos (starEach [e, f] X.env)).all (fun x => !x.1) && (backToKw cpos (keywordEach [] X.env)).all (fun x => x.1.isSome)
    && decide (([e, f] : List Expr).length + ([] : List Keyword).length + (if ([] : List Keyword).isEmpty then 0 else 1) < 30)) = true
  line : (apos.endLine == cpos.line) = true
  trees : backTo cpos (starEach [e, f] X.env) = [(false, eval e X.env), (false, eval f X.env)]
def IsD (H : Hp) (a : Addr) : Prop := (∃ kvs, Rd H a (.dK kvs)) ∨ ∃ kvs, Rd H a (.dT kvs)
theorem isD_at {X : Cx} {pins : List (Addr × Obj)} {σ : St} {H : Hp} {s : Shared} {a : Addr} (I : Inv X pins σ H s) (d : IsD H a) :
    s.TypeIs (.ref a) "dict" ∧ (∀ b, Value.ref a = .ref b → ∃ ob, s.heap.get? b = some ob ∧ ob.dict = none) ∧ (a == sysModules) = false := by
  rcases d with ⟨kvs, e⟩ | ⟨kvs, e⟩
  · obtain ⟨_, hd, vs, _, dd⟩ := dk_rd I.hok e
    refine ⟨dd.typeIs, fun b q => ?_, hd⟩
    cases q
    obtain ⟨ob, _, _, h1, h2, _⟩ := dd
    exact ⟨ob, h1, h2.2.1⟩
  · obtain ⟨_, hd, xs, _, dd⟩ := dt_rd I.hok e
    refine ⟨dd.typeIs, fun b q => ?_, hd⟩
    cases q
    obtain ⟨ob, _, _, h1, h2, _⟩ := dd
    exact ⟨ob, h1, h2.2.1⟩
section
variable {X : Cx} {pins : List (Addr × Obj)} {σ : St} {H : Hp} {s : Shared} {a : Addr} {y d : V} {u r : Value} {o : Option V} {A : Around} {E : Value → Shared → Prop}
theorem d_get2 {Q : Value → Shared → Prop} (hu : A.units + 1 < cLine) (I : Inv X pins σ H s) (g : DGet H a y o) (ry : RelV y u) (rd : RelV d r) (h : ∀ w' s', Inv X pins σ H s' → RelV (o.getD d) w' → Q w' s') :
    wpAny (model X.prog X.w) A (call (.builtin "dict.get") [.ref a, u, r]) Q E s := by
  rcases g with ⟨kvs, k, e, ey, l⟩ | ⟨kvs, k, b, e, ey, eb, l⟩
  · subst ey
    obtain ⟨z, hd, vs, rel, dd⟩ := dk_rd I.hok e
    refine call_meetsIn PySem.F.slot_dict_get dd.typeIs PySem.F.entry_dict_get (PySem.F.args_dict_get_3 _ _ _) (meets_dict_get_default (mixKind X.prog X.w) a (kV_is ry) hd r) ⟨_, dd.mapOf, h _ _ (I.tok _) ?_⟩
    rw [l]
    exact (rel.val k).getD rd
  · subst ey
    cases (show u = Value.ref b from ry)
    obtain ⟨z, hd, xs, rel, dd⟩ := dt_rd I.hok e
    refine call_meetsIn PySem.F.slot_dict_get dd.typeIs PySem.F.entry_dict_get (PySem.F.args_dict_get_3 _ _ _) (meetsH_dict_get_default (tupleKind (mixKind X.prog X.w)) a b hd r) ⟨tupleKind_room_in1 hu, k, xs, key_of I.hok eb, dd, h _ _ (I.tok _) ?_⟩
    rw [l]
    exact (rel.val k).getD rd
end
def tDGet2 (td ty tx : TE) : TE := fun σ H Q => td σ H fun x H1 => ∃ a, x = .ref a ∧ IsD H1 a ∧ ty σ H1 fun y H2 => tx σ H2 fun z H3 => ∃ o, DGet H3 a y o ∧ Q (o.getD z) H3
def tDPop1 (td ty : TE) : TE := fun σ H Q => td σ H fun x H1 => ∃ a, x = .ref a ∧ IsD H1 a ∧ ty σ H1 fun y H2 => ∃ kvs k v, H2 a = some (.dK kvs) ∧ y = kV k ∧ valV kvs k = some v ∧ Q v (upd H2 a (.dK (dropK kvs k)))
section
variable {X : Cx} {o e f : Expr} {apos cpos : Pos} {td ty tx : TE}
theorem pe_dget2 (hu : X.A.units + 1 < cLine) (ho : PE X o td) (he : PE X e ty) (hf : PE X f tx) (m : M2 X o "get" apos e f cpos) : PE X (.Call (.Attribute o "get" apos) [e, f] [] cpos) (tDGet2 td ty tx) := by
  intro pins s σ H Q I h
  refine wpAny_Call_method m.base m.few m.line PySem.F.plainAttrs_dict PySem.F.slot_dict_get PySem.F.type_dict_get (thn (ho pins s σ H _ I h) fun u s1 ⟨x, H1, I1, rx, a, ex, d, q1⟩ => ?_)
  subst ex
  obtain rfl : u = Value.ref a := rx
  obtain ⟨t1, t2, _⟩ := isD_at I1 d
  refine ⟨t1, t2, ?_⟩
  rw [m.trees]
  refine Calls.callWith_builtin rfl (Calls.evalArgs_plain (Calls.spliced_cons (thn (he pins s1 σ H1 _ I1 q1) fun iv s2 ⟨y, H2, I2, ry, q2⟩ =>
    Calls.spliced_cons (thn (hf pins s2 σ H2 _ I2 q2) fun fv s3 ⟨z, H3, I3, rz, ov, g, q3⟩ => Calls.spliced_nil ?_))))
  exact d_get2 hu I3 g ry rz fun w' s4 I4 rw' => ⟨_, H3, I4, rw', q3⟩
theorem pe_dpop1 (ho : PE X o td) (he : PE X e ty) (m : M1 X o "pop" apos e cpos) : PE X (.Call (.Attribute o "pop" apos) [e] [] cpos) (tDPop1 td ty) := by
  intro pins s σ H Q I h
  refine wpAny_Call_method m.base m.few m.line PySem.F.plainAttrs_dict PySem.F.slot_dict_pop PySem.F.type_dict_pop (thn (ho pins s σ H _ I h) fun u s1 ⟨x, H1, I1, rx, a, ex, d, q1⟩ => ?_)
  subst ex
  obtain rfl : u = Value.ref a := rx
  obtain ⟨t1, t2, _⟩ := isD_at I1 d
  refine ⟨t1, t2, ?_⟩
  rw [m.trees]
  refine Calls.callWith_builtin rfl (Calls.evalArgs_plain (Calls.spliced_cons (thn (he pins s1 σ H1 _ I1 q1) fun iv s2 ⟨y, H2, I2, ry, kvs, k, v, ea, ey, l, q2⟩ => Calls.spliced_nil ?_)))
  subst ey
  exact d_pop I2 ea ry l (.inl rfl) fun w' s3 I3 rw' => ⟨v, _, I3, rw', q2⟩
end
section
variable {X : Cx} {pins : List (Addr × Obj)} {σ : St} {H : Hp} {s : Shared} {a : Addr} {kvs : List (Key × V)} {A : Around} {E : Value → Shared → Prop}
end
section
variable {X : Cx} {pins : List (Addr × Obj)} {σ : St} {H : Hp} {s : Shared} {a : Addr} {y : V} {u : Value} {A : Around} {E : Value → Shared → Prop}
end
end L2
namespace L2
open PySem PySem.Spec PyProof.Rows
section
variable {X : Cx}
theorem call_lenD : CallR X (.builtin "len") (fun xs H Q => ∃ a kvs, xs = [V.ref a] ∧ H a = some (.dK kvs) ∧ Q (.int kvs.length) H) := by
  intro pins s σ H xs us Q I r h
  obtain ⟨a, kvs, rfl, ha, q⟩ := h
  obtain ⟨u, rfl, ru⟩ := vals1 r
  cases ru
  exact d_len I (.inl ha) fun t s' I' => ⟨.int kvs.length, H, I', ⟨t, rfl⟩, q⟩
end
section
variable {κ : Type} [DecidableEq κ]
theorem nd_snoc : ∀ {l : List κ} {k : κ}, l.Nodup → ¬ k ∈ l → (l ++ [k]).Nodup
  | [], k, _, _ => by simp
  | a :: r, k, h, hk => by
    obtain ⟨h1, h2⟩ := List.nodup_cons.mp h
    show (a :: (r ++ [k])).Nodup
    refine List.nodup_cons.mpr ⟨fun m => ?_, nd_snoc h2 fun m => hk (List.mem_cons.mpr (Or.inr m))⟩
    rcases List.mem_append.mp m with q | q
    · exact h1 q
    · exact hk (List.mem_cons.mpr (Or.inl (List.mem_singleton.mp q).symm))
end
end L2
set_option maxRecDepth 100000
set_option Elab.async false
set_option linter.all false
namespace L2
open PySem PySem.Spec PySem.W PyProof.Rows
inductive DV where
  | f (v : V) | t (ds : List DV) | l (ds : List DV)
section
variable {X : Cx} {pins : List (Addr × Obj)} {σ : St} {H : Hp} {s : Shared}
end
section
variable {X : Cx} {pins : List (Addr × Obj)} {σ : St} {H : Hp} {s : Shared}
end
section
variable {X : Cx}
def cutS (z : Str) (lo hi : Option Int) : Str := ⟨((z.cps.toList.drop (HT.sIx z.length 0 lo)).take (HT.sIx z.length z.length hi - HT.sIx z.length 0 lo)).toArray⟩
theorem slice_ix (lo hi : Option Int) (n : Nat) : Builtin.Str.strSliceIndices lo hi 1 n = (List.range (HT.sIx n n hi - HT.sIx n 0 lo)).map fun m => HT.sIx n 0 lo + m := by
  have clip : ∀ (o : Option Int) (d : Nat), (match o with | none => ((d : Nat) : Int) | some i => max 0 (min (if i < 0 then i + (n : Int) else i) (n : Int))) = ((HT.sIx n d o : Nat) : Int) := by
    intro o d
    cases o with
    | none => rfl
    | some v =>
      show max 0 (min (if v < 0 then v + (n : Int) else v) (n : Int)) = (((if v < 0 then (v + (n : Int)).toNat else min v.toNat n) : Nat) : Int)
      by_cases hv : v < 0
      · rw [if_pos hv, if_pos hv]; omega
      · rw [if_neg hv, if_neg hv]; omega
  have key : ∀ a b : Nat, sliceRange (a : Int) (b : Int) 1 = (List.range (b - a)).map fun m => a + m := by
    intro a b
    unfold sliceRange
    simp only [show (1 : Int) > 0 by decide, if_true, Int.ediv_one]
    have hc : (if (a : Int) < (b : Int) then ((b : Int) - (a : Int) + 1 - 1) else 0).toNat = b - a := by split <;> omega
    rw [hc]
    refine List.map_congr_left fun m _ => ?_
    omega
  unfold Builtin.Str.strSliceIndices
  simp only [show (1 : Int) > 0 by decide, if_true]
  exact (congr (congrArg (fun p q => sliceRange p q 1) (clip lo 0)) (clip hi n)).trans (key _ _)
theorem pick_at (l : List Nat) (a : Nat) : ∀ k : Nat, ((List.range k).map fun m => a + m).filterMap (fun j => l[j]?) = (l.drop a).take k
  | 0 => by simp
  | k + 1 => by
    rw [List.range_succ, List.map_append, List.filterMap_append, pick_at l a k, List.take_add_one]
    congr 1
    simp only [List.map_cons, List.map_nil, List.filterMap_cons, List.filterMap_nil, List.getElem?_drop]
    cases l[a + k]? <;> rfl
theorem cut_made (z : Str) (t : Tok) (l u : Option (Int × Tok)) : ∃ b : Bool, PySem.sliceMade z t l u none = if b then .val (.str (cutS z (l.map (·.1)) (u.map (·.1))) t) else .str (cutS z (l.map (·.1)) (u.map (·.1))) := by
  have hp : ((PySem.slicePicked z l u none).filterMap (z.cps[·]?)).toArray = (cutS z (l.map (·.1)) (u.map (·.1))).cps := by
    unfold PySem.slicePicked cutS
    rw [show ((none : Option (Int × Tok)).map (·.1)).getD 1 = (1 : Int) from rfl, slice_ix]
    have e : (fun (j : Nat) => z.cps[j]?) = fun (j : Nat) => z.cps.toList[j]? := by funext j; simp
    rw [e, pick_at]
  unfold PySem.sliceMade
  by_cases hw : (((none : Option (Int × Tok)).map (·.1)).getD 1 == 1 && (PySem.slicePicked z l u none).length == z.length) = true
  · refine ⟨true, ?_⟩
    rw [if_pos hw, if_pos rfl]
    have hl : (PySem.slicePicked z l u none).length = z.length := by
      rw [Bool.and_eq_true] at hw; simpa using hw.2
    have hz : cutS z (l.map (·.1)) (u.map (·.1)) = z := by
      unfold PySem.slicePicked at hl
      rw [show ((none : Option (Int × Tok)).map (·.1)).getD 1 = (1 : Int) from rfl, slice_ix, List.length_map, List.length_range] at hl
      have h1 := HT.sIx_le z.length 0 (Nat.zero_le _) (l.map (·.1))
      have h2 := HT.sIx_le z.length z.length (Nat.le_refl _) (u.map (·.1))
      by_cases h0 : z.length = 0
      · have e1 : z.cps.toList = [] := List.eq_nil_of_length_eq_zero (by rw [Array.length_toList]; exact h0)
        cases z with
        | mk cps =>
          unfold cutS
          have e1 : cps.toList = [] := e1
          simp only [e1, List.drop_nil, List.take_nil]
          congr 1
          exact Array.toList_inj.mp (by rw [e1])
      · have ha : HT.sIx z.length 0 (l.map (·.1)) = 0 := by omega
        have hb : HT.sIx z.length z.length (u.map (·.1)) = z.length := by omega
        cases z with
        | mk cps =>
          unfold cutS
          rw [ha, hb, List.drop_zero, Nat.sub_zero]
          congr 1
          have : cps.toList.take (Str.length ⟨cps⟩) = cps.toList := List.take_of_length_le (by rw [Array.length_toList]; exact Nat.le_refl _)
          rw [this]
    rw [hz]
  · refine ⟨false, ?_⟩
    rw [if_neg hw, hp]
    rfl
def rSlS : V → Option Int → Option Int → Hp → VK → Prop := fun x lo hi H Q => ∃ z, x = .str z ∧ z.length ≤ sizeLine ∧ Q (.str (cutS z lo hi)) H
theorem cutS_len (z : Str) (lo hi : Option Int) : (cutS z lo hi).length ≤ z.length := by
  show ((z.cps.toList.drop _).take _).toArray.size ≤ z.cps.size
  rw [List.size_toArray, List.length_take, List.length_drop, Array.length_toList]
  omega
theorem sl_str : SlR X rSlS := by
  intro pins s σ H x v vl vu lo hi sl Q I rx hs pl pu h
  obtain ⟨z, rfl, hz, q⟩ := h
  obtain ⟨t, rfl⟩ := rx
  refine ⟨"str", _, F.slot_str_getitem.lookup, typeIs_str _ _ _, ?_⟩
  have fin : ∀ (l u : Option (Int × Tok)), l.map (·.1) = lo → u.map (·.1) = hi → s.heap.IsSlice sl l u none → wpAny (model X.prog X.w) X.A (getItem (.str z t) (.ref sl)) (EP X pins σ Q) X.xe s := by
    intro l u el eu hsl
    refine wpAny_getItem_str_slice hsl rfl ?_
    obtain ⟨b, e⟩ := cut_made z t l u
    rw [e, el, eu]
    cases b with
    | true => exact ⟨.str (cutS z lo hi), H, I, ⟨t, rfl⟩, q⟩
    | false => exact ⟨Nat.le_trans (cutS_len z lo hi) hz, .str (cutS z lo hi), H, I.tok _, ⟨_, rfl⟩, q⟩
  cases pl with
  | none =>
    cases pu with
    | none => exact fin none none rfl rfl hs
    | int j tj => exact fin none (some (j, tj)) rfl rfl hs
  | int i ti =>
    cases pu with
    | none => exact fin (some (i, ti)) none rfl rfl hs
    | int j tj => exact fin (some (i, ti)) (some (j, tj)) rfl rfl hs
end
theorem lcR {te : TE} {cs : St} {H1 : Hp} {Q : Addr → Hp → Prop} {lo : Int} {n : Nat} (f : Nat → V) (hz : n ≤ sizeLine)
    (hx : ∀ (i : Nat) (H' : Hp) (R : VK), i < n → Same H1 H' → R (f i) H' → te (some (.int (lo + i)) :: cs) H' R) (q : ∀ D H2, New H1 D (.lst ((List.range n).map f)) H2 → Q D H2) :
    ∀ D, H1 D = none → ∃ W : Nat → Nat → List V → Hp → Prop, (∃ m, W 0 m [] (upd H1 D (.lst []))) ∧ ∀ i m ys H, W i m ys H →
      H D = some (.lst ys) ∧ (((Itr lo n).stop i H ∧ Q D H) ∨ ((Itr lo n).go i H ∧ ys.length < sizeLine ∧ ∀ x H', (Itr lo n).yld i H x H' → tYes (some x :: cs) H' fun b H2 =>
        if b = true then te (some x :: cs) H2 fun y H3 => H3 D = some (.lst ys) ∧ ∃ m', m' < m ∧ W (i + 1) m' (ys ++ [y]) (upd H3 D (.lst (ys ++ [y]))) else ∃ m', m' < m ∧ W (i + 1) m' ys H2)) := by
  intro D hD
  refine ⟨fun i m ys H => m = n - i ∧ i ≤ n ∧ ys = (List.range i).map f ∧ H = upd H1 D (.lst ys), ⟨n, by simp, Nat.zero_le _, by simp, rfl⟩, ?_⟩
  rintro i m ys H ⟨rfl, hi, hys, rfl⟩
  have s1 : Same H1 (upd H1 D (.lst ys)) := Same.upd (Same.refl H1) hD
  refine ⟨upd_same, ?_⟩
  by_cases hlt : i < n
  · have hyl : ys.length = i := by rw [hys, List.length_map, List.length_range]
    refine .inr ⟨hlt, by omega, fun x H' y => ?_⟩
    obtain ⟨e, y⟩ := y
    subst e y
    unfold tYes
    dsimp only
    rw [if_pos rfl]
    refine hx i _ _ hlt s1 ⟨upd_same, n - (i + 1), by omega, rfl, hlt, ?_, by rw [upd_upd]⟩
    rw [List.range_succ, List.map_append, ← hys]; rfl
  · have e : i = n := by omega
    subst e
    refine .inl ⟨Nat.le_refl _, ?_⟩
    rw [hys]
    exact q D _ ⟨hD, rfl⟩
def rLenS : List V → Hp → VK → Prop := fun xs H Q => ∃ z, xs = [.str z] ∧ z.length ≤ sizeLine ∧ Q (.int z.length) H
theorem call_lenS {X : Cx} : CallR X (.builtin "len") rLenS := call_len_str
def rAddS : R2 := fun x y H Q => ∃ i j, x = .str i ∧ y = .str j ∧ i.length + j.length ≤ sizeLine ∧ Q (.str (i ++ j)) H
theorem op_addS {X : Cx} : OpR X (binaryOp .Add) rAddS := op_add_str
section
variable {σ : St} {H : Hp} {Q : VK} {D : Ends}
theorem i_raise {ES : XS} {C : Addr} {t : TA} (q : t σ H fun vs H1 => vs.length ≤ sizeLine ∧ ES σ (.ref C) none H1) : tRaise ES C t D σ H := q
theorem i_try {K : Frag} {Cy : Addr} {i : Nat} {tb : XS → TS} {th : TS} (q : tb (tClause K Cy i th D) D σ H) : tTry K Cy i tb th D σ H := q
theorem i_addS {x y : Str} (h : x.length + y.length ≤ sizeLine) (q : Q (.str (x ++ y)) H) : rAddS (.str x) (.str y) H Q := ⟨x, y, rfl, rfl, h, q⟩
theorem i_slS {z : Str} {lo hi : Option Int} (h : z.length ≤ sizeLine) (q : Q (.str (cutS z lo hi)) H) : rSlS (.str z) lo hi H Q := ⟨z, rfl, h, q⟩
theorem i_ixS {K : Frag} {z : Str} {i : Int} {c : Nat} (h : z.length ≤ sizeLine) (a : atI z.cps.toList i = some c) (q : Q (.str ⟨#[c]⟩) H) : rIx K (.str z) (.int i) H Q := .inr (.inr ⟨z, i, c, rfl, rfl, h, a, q⟩)
theorem i_bm {K : Frag} {T : String} {r : V → List V → Hp → VK → Prop} {to : TE} {t : TA} (q : to σ H fun x H1 => tyV K T x H1 ∧ t σ H1 fun xs H2 => r x xs H2 Q) : tBM K T r to t σ H Q := q
def rCatA (K : Frag) : R2 := fun x y H Q => ∃ l b xs zs, x = .ref l ∧ y = .ref b ∧ H l = some (.lst xs) ∧ H b = some (.lst zs) ∧ xs.length + zs.length ≤ sizeLine ∧ ∀ p H2, New H p (.lst (xs ++ zs)) H2 → Q (.ref p) H2
theorem op_catA {X : Cx} : OpR X (binaryOp .Add) (rCatA X.K) := fun pins s σ H x y v u Q I rx ry ⟨l, b, xs, zs, e1, e2, h1, h2, z, q⟩ => op_cat pins s σ H x y v u Q I rx ry ⟨l, b, xs, zs, e1, e2, h1, h2, z, fun p hp => q p _ ⟨hp, rfl⟩⟩
theorem i_catA {K : Frag} {l b : Addr} {xs zs : List V} (h1 : H l = some (.lst xs)) (h2 : H b = some (.lst zs)) (z : xs.length + zs.length ≤ sizeLine) (q : ∀ p H2, New H p (.lst (xs ++ zs)) H2 → Q (.ref p) H2) : rCatA K (.ref l) (.ref b) H Q := ⟨l, b, xs, zs, rfl, rfl, h1, h2, z, q⟩
end
theorem PE.imp {X : Cx} {e : Expr} {t t' : TE} (h : PE X e t) (i : ∀ σ H Q, t' σ H Q → t σ H Q) : PE X e t' := fun pins s σ H Q I q => h pins s σ H Q I (i _ _ _ q)
def tMakeA (C : Addr) : TE := fun _ H Q => ∀ x dx H2, NewI H x dx C [] H2 → Q (.ref x) H2
theorem pe_makeA {X : Cx} {C : Addr} {x : Str} {p pos : Pos} (M : MkN X.K C) (hg : Gl X x) (hm : X.mg x = some (.ref C)) (hdb : (x == ("__debug__" : Str)) = false := by decide) : PE X (.Call (.Name x p) [] [] pos) (tMakeA C) :=
  (pe_makeN M hg hm hdb).imp fun _ _ _ q x dx hx hd ne => q x dx _ ⟨hx, hd, ne, rfl⟩
theorem boot_ValueError : bootBuiltins "ValueError" = some (.type "ValueError") := by decide +kernel
theorem i_iteDt {c A B : Prop} [Decidable c] (h : c) (q : A) : if decide c = true then A else B := by rw [decide_eq_true h]; exact iteT q
theorem i_iteDf {c A B : Prop} [Decidable c] (h : ¬ c) (q : B) : if decide c = true then A else B := by rw [decide_eq_false h]; exact iteF q
theorem i_lenS {z : Str} {H : Hp} {Q : VK} (h : z.length ≤ sizeLine) (q : Q (.int z.length) H) : rLenS [.str z] H Q := ⟨z, rfl, h, q⟩
theorem i_inL {K : Frag} {x : V} {p : Addr} {xs : List V} {H : Hp} {Q : VK} (h : SqL K H p xs) (fx : flatV x = true) (f : xs.all flatV = true) (q : Q (.bl (inV x xs)) H) : rIn K false x (.ref p) H Q := ⟨p, xs, rfl, .inl h, fx, f, q⟩
theorem i_ninL {K : Frag} {x : V} {p : Addr} {xs : List V} {H : Hp} {Q : VK} (h : SqL K H p xs) (fx : flatV x = true) (f : xs.all flatV = true) (q : Q (.bl (!inV x xs)) H) : rIn K true x (.ref p) H Q := ⟨p, xs, rfl, .inl h, fx, f, q⟩
end L2
set_option maxRecDepth 100000
set_option Elab.async false
set_option linter.all false
namespace L2
open PySem PySem.Spec PySem.W PyProof.Rows
theorem Inv.turnedL {X : Cx} {pins : List (Addr × Obj)} {σ : St} {H : Hp} {s : Shared} {h' : Heap} {t' : Nat} {fp : List Addr} (I : Inv X pins σ H s) (f : ∀ b ∈ fp, FpOk X pins H b) (k : ∀ b o, b ∉ fp → s.heap.get? b = some o → h'.get? b = some o) :
    Inv X pins σ H { s with heap := h', toks := t' } := by
  have nit : ∀ b u, H b = some u → b ∉ fp := fun b u e z => by rw [(f b z).1] at e; cases e
  refine I.step (g' := s.gens) (d' := s.drawn) (ch := fp) (fun b hb => ?_) (fun b o _ _ hc e _ => k b o hc e) (fun b o _ _ hc e _ => ⟨o.slots, k b o hc e⟩) (fun _ _ _ _ n => n)
    (fun b o hc e => ⟨o, k b o hc e⟩) (fun _ _ e => e) (fun _ _ _ e => e) (fun b ps e => ⟨#[], by rw [e]; simp⟩) (fun m hm => ?_) (fun b u e => ?_) I.bare
  · obtain ⟨f0, f1, f2, f3, f4, f5⟩ := f b hb
    exact ⟨f3, f1, f4, f5⟩
  · obtain ⟨o, es, ep, ho, r⟩ := hm
    exact ⟨o, es, ep, k _ o (fun z => (f _ z).2.1 rfl) ho, r⟩
  · refine (I.hok b u e).stay (fun c v hc q => k c v ?_ q) (fun _ q => q) fun _ _ q => q
    rcases hc with z | z
    · rw [z]; exact nit b u e
    · exact nit c _ z
def Its (z : Str) : It := ⟨fun i _ => i < z.cps.size, fun i H x H' => H' = H ∧ ∃ c, z.cps.toList[i]? = some c ∧ x = .str ⟨#[c]⟩, fun i _ => i = z.cps.size⟩
theorem turn_str {P : Program} {w : World} {K : Frag} {tg : Expr} (it : Addr) (z : Str) (t : Tok) (ty : String) (hty : ty = "str_ascii_iterator" ∨ ty = "str_iterator") : Turn P w K tg (Its z) [it] it (fun i h => h.IsStrIter it ty z t i) where
  mem := by simp
  obj := fun i h st b hb => by
    have e : b = it := by simpa using hb
    subst e
    obtain ⟨o, ho, _, hd⟩ := st
    exact ⟨o, ho, fun v q => by rw [hd] at q; cases q⟩
  keep := fun i h h' st k => let ⟨o, ho, r⟩ := st; ⟨o, k it (by simp) o ho, r⟩
  item := by
    intro X hP hw hK hc i pins s σ H E I hf st hg
    subst hP hw hK
    have W : Walks X.prog X.w X.A it [it] [it] z.cps.size (SignAt z) (fun i h => h.IsStrIter it ty z t i) := by
      rcases hty with rfl | rfl
      · exact Walks.strAscii (I.ok.hd hc) it z t
      · exact Walks.strWide (I.ok.hd hc) it z t
    refine W.item i s _ _ hg st fun v h' tk hv st' kk => ?_
    obtain ⟨c, u, hc1, rfl⟩ := hv
    have I1 : Inv X pins σ H { s with heap := h', toks := tk } := I.turnedL hf fun b o hb e => kk b o hb e
    obtain ⟨o, ho, hcl, hd⟩ := id st'
    refine ⟨_, rfl, go_of (s := { s with heap := h', toks := tk }) (n := ty) ho hcl hd (by rcases hty with rfl | rfl <;> decide) ⟨.str ⟨#[c]⟩, H, I1, ⟨u, rfl⟩, ⟨rfl, c, by simpa using hc1, rfl⟩, st', fun b hb => (hf b hb).1⟩⟩
  done := by
    intro X hP hw hK hc i pins s σ H E I hf st hg
    subst hP hw hK
    have W : Walks X.prog X.w X.A it [it] [it] z.cps.size (SignAt z) (fun i h => h.IsStrIter it ty z t i) := by
      rcases hty with rfl | rfl
      · exact Walks.strAscii (I.ok.hd hc) it z t
      · exact Walks.strWide (I.ok.hd hc) it z t
    have e : i = z.cps.size := hg
    subst e
    exact W.done s _ _ st fun h' tk kk => ⟨rfl, I.turnedL hf fun b o hb e => kk b o hb e⟩
  self := fun _ _ _ _ _ st h => by
    rcases hty with rfl | rfl
    · exact wpAny_pyIter_striter_ascii st h
    · exact wpAny_pyIter_striter_wide st h
def iStr (tl : TE) : TI := fun σ H R => tl σ H fun x H1 => ∃ z, x = .str z ∧ R (Its z) H1
theorem pi_str {X : Cx} {tg l : Expr} {tl : TE} (hl : PE X l tl) : PI X tg l (iStr tl) := by
  intro pins s σ H R I h
  refine thn (hl pins s σ H _ I h) fun v s1 ⟨x, H1, I1, r1, q1⟩ => ?_
  obtain ⟨z, e, q⟩ := q1
  subst e
  obtain ⟨t, rfl⟩ := r1
  have fin : ∀ ty : String, (ty = "str_ascii_iterator" ∨ ty = "str_iterator") → PIE X pins σ tg R (.ref s1.heap.objs.size) { s1 with heap := s1.heap.push { cls := .type ty, data := .fields #[.str z t, .int 0 0] } } := fun ty hty => by
    refine ⟨s1.heap.objs.size, [s1.heap.objs.size], _, _, H1, rfl, I1.kept (t' := s1.toks) fun b o e => Heap.get?_push_of_some _ e, turn_str _ z t ty hty, ⟨_, Heap.get?_push_size _ rfl, rfl, rfl⟩, fun b hb => ?_, q⟩
    have e : b = s1.heap.objs.size := by simpa using hb
    subst e
    exact I1.fpOk (Nat.le_refl _) (I1.hok.fresh (Nat.le_refl _))
  cases ha : z.cps.all (· < 128)
  · exact wpAny_pyIter_wide ha (fin _ (.inr rfl))
  · exact wpAny_pyIter_ascii ha (fin _ (.inl rfl))
def Ite (K : Frag) (l : Addr) : It :=
  ⟨fun i H => ∃ xs x, SqL K H l xs ∧ xs[i]? = some x, fun i H v H' => ∃ T x, v = .ref T ∧ New H T (.tup [.int (i : Int), x]) H' ∧ ∀ xs, SqL K H l xs → xs[i]? = some x, fun i H => ∃ xs, SqL K H l xs ∧ xs.length ≤ i⟩
theorem turn_enum {P : Program} {w : World} {K : Frag} {es : List Expr} {k : Nat} {tp : Pos} (e it l : Addr) (hei : e ≠ it) : Turn P w K (.Tuple es k tp) (Ite K l) [e, it] e (fun i h => (∃ old, IsEnum h e it (i : Nat) old) ∧ h.IsListIter it l i) where
  mem := by simp
  obj := fun i h st b hb => by
    obtain ⟨⟨old, he⟩, o, ho, hc, hd⟩ := st
    rcases List.mem_cons.mp hb with rfl | hb
    · exact ⟨_, he, fun v z => by cases z⟩
    · have e2 : b = it := by simpa using hb
      subst e2
      exact ⟨o, ho, fun v z => by rw [hd] at z; cases z⟩
  keep := fun i h h' st kk => by
    obtain ⟨⟨old, he⟩, o, ho, r⟩ := st
    exact ⟨⟨old, kk e (by simp) _ he⟩, o, kk it (by simp) _ ho, r⟩
  item := by
    intro X hP hw hK hc i pins s σ H E I hf st hg
    subst hP hw hK
    obtain ⟨⟨old, he⟩, hit⟩ := st
    obtain ⟨xs, x, hS, hx⟩ := hg
    obtain ⟨its, rv, p, hz⟩ := I.list hS
    obtain ⟨u, hu, ru⟩ := rv.get hx
    refine wpAny_pyNext_enum_item he hit p.isList (show its.toArray[i]? = some u by simpa using hu) hei fun h' ho hit' hT hsz hk => ⟨_, rfl, ?_⟩
    have I1 : Inv X pins σ H { s with heap := h', toks := s.toks + 1 } := I.turnedL hf fun b o hb q => hk b o (fun z => hb (by simp [z])) (fun z => hb (by simp [z])) q
    have helt : e < s.heap.objs.size := Heap.lt_size he
    have hilt : it < s.heap.objs.size := by obtain ⟨_, x, _⟩ := hit; exact Heap.lt_size x
    refine wpAny_letOwnedTupleGo_enum ho fun h2 he2 hs2 => ?_
    have I2 : Inv X pins σ H { s with heap := h2, toks := s.toks + 1 } := I1.turnedL hf fun b o hb q => (hs2.2 b (fun z => hb (by simp [z]))).trans q
    have hTn : H s.heap.objs.size = none := I.hok.fresh (Nat.le_refl _)
    have hTe : s.heap.objs.size ≠ e := Nat.ne_of_gt helt
    have hT2 : h2.get? s.heap.objs.size = some { cls := .type "tuple", data := .seq #[.int i s.toks, u] } := (hs2.2 _ hTe).trans hT
    have I3 : Inv X pins σ (upd H s.heap.objs.size (.tup [.int (i : Int), x])) { s with heap := h2, toks := s.toks + 1 } := by
      refine I2.track (I.fpOk (Nat.le_refl _) hTn) ⟨by show 2 ≤ sizeLine; decide, [.int i s.toks, u], .cons ⟨_, rfl⟩ (.cons ru .nil), ⟨_, hT2, rfl, _, rfl⟩⟩
    refine ⟨.ref s.heap.objs.size, _, I3, rfl, ⟨_, x, rfl, ⟨hTn, rfl⟩, fun ys hy => ?_⟩, ⟨⟨u, by simpa using he2⟩, ?_⟩, fun b hb => ?_⟩
    · cases I.list_inj hS hy; exact hx
    · exact hit'.at fun o q => (hs2.2 it hei.symm).trans q
    · have hne : b ≠ s.heap.objs.size := by
        rcases List.mem_cons.mp hb with z | z
        · rw [z]; exact Nat.ne_of_lt helt
        · rw [show b = it by simpa using z]; exact Nat.ne_of_lt hilt
      rw [upd_ne hne]; exact (hf b hb).1
  done := by
    intro X hP hw hK hc i pins s σ H E I hf st hg
    subst hP hw hK
    obtain ⟨⟨old, he⟩, hit⟩ := st
    obtain ⟨xs, hS, hl⟩ := hg
    obtain ⟨its, rv, p, hz⟩ := I.list hS
    have hlen := rv.length
    refine wpAny_pyNext_enum_end (I.ok.hd hc) he hit p.isList (by simp; omega) fun h' hx => ⟨rfl, ?_⟩
    exact I.turnedL (t' := s.toks) hf fun b o hb q => hx b o (fun z => hb (by simp [z])) q
  self := fun _ _ _ _ _ ⟨⟨_, he⟩, _⟩ h => wpAny_pyIter_enum he h
def iEnum (K : Frag) (ta : TA) : TI := fun σ H R => ta σ H fun vs H1 => ∃ l, vs = [.ref l] ∧ (∃ xs, SqL K H1 l xs) ∧ R (Ite K l) H1
theorem pi_enum {X : Cx} {es : List Expr} {k : Nat} {tp : Pos} {a : Expr} {ta : TA} {p pos : Pos} (hg : Gl X "enumerate") (hm : X.mg "enumerate" = none) (ha : PA X [a] ta) (hs : starEach [a] X.env = [(false, eval a X.env)] := by rfl) : PI X (.Tuple es k tp) (.Call (.Name "enumerate" p) [a] [] pos) (iEnum X.K ta) := by
  intro pins s σ H R I h
  refine Call_ (ld_blt I hg hm PyProof.Rows.boot_enumerate (PyProof.Rows.callWith_type1 (thn (ha pos pins s σ H _ I h) fun us s1 ⟨vs, H1, I1, r1, q1⟩ => ?_) hs rfl))
  obtain ⟨l, e, ⟨xs, hS⟩, q⟩ := q1
  subst e
  cases r1 with
  | cons r rr =>
    cases rr
    cases r
    obtain ⟨its, rv, pl, hz⟩ := I1.list hS
    refine call_enumerate_list pl.isList fun h' he hit hsz hk => ?_
    have hne : s1.heap.objs.size + 1 ≠ s1.heap.objs.size := Nat.succ_ne_self _
    have I2 : Inv X pins σ H1 { s1 with heap := h' } := I1.kept (t' := s1.toks) fun b o e => hk b o e
    refine wpAny_pyIter_enum he ⟨s1.heap.objs.size + 1, [s1.heap.objs.size + 1, s1.heap.objs.size], _, _, H1, rfl, I2, turn_enum _ _ l hne, ⟨⟨_, he⟩, hit⟩, fun b hb => ?_, q⟩
    have hb' : s1.heap.objs.size ≤ b := by
      rcases List.mem_cons.mp hb with z | z
      · rw [z]; exact Nat.le_succ _
      · rw [show b = s1.heap.objs.size by simpa using z]; exact Nat.le_refl _
    exact I1.fpOk hb' (I1.hok.fresh hb')
theorem for_enum {K : Frag} {l : Addr} {xs : List V} {g : TG} {tb : TS} {D : Ends} {σ : St} {H : Hp} (Pv : Nat → St → Hp → Prop) (h0 : Pv 0 σ H) (hl : ∀ i σ H, i ≤ xs.length → Pv i σ H → SqL K H l xs)
    (hs : ∀ i x T σ H H', xs[i]? = some x → Pv i σ H → New H T (.tup [.int (i : Int), x]) H' → g (.ref T) σ H' fun σ2 H2 => tb { D with nx := Pv (i + 1), ct := Pv (i + 1), bk := D.nx } σ2 H2) (hd : ∀ σ H, Pv xs.length σ H → D.nx σ H) :
    ∃ W : Nat → Nat → St → Hp → Prop, (∃ m, W 0 m σ H) ∧ ∀ i m σ H, W i m σ H →
      ((Ite K l).stop i H ∧ D.nx σ H) ∨ ((Ite K l).go i H ∧ ∃ N : St → Hp → Prop, (∀ σ' H', N σ' H' → ∃ m', m' < m ∧ W (i + 1) m' σ' H') ∧ ∀ x H', (Ite K l).yld i H x H' → g x σ H' fun σ2 H2 => tb { D with nx := N, ct := N, bk := D.nx } σ2 H2) := by
  refine ⟨fun i m σ H => m = xs.length - i ∧ i ≤ xs.length ∧ Pv i σ H, ⟨xs.length, by simp, Nat.zero_le _, h0⟩, ?_⟩
  rintro i m σ H ⟨rfl, hi, p⟩
  have q := hl i σ H hi p
  by_cases hlt : i < xs.length
  · refine .inr ⟨⟨xs, xs[i], q, by simp [hlt]⟩, Pv (i + 1), fun σ' H' p' => ⟨xs.length - (i + 1), by omega, rfl, hlt, p'⟩, fun v H' y => ?_⟩
    obtain ⟨T, x, rfl, hN, y⟩ := y
    exact hs i x T σ H H' (y xs q) p hN
  · have e : i = xs.length := by omega
    subst e
    exact .inl ⟨⟨xs, q, Nat.le_refl _⟩, hd σ H p⟩
def rAll (K : Frag) : List V → Hp → VK → Prop := fun xs H Q => ∃ p bs, xs = [.ref p] ∧ SqL K H p (List.map V.bl bs) ∧ Q (.bl (bs.all id)) H
theorem call_all {X : Cx} (hc : X.calm = true) : CallR X (.builtin "all") (rAll X.K) := by
  intro pins s σ H xs us Q I r h
  obtain ⟨p, bs, rfl, hS, q⟩ := h
  obtain ⟨u, rfl, ru⟩ := r.one
  cases ru
  obtain ⟨its, rv, pl, hz⟩ := I.list hS
  have hl := pl.isList
  have hlt : p < s.heap.objs.size := by obtain ⟨_, e, _⟩ := hl; exact Heap.lt_size e
  have hlen : bs.length = its.length := by have := rv.length; simpa using this
  refine call_all_walk (wpAny_pyIter_list hl ?_)
  refine ⟨s.heap.objs.size, [s.heap.objs.size, p], [s.heap.objs.size], its.toArray.size, _, _, fun i => (bs[i]?).getD true, rfl, Walks.list (A := X.A.in1) (I.ok.hd hc) _ p (Nat.ne_of_lt hlt) its.toArray,
    ⟨⟨_, Heap.get?_push_size _ rfl, rfl, rfl⟩, hl.push _⟩, fun i v s' Q' E' hP hQ => ?_, fun h' tk hk => ?_⟩
  · have hP' : its[i]? = some v := by simpa using hP
    have hi : i < bs.length := by rw [hlen]; exact (List.getElem?_eq_some_iff.mp hP').1
    obtain ⟨u, hu, ru⟩ := rv.get (i := i) (x := .bl bs[i]) (by rw [List.getElem?_map, List.getElem?_eq_getElem hi]; rfl)
    rw [hP'] at hu; cases hu
    cases ru
    simp only [List.getElem?_eq_getElem hi, Option.getD_some] at hQ
    exact wpAny_truthy_bool hQ
  · have e : ((List.range its.toArray.size).all fun i => (bs[i]?).getD true) = bs.all id := by
      rw [List.size_toArray, ← hlen]; exact LSm.range_all bs
    rw [e]
    exact ⟨.bl (bs.all id), H, I.kept (t' := tk) (LSm.kept_iter hk), rfl, q⟩
theorem i_all {K : Frag} {p : Addr} {bs : List Bool} {H : Hp} {Q : VK} (h : SqL K H p (List.map V.bl bs)) (q : Q (.bl (bs.all id)) H) : rAll K [.ref p] H Q := ⟨p, bs, rfl, h, q⟩
def rInS : R2 := fun x y H Q => ∃ (c : Nat) (j : Str), x = .str ⟨#[c]⟩ ∧ y = .str j ∧ Q (.bl (decide (c ∈ j.cps.toList))) H
theorem op_inS {X : Cx} : OpR X (compareOp .In) rInS := fun pins s σ H x y v u Q I rx ry ⟨c, j, e1, e2, q⟩ => op_in_str pins s σ H x y v u Q I rx ry ⟨⟨#[c]⟩, j, e1, e2, by
  rw [PySem.StrLaws.found_one]; exact q⟩
theorem lcT {K : Frag} {a : Addr} {te : TE} {cs : St} {H1 : Hp} {Q : Addr → Hp → Prop} (xs : List V) (f : V → V) (hS : SqT K H1 a xs) (hz : xs.length ≤ sizeLine)
    (hx : ∀ (i : Nat) (v : V) (H' : Hp) (R : VK), xs[i]? = some v → Same H1 H' → R (f v) H' → te (some v :: cs) H' R) (q : ∀ D H2, New H1 D (.lst (xs.map f)) H2 → Q D H2) :
    ∃ a', V.ref a = .ref a' ∧ (∃ xs, SqT K H1 a' xs) ∧ ∀ D, H1 D = none → ∃ W : Nat → Nat → List V → Hp → Prop, (∃ m, W 0 m [] (upd H1 D (.lst []))) ∧ ∀ i m ys H, W i m ys H →
      H D = some (.lst ys) ∧ (((Itt K a').stop i H ∧ Q D H) ∨ ((Itt K a').go i H ∧ ys.length < sizeLine ∧ ∀ x H', (Itt K a').yld i H x H' → tYes (some x :: cs) H' fun b H2 =>
        if b = true then te (some x :: cs) H2 fun y H3 => H3 D = some (.lst ys) ∧ ∃ m', m' < m ∧ W (i + 1) m' (ys ++ [y]) (upd H3 D (.lst (ys ++ [y]))) else ∃ m', m' < m ∧ W (i + 1) m' ys H2)) := by
  refine ⟨a, rfl, ⟨xs, hS⟩, fun D hD => ?_⟩
  refine ⟨fun i m ys H => m = xs.length - i ∧ i ≤ xs.length ∧ ys = (xs.take i).map f ∧ H = upd H1 D (.lst ys), ⟨xs.length, by simp, Nat.zero_le _, by simp, rfl⟩, ?_⟩
  rintro i m ys H ⟨rfl, hi, hys, rfl⟩
  have s1 : Same H1 (upd H1 D (.lst ys)) := Same.upd (Same.refl H1) hD
  have q1 := s1.tup hS
  refine ⟨upd_same, ?_⟩
  by_cases hlt : i < xs.length
  · have hyl : ys.length = i := by rw [hys, List.length_map, List.length_take]; omega
    refine .inr ⟨⟨xs, xs[i], q1, by simp [hlt]⟩, by omega, fun x H' y => ?_⟩
    obtain ⟨e, y⟩ := y
    subst e
    have hxi := y xs q1
    unfold tYes; dsimp only
    rw [if_pos rfl]
    refine (hx i x _ _ hxi s1 ⟨upd_same, xs.length - (i + 1), by omega, rfl, hlt, ?_, by rw [upd_upd]⟩)
    rw [List.take_add_one, List.map_append, ← hys, hxi]; rfl
  · have e : i = xs.length := by omega
    subst e
    refine .inl ⟨⟨xs, q1, Nat.le_refl _⟩, ?_⟩
    rw [hys, List.take_length]
    exact q D _ ⟨hD, rfl⟩
theorem lcS {te : TE} {cs : St} {H1 : Hp} {Q : Addr → Hp → Prop} (z : Str) (f : Nat → V) (hz : z.length ≤ sizeLine)
    (hx : ∀ (c : Nat) (H' : Hp) (R : VK), c ∈ z.cps.toList → Same H1 H' → R (f c) H' → te (some (.str ⟨#[c]⟩) :: cs) H' R) (q : ∀ D H2, New H1 D (.lst (z.cps.toList.map f)) H2 → Q D H2) :
    ∃ z', V.str z = .str z' ∧ ∀ D, H1 D = none → ∃ W : Nat → Nat → List V → Hp → Prop, (∃ m, W 0 m [] (upd H1 D (.lst []))) ∧ ∀ i m ys H, W i m ys H →
      H D = some (.lst ys) ∧ (((Its z').stop i H ∧ Q D H) ∨ ((Its z').go i H ∧ ys.length < sizeLine ∧ ∀ x H', (Its z').yld i H x H' → tYes (some x :: cs) H' fun b H2 =>
        if b = true then te (some x :: cs) H2 fun y H3 => H3 D = some (.lst ys) ∧ ∃ m', m' < m ∧ W (i + 1) m' (ys ++ [y]) (upd H3 D (.lst (ys ++ [y]))) else ∃ m', m' < m ∧ W (i + 1) m' ys H2)) := by
  refine ⟨z, rfl, fun D hD => ?_⟩
  have hsz : z.cps.toList.length = z.cps.size := Array.length_toList
  have hz' : z.cps.size ≤ sizeLine := hz
  refine ⟨fun i m ys H => m = z.cps.size - i ∧ i ≤ z.cps.size ∧ ys = (z.cps.toList.take i).map f ∧ H = upd H1 D (.lst ys), ⟨z.cps.size, by simp, Nat.zero_le _, by simp, rfl⟩, ?_⟩
  rintro i m ys H ⟨rfl, hi, hys, rfl⟩
  have s1 : Same H1 (upd H1 D (.lst ys)) := Same.upd (Same.refl H1) hD
  refine ⟨upd_same, ?_⟩
  by_cases hlt : i < z.cps.size
  · have hyl : ys.length = i := by rw [hys, List.length_map, List.length_take]; omega
    refine .inr ⟨hlt, by omega, fun x H' y => ?_⟩
    obtain ⟨e, c, hc, rfl⟩ := y
    subst e
    unfold tYes; dsimp only
    rw [if_pos rfl]
    refine (hx c _ _ (List.mem_iff_getElem?.mpr ⟨i, hc⟩) s1 ⟨upd_same, z.cps.size - (i + 1), by omega, rfl, hlt, ?_, by rw [upd_upd]⟩)
    rw [List.take_add_one, List.map_append, ← hys, hc]; rfl
  · have e : i = z.cps.size := by omega
    refine .inl ⟨e, ?_⟩
    have : ys = z.cps.toList.map f := by rw [hys, e, ← hsz, List.take_length]
    rw [this]
    exact q D _ ⟨hD, rfl⟩
def SameB (D : Addr) (H H' : Hp) : Prop := ∀ b u, b ≠ D → H b = some u → H' b = some u
theorem SameB.of {D : Addr} {H H' : Hp} (s : Same H H') : SameB D H H' := fun b u _ e => s b u e
theorem SameB.upd (D : Addr) (H : Hp) (o : HO) : SameB D H (L2.upd H D o) := fun b u n e => by rw [upd_ne n]; exact e
structure LcIt (J : It) (n : Nat) (H1 : Hp) (xs : Nat → V) : Prop where
  go : ∀ i H, i < n → Same H1 H → J.go i H
  yld : ∀ i H x H', i < n → Same H1 H → J.yld i H x H' → H' = H ∧ x = xs i
  stop : ∀ H, Same H1 H → J.stop n H
theorem LcIt.lst {K : Frag} {a : Addr} {H1 : Hp} {xs : List V} (hS : SqL K H1 a xs) : LcIt (Itl K a) xs.length H1 (fun i => xs.getD i .non) where
  go := fun i H hi s => ⟨xs, xs[i], s.seq hS, by simp [hi]⟩
  yld := fun i H x H' hi s y => by
    obtain ⟨e, y⟩ := y
    refine ⟨e, ?_⟩
    have := y xs (s.seq hS)
    rw [List.getD, this]; rfl
  stop := fun H s => ⟨xs, s.seq hS, Nat.le_refl _⟩
theorem LcIt.rng {lo : Int} {n : Nat} {H1 : Hp} : LcIt (Itr lo n) n H1 (fun i => .int (lo + i)) where
  go := fun i H hi s => hi
  yld := fun i H x H' hi s y => y
  stop := fun H s => Nat.le_refl _
theorem lcN {J : It} {n : Nat} {xs : Nat → V} {te : TE} {cs : St} {H1 : Hp} {Q : Addr → Hp → Prop} (L : LcIt J n H1 xs) (Pe : Addr → Nat → V → Hp → Prop) (hz : n ≤ sizeLine)
    (hm : ∀ D i y H H', SameB D H H' → Pe D i y H → Pe D i y H')
    (hx : ∀ (D : Addr) (i : Nat) (H' : Hp) (R : VK), i < n → H1 D = none → (∃ ys, H' D = some (.lst ys)) → Same H1 H' → (∀ y H'', Same H' H'' → Pe D i y H'' → R y H'') → te (some (xs i) :: cs) H' R)
    (q : ∀ D ys H2, H1 D = none → Same H1 H2 → H2 D = some (.lst ys) → ys.length = n → (∀ i y, ys[i]? = some y → Pe D i y H2) → Q D H2) :
    ∀ D, H1 D = none → ∃ W : Nat → Nat → List V → Hp → Prop, (∃ m, W 0 m [] (upd H1 D (.lst []))) ∧ ∀ i m ys H, W i m ys H →
      H D = some (.lst ys) ∧ ((J.stop i H ∧ Q D H) ∨ (J.go i H ∧ ys.length < sizeLine ∧ ∀ x H', J.yld i H x H' → tYes (some x :: cs) H' fun b H2 =>
        if b = true then te (some x :: cs) H2 fun y H3 => H3 D = some (.lst ys) ∧ ∃ m', m' < m ∧ W (i + 1) m' (ys ++ [y]) (upd H3 D (.lst (ys ++ [y]))) else ∃ m', m' < m ∧ W (i + 1) m' ys H2)) := by
  intro D hD
  refine ⟨fun i m ys H => m = n - i ∧ i ≤ n ∧ ys.length = i ∧ H D = some (.lst ys) ∧ Same H1 H ∧ ∀ j y, ys[j]? = some y → Pe D j y H, ⟨n, by simp, Nat.zero_le _, rfl, upd_same, Same.new hD, fun j y e => by simp at e⟩, ?_⟩
  rintro i m ys H ⟨rfl, hi, hyl, hHD, s1, hP⟩
  refine ⟨hHD, ?_⟩
  by_cases hlt : i < n
  · refine .inr ⟨L.go i H hlt s1, by omega, fun x H' y => ?_⟩
    obtain ⟨e, ex⟩ := L.yld i H x H' hlt s1 y
    subst e ex
    unfold tYes; dsimp only
    rw [if_pos rfl]
    refine hx D i _ _ hlt hD ⟨ys, hHD⟩ s1 fun y H'' s2 pe => ⟨s2 _ _ hHD, n - (i + 1), by omega, rfl, hlt, by simp [hyl], upd_same, fun b u e => ?_, fun j y' ej => ?_⟩
    · rw [upd_ne (ne_of_none e hD)]; exact s2 _ _ (s1 _ _ e)
    · refine hm D j y' _ _ (SameB.upd D H'' _) ?_
      by_cases hj : j < ys.length
      · rw [List.getElem?_append_left hj] at ej
        exact hm D j y' _ _ (SameB.of s2) (hP j y' ej)
      · rw [List.getElem?_append_right (by omega)] at ej
        have hj0 : j - ys.length = 0 := by
          by_cases h0 : j - ys.length = 0
          · exact h0
          · rw [List.getElem?_eq_none (by simp; omega)] at ej; cases ej
        rw [hj0] at ej
        have e1 : y = y' := by simpa using ej
        have e2 : j = i := by omega
        rw [← e1, e2]; exact pe
  · have e : i = n := by omega
    subst e
    exact .inl ⟨L.stop H s1, q D ys H hD s1 hHD hyl hP⟩
theorem lcNL {K : Frag} {a : Addr} {te : TE} {cs : St} {H1 : Hp} {Q : Addr → Hp → Prop} (xs : List V) (Pe : Addr → Nat → V → Hp → Prop) (hS : SqL K H1 a xs) (hz : xs.length ≤ sizeLine)
    (hm : ∀ D i y H H', SameB D H H' → Pe D i y H → Pe D i y H')
    (hx : ∀ (D : Addr) (i : Nat) (v : V) (H' : Hp) (R : VK), xs[i]? = some v → H1 D = none → (∃ ys, H' D = some (.lst ys)) → Same H1 H' → (∀ y H'', Same H' H'' → Pe D i y H'' → R y H'') → te (some v :: cs) H' R)
    (q : ∀ D ys H2, H1 D = none → Same H1 H2 → H2 D = some (.lst ys) → ys.length = xs.length → (∀ i y, ys[i]? = some y → Pe D i y H2) → Q D H2) :
    ∃ a', V.ref a = .ref a' ∧ (∃ xs, SqL K H1 a' xs) ∧ ∀ D, H1 D = none → ∃ W : Nat → Nat → List V → Hp → Prop, (∃ m, W 0 m [] (upd H1 D (.lst []))) ∧ ∀ i m ys H, W i m ys H →
      H D = some (.lst ys) ∧ (((Itl K a').stop i H ∧ Q D H) ∨ ((Itl K a').go i H ∧ ys.length < sizeLine ∧ ∀ x H', (Itl K a').yld i H x H' → tYes (some x :: cs) H' fun b H2 =>
        if b = true then te (some x :: cs) H2 fun y H3 => H3 D = some (.lst ys) ∧ ∃ m', m' < m ∧ W (i + 1) m' (ys ++ [y]) (upd H3 D (.lst (ys ++ [y]))) else ∃ m', m' < m ∧ W (i + 1) m' ys H2)) :=
  ⟨a, rfl, ⟨xs, hS⟩, lcN (LcIt.lst hS) Pe hz hm (fun D i H' R hi hD hy s r => by
    refine hx D i _ H' R ?_ hD hy s r
    rw [List.getD, List.getElem?_eq_getElem hi]; rfl) q⟩
structure HasV (K : Frag) (x : Str) (v : V) : Prop where
  ex : ∃ u, nsIn K mainGlobals x = some (some u) ∧ RelV v u
theorem hasV_int {K : Frag} {x : Str} {i : Int} {t : Tok} (h : nsIn K mainGlobals x = some (some (.int i t))) : HasV K x (.int i) := ⟨_, h, ⟨_, rfl⟩⟩
theorem hasV_str {K : Frag} {x : Str} {z : Str} {t : Tok} (h : nsIn K mainGlobals x = some (some (.str z t))) : HasV K x (.str z) := ⟨_, h, ⟨_, rfl⟩⟩
theorem pe_val {X : Cx} {x : Str} {v : V} {pos : Pos} (h : ∃ u, X.mg x = some u ∧ RelV v u) (hg : Gl X x) (hd : (x == ("__debug__" : Str)) = false := by decide) : PE X (.Name x pos) (tC v) := by
  obtain ⟨u, hm, r⟩ := h
  exact pe_glob hg hm r hd
theorem HasV.mg {K : Frag} {x : Str} {v : V} {h : Heap} {mg : Str → Option Value} (V : HasV K x v) (Kb : K.In h) (G : h.Ns mainGlobals mg) : ∃ u, mg x = some u ∧ RelV v u :=
  let ⟨u, a, r⟩ := V.ex
  ⟨u, PySem.W.mg_of Kb G a, r⟩
structure HasCI (K : Frag) (x : Str) (C : Addr) (qual : Str) (st : Stmt) : Prop where
  ns : nsIn K mainGlobals x = some (some (.ref C))
  cl : Cls K C
  ex : ∃ f fd, Mk K C f ∧ Fun K "__init__" qual st f fd
theorem hasCI_mk {K : Frag} {x qual : Str} {C : Addr} {st : Stmt} {f : Addr} {oc : Value} {od an : Option Addr} {osl : Array (Option Value)} {kV doc pm cdv ct : Value} (a : nsIn K mainGlobals x = some (some (.ref C))) (pg : plainGet K C Str.empty = true) (hd : hasDictIn K C = true) (po : plainOver K C = true)
    (sa : findIn K (.ref C) "__setattr__" = some (some (.builtin "object.__setattr__"))) (mk : makesIn K C = true) (i : findIn K (.ref C) "__init__" = some (some (.ref f))) (fn : isFn K (.ref f) = true) (kc : keepIn K (.ref C) = true)
    (l : K.lookup f = some ⟨oc, od, .func (PySem.W.fnOf "__init__" qual (defArgs st) (defBody st) (defScope st) .none kV doc pm an cdv ct), osl⟩)
    (c : codeIn K cdv qual = true) (k : keepIn K (.ref f) = true) : HasCI K x C qual st :=
  ⟨a, ⟨pg, hd, po, sa⟩, f, _, ⟨mk, i, fn, kc⟩, fun_mk l c k⟩
structure MkI (P : Program) (w : World) (K : Frag) (mg : Str → Option Value) (base : Heap) (k : Nat) (C : Addr) (ps : List Str) (sp : Sp) : Prop where
  ex : ∃ f fd, Mk K C f ∧ FnOk P w K mg base CX0 k f fd ps sp ∧ Binds K fd ps []
theorem HasCI.mki {P : Program} {w : World} {K : Frag} {mg : Str → Option Value} {base : Heap} {k : Nat} {x : Str} {C : Addr} {qual : Str} {st : Stmt} {N ps : List Str} {sp : Sp} (F : HasCI K x C qual st) (S : FnScope N ps (defScope st))
    (hbi : ∀ (kV doc pm : Value) (an : Option Addr) (cdv ct : Value) (us : List Value), us.length = ps.length → bindArgs (PySem.W.fnOf "__init__" qual (defArgs st) (defBody st) (defScope st) .none kV doc pm an cdv ct) ⟨us, []⟩ = pure (ps.zip us))
    (len : ∀ vs H Q E, sp vs H Q E → vs.length = ps.length)
    (hbody : ∀ (f : Addr) (cdv : Value) (A : Around) (outer : List Env) (s : Shared) (H : Hp) (vs : List V) (Q : VK) (E : XK), Room k (A.deeper (envOfC qual (defScope st) s.heap.objs.size f cdv)) → sp vs H Q E →
      ∃ t, PSs (cxOf CX0 P w K mg base N qual (defScope st) f cdv A outer s H E).nox (defBody st) t ∧ t { nx := fun _ H' => Q .non H', rt := Q } (start N vs) H) :
    MkI P w K mg base (k + 1) C ps sp := by
  obtain ⟨f, fd, a, F⟩ := F.ex
  exact ⟨f, fd, a, F.ok S len (hbody f), F.binds hbi⟩
theorem pe_makeI {X : Cx} {k : Nat} {C : Addr} {x : Str} {ps : List Str} {sp : Sp} {e : Expr} {es : List Expr} {t : TA} {p pos : Pos} (M : MkI X.prog X.w X.K X.mg X.base k C ps sp) (hr : Room (k + 1) X.A) (hg : Gl X x) (hm : X.mg x = some (.ref C)) (ha : PA X (e :: es) t)
    (hdb : (x == ("__debug__" : Str)) = false := by decide) (he : starEach (e :: es) X.env = (false, eval e X.env) :: starEach es X.env := by rfl) (hpl : (backTo pos (starEach es X.env)).any (·.1) = false := by rfl) :
    PE X (.Call (.Name x p) (e :: es) [] pos) (tMake C sp [] E0 t) := by
  obtain ⟨f, fd, m, F, hb⟩ := M.ex
  exact pe_make m F hr hg hm hb .nil pass0 ha hdb he hpl
theorem i_makeI {C : Addr} {sp : Sp} {t : TA} {σ : St} {H : Hp} {Q : VK} (q : t σ H fun vs H1 => ∀ x dx, H1 x = none → H1 dx = none → dx ≠ x → sp (.ref x :: (vs ++ [])) (upd (upd H1 dx (.own x)) x (.ins C dx [])) (fun v H2 => v = .non ∧ Q (.ref x) H2) E0) : tMake C sp [] E0 t σ H Q := q
section
variable {X : Cx} {K : Frag}
theorem ix_seqK (h : X.K = K) : IxR X (rIx K) := h ▸ ix_seq
theorem call_isiK (h : X.K = K) : CallR X (.builtin "isinstance") (rIsi K) := h ▸ call_isi
theorem call_tupleK (h : X.K = K) : CallR X (.type "tuple") (rTupleA K) := h ▸ call_tupleA
end
section
variable {K : Frag} {σ : St} {H : Hp} {Q : VK} {D : Ends}
theorem i_tupI {tl : TE} {R : It → Hp → Prop} (q : tl σ H fun x H1 => ∃ a, x = .ref a ∧ (∃ xs, SqT K H1 a xs) ∧ R (Itt K a) H1) : iTup K tl σ H R := q
theorem i_strI {tl : TE} {R : It → Hp → Prop} (q : tl σ H fun x H1 => ∃ z, x = .str z ∧ R (Its z) H1) : iStr tl σ H R := q
theorem i_enumI {ta : TA} {R : It → Hp → Prop} (q : ta σ H fun vs H1 => ∃ l, vs = [.ref l] ∧ (∃ xs, SqL K H1 l xs) ∧ R (Ite K l) H1) : iEnum K ta σ H R := q
theorem i_fld {ta : TE} {f : Str} (q : ta σ H fun x H1 => ∃ a C dx fs v, x = .ref a ∧ H1 a = some (.ins C dx fs) ∧ Cls K C ∧ NoAttr K C f ∧ fs.lookup f = some v ∧ Q v H1) : tFld K ta f σ H Q := q
theorem i_setFld {ta tv : TE} {f : Str} (q : tv σ H fun y H1 => ta σ H1 fun x H2 => ∃ a C dx fs, x = .ref a ∧ H2 a = some (.ins C dx fs) ∧ Cls K C ∧ NoAttr K C f ∧ fs.length < 1000 ∧ D.nx σ (upd H2 a (.ins C dx (putF f y fs)))) : sFld K ta tv f D σ H := q
theorem i_dget2 {td ty tx : TE} (q : td σ H fun x H1 => ∃ a, x = .ref a ∧ IsD H1 a ∧ ty σ H1 fun y H2 => tx σ H2 fun z H3 => ∃ o, DGet H3 a y o ∧ Q (o.getD z) H3) : tDGet2 td ty tx σ H Q := q
theorem i_dput {td ty tv : TE} (q : tv σ H fun v H1 => td σ H1 fun x H2 => ty σ H2 fun y H3 => ∃ a H4, x = .ref a ∧ DPut H3 a y v H4 ∧ D.nx σ H4) : sDPut td ty tv D σ H := q
theorem i_dnew (q : ∀ p, H p = none → Q (.ref p) (upd H p (.dK []))) : tDNewK σ H Q := q
theorem i_max {i j : Int} (q : Q (.int (max i j)) H) : ∃ i' j', [V.int i, V.int j] = [.int i', .int j'] ∧ Q (.int (if j' > i' then j' else i')) H :=
  ⟨i, j, rfl, by
    have e : (if j > i then j else i) = max i j := by by_cases h : j > i <;> simp [h] <;> omega
    rw [e]; exact q⟩
theorem i_chain {r r' : R2} {ta tb tc : TE} (q : ta σ H fun x H1 => tb σ H1 fun y H2 => r x y H2 fun z H3 => ∃ k, z = .bl k ∧ (if k = true then tc σ H3 fun w' H4 => r' y w' H4 Q else Q (.bl false) H3)) : tChain r r' ta tb tc σ H Q := q
theorem i_append {l : Addr} {xs : List V} {y : V} (h : H l = some (.lst xs)) (z : xs.length < sizeLine) (q : Q .non (upd H l (.lst (xs ++ [y])))) : rAppend (.ref l) [y] H Q := ⟨l, xs, y, rfl, rfl, h, z, q⟩
theorem i_inS {c : Nat} {j : Str} (q : Q (.bl (decide (c ∈ j.cps.toList))) H) : rInS (.str ⟨#[c]⟩) (.str j) H Q := ⟨c, j, rfl, rfl, q⟩
theorem i_isiI {i : Int} (kII : kitOne K (.type "int") (.type "int") = some true) (q : Q (.bl true) H) : rIsi K [.int i, .ty "int"] H Q := ⟨_, _, _, _, rfl, rfl, .int i, kII, q⟩
theorem i_isiT {a : Addr} {xs : List V} {T : String} {b : Bool} (e : H a = some (.tup xs)) (k : kitOne K (.type "tuple") (.type T) = some b) (q : Q (.bl b) H) : rIsi K [.ref a, .ty T] H Q := ⟨_, _, _, _, rfl, rfl, .tup e, k, q⟩
theorem i_gtup {n : Nat} {t : TGs} {a : Addr} {xs : List V} {Q : St → Hp → Prop} (h : SqT K H a xs) (l : xs.length = n) (q : t xs σ H Q) : gTup K n t (.ref a) σ H Q := ⟨a, xs, rfl, h, l, q⟩
theorem i_gcons {t : TG} {u : TGs} {v : V} {r : List V} {Q : St → Hp → Prop} (q : t v σ H fun σ' H' => u r σ' H' Q) : gCons t u (v :: r) σ H Q := ⟨v, r, rfl, q⟩
theorem i_gnil {Q : St → Hp → Prop} (q : Q σ H) : gNil [] σ H Q := ⟨rfl, q⟩
end
end L2
set_option maxRecDepth 100000
set_option Elab.async false
set_option linter.all false
namespace HT
open PySem PySem.Spec PyProof.Rows
section
variable {prog : Program} {w : World} {A : Around} {E : Value → Shared → Prop} {s : Shared}
end
end HT
namespace L2
open PySem PySem.Spec PySem.W PyProof.Rows
section
variable {X : Cx} {k : Nat} {f C : Addr} {fd : FuncData} {ps : List Str} {sp : Sp} {ES : XS} {x : Str} {p pos : Pos} {e : Expr} {es : List Expr} {t : TA} {dvs : List V} {ds : List Value}
end
section
variable {X : Cx}
def rSum (K : Frag) : List V → Hp → VK → Prop := fun xs H Q => ∃ p ns, xs = [.ref p] ∧ SqL K H p (List.map V.int ns) ∧ Q (.int ns.sum) H
theorem call_sum (hc : X.calm = true) : CallR X (.builtin "sum") (rSum X.K) := by
  intro pins s σ H xs us Q I r h
  obtain ⟨p, ns, rfl, hS, q⟩ := h
  obtain ⟨u, rfl, ru⟩ := r.one
  cases ru
  obtain ⟨its, rv, pl, hz⟩ := I.list hS
  have hi : IntsAre its ns := intsAre_of rv
  obtain ⟨xs, hx⟩ := hi.allInts.items
  have hl' : s.heap.IsList p (intItems xs) := by rw [← hx]; exact pl.isList
  refine sum_intListG (I.ok.hd hc) hl' fun h' tk t' hk => ?_
  have e1 : ns = xs.toList.map (·.1) := by
    rw [← nums_intItems, ← hx]
    exact (show numsOf its.toArray.toList = ns from hi.numsOf).symm
  have e2 : preSum (numAt xs) xs.size = ns.sum := by
    rw [preSum_eq, List.take_of_length_le (by simp), e1]
  rw [e2]
  exact ⟨.int ns.sum, H, I.kept (t' := tk) hk, ⟨_, rfl⟩, q⟩
theorem i_sum {K : Frag} {p : Addr} {ns : List Int} {H : Hp} {Q : VK} (h : SqL K H p (List.map V.int ns)) (q : Q (.int ns.sum) H) : rSum K [.ref p] H Q := ⟨p, ns, rfl, h, q⟩
def rIndexV (K : Frag) : V → List V → Hp → VK → Prop := fun x vs H Q => ∃ (p : Addr) (xs : List V) (w : V) (j : Nat), x = .ref p ∧ vs = [w] ∧ flatV w = true ∧ xs.all flatV = true ∧ SqL K H p xs ∧ j < xs.length ∧ (∀ y, xs[j]? = some y → eqV y w = true) ∧ (∀ i y, i < j → xs[i]? = some y → eqV y w = false) ∧ xs.length ≤ 1000 ∧ Q (.int (j : Nat)) H
theorem mt_indexV : MtR X "list.index" (rIndexV X.K) := by
  intro pins s σ H x vs v us Q I rx rv h
  obtain ⟨p, xs, w, j, rfl, rfl, fw, fl, hp, hj, he, hlt, hz, q⟩ := h
  cases rx
  obtain ⟨u, rfl, ru⟩ := rv.one
  obtain ⟨its, r, pl, _⟩ := I.list hp
  obtain ⟨⟨cls, dd, data, sl⟩, ho, hc, n, hd⟩ := id pl.isList
  simp only at hc hd
  subst hc hd
  have hl := r.length
  have at_ : ∀ (i : Nat) (hi : i < its.length) (hi2 : i < xs.length), eqU w its[i] = eqV xs[i] w := by
    intro i hi hi2
    obtain ⟨ui, e1, r1⟩ := r.get (i := i) (x := xs[i]) (List.getElem?_eq_getElem hi2)
    have e2 : its[i] = ui := by
      have := List.getElem?_eq_getElem hi
      rw [this] at e1; exact Option.some.inj e1
    rw [e2]
    exact eqU_of r1 (List.all_eq_true.mp fl _ (List.getElem_mem hi2))
  refine call_meets PySem.F.slot_list_index ⟨_, ho, rfl⟩ PySem.F.entry_list_index (PySem.F.args_list_index_2 _ _)
    (SeqAt.list_indexAt p its.toArray n dd sl u (eqU w) j (by simp; omega) (by omega) ?_ ?_) ⟨ho, fun y hy => mem_eqAt ru fw r fl y (by simpa using hy), ?_⟩
  · show eqU w its[j] = true
    rw [at_ j (by omega) hj]; exact he _ (List.getElem?_eq_getElem hj)
  · intro i hi hlt'
    have hi' : i < its.length := by simpa using hi
    show eqU w its[i] = false
    rw [at_ i hi' (by omega)]; exact hlt i _ hlt' (List.getElem?_eq_getElem (by omega))
  · exact ⟨.int (j : Nat), H, I.tok _, ⟨_, rfl⟩, q⟩
end
section
variable {X : Cx}
end
section
variable {prog : Program} {w : World} {A : Around} {E : Value → Shared → Prop} {s : Shared}
end
theorem boot_sum0 : bootBuiltins "sum" = some (.builtin "sum") := by decide +kernel
end L2
set_option maxRecDepth 100000
set_option Elab.async false
set_option linter.all false
namespace HT
open PySem PySem.Spec PyProof.Rows
section
variable {prog : Program} {w : World} {A : Around} {E : Value → Shared → Prop} {s : Shared}
end
end HT
namespace L2
open PySem PySem.Spec PySem.W PyProof.Rows
section
variable {X : Cx}
end
section
variable {X : Cx} {tg : Expr}
end
section
variable {X : Cx}
end
section
variable {X : Cx} {e : Expr} {t : TA} {p p' pos pos' : Pos}
theorem vals_keys {P : Program} {w : World} : ∀ {kvs : List (Key × V)} {vs : List (Key × Value)}, KV kvs vs → ∀ us : List Value, us.length = vs.length → (∀ (j : Nat) v, us[j]? = some v → ∃ k x, vs[j]? = some (k, x) ∧ (mixKind P w).is k v = true) → Vals (kvs.map fun kv => kV kv.1) us := by
  intro kvs vs r
  induction r with
  | nil => intro us hl _; cases us with
    | nil => exact .nil
    | cons _ _ => simp at hl
  | cons r1 _ ih =>
    intro us hl h
    cases us with
    | nil => simp at hl
    | cons u us =>
      obtain ⟨k, x, e, hk⟩ := h 0 u rfl
      simp only [List.getElem?_cons_zero, Option.some.injEq] at e
      refine .cons (show RelV (kV _) u from ?_) (ih us (by simpa using hl) fun j v e => by simpa using h (j + 1) v (by simpa using e))
      rw [e] at r1
      rw [r1.1]
      rcases keyIs_shape (show keyIs k u = true from hk) with ⟨i, t, rfl, rfl⟩ | ⟨z, t, rfl, rfl⟩
      · exact ⟨t, rfl⟩
      · exact ⟨t, rfl⟩
end
section
variable {σ : St} {H : Hp} {Q : VK} {td ty : TE}
theorem i_dix (q : td σ H fun x H1 => ty σ H1 fun y H2 => ∃ a v, x = .ref a ∧ DGet H2 a y (some v) ∧ Q v H2) : tDGet td ty σ H Q := q
end
end L2
set_option maxRecDepth 100000
set_option Elab.async false
set_option linter.all false
namespace L2
open PySem PySem.Spec PySem.W PyProof.Rows
section
variable {X : Cx} {pins : List (Addr × Obj)} {σ : St} {H : Hp} {s : Shared}
end
section
variable {X : Cx}
open Classical in
open Classical in
end
theorem lcF {J : It} {n : Nat} {xs : Nat → V} {tf : TT} {te : TE} {cs : St} {H1 : Hp} {Q : Addr → Hp → Prop} (L : LcIt J n H1 xs) (p : Nat → Bool) (f : Nat → V) (hz : n ≤ sizeLine)
    (hf : ∀ (i : Nat) (H' : Hp) (R : Bool → Hp → Prop), i < n → Same H1 H' → R (p i) H' → tf (some (xs i) :: cs) H' R)
    (hx : ∀ (i : Nat) (H' : Hp) (R : VK), i < n → p i = true → Same H1 H' → R (f i) H' → te (some (xs i) :: cs) H' R)
    (q : ∀ D H2, New H1 D (.lst (((List.range n).filter p).map f)) H2 → Q D H2) :
    ∀ D, H1 D = none → ∃ W : Nat → Nat → List V → Hp → Prop, (∃ m, W 0 m [] (upd H1 D (.lst []))) ∧ ∀ i m ys H, W i m ys H →
      H D = some (.lst ys) ∧ ((J.stop i H ∧ Q D H) ∨ (J.go i H ∧ ys.length < sizeLine ∧ ∀ x H', J.yld i H x H' → tf (some x :: cs) H' fun b H2 =>
        if b = true then te (some x :: cs) H2 fun y H3 => H3 D = some (.lst ys) ∧ ∃ m', m' < m ∧ W (i + 1) m' (ys ++ [y]) (upd H3 D (.lst (ys ++ [y]))) else ∃ m', m' < m ∧ W (i + 1) m' ys H2)) := by
  intro D hD
  refine ⟨fun i m ys H => m = n - i ∧ i ≤ n ∧ ys = ((List.range i).filter p).map f ∧ H = upd H1 D (.lst ys), ⟨n, by simp, Nat.zero_le _, by simp, rfl⟩, ?_⟩
  rintro i m ys H ⟨rfl, hi, hys, rfl⟩
  have s1 : Same H1 (upd H1 D (.lst ys)) := Same.upd (Same.refl H1) hD
  refine ⟨upd_same, ?_⟩
  by_cases hlt : i < n
  · have hyl : ys.length ≤ i := by
      rw [hys, List.length_map]
      exact Nat.le_trans (List.length_filter_le _ _) (Nat.le_of_eq List.length_range)
    refine .inr ⟨L.go i _ hlt s1, by omega, fun x H' y => ?_⟩
    obtain ⟨e, ex⟩ := L.yld i _ x H' hlt s1 y
    subst e ex
    refine hf i _ _ hlt s1 ?_
    cases hp : p i with
    | true =>
      rw [if_pos rfl]
      refine hx i _ _ hlt hp s1 ⟨upd_same, n - (i + 1), by omega, rfl, hlt, ?_, by rw [upd_upd]⟩
      rw [List.range_succ, List.filter_append, List.map_append, ← hys]
      simp [hp]
    | false =>
      rw [if_neg (by decide)]
      refine ⟨n - (i + 1), by omega, rfl, hlt, ?_, rfl⟩
      rw [List.range_succ, List.filter_append, List.map_append, ← hys]
      simp [hp]
  · have e : i = n := by omega
    subst e
    exact .inl ⟨L.stop _ s1, by rw [hys]; exact q D _ ⟨hD, rfl⟩⟩
theorem LcIt.tup {K : Frag} {a : Addr} {H1 : Hp} {xs : List V} (hS : SqT K H1 a xs) : LcIt (Itt K a) xs.length H1 (fun i => xs.getD i .non) where
  go := fun i H hi s => ⟨xs, xs[i], s.tup hS, by simp [hi]⟩
  yld := fun i H x H' hi s y => by
    obtain ⟨e, y⟩ := y
    refine ⟨e, ?_⟩
    have := y xs (s.tup hS)
    rw [List.getD, this]; rfl
  stop := fun H s => ⟨xs, s.tup hS, Nat.le_refl _⟩
end L2
set_option maxRecDepth 100000
set_option Elab.async false
set_option linter.all false
namespace L2
open PySem PySem.Spec PySem.W PyProof.Rows
section
variable {X : Cx} {scope : Scope} {x : Str} {caps : List Str} {ix : List Nat} {pins : List (Addr × Obj)} {σ : St} {H : Hp} {s : Shared}
end
end L2
set_option maxRecDepth 100000
set_option Elab.async false
set_option linter.all false
namespace L2
open PySem PySem.Spec PySem.W PyProof.Rows
section
variable {X : Cx} {scope : Scope} {xs : List Str} {caps : List Str} {ix : List Nat} {pins : List (Addr × Obj)} {σ : St} {H : Hp} {s : Shared}
end
end L2
set_option Elab.async false
set_option linter.all false
set_option maxHeartbeats 4000000
namespace L2
open PySem PyProof PyProof.Rows PySem.W
section
variable {X : Cx}
end
end L2
set_option Elab.async false
set_option linter.all false
set_option maxHeartbeats 4000000
set_option maxRecDepth 100000
namespace PySem
open Sem (wp)
namespace F
end F
section
variable {prog : Program} {w : World} {K : Type} [DecidableEq K] {knd : KeyKind prog w K} {A : Around} {R : Result → Shared → Prop}
end
section
variable {w : World} {prog : Program} {K : Type} [DecidableEq K] {knd : KeyKind prog w K} {s : Shared} {A : Around} {E : Value → Shared → Prop}
end
end PySem
namespace L2
open PySem PyProof PyProof.Rows PySem.W
section
variable {X : Cx}
theorem i_gsub {to ti : TE} {t : TSet} {v : V} {σ : St} {H : Hp} {Q : St → Hp → Prop} (q : to σ H fun o H1 => ti σ H1 fun i H2 => t o i v H2 fun H3 => Q σ H3) : gSub to ti t v σ H Q := q
end
end L2
set_option Elab.async false
set_option linter.all false
set_option maxHeartbeats 4000000
namespace L2
open PySem PyProof PyProof.Rows PySem.W
section
variable {X : Cx}
end
end L2
set_option Elab.async false
set_option linter.all false
set_option maxHeartbeats 4000000
set_option maxRecDepth 100000
namespace L2
open PySem PySem.Spec PyProof PyProof.Rows PySem.W
section
variable {X : Cx} {pins : List (Addr × Obj)} {σ : St} {H : Hp} {s : Shared}
theorem Inv.freeze {d : Addr} {kvs : List (Key × V)} (I : Inv X pins σ H s) (e : H d = some (.dK kvs)) : ∃ o, Inv X pins σ (upd H d (.frz o (.dK kvs))) s := by
  obtain ⟨z, y, vs, r, ob, es, ep, g, c⟩ := (show ObjOk X.prog X.w H s.heap d (.dK kvs) from I.hok d _ e)
  refine ⟨ob, ?_⟩
  have new : ObjOk X.prog X.w (upd H d (.frz ob (.dK kvs))) s.heap d (.frz ob (.dK kvs)) := ⟨g, z, y, vs, r, ob, es, ep, g, c⟩
  exact I.write (t' := s.toks) (h' := s.heap) (by rw [e]; exact True.intro) (.inl rfl) (fun b u _ q => q) ⟨ob, g⟩ new
theorem Inv.thaw {d : Addr} {ob : Obj} {kvs : List (Key × V)} (I : Inv X pins σ H s) (e : H d = some (.frz ob (.dK kvs))) (h0 : ∀ o u, X.H₀ d ≠ some (.frz o u)) : Inv X pins σ (upd H d (.dK kvs)) s := by
  have hn : ∀ b, H b = none → b ≠ d := fun b n z => by rw [z, e] at n; cases n
  obtain ⟨g, q⟩ := (show ObjOk X.prog X.w H s.heap d (.frz ob (.dK kvs)) from I.hok d _ e)
  have ho : ∀ a b, H b = some (.own a) → upd H d (.dK kvs) b = some (.own a) := fun a b r => by
    rw [upd_ne (fun z => by rw [z, e] at r; cases r)]; exact r
  have ht : ∀ b xs, H b = some (.tup xs) → upd H d (.dK kvs) b = some (.tup xs) := fun b xs r => by
    rw [upd_ne (fun z => by rw [z, e] at r; cases r)]; exact r
  refine ⟨I.ok, I.os, I.bare, ⟨I.base.keep, I.base.slot, fun b o e1 n hx => ?_, I.base.there, fun b xs e1 => ht b xs (I.base.tups b xs e1), fun b o u e1 => ?_, fun b ps e1 => ?_⟩, I.loc, I.cell, ?_, fun x c e1 => ?_, fun p hp => ?_, fun b u e1 => ?_, I.len⟩
  · rw [upd_ne (hn b (I.base.free b o e1 n hx))]; exact I.base.free b o e1 n hx
  · have := I.base.frzs b o u e1
    rw [upd_ne (fun z => h0 o u (by rw [← z]; exact e1))]; exact this
  · obtain ⟨m, q'⟩ := I.base.tbls b ps e1
    exact ⟨m, by rw [upd_ne (fun z => by rw [z, e] at q'; cases q')]; exact q'⟩
  · rw [upd_ne (hn _ I.free)]; exact I.free
  · rw [upd_ne (hn _ (I.freeC x c e1))]; exact I.freeC x c e1
  · obtain ⟨a, b, c⟩ := I.pin p hp
    exact ⟨a, by rw [upd_ne (hn _ b)]; exact b, c⟩
  · by_cases hb : b = d
    · subst hb
      rw [upd_same] at e1
      cases e1
      exact q.stay (fun _ _ _ z => z) (ho b) ht
    · rw [upd_ne hb] at e1
      exact (I.hok b u e1).stay (fun _ _ _ z => z) (ho b) ht
def tFz (ts : TS) : TS := fun D σ H => ∃ (d : Addr) (kvs : List (Key × V)), H d = some (.dK kvs) ∧ ∀ o, ts
  { nx := fun σ' H' => H' d = some (.frz o (.dK kvs)) ∧ D.nx σ' (upd H' d (.dK kvs)), rt := fun v H' => H' d = some (.frz o (.dK kvs)) ∧ D.rt v (upd H' d (.dK kvs)),
    bk := fun σ' H' => H' d = some (.frz o (.dK kvs)) ∧ D.bk σ' (upd H' d (.dK kvs)), ct := fun σ' H' => H' d = some (.frz o (.dK kvs)) ∧ D.ct σ' (upd H' d (.dK kvs)) } σ (upd H d (.frz o (.dK kvs)))
theorem ps_fz {st : Stmt} {ts : TS} (h : PS X st ts) : PS X st (tFz ts) := by
  intro pins s σ H D I q
  obtain ⟨d, kvs, e, q⟩ := q
  have h0 : ∀ o u, X.H₀ d ≠ some (.frz o u) := fun o u z => by have := I.base.frzs d o u z; rw [e] at this; cases this
  obtain ⟨o, I1⟩ := I.freeze e
  refine thn (h pins s σ _ _ I1 (q o)) fun f s' z => ?_
  cases f with
  | next => obtain ⟨σ', H', I', a, b⟩ := z; exact ⟨σ', _, I'.thaw a h0, b⟩
  | brk => obtain ⟨σ', H', I', a, b⟩ := z; exact ⟨σ', _, I'.thaw a h0, b⟩
  | cont => obtain ⟨σ', H', I', a, b⟩ := z; exact ⟨σ', _, I'.thaw a h0, b⟩
  | ret v => obtain ⟨x, σ', H', I', r, a, b⟩ := z; exact ⟨x, σ', _, I'.thaw a h0, r, b⟩
theorem i_fz {ts : TS} {D : Ends} {d : Addr} {kvs : List (Key × V)} (e : H d = some (.dK kvs)) (q : ∀ o, ts
  { nx := fun σ' H' => H' d = some (.frz o (.dK kvs)) ∧ D.nx σ' (upd H' d (.dK kvs)), rt := fun v H' => H' d = some (.frz o (.dK kvs)) ∧ D.rt v (upd H' d (.dK kvs)),
    bk := fun σ' H' => H' d = some (.frz o (.dK kvs)) ∧ D.bk σ' (upd H' d (.dK kvs)), ct := fun σ' H' => H' d = some (.frz o (.dK kvs)) ∧ D.ct σ' (upd H' d (.dK kvs)) } σ (upd H d (.frz o (.dK kvs)))) : tFz ts D σ H := ⟨d, kvs, e, q⟩
end
def Iti (d : Addr) (o : Obj) (kvs : List (Key × V)) : It :=
  ⟨fun i H => H d = some (.frz o (.dK kvs)) ∧ i < kvs.length,
   fun i H v H' => ∃ T k x, v = .ref T ∧ New H T (.tup [L2.kV k, x]) H' ∧ kvs[i]? = some (k, x),
   fun i H => H d = some (.frz o (.dK kvs)) ∧ kvs.length ≤ i⟩
theorem key_rel {P : Program} {w : World} {k : Key} {u : Value} (h : (mixKind P w).is k u = true) : RelV (L2.kV k) u := by
  rcases keyIs_shape (show keyIs k u = true from h) with ⟨i, t, rfl, rfl⟩ | ⟨z, t, rfl, rfl⟩
  · exact ⟨t, rfl⟩
  · exact ⟨t, rfl⟩
theorem KV.at : ∀ {kvs : List (Key × V)} {vs : List (Key × Value)}, KV kvs vs → ∀ {i : Nat} {k : Key} {x : V}, kvs[i]? = some (k, x) → ∃ u, vs[i]? = some (k, u) ∧ RelV x u := by
  intro kvs vs r
  induction r with
  | nil => intro i k x e; simp at e
  | @cons p q ps qs h _ ih =>
    intro i k x e
    cases i with
    | zero =>
      simp only [List.getElem?_cons_zero, Option.some.injEq] at e
      subst e
      obtain ⟨q1, q2⟩ := q
      have e1 : k = q1 := h.1
      subst e1
      exact ⟨q2, rfl, h.2⟩
    | succ i =>
      obtain ⟨u, e1, e2⟩ := ih (i := i) (k := k) (x := x) (by simpa using e)
      exact ⟨u, by simpa using e1, e2⟩
theorem dictAt_frz {X : Cx} {pins : List (Addr × Obj)} {σ : St} {H : Hp} {s : Shared} {d : Addr} {o : Obj} {kvs : List (Key × V)} {es0 : Array DictEntry} {ep : Nat} (I : Inv X pins σ H s) (e : H d = some (.frz o (.dK kvs))) (ho : o.data = .dict es0 ep) :
    ∃ vs, KV kvs vs ∧ s.heap.DictAt (mixKind X.prog X.w) d vs ep := by
  obtain ⟨g, z, y, vs, r, ob, es, ep', g', c, hd, rest⟩ := (show ObjOk X.prog X.w H s.heap d (.frz o (.dK kvs)) from I.hok d _ e)
  rw [g] at g'
  cases g'
  rw [ho] at hd
  cases hd
  exact ⟨vs, r, o, es0, g, c, ho, rest⟩
theorem turn_items {P : Program} {w : World} {K : PySem.W.Frag} {es : List Expr} {k : Nat} {tp : Pos} (it d : Addr) (o : Obj) (kvs : List (Key × V)) {es0 : Array DictEntry} {ep : Nat} (ho : o.data = .dict es0 ep) :
    Turn P w K (.Tuple es k tp) (Iti d o kvs) [it] it (fun i h => ∃ ok ov, IsItemIter h it d i kvs.length ep ok ov) where
  mem := by simp
  obj := fun i h st b hb => by
    obtain ⟨ok, ov, he⟩ := st
    have e : b = it := by simpa using hb
    subst e
    exact ⟨_, he, fun v z => by cases z⟩
  keep := fun i h h' st kk => by
    obtain ⟨ok, ov, he⟩ := st
    exact ⟨ok, ov, kk it (by simp) _ he⟩
  item := by
    intro X hP hw hK hc i pins s σ H E I hf st hg
    subst hP hw hK
    obtain ⟨ok, ov, he⟩ := st
    obtain ⟨hd, hi⟩ := hg
    obtain ⟨vs, rel, hm⟩ := dictAt_frz I hd ho
    have hl := rel.length
    obtain ⟨kk, x, hx⟩ : ∃ kk x, kvs[i]? = some (kk, x) := ⟨kvs[i].1, kvs[i].2, List.getElem?_eq_getElem hi⟩
    obtain ⟨u, hu, ru⟩ := rel.at hx
    have he0 : IsItemIter s.heap it d i vs.length ep ok ov := by rw [← hl]; exact he
    refine wpAny_pyNext_items_item he0 hm hu fun key h' hkey ho' hT hsz hk => ⟨_, rfl, ?_⟩
    have I1 : Inv X pins σ H { s with heap := h' } := I.turnedL (t' := s.toks) hf fun b o hb q => hk b o (fun z => hb (by simp [z])) q
    have hlt : it < s.heap.objs.size := Heap.lt_size he
    refine wpAny_letOwnedTupleGo_items ho' fun h2 he2 hs2 => ?_
    have I2 : Inv X pins σ H { s with heap := h2 } := I1.turnedL (t' := s.toks) hf fun b o hb q => (hs2.2 b (fun z => hb (by simp [z]))).trans q
    have hTn : H s.heap.objs.size = none := I.hok.fresh (Nat.le_refl _)
    have hT2 : h2.get? s.heap.objs.size = some { cls := .type "tuple", data := .seq #[key, u] } := (hs2.2 _ (Nat.ne_of_gt hlt)).trans hT
    have I3 : Inv X pins σ (upd H s.heap.objs.size (.tup [L2.kV kk, x])) { s with heap := h2 } := by
      refine I2.track (I.fpOk (Nat.le_refl _) hTn) ⟨by show 2 ≤ sizeLine; decide, [key, u], .cons (key_rel hkey) (.cons ru .nil), ⟨_, hT2, rfl, _, rfl⟩⟩
    refine ⟨.ref s.heap.objs.size, _, I3, rfl, ⟨_, kk, x, rfl, ⟨hTn, rfl⟩, hx⟩, ⟨_, _, by rw [hl]; exact he2⟩, fun b hb => ?_⟩
    have hne : b ≠ s.heap.objs.size := by rw [show b = it by simpa using hb]; exact Nat.ne_of_lt hlt
    rw [upd_ne hne]; exact (hf b hb).1
  done := by
    intro X hP hw hK hc i pins s σ H E I hf st hg
    subst hP hw hK
    obtain ⟨ok, ov, he⟩ := st
    obtain ⟨hd, hi⟩ := hg
    obtain ⟨vs, rel, hm⟩ := dictAt_frz I hd ho
    have hl := rel.length
    have he0 : IsItemIter s.heap it d i vs.length ep ok ov := by rw [← hl]; exact he
    refine wpAny_pyNext_items_end (I.ok.hd hc) he0 hm (List.getElem?_eq_none (by omega)) fun h' hx => ⟨rfl, ?_⟩
    exact I.turnedL (t' := s.toks) hf fun b o hb q => hx b o (fun z => hb (by simp [z])) q
  self := fun _ _ _ _ _ ⟨_, _, he⟩ h => PySem.W.kcp_self he h
def iItems (to : TE) : TI := fun σ H R => to σ H fun x H1 => ∃ d o kvs, x = .ref d ∧ H1 d = some (.frz o (.dK kvs)) ∧ R (Iti d o kvs) H1
theorem pi_items {X : Cx} {es : List Expr} {k : Nat} {tp : Pos} {oe : Expr} {to : TE} {apos cpos : Pos} (hoe : PE X oe to) (hbase : attributeBase oe "items" X.env (eval oe X.env) = eval oe X.env := by rfl)
    (hline : (apos.endLine == cpos.line) = true := by rfl) : PI X (.Tuple es k tp) (.Call (.Attribute oe "items" apos) [] [] cpos) (iItems to) := by
  intro pins s σ H R I h
  refine wpAny_Call_method0_late hbase hline (thn (hoe pins s σ H _ I h) fun v s1 ⟨x, H1, I1, r1, d, o, kvs, ex, hd, q⟩ => ?_)
  subst ex
  obtain rfl : v = Value.ref d := r1
  obtain ⟨t1, t2, t3⟩ := isD_at I1 (.inl ⟨kvs, .inr ⟨o, hd⟩⟩)
  refine ⟨"dict", "dict.items", PySem.F.plainAttrs_dict, PySem.F.slot_dict_items, PySem.F.type_dict_items, t1, t2, Calls.callWith_builtin rfl (PySem.evalArgs_none ?_)⟩
  obtain ⟨g, z, y, vs, rel, ob, es0, ep, g', c, hdat, rest⟩ := (show ObjOk X.prog X.w H1 s1.heap d (.frz o (.dK kvs)) from I1.hok d _ hd)
  have eo : ob = o := by rw [g] at g'; exact (Option.some.inj g').symm
  subst eo
  have hl := rel.length
  refine call_meetsIn PySem.F.slot_dict_items t1 PySem.F.entry_dict_items (PySem.F.args_dict_items_1 _) (meets_dict_items (mixKind X.prog X.w) d t3) ⟨⟨vs, ob, es0, ep, g, c, hdat, rest⟩, ?_⟩
  have hm : (s1.heap.push { cls := .type "dict_items", data := .fields #[.ref d] }).DictAt (mixKind X.prog X.w) d vs ep := Heap.DictAt.push (knd := mixKind X.prog X.w) ⟨ob, es0, g, c, hdat, rest⟩ _
  refine wpAny_pyIter_items (knd := mixKind X.prog X.w) (kvs := vs) (ep := ep) (d := d) ⟨_, Heap.get?_push_size _ rfl, rfl, rfl⟩ hm ?_
  have I2 : Inv X pins σ H1 { s1 with heap := s1.heap.push { cls := .type "dict_items", data := .fields #[.ref d] } } := I1.kept (t' := s1.toks) fun b o e => Heap.get?_push_of_some _ e
  refine ⟨_, [(s1.heap.push { cls := .type "dict_items", data := .fields #[.ref d] }).objs.size], _, _, H1, rfl, I2.kept (t' := s1.toks) fun b o e => Heap.get?_push_of_some _ e, turn_items _ d ob kvs hdat, ⟨.none, .none, ?_⟩, fun b hb => ?_, q⟩
  · rw [hl]; exact Heap.get?_push_size _ rfl
  · have e : b = (s1.heap.push { cls := .type "dict_items", data := .fields #[.ref d] }).objs.size := by simpa using hb
    subst e
    exact I2.fpOk (Nat.le_refl _) (I2.hok.fresh (Nat.le_refl _))
theorem i_items {to : TE} {σ : St} {H : Hp} {R : It → Hp → Prop} (q : to σ H fun x H1 => ∃ d o kvs, x = .ref d ∧ H1 d = some (.frz o (.dK kvs)) ∧ R (Iti d o kvs) H1) : iItems to σ H R := q
theorem for_items {d : Addr} {o : Obj} {kvs : List (Key × V)} {g : TG} {tb : TS} {D : Ends} {σ : St} {H : Hp} (Pv : Nat → St → Hp → Prop) (h0 : Pv 0 σ H) (hl : ∀ i σ H, i ≤ kvs.length → Pv i σ H → H d = some (.frz o (.dK kvs)))
    (hs : ∀ i k x T σ H H', kvs[i]? = some (k, x) → Pv i σ H → New H T (.tup [L2.kV k, x]) H' → g (.ref T) σ H' fun σ2 H2 => tb { D with nx := Pv (i + 1), ct := Pv (i + 1), bk := D.nx } σ2 H2) (hd : ∀ σ H, Pv kvs.length σ H → D.nx σ H) :
    ∃ W : Nat → Nat → St → Hp → Prop, (∃ m, W 0 m σ H) ∧ ∀ i m σ H, W i m σ H →
      ((Iti d o kvs).stop i H ∧ D.nx σ H) ∨ ((Iti d o kvs).go i H ∧ ∃ N : St → Hp → Prop, (∀ σ' H', N σ' H' → ∃ m', m' < m ∧ W (i + 1) m' σ' H') ∧ ∀ x H', (Iti d o kvs).yld i H x H' → g x σ H' fun σ2 H2 => tb { D with nx := N, ct := N, bk := D.nx } σ2 H2) := by
  refine ⟨fun i m σ H => m = kvs.length - i ∧ i ≤ kvs.length ∧ Pv i σ H, ⟨kvs.length, by simp, Nat.zero_le _, h0⟩, ?_⟩
  rintro i m σ H ⟨rfl, hi, hp⟩
  have hf := hl i σ H hi hp
  by_cases hlt : i < kvs.length
  · refine .inr ⟨⟨hf, hlt⟩, Pv (i + 1), fun σ' H' h' => ⟨kvs.length - (i + 1), by omega, rfl, by omega, h'⟩, fun v H' yy => ?_⟩
    obtain ⟨T, k, x, rfl, hN, hq⟩ := yy
    exact hs i k x T σ H H' hq hp hN
  · have ei : i = kvs.length := by omega
    subst ei
    exact .inl ⟨⟨hf, Nat.le_refl _⟩, hd σ H hp⟩
section
variable {X : Cx} {pins : List (Addr × Obj)} {σ : St} {H : Hp} {s : Shared}
end
section
variable {X : Cx}
end
theorem pe_fldK {X : Cx} {K : PySem.W.Frag} {e : Expr} {f : Str} {pos : Pos} {ta : TE} (hK : X.K = K) (he : PE X e ta) (hb : attributeBase e f X.env (eval e X.env) = eval e X.env) : PE X (.Attribute e f pos) (tFld K ta f) := by
  subst hK; exact pe_fld he hb
theorem lcFN {J : It} {n : Nat} {xs : Nat → V} {tf : TT} {te : TE} {cs : St} {H1 : Hp} {Q : Addr → Hp → Prop} (L : LcIt J n H1 xs) (p : Nat → Bool) (Pe : Addr → Nat → V → Hp → Prop) (hz : n ≤ sizeLine)
    (hm : ∀ D i y H H', SameB D H H' → Pe D i y H → Pe D i y H')
    (hf : ∀ (i : Nat) (H' : Hp) (R : Bool → Hp → Prop), i < n → Same H1 H' → R (p i) H' → tf (some (xs i) :: cs) H' R)
    (hx : ∀ (D : Addr) (i : Nat) (H' : Hp) (R : VK), i < n → p i = true → H1 D = none → (∃ ys, H' D = some (.lst ys)) → Same H1 H' → (∀ y H'', Same H' H'' → Pe D i y H'' → R y H'') → te (some (xs i) :: cs) H' R)
    (q : ∀ D ys H2, H1 D = none → Same H1 H2 → H2 D = some (.lst ys) → ys.length = ((List.range n).filter p).length → (∀ (j : Nat) (y : V) (i : Nat), ys[j]? = some y → ((List.range n).filter p)[j]? = some i → Pe D i y H2) → Q D H2) :
    ∀ D, H1 D = none → ∃ W : Nat → Nat → List V → Hp → Prop, (∃ m, W 0 m [] (upd H1 D (.lst []))) ∧ ∀ i m ys H, W i m ys H →
      H D = some (.lst ys) ∧ ((J.stop i H ∧ Q D H) ∨ (J.go i H ∧ ys.length < sizeLine ∧ ∀ x H', J.yld i H x H' → tf (some x :: cs) H' fun b H2 =>
        if b = true then te (some x :: cs) H2 fun y H3 => H3 D = some (.lst ys) ∧ ∃ m', m' < m ∧ W (i + 1) m' (ys ++ [y]) (upd H3 D (.lst (ys ++ [y]))) else ∃ m', m' < m ∧ W (i + 1) m' ys H2)) := by
  intro D hD
  refine ⟨fun i m ys H => m = n - i ∧ i ≤ n ∧ ys.length = ((List.range i).filter p).length ∧ H D = some (.lst ys) ∧ Same H1 H ∧ ∀ (j : Nat) (y : V) (k : Nat), ys[j]? = some y → ((List.range i).filter p)[j]? = some k → Pe D k y H,
    ⟨n, by simp, Nat.zero_le _, rfl, upd_same, Same.new hD, fun j y k e => by simp at e⟩, ?_⟩
  rintro i m ys H ⟨rfl, hi, hyl, hHD, s1, hP⟩
  refine ⟨hHD, ?_⟩
  by_cases hlt : i < n
  · have hle : ys.length ≤ i := by
      rw [hyl]
      exact Nat.le_trans (List.length_filter_le _ _) (Nat.le_of_eq List.length_range)
    refine .inr ⟨L.go i _ hlt s1, by omega, fun x H' y => ?_⟩
    obtain ⟨e, ex⟩ := L.yld i _ x H' hlt s1 y
    subst e ex
    refine hf i _ _ hlt s1 ?_
    cases hp : p i with
    | true =>
      rw [if_pos rfl]
      refine hx D i _ _ hlt hp hD ⟨ys, hHD⟩ s1 fun y H'' s2 hy => ⟨s2 _ _ hHD, n - (i + 1), by omega, rfl, hlt, ?_, upd_same, ?_, ?_⟩
      · rw [List.range_succ, List.filter_append, List.length_append, List.length_append, hyl]
        simp [hp]
      · intro b u e
        rw [upd_ne (ne_of_none e hD)]
        exact s2 _ _ (s1 _ _ e)
      · intro j y' k e1 e2
        have sB : SameB D H' (upd H'' D (.lst (ys ++ [y]))) := fun b u n e => by rw [upd_ne n]; exact s2 _ _ e
        have sB2 : SameB D H'' (upd H'' D (.lst (ys ++ [y]))) := fun b u n e => by rw [upd_ne n]; exact e
        rw [List.range_succ, List.filter_append] at e2
        by_cases hj : j < ys.length
        · rw [List.getElem?_append_left hj] at e1
          rw [List.getElem?_append_left (by omega)] at e2
          exact hm D k y' _ _ sB (hP j y' k e1 e2)
        · rw [List.getElem?_append_right (by omega)] at e1
          rw [List.getElem?_append_right (by omega)] at e2
          have h0 : j - ys.length = 0 := by
            by_cases h0 : j - ys.length = 0
            · exact h0
            · rw [List.getElem?_eq_none (by simp; omega)] at e1; cases e1
          rw [h0] at e1
          rw [← hyl, h0] at e2
          have e1' : y = y' := by simpa using e1
          have e2' : i = k := by simpa [hp] using e2
          subst e1'
          subst e2'
          exact hm D i y _ _ sB2 hy
    | false =>
      rw [if_neg (by decide)]
      refine ⟨n - (i + 1), by omega, rfl, hlt, ?_, hHD, s1, ?_⟩
      · rw [List.range_succ, List.filter_append, List.length_append, hyl]
        simp [hp]
      · intro j y' k e1 e2
        rw [List.range_succ, List.filter_append] at e2
        have e3 : List.filter p [i] = [] := by simp [hp]
        rw [e3, List.append_nil] at e2
        exact hP j y' k e1 e2
  · have e : i = n := by omega
    subst e
    exact .inl ⟨L.stop _ s1, q D ys H hD s1 hHD hyl hP⟩
def CDivB : Int → Int → Prop := fun _ j => 0 < j ∧ j.natAbs.log2 < 9000
theorem op_fdivB {X : Cx} : OpR X (binaryOp .FloorDiv) (rI CDivB fun i j => .int (i / j)) := opI fun i j _ _ _ _ _ hc q => by
  have h1 : (0 : Int) < j := hc.1
  exact floordiv_int (by omega) (by rw [Int.fdiv_eq_ediv_of_nonneg i (by omega)]; exact q) (.inl (PyProof.noPylong_of_log2 hc.2))
theorem i_divB {g : Int → Int → V} {i j : Int} {H : Hp} {Q : VK} (c : 0 < j ∧ j.natAbs.log2 < 9000) (q : Q (g i j) H) : rI CDivB g (.int i) (.int j) H Q := ⟨i, j, rfl, rfl, c, q⟩
theorem i_rng2 {ta : TA} {σ : St} {H : Hp} {R : It → Hp → Prop} (q : ta σ H fun vs H1 => ∃ i j : Int, vs = [.int i, .int j] ∧ (-(2 ^ 62) ≤ i ∧ i < 2 ^ 62 ∧ -(2 ^ 62) ≤ j ∧ j < 2 ^ 62) ∧ R (Itr i (j - i).toNat) H1) : iRng2 ta σ H R := q
end L2
set_option Elab.async false
set_option linter.all false
set_option maxRecDepth 100000
namespace L2
open PySem PySem.Spec PySem.W PyProof.Rows
def off (e : Addr) (H : Hp) : Hp := fun b => if b = e then none else H b
theorem off_self {e : Addr} {H : Hp} : off e H e = none := if_pos rfl
theorem off_ne {b e : Addr} {H : Hp} (n : b ≠ e) : off e H b = H b := if_neg n
def excN (e C : Addr) (d : Option Addr) : HO := .ext fun h => ∃ t, h.get? e = some ⟨.ref C, d, .fields #[.ref t, .none, .none, .none, .bool false, .none], #[]⟩
theorem excN_ok {P : Program} {w : World} {H : Hp} {h : Heap} {e C t : Addr} {d : Option Addr} (q : h.get? e = some ⟨.ref C, d, .fields #[.ref t, .none, .none, .none, .bool false, .none], #[]⟩) : ObjOk P w H h e (excN e C d) :=
  ⟨⟨t, q⟩, ⟨_, q⟩, fun _ _ ⟨t, q⟩ k => ⟨t, k _ q⟩⟩
section
variable {X : Cx} {pins : List (Addr × Obj)} {σ : St} {H : Hp} {s : Shared} {e : Addr}
theorem Inv.untrack {φ : Heap → Prop} (I : Inv X pins σ H s) (he : H e = some (.ext φ)) : Inv X pins σ (off e H) s := by
  have hk : ∀ b u, H b = some u → (∀ φ, u ≠ .ext φ) → off e H b = some u := fun b u q n => by
    rw [off_ne (fun z => by subst z; rw [he] at q; cases q; exact n _ rfl)]; exact q
  have hn : ∀ b, H b = none → off e H b = none := fun b q => by
    by_cases z : b = e
    · rw [z]; exact off_self
    · rw [off_ne z]; exact q
  refine ⟨I.ok, I.os, I.bare, ⟨I.base.keep, I.base.slot, fun b ob q n hx => hn _ (I.base.free b ob q n hx), I.base.there, fun b xs q => hk _ _ (I.base.tups b xs q) (by intro φ z; cases z), fun b ob u q => hk _ _ (I.base.frzs b ob u q) (by intro φ z; cases z), fun b ps q => ?_⟩, I.loc, I.cell, hn _ I.free, fun x c q => hn _ (I.freeC x c q), fun p hp => ?_, fun b u q => ?_, I.len⟩
  · obtain ⟨more, this⟩ := I.base.tbls b ps q; exact ⟨more, hk _ _ this (by intro φ z; cases z)⟩
  · obtain ⟨a, b, c, d⟩ := I.pin p hp; exact ⟨a, hn _ b, c, d⟩
  · have hb : b ≠ e := fun z => by rw [z, off_self] at q; cases q
    rw [off_ne hb] at q
    exact (I.hok b u q).stay (fun _ _ _ q => q) (fun c q => hk _ _ q (by intro φ z; cases z)) fun c xs q => hk _ _ q (by intro φ z; cases z)
end
structure XI (K : Frag) (C L f : Addr) : Prop where
  ob : ∃ nm q N bs hdct sn sub ab col dd k0 k1 k2 k3 k5, K.lookup C = some (excClassObj nm q C N bs (.ref L :: vBases) hdct sn sub ab col dd k0 k1 k2 k3 k5 "ValueError.__new__")
  lp : excIn K L vBases "ValueError.__new__" = true
  ini : findIn K (.ref C) "__init__" = some (some (.ref f))
  fn : isFn K (.ref f) = true
  xc : XCls K C
  sa : findIn K (.ref C) "__setattr__" = some (some (.builtin "object.__setattr__"))
  hd : hasDictIn K C = true
theorem XI.tail {K : Frag} {C L f : Addr} (x : XI K C L f) {h : Heap} (X : K.In h) : OwnTail h vBases (.ref L :: vBases) := by
  obtain ⟨bm, N, nm, qn, bs, hdct, sn, sub, ab, col, dd, k0, k1, k2, k3, k5, mN, hL, hN, hni, _⟩ := exc_obj X x.lp
  exact .own hL hN hni .base
section
variable {prog : Program} {w : World} {A : Around} {E : Value → Shared → Prop} {h : Heap} {g : Array GenState} {d : Drawn} {t : Nat} {os : OsState} {K : Frag}
variable {nm q : Str} {C N fI : Addr} {bs bm bmB : List Value} {hdct : Bool} {sn : List Str} {sub : List Value} {ab : Bool} {col : Option Bool} {dd : Option Addr} {k0 k1 k2 k3 k5 : Option Value} {B newId initId : String}
theorem type_call_init (F : ExcBaseFacts B newId initId bmB) (T : OwnTail h bmB bm) (X : K.In h) {us : List Value} {Q : Fin → Shared → Prop}
    (hC : h.get? C = some (excClassObj nm q C N bs bm hdct sn sub ab col dd k0 k1 k2 k3 k5 newId)) (hi : findIn K (.ref C) "__init__" = some (some (.ref fI))) (hf : typeIn K (.ref fI) = some (.type "function"))
    (hq : ∀ h' e, Heap.MadeExcOf h h' e (.ref C) us → wpAny (model prog w) A (call (.ref fI) (.ref e :: us)) (fun r s' => r = .none ∧ Q (.done (.ret (.ref e))) s') E ⟨h', g, d, t, os⟩) (hz : us.length ≤ sizeLine) :
    wpAny (model prog w) A (Builtin.«type.__call__» ⟨.ref C :: us, []⟩) Q E ⟨h, g, d, t, os⟩ := by
  repeat (first | with_reducible refine wpAny_loadPart_at hC ?_ | with_reducible refine wpAny_madeBy_exc hC ?_ | wp_step)
  refine codeAny_call_builtin_code (Code.quiet_builtin _ F.quiet) (wpAny_check_new_subT F T hC ?_)
  refine codeAny_exc_new_subT F T hC ?_ hz
  show wpAny _ _ _ _ _ _
  have kp : ∀ b o, h.get? b = some o → ((h.push { cls := .type "tuple", data := .seq us.toArray }).push { cls := .ref C, data := .fields #[.ref h.objs.size, .none, .none, .none, .bool false, .none] }).get? b = some o :=
    fun b o z => Heap.get?_push_of_some _ (Heap.get?_push_of_some _ z)
  have hC' := kp _ _ hC
  have X' := X.keeps kp
  have hg : ((h.push { cls := .type "tuple", data := .seq us.toArray }).push { cls := .ref C, data := .fields #[.ref h.objs.size, .none, .none, .none, .bool false, .none] }).get? (h.objs.size + 1)
      = some { cls := .ref C, data := .fields #[.ref h.objs.size, .none, .none, .none, .bool false, .none] } := by heap_get
  have hcC : (Value.ref C :: bm).contains (.ref C) = true := by simp
  unfold isInstance
  repeat (first | with_reducible refine wpAny_loadPart_at hg ?_ | (with_reducible refine wpAny_isSubtype_exc hC' ?_; rw [hcC]) | wp_step)
  show wpAny _ _ (typeLookup (.ref C) _) _ _ _
  refine (looks_findIn X' hi).at ?_
  refine wpAny_holding (wpAny_bind ((bind_fn X' _ hf).at ?_))
  refine wpAny_bind (wpAny_mono (hq _ (h.objs.size + 1) ⟨kp, Heap.get?_none_of_le (Nat.le_succ _), h.objs.size, hg, Heap.get?_none_of_le (Nat.le_refl _), Heap.get?_push_of_some _ (Heap.get?_push_at rfl rfl)⟩) (fun r s' hr => ?_) fun _ _ x => x)
  obtain ⟨rfl, hQ⟩ := hr
  wp_walk
  exact hQ
theorem call_exc_init (F : ExcBaseFacts B newId initId bmB) (T : OwnTail h bmB bm) (X : K.In h) {us : List Value} {Q : Value → Shared → Prop}
    (hC : h.get? C = some (excClassObj nm q C N bs bm hdct sn sub ab col dd k0 k1 k2 k3 k5 newId)) (hi : findIn K (.ref C) "__init__" = some (some (.ref fI))) (hf : typeIn K (.ref fI) = some (.type "function"))
    (hq : ∀ h' e, Heap.MadeExcOf h h' e (.ref C) us → wpAny (model prog w) (A.under (.builtin "type.__call__" ⟨.ref C :: us, []⟩)) (call (.ref fI) (.ref e :: us)) (fun r s' => r = .none ∧ Q (.ref e) s') E ⟨h', g, d, t, os⟩) (hz : us.length ≤ sizeLine) :
    wpAny (model prog w) A (call (.ref C) us) Q E ⟨h, g, d, t, os⟩ := by
  have f1 := tc_lookup
  have f2 := tc_bind (.ref C)
  have hT : (⟨h, g, d, t, os⟩ : Shared).TypeIs (.ref C) "type" := ⟨_, hC, rfl⟩
  refine wpAny_call (codeAny_of_tree ?_)
  show wpAny _ _ (callAny (.ref C) _) _ _ _
  repeat (any_goals (first | assumption | with_reducible refine wpAny_loadPart_at hC ?_ | wp_step))
  refine ⟨rfl, ?_⟩
  exact codeAny_call_builtin_at (Code.quiet_builtin _ (by decide +kernel)) entry_typeCall (wpAny_check_type_call_sub hC (type_call_init F T X hC hi hf (fun h' e hm => hq h' e hm) hz))
theorem raise_made {M : Model} {env : Env} {s : Shared} {x : Sem Value} {Q : Flow → Shared → Prop} (hbase : bm.contains (.type "BaseException") = true) (hh : A.handled = none)
    (h : wpAny M A x (fun v s₁ => ∃ e t dx, v = .ref e ∧ s₁.heap.get? C = some (excClassObj nm q C N bs bm hdct sn sub ab col dd k0 k1 k2 k3 k5 newId) ∧
      s₁.heap.get? e = some ⟨.ref C, dx, .fields #[.ref t, .none, .none, .none, .bool false, .none], #[]⟩ ∧ E (.ref e) s₁) E s) : wpAny M A (raiseStmt env (some x) none) Q E s := by
  have hcB : (Value.ref C :: bm).contains (.type "BaseException") = true := by rw [List.contains_cons, hbase, Bool.or_true]
  unfold raiseStmt
  refine wpAny_bind (wpAny_mono h (fun v s₁ z => ?_) fun _ _ x => x)
  obtain ⟨e, t, dx, rfl, hC, he, hE⟩ := z
  obtain ⟨hp, g, d, tk, os⟩ := s₁
  repeat (first | with_reducible refine wpAny_loadPart_at he ?_ | with_reducible refine wpAny_loadPart_at hC ?_ | (with_reducible refine wpAny_isSubtype_exc hC ?_; rw [hcB]) | wp_step)
  exact wpAny_raiseNew_none hh hE
end
section
variable {prog : Program} {w : World} {A : Around} {E : Value → Shared → Prop} {s : Shared} {env : Env} {K : Frag}
variable {nm q : Str} {C N fI : Addr} {bs bm bmB : List Value} {hdct : Bool} {sn : List Str} {sub : List Value} {ab : Bool} {col : Option Bool} {dd : Option Addr} {k0 k1 k2 k3 k5 : Option Value} {B newId initId : String}
theorem Raise_init (F : ExcBaseFacts B newId initId bmB) {x : Str} {np cpos pos : Pos} {args : List Expr} {Q : Flow → Shared → Prop}
    (hbase : bm.contains (.type "BaseException") = true) (hh : A.handled = none) (hplain : (backTo cpos (starEach args env)).any (·.1) = false) (hi : findIn K (.ref C) "__init__" = some (some (.ref fI))) (hf : typeIn K (.ref fI) = some (.type "function"))
    (h : wpAny (model prog w) A (eval (.Name x np) env) (fun f s₁ => f = .ref C ∧ wpAny (model prog w) A (evalArgs (.ref C) true (backTo cpos (starEach args env)) [])
      (fun a s₂ => a.kw = [] ∧ a.pos.length ≤ sizeLine ∧ s₂.heap.get? C = some (excClassObj nm q C N bs bm hdct sn sub ab col dd k0 k1 k2 k3 k5 newId) ∧ K.In s₂.heap ∧ OwnTail s₂.heap bmB bm ∧
        ∀ h' e, Heap.MadeExcOf s₂.heap h' e (.ref C) a.pos → wpAny (model prog w) (A.under (.builtin "type.__call__" ⟨.ref C :: a.pos, []⟩)) (call (.ref fI) (.ref e :: a.pos))
          (fun r s₃ => r = .none ∧ ∃ t dx, s₃.heap.get? C = some (excClassObj nm q C N bs bm hdct sn sub ab col dd k0 k1 k2 k3 k5 newId) ∧ s₃.heap.get? e = some ⟨.ref C, dx, .fields #[.ref t, .none, .none, .none, .bool false, .none], #[]⟩ ∧ E (.ref e) s₃) E { s₂ with heap := h' }) E s₁) E s) :
    wpAny (model prog w) A (exec (.Raise (some (.Call (.Name x np) args [] cpos)) none pos) env) Q E s := by
  rw [arm_exec_Raise]
  refine wpAny_bind (wpAny_standAt (raise_made (C := C) (nm := nm) (q := q) (N := N) (bs := bs) (bm := bm) (hdct := hdct) (sn := sn) (sub := sub) (ab := ab) (col := col) (dd := dd) (k0 := k0) (k1 := k1) (k2 := k2) (k3 := k3) (k5 := k5) (newId := newId) hbase hh
    (wpAny_bind (wpAny_mono (wpAny_Call_ofName (wpAny_mono h (fun f s₁ z => ?_) fun _ _ x => x)) (fun v s₃ z => wpAny_bind (wpAny_standAt (wpAny_pure z))) fun _ _ x => x))))
  obtain ⟨rfl, z⟩ := z
  unfold callWith
  refine wpAny_bind (wpAny_holding (wpAny_mono z (fun a s₂ z2 => wpAny_bind (wpAny_standAt ?_)) fun _ _ x => x))
  obtain ⟨apos, akw⟩ := a
  obtain ⟨hkw, hlen, hC, X, T, z2⟩ := z2
  obtain rfl : akw = [] := hkw
  obtain ⟨hp, g, d, tk, os⟩ := s₂
  simp only [hplain]
  refine wpAny_bind (wpAny_keeperOf_exc hC ?_)
  refine wpAny_bind (call_exc_init F T X hC hi hf (fun h' e hm => wpAny_mono (z2 h' e hm) (fun r s' zr => ⟨zr.1, ?_⟩) fun _ _ x => x) hlen)
  obtain ⟨_, t, dx, a1, a2, a3⟩ := zr
  exact wpAny_bind (wpAny_holding (wpAny_point (wpAny_pure ⟨e, t, dx, rfl, a1, a2, a3⟩)))
end
section
variable {X : Cx} {ES : XS} {x : Str} {C L f : Addr} {fd : FuncData} {k : Nat} {ps : List Str} {sp : Sp} {np cpos pos : Pos} {a : Expr} {rest : List Expr} {t : TA}
def tRaiseI (ES : XS) (C : Addr) (sp : Sp) (t : TA) : TS := fun _ σ H => t σ H fun vs H1 => vs.length ≤ sizeLine ∧ ∀ e, H1 e = none → sp (.ref e :: (vs ++ [])) (upd H1 e (excN e C none)) (fun v H2 => v = .non ∧ ∃ d, H2 e = some (excN e C d) ∧ ES σ (.ref C) d (off e H2)) E0
theorem ps_raiseI (hX : XI X.K C L f) (Fk : FnOk X.prog X.w X.K X.mg X.base CX0 k f fd ps sp) (hb : Binds X.K fd ps []) (hr : Room (k + 1) X.A) (hc : X.calm = true) (hx : ∀ v s, xeOf X ES v s → X.xe v s) (hg : Gl X x) (hm : X.mg x = some (.ref C)) (ha : PA X (a :: rest) t) (hdb : (x == ("__debug__" : Str)) = false := by decide)
    (he : starEach (a :: rest) X.env = (false, eval a X.env) :: starEach rest X.env := by rfl) (hpl : (backTo cpos (starEach rest X.env)).any (·.1) = false := by rfl) :
    PS X (.Raise (some (.Call (.Name x np) (a :: rest) [] cpos)) none pos) (tRaiseI ES C sp t) := by
  intro pins s σ H D I h
  obtain ⟨nm, q, N, bs, hdct, sn, sub, ab, col, dd, k0, k1, k2, k3, k5, lk⟩ := hX.ob
  have FB := PySem.F.excBase_ValueError
  refine Raise_init (K := X.K) (C := C) (fI := f) (nm := nm) (q := q) (N := N) (bs := bs) (bm := .ref L :: vBases) (hdct := hdct) (sn := sn) (sub := sub) (ab := ab) (col := col) (dd := dd) (k0 := k0) (k1 := k1) (k2 := k2) (k3 := k3) (k5 := k5)
    FB (by rw [List.contains_cons, FB.hasBase, Bool.or_true]) (I.ok.hd hc) (by rw [he]; show (false || (backTo cpos (starEach rest X.env)).any (·.1)) = false; rw [hpl]; rfl) hX.ini (beq_iff_eq.mp hX.fn) (ld_glob I hg hm ⟨rfl, ?_⟩ hdb)
  have hr' := ha cpos pins s σ H _ I h
  rw [he] at hr' ⊢
  refine Calls.evalArgs_plain (thn hr' fun us s2 ⟨vs, H2, I2, rv, z, q2⟩ => ⟨rfl, by rw [← rv.length]; exact z, I2.kIn _ _ lk, I2.kIn, hX.tail I2.kIn, fun h' e m => ?_⟩)
  have hn := I2.noObj m.new
  have I3 : Inv X pins σ H2 { s2 with heap := h' } := I2.kept (t' := s2.toks) m.keeps
  obtain ⟨tp, ht, _, _⟩ := m.there
  have I4 := I3.track (o := excN e C none) (I2.fpNew m.new hn) (excN_ok ht)
  have hq := q2 e hn
  have r2 : Vals (V.ref e :: (vs ++ [])) (Value.ref e :: (us ++ [])) := .cons rfl (rv.append .nil)
  have hl : (Value.ref e :: us ++ []).length = ps.length := by
    have z := r2.length
    rw [Fk.len _ _ _ _ hq] at z
    exact z.symm
  have hbt : BindsTo { s2 with heap := h' } fd ⟨Value.ref e :: us, []⟩ (ps.zip (Value.ref e :: (us ++ []))) := hb _ (Value.ref e :: us) I4.kIn hl
  refine wpAny_call (codeAny_mono (Fk.run _ X.stack _ _ ⟨Value.ref e :: us, []⟩ (Value.ref e :: (us ++ [])) _ _ E0 (hr.make C us []) (I4.env0.make C us []) hbt r2 hq) fun r s' hq' => ?_)
  cases r with
  | error e' => exact hq'.elim
  | ok fl =>
    cases fl with
    | ret u =>
      obtain ⟨v, H', I5, rv', ev, d, hH, qq⟩ := I4.after hq'
      subst ev
      obtain ⟨⟨t', ht'⟩, _, _⟩ := I5.hok e _ hH
      refine ⟨rv', t', d, I5.kIn _ _ lk, ht', hx _ _ ⟨e, .ref C, d, none, σ, off e H', rfl, ⟨(I5.untrack hH).nil, (I2.fpNew m.new off_self).nil, _, _, ht', rfl⟩, .inl rfl, qq⟩⟩
    | next => exact False.elim hq'
    | brk => exact False.elim hq'
    | cont => exact False.elim hq'
end
theorem i_raiseI {ES : XS} {C : Addr} {sp : Sp} {t : TA} {D : Ends} {σ : St} {H : Hp} (q : t σ H fun vs H1 => vs.length ≤ sizeLine ∧ ∀ e, H1 e = none → sp (.ref e :: (vs ++ [])) (upd H1 e (excN e C none)) (fun v H2 => v = .non ∧ ∃ d, H2 e = some (excN e C d) ∧ ES σ (.ref C) d (off e H2)) E0) : tRaiseI ES C sp t D σ H := q
theorem same_exc {H H1 : Hp} {e d : Addr} {o1 o2 x : HO} (s : Same H H1) (he : H1 e = none) (hd : upd H1 e o1 d = none) (hne : d ≠ e) : Same H (off e (upd (upd (upd H1 e o1) e o2) d x)) ∧ off e (upd (upd (upd H1 e o1) e o2) d x) d = some x ∧ upd (upd (upd H1 e o1) e o2) d x e = some o2 := by
  rw [upd_ne hne] at hd
  refine ⟨fun b u q => ?_, by rw [off_ne hne, upd_same], by rw [upd_ne hne.symm, upd_same]⟩
  have q1 := s _ _ q
  have n1 : b ≠ e := ne_of_none q1 he
  have n2 : b ≠ d := ne_of_none q1 hd
  rw [off_ne n1, upd_ne n2, upd_ne n1, upd_ne n1]; exact q1
section
variable {X : Cx} {y : Str} {C L f : Addr} {np apos pos : Pos} {e : Expr} {es : List Expr} {t : TA} {pl : Sem Bool}
def tBInit (K : Frag) (t : TA) : TE := fun σ H Q => t σ H fun vs H1 => ∃ a C L f d z, vs = [.ref a, z] ∧ H1 a = some (excN a C d) ∧ XI K C L f ∧ Q .non H1
theorem i_binit {K : Frag} {t : TA} {σ : St} {H : Hp} {Q : VK} (q : t σ H fun vs H1 => ∃ a C L f d z, vs = [.ref a, z] ∧ H1 a = some (excN a C d) ∧ XI K C L f ∧ Q .non H1) : tBInit K t σ H Q := q
theorem upd_id {H : Hp} {a : Addr} {o : HO} (h : H a = some o) : upd H a o = H := by
  funext b
  by_cases z : b = a
  · rw [z, upd_same, h]
  · rw [upd_ne z]
theorem pe_binit (hg : Gl X y) (hm : X.mg y = some (.ref L)) (hrd : readsIn X.K L (.type "type") = true) (hs : specialIn X.K (.ref L) "__getattribute__" = some (some (.builtin "type.__getattribute__")))
    (hf : findCls X.K (.ref L) (.type "type") "__init__" = some (.val (.builtin "ValueError.__init__"))) (ha : PA X (e :: es) t) (hdb : (y == ("__debug__" : Str)) = false := by decide)
    (he : starEach (e :: es) X.env = (false, eval e X.env) :: starEach es X.env := by rfl) (hpl : (backTo pos (starEach es X.env)).any (·.1) = false := by rfl)
    (ht : eval (.Call (.Attribute (.Name y np) "__init__" apos) (e :: es) [] pos) X.env = (do
      let ov ← eval (.Name y np) X.env
      standAt apos.atName
      let (f, first) ← holding [ov] (getMethod ov "__init__" pl)
      callWith pos f first (backTo pos (starEach (e :: es) X.env)) (backToKw pos (keywordEach [] X.env))) := by rfl) :
    PE X (.Call (.Attribute (.Name y np) "__init__" apos) (e :: es) [] pos) (tBInit X.K t) := by
  intro pins s σ H Q I h
  refine PySem.W.methodCall_KW (pl := pl) (ld_glob I hg hm ?_ hdb) ht
  refine method_cls I.kIn hs (cls_value I.kIn hrd hf rfl ?_)
  have hA := ha pos pins _ σ H _ (I.tok (s.toks + 1)) h
  rw [he] at hA ⊢
  refine Calls.callWith_builtin (by show (false || (backTo pos (starEach es X.env)).any (·.1)) = false; rw [hpl] <;> rfl) (Calls.evalArgs_plain ?_)
  refine thn hA fun us s2 ⟨vs, H2, I2, r2, a, C, L', f, d, z, ev, ea, x, q⟩ => ?_
  subst ev
  obtain ⟨u, w', rfl, r3, r4⟩ := vals2 r2
  obtain rfl : u = Value.ref a := r3
  obtain ⟨⟨tp, hob⟩, _, _⟩ := I2.hok a _ ea
  obtain ⟨nm, q', N, bs, hdct, sn, sub, ab, col, dd, k0, k1, k2, k3, k5, lk⟩ := x.ob
  have FB := PySem.F.excBase_ValueError
  obtain ⟨hh, g, dr, tk, os⟩ := s2
  refine wpAny_call (codeAny_call_builtin FB.init.plain FB.initEntry (wpAny_check_init_subT FB (x.tail I2.kIn) (I2.kIn _ _ lk) hob rfl ?_))
  wp_walk
  show EP X pins σ Q .none _
  have ho' := Heap.get?_push_of_some (h := hh) { cls := .type "tuple", data := .seq #[w'] } hob
  have hnew : ((hh.push { cls := .type "tuple", data := .seq #[w'] }).update a (Obj.mapFields fun x => x.setIfInBounds 0 (Value.ref hh.objs.size))).get? a = some ⟨.ref C, d, .fields #[.ref hh.objs.size, .none, .none, .none, .bool false, .none], #[]⟩ := upd_rec ho' _
  have I3 := I2.write (x := a) (e := a) (o := excN a C d) (t' := tk) (by rw [ea]; trivial) (.inl rfl) (fun b u hb z => (Heap.get?_update_other _ _ (Ne.symm hb)).trans (Heap.get?_push_of_some _ z)) ⟨_, hnew⟩ (excN_ok hnew)
  rw [upd_id ea] at I3
  exact ⟨.non, H2, I3, rfl, q⟩
end
section
variable {prog : Program} {w : World} {A : Around} {E : Value → Shared → Prop} {K : Frag} {s : Shared} {a C L fI : Addr} {oe : Obj} {od : Option Obj} {name : Str} {v : Value}
theorem exc_get {expr : Bool} {Q : Value → Shared → Prop} (X : K.In s.heap) (I : InstAt s.heap a oe C od) (k : XCls K C) (hf : findObj K C od name = some (.value v)) (hh : handedIn v = true) (hq : Q v { s with toks := s.toks + 1 }) :
    wpAny (model prog w) A (getAttr (.ref a) name expr) Q E s := by
  obtain ⟨h, g, d, t, os⟩ := s
  have L0 := I.type (M := model prog w)
  have L3 := looks_find (M := model prog w) X I hf
  unfold getAttr
  refine wpAny_bind (wpAny_mkText ?_)
  refine exc_by X I k ?_
  unfold Builtin.«object.__getattribute__»
  refine wpAny_bind (m := slotArgs "__getattribute__" 1 _) (wpAny_of_eq (a := (.ref a, [.str name t])) rfl ?_)
  dsimp only
  refine wpAny_bind (m := Builtin.ObjectAttr.attrName _) (wpAny_of_eq (a := name) rfl ?_)
  refine wpAny_bind (L0.at (wpAny_bind (L3.at ?_)))
  exact wpAny_pure (handed_on hh hq)
theorem osa_exc {R : Result → Shared → Prop} {tk : Tok} {cd : ClassData} (X : K.In s.heap) (I : InstAt s.heap a oe C od) (xc : XCls K C) (hc : clsIn K C = some cd) (hm : cd.mro = .ref C :: .ref L :: vBases) (hn : findIn K (.ref C) name = some none)
    (h : wpAny (model prog w) A.in1 (Builtin.ObjectAttr.storeInOwnDict (.ref a) (.ref C) (.str name tk) name v false)
      (fun fin s' => match fin with | .done f => R (.ok f) s' | .again c' => c'.quiet = true ∧ codeAny (model prog w) A c' R s') (fun e s' => R (.error e) s') s) :
    codeAny (model prog w) A (.call (.builtin "object.__setattr__") ⟨[.ref a, .str name tk, v], []⟩) R s := by
  have S0 := PySem.F.store_object
  have S1 := PySem.F.store_ValueError
  have L1 : Looks (model prog w) s.heap (isInstance (.ref a) (.type "object")) true := I.type.andThen (looks_mroIn X xc.ob)
  refine codeAny_call_builtin S0.slot.plain S0.entry (@check_slot (model prog w) _ _ s "object.__setattr__" "object" "__setattr__" (.ref a) [.str name tk, v] [] _ S0.kind S0.split L1 (S0.args (.ref a) (.str name tk) v) ?_)
  have L2 : Looks (model prog w) s.heap (mroOf (.ref C)) cd.mro := (looks_clsIn X hc).andThen .now
  rw [osa_eq, refuse_eq]
  refine wpAny_bind (wpAny_bind (I.type.here (wpAny_bind (L2.here ?_))))
  rw [hm, refuseLoop_ref, refuseLoop_ref, S1.passes]
  exact wpAny_pure (wpAny_bind (I.type.here (wpAny_bind ((looks_findIn X hn).here (wpAny_bind (wpAny_pure h))))))
end
section
variable {X : Cx} {pins : List (Addr × Obj)} {σ : St} {H : Hp} {s : Shared} {A : Around} {E : Value → Shared → Prop} {a C L fI : Addr} {f : Str} {o e value : Expr} {pos pos' : Pos} {ta tv : TE}
def tFldX (K : Frag) (ta : TE) (f : Str) : TE := fun σ H Q => ta σ H fun x H1 => ∃ a C d fs v, x = .ref a ∧ H1 a = some (excO a C (some d)) ∧ H1 d = some (.xd fs) ∧ XCls K C ∧ hasDictIn K C = true ∧ NoAttr K C f ∧ fs.lookup f = some v ∧ Q v H1
theorem i_fldX {K : Frag} {ta : TE} {f : Str} {σ : St} {H : Hp} {Q : VK} (q : ta σ H fun x H1 => ∃ a C d fs v, x = .ref a ∧ H1 a = some (excO a C (some d)) ∧ H1 d = some (.xd fs) ∧ XCls K C ∧ hasDictIn K C = true ∧ NoAttr K C f ∧ fs.lookup f = some v ∧ Q v H1) : tFldX K ta f σ H Q := q
theorem pe_fldX (he : PE X e ta) (hb : attributeBase e f X.env (eval e X.env) = eval e X.env) : PE X (.Attribute e f pos) (tFldX X.K ta f) := by
  intro pins s σ H Q I h
  refine attr_of hb (thn (he pins s σ H _ I h) fun u s1 ⟨x, H1, I1, rx, a, C, d, fs, v, ex, ea, ed, k, hdc, n, l, q⟩ => ?_)
  subst ex
  obtain rfl : u = Value.ref a := rx
  obtain ⟨⟨vs, sl, ho⟩, _, _⟩ := I1.hok a _ ea
  obtain ⟨mA, hns, hr⟩ := I1.hok d _ ed
  obtain ⟨od, hod, hl⟩ := lookIn_ns hns
  obtain ⟨u', hu, ru⟩ := RelO.some_of (v := v) (o := mA f) (by rw [← l]; exact hr f)
  exact exc_get I1.kIn (⟨ho, rfl, rfl, hod⟩ : InstAt s1.heap a _ C (some od)) k (findObj_own hdc n rfl (by rw [hl, hu])) (handed_of ru) ⟨v, H1, I1.tok _, ru, q⟩
theorem setattr_exc {y : V} {u : Value} {Q : Unit → Shared → Prop} (I : Inv X pins σ H s) (ea : H a = some (excN a C none)) (x : XI X.K C L fI) (n : NoAttr X.K C f) (ry : RelV y u)
    (h : ∀ d s', H d = none → d ≠ a → Inv X pins σ (upd (upd H a (excN a C (some d))) d (.xd [(f, y)])) s' → Q () s') : wpAny (model X.prog X.w) A (setAttr (.ref a) f u) Q E s := by
  obtain ⟨⟨tp, ho⟩, _, _⟩ := I.hok a _ ea
  obtain ⟨nm, q', N, bs, hdct, sn, sub, ab, col, dd, k0, k1, k2, k3, k5, lk⟩ := x.ob
  have hc : clsIn X.K C = some ⟨nm, bs, .ref C :: .ref L :: vBases, N, q', hdct, sn, sub, ab, col, false⟩ := by unfold clsIn; rw [lk]
  obtain ⟨cd, hc', hd'⟩ := any_some x.hd
  rw [hc] at hc'; cases hc'
  have hd1 : hdct = true := hd'
  subst hd1
  have hI : InstAt s.heap a _ C none := ⟨ho, rfl, rfl, trivial⟩
  refine set_plain I.kIn hI x.sa (osa_exc (s := { s with toks := s.toks + 1 }) I.kIn hI x.xc hc rfl n ?_)
  obtain ⟨hp, g, dr, tk, os⟩ := s
  refine wpAny_bind (wpAny_pure (wpAny_bind (wpAny_bind (wpAny_loadPart ho (wpAny_bind (Looks.here (s := ⟨hp, g, dr, tk + 1, os⟩) (looks_clsIn I.kIn hc) ?_))))))
  rw [if_neg (by simp)]
  dsimp only
  rw [if_neg (by simp [typeHasDict])]
  have oa := Heap.get?_push_of_some (h := hp) { cls := .type "dict", data := .dict #[] } ho
  have na : a ≠ hp.objs.size := Nat.ne_of_lt (Heap.lt_size ho)
  refine wpAny_bind (wpAny_alloc' (wpAny_bind (wpAny_update' oa (wpAny_pure ?_))))
  have gd : ((hp.push { cls := .type "dict", data := .dict #[] }).update a fun o => { cls := o.cls, dict := some hp.objs.size, data := o.data, slots := o.slots }).get? hp.objs.size = some { cls := .type "dict", data := .dict #[] } :=
    (Heap.get?_update_ne _ _ _ _ na.symm).trans (Heap.get?_push_at rfl rfl)
  have nd : ((hp.push { cls := .type "dict", data := .dict #[] }).update a fun o => { cls := o.cls, dict := some hp.objs.size, data := o.data, slots := o.slots }).Ns hp.objs.size (fun _ => none) :=
    ⟨_, #[], _, gd, rfl, fun e he => absurd he (by simp), fun _ => rfl⟩
  show wpAny _ _ (Builtin.ObjectAttr.storeInDict hp.objs.size (.str f _) f u) _ _ _
  unfold Builtin.ObjectAttr.storeInDict Builtin.ObjectAttr.newKeyGuard
  refine wpAny_bind (wpAny_pure (wpAny_bind (wpAny_nsSet1 (Heap.Ns1.of_empty nd) fun h' hn' hs => ?_)))
  obtain ⟨oD, esD, epD, hoD, hdD, hcD⟩ := hn'.count (Within.cons f u Within.nil)
  refine wpAny_bind (wpAny_lookBehind hoD (by rw [hdD]; exact pastItsLine_dict (Nat.le_trans hcD (by rw [List.length_cons, List.length_nil, sizeLine_eq]; omega))) ?_)
  have hxa : h'.get? a = some ⟨.ref C, some hp.objs.size, .fields #[.ref tp, .none, .none, .none, .bool false, .none], #[]⟩ := (hs.2 a na).trans (Heap.get?_update_self _ oa rfl)
  have kp : ∀ b o, b ≠ a → hp.get? b = some o → h'.get? b = some o := fun b o hb z =>
    (hs.2 b (Nat.ne_of_lt (Heap.lt_size z))).trans ((Heap.get?_update_ne _ _ _ _ hb).trans (Heap.get?_push_of_some _ z))
  have hfr : hp.get? hp.objs.size = none := Heap.get?_none_of_le (Nat.le_refl _)
  have hHd : H hp.objs.size = none := I.noObj hfr
  have I1 := fun t' => I.write (x := a) (e := a) (o := excN a C (some hp.objs.size)) (h' := h') (t' := t') (by rw [ea]; trivial) (.inl rfl) kp ⟨_, hxa⟩ (excN_ok hxa)
  have I2 := fun t' => (I1 t').track (e := hp.objs.size) (o := .xd [(f, y)]) (I.fpNew hfr (by rw [upd_ne na.symm]; exact hHd)) ⟨_, hn', fun g => by
    show RelO ([(f, y)].lookup g) (if g = f then some u else none)
    rw [show [(f, y)] = putF f y [] from rfl, lookup_putF]
    by_cases q : g = f
    · rw [if_pos q, if_pos q]; exact ry
    · rw [if_neg q, if_neg q]; exact trivial⟩
  exact wpAny_pure (h hp.objs.size _ hHd na.symm (I2 _))
def sFldX (K : Frag) (ta tv : TE) (f : Str) : TS := fun D σ H => tv σ H fun y H1 => ta σ H1 fun x H2 => ∃ a C L fI, x = .ref a ∧ H2 a = some (excN a C none) ∧ XI K C L fI ∧ NoAttr K C f ∧
  ∀ d, H2 d = none → d ≠ a → D.nx σ (upd (upd H2 a (excN a C (some d))) d (.xd [(f, y)]))
theorem i_sFldX {K : Frag} {ta tv : TE} {f : Str} {D : Ends} {σ : St} {H : Hp} (q : tv σ H fun y H1 => ta σ H1 fun x H2 => ∃ a C L fI, x = .ref a ∧ H2 a = some (excN a C none) ∧ XI K C L fI ∧ NoAttr K C f ∧ ∀ d, H2 d = none → d ≠ a → D.nx σ (upd (upd H2 a (excN a C (some d))) d (.xd [(f, y)]))) : sFldX K ta tv f D σ H := q
theorem ps_fldX (ha : PE X o ta) (hv : PE X value tv) (hs : swapsWith value (some (.Attribute o f pos')) pos.line X.env = pure false) : PS X (.Assign [.Attribute o f pos'] value pos) (sFldX X.K ta tv f) := by
  intro pins s σ H D I h
  refine plainObj_wpAny_Assign_Attribute (thn (hv pins s σ H _ I h) fun u s1 ⟨y, H1, I1, ry, q⟩ => thn (ha pins s1 σ H1 _ I1 q) fun ov s2 ⟨x, H2, I2, rx, a, C, L, fI, ex, ea, c, n, q2⟩ => ?_) hs
  subst ex
  obtain rfl : ov = Value.ref a := rx
  exact setattr_exc I2 ea c n ry fun d s3 hd hne I3 => ⟨σ, _, I3, q2 d hd hne⟩
end
theorem i_dpop1 {td ty : TE} {σ : St} {H : Hp} {Q : VK} (q : td σ H fun x H1 => ∃ a, x = .ref a ∧ IsD H1 a ∧ ty σ H1 fun y H2 => ∃ kvs k v, H2 a = some (.dK kvs) ∧ y = kV k ∧ valV kvs k = some v ∧ Q v (upd H2 a (.dK (dropK kvs k)))) : tDPop1 td ty σ H Q := q
structure HasXI (K : Frag) (x : Str) (C L : Addr) (qual : Str) (st : Stmt) : Prop where
  ns : nsIn K mainGlobals x = some (some (.ref C))
  ex : ∃ f fd, XI K C L f ∧ Fun K "__init__" qual st f fd
theorem hasXI_mk {K : Frag} {x qual : Str} {C L : Addr} {st : Stmt} {f : Addr} {oc : Value} {od an : Option Addr} {osl : Array (Option Value)} {kV doc pm cdv ct : Value} {nm q : Str} {N : Addr} {bs : List Value} {hdct : Bool} {sn : List Str} {sub : List Value} {ab : Bool} {col : Option Bool} {dd : Option Addr} {k0 k1 k2 k3 k5 : Option Value}
    (a : nsIn K mainGlobals x = some (some (.ref C))) (lk : K.lookup C = some (excClassObj nm q C N bs (.ref L :: vBases) hdct sn sub ab col dd k0 k1 k2 k3 k5 "ValueError.__new__")) (lp : excIn K L vBases "ValueError.__new__" = true)
    (i : findIn K (.ref C) "__init__" = some (some (.ref f))) (fn : isFn K (.ref f) = true) (xc : XCls K C) (sa : findIn K (.ref C) "__setattr__" = some (some (.builtin "object.__setattr__"))) (hd : hasDictIn K C = true)
    (l : K.lookup f = some ⟨oc, od, .func (PySem.W.fnOf "__init__" qual (defArgs st) (defBody st) (defScope st) .none kV doc pm an cdv ct), osl⟩)
    (c : codeIn K cdv qual = true) (k : keepIn K (.ref f) = true) : HasXI K x C L qual st :=
  ⟨a, f, _, ⟨⟨_, _, _, _, _, _, _, _, _, _, _, _, _, _, _, lk⟩, lp, i, fn, xc, sa, hd⟩, fun_mk l c k⟩
structure MkE (P : Program) (w : World) (K : Frag) (mg : Str → Option Value) (base : Heap) (k : Nat) (C : Addr) (ps : List Str) (sp : Sp) : Prop where
  ex : ∃ f fd L, XI K C L f ∧ FnOk P w K mg base CX0 k f fd ps sp ∧ Binds K fd ps []
theorem HasXI.mke {P : Program} {w : World} {K : Frag} {mg : Str → Option Value} {base : Heap} {k : Nat} {x : Str} {C L : Addr} {qual : Str} {st : Stmt} {N ps : List Str} {sp : Sp} (F : HasXI K x C L qual st) (S : FnScope N ps (defScope st))
    (hbi : ∀ (kV doc pm : Value) (an : Option Addr) (cdv ct : Value) (us : List Value), us.length = ps.length → bindArgs (PySem.W.fnOf "__init__" qual (defArgs st) (defBody st) (defScope st) .none kV doc pm an cdv ct) ⟨us, []⟩ = pure (ps.zip us))
    (len : ∀ vs H Q E, sp vs H Q E → vs.length = ps.length)
    (hbody : ∀ (f : Addr) (cdv : Value) (A : Around) (outer : List Env) (s : Shared) (H : Hp) (vs : List V) (Q : VK) (E : XK), Room k (A.deeper (envOfC qual (defScope st) s.heap.objs.size f cdv)) → sp vs H Q E →
      ∃ t, PSs (cxOf CX0 P w K mg base N qual (defScope st) f cdv A outer s H E).nox (defBody st) t ∧ t { nx := fun _ H' => Q .non H', rt := Q } (start N vs) H) :
    MkE P w K mg base (k + 1) C ps sp := by
  obtain ⟨f, fd, a, F⟩ := F.ex
  exact ⟨f, fd, L, a, F.ok S len (hbody f), F.binds hbi⟩
theorem ps_raiseE {X : Cx} {ES : XS} {x : Str} {C : Addr} {k : Nat} {ps : List Str} {sp : Sp} {np cpos pos : Pos} {a : Expr} {rest : List Expr} {t : TA} (M : MkE X.prog X.w X.K X.mg X.base k C ps sp) (hr : Room (k + 1) X.A) (hc : X.calm = true) (hx : ∀ v s, xeOf X ES v s → X.xe v s) (hg : Gl X x) (hm : X.mg x = some (.ref C)) (ha : PA X (a :: rest) t) (hdb : (x == ("__debug__" : Str)) = false := by decide)
    (he : starEach (a :: rest) X.env = (false, eval a X.env) :: starEach rest X.env := by rfl) (hpl : (backTo cpos (starEach rest X.env)).any (·.1) = false := by rfl) :
    PS X (.Raise (some (.Call (.Name x np) (a :: rest) [] cpos)) none pos) (tRaiseI ES C sp t) := by
  obtain ⟨f, fd, L, hX, F, hb⟩ := M.ex
  exact ps_raiseI hX F hb hr hc hx hg hm ha hdb he hpl
end L2
set_option Elab.async false
set_option linter.all false
set_option maxRecDepth 100000
namespace L2
open PySem PySem.Spec PySem.W PyProof.Rows
section
variable {X : Cx} {k1 k2 : Nat} {ps1 ps2 : List Str} {sp1 sp2 : Sp} {ES : XS} {x : Str} {p pos : Pos} {e : Expr} {es : List Expr} {t : TA}
def tCallOr (sp1 sp2 : Sp) (ES : XS) (t : TA) : TE := fun σ H Q => t σ H fun vs H1 => sp1 (vs ++ []) H1 Q E0 ∨ sp2 (vs ++ []) H1 Q (ES σ)
theorem pe_callOr (D1 : Df X.prog X.w X.K X.mg X.base k1 x ps1 sp1) (D2 : DfX X.prog X.w X.K X.mg X.base k2 x ps2 sp2) (h1 : Room k1 X.A) (h2 : Room k2 X.A) (hx : ∀ v s, xeOf X ES v s → X.xe v s) (hg : Gl X x) (ha : PA X (e :: es) t)
    (hdb : (x == ("__debug__" : Str)) = false := by decide) (he : starEach (e :: es) X.env = (false, eval e X.env) :: starEach es X.env := by rfl) (hpl : (backTo pos (starEach es X.env)).any (·.1) = false := by rfl) :
    PE X (.Call (.Name x p) (e :: es) [] pos) (tCallOr sp1 sp2 ES t) := by
  obtain ⟨f, fd, hm, hk, hb, F⟩ := D1.ex
  obtain ⟨f', fd', hm', hk', hb', F'⟩ := D2.ex
  have ef : f = f' := by rw [hm] at hm'; cases hm'; rfl
  subst ef
  intro pins s σ H Q I h
  refine wpAny_Call_Name_kw (ld_glob I hg hm ?_ hdb)
  refine PySem.W.callWith_K (h₀ := X.base) I.ok.mod.kin hk (thn (ha pos pins s σ H _ I h) fun us s1 ⟨vs, H1, I1, r, q⟩ => ⟨I1.kIn, ?_⟩) he hpl
  rcases q with q | q
  · exact run_fn F h1 hb .nil pass0 I1 r q
  · exact run_fnX F' h2 hb' hx I1 r q
theorem i_callOr {σ : St} {H : Hp} {Q : VK} (q : t σ H fun vs H1 => sp1 (vs ++ []) H1 Q E0 ∨ sp2 (vs ++ []) H1 Q (ES σ)) : tCallOr sp1 sp2 ES t σ H Q := q
end
section
variable {prog : Program} {w : World} {A : Around} {E : Value → Shared → Prop} {s : Shared} {T : String} {r d : Addr} {n : Nat} {P : Nat → Value → Prop} {OK : Heap → Prop}
theorem collect_kdl {Q : List Value → Shared → Prop} (K : KdlSrc prog w T r d n P OK) (hh : A.handled = none) (hok : OK s.heap) (hn : n ≤ sizeLine)
    (h : ∀ (h' : Heap) (tk : Nat) (vs : List Value), (∀ b o, s.heap.get? b = some o → h'.get? b = some o) → vs.length = n → (∀ j v, vs[j]? = some v → P j v) → Q vs { s with heap := h', toks := tk }) : wpAny (model prog w) A (collect (.ref r)) Q E s := by
  have hlt := K.there _ hok
  unfold collect
  refine wpAny_bind (wpAny_runValue (codeAny_builtin entry_proto_collect' ?_))
  show wpAny _ _ (do again (.builtin "list.__iadd__" ⟨[← newList [], .ref r], []⟩)) _ _ s
  refine wpAny_bind (wpAny_newList (wpAny_pure ⟨Code.quiet_builtin _ (by decide +kernel), codeAny_builtin entry_list_iadd' ?_⟩))
  have ok' : OK (s.heap.push (seqObj "list" #[] 0)) := K.keep _ _ hok fun b _ o e => Heap.get?_push_of_some _ e
  rw [Around.under_plainId PySem.F.plain_list_iadd _]
  show wpAny _ A.in1 (Builtin.List.listExtendWith (.ref s.heap.objs.size) (.ref r) (.ref s.heap.objs.size)) _ _ { s with heap := s.heap.push (seqObj "list" #[] 0) }
  have fin : ∀ {s' : Shared}, (∃ (h' : Heap) (tk : Nat) (acc : Array Value) (c : Nat), s' = { s with heap := h', toks := tk } ∧ (∀ b o, s.heap.get? b = some o → h'.get? b = some o) ∧ h'.get? s.heap.objs.size = some { cls := .type "list", dict := none, data := .seq acc c, slots := #[] } ∧ ItemsOf P acc n) →
      wpAny (model prog w) A (do
        match (← load s.heap.objs.size).data with
        | .seq xs _ => pure xs.toList
        | _ => unsupported "internal:collect") Q E s' := by
    rintro s' ⟨h', tk, acc, c, rfl, hk, hS, hacc⟩
    refine wpAny_bind (wpAny_load hS ?_)
    exact wpAny_pure (h h' tk acc.toList hk (by rw [Array.length_toList]; exact hacc.1) fun j v e => hacc.2 j v (by rw [← Array.getElem?_toList]; exact e))
  refine wpAny_mono (kdl_extend (A := A) (s := { s with heap := s.heap.push (seqObj "list" #[] 0) }) (R := fun r s' => r = .ok (.ret (.ref s.heap.objs.size)) ∧ ∃ (h' : Heap) (tk : Nat) (acc : Array Value) (c : Nat), s' = { s with heap := h', toks := tk } ∧ (∀ b o, s.heap.get? b = some o → h'.get? b = some o) ∧ h'.get? s.heap.objs.size = some { cls := .type "list", dict := none, data := .seq acc c, slots := #[] } ∧ ItemsOf P acc n)
    K hh ok' s.heap.objs.size (Nat.ne_of_gt hlt.1) (Nat.ne_of_gt hlt.2) (.ref s.heap.objs.size) 0 (Heap.get?_push_size _ rfl) (fun h' tk acc' c' hk hS hacc => ⟨rfl, h', tk, acc', c', rfl, fun b o e => hk b o (Nat.ne_of_lt (Heap.lt_size e)) (Heap.get?_push_of_some _ e), hS, hacc⟩) hn) (fun f s' z => ?_) fun e s' z => ?_
  · cases f with
    | done f =>
      obtain ⟨e, z⟩ := z
      cases e
      exact fin z
    | again c =>
      refine ⟨z.1, codeAny_mono z.2 fun r s'' zz => ?_⟩
      obtain ⟨e, zz⟩ := zz
      cases e
      exact fin zz
  · obtain ⟨e', _⟩ := z
    cases e'
theorem sorted_kdl {Q : Value → Shared → Prop} {ss : List Str} (K : KdlSrc prog w T r d n P OK) (hh : A.handled = none) (hok : OK s.heap) (h64 : n < 64) (hP : ∀ vs : List Value, vs.length = n → (∀ j v, vs[j]? = some v → P j v) → StrsAre vs ss)
    (h : ∀ (h1 : Heap) (tk : Nat) (h' : Heap) (e : Nat) (vs' : List Value) (ss' : List Str), (∀ b o, s.heap.get? b = some o → h1.get? b = some o) → (∀ b o, h1.get? b = some o → h'.get? b = some o) → h'.get? h1.objs.size = some (seqObj "list" vs'.toArray e) → StrsAre vs' ss' → ss'.Perm ss → Q (.ref h1.objs.size) { s with heap := h', toks := tk }) :
    wpAny (model prog w) A (call (.builtin "sorted") [.ref r]) Q E s := by
  refine Calls.call_function_entry kind_sorted plain_sorted entry_sorted (args_sorted1 _) ?_
  unfold Builtin.«sorted»
  refine wpAny_bind (m := checkCount "sorted" 1 1 _) (wpAny_pure ?_)
  refine wpAny_bind (collect_kdl K hh hok (by rw [sizeLine_eq]; omega) fun h1 tk vs hk hl hv => ?_)
  have hS := hP vs hl hv
  refine wpAny_bind (wpAny_newList ?_ (by rw [sizeLine_eq]; omega))
  have ho : (h1.push (seqObj "list" vs.toArray 0)).get? h1.objs.size = some (seqObj "list" vs.toArray 0) := Heap.get?_push_size _ rfl
  show wpAny _ _ _ _ _ { s with heap := h1.push (seqObj "list" vs.toArray 0), toks := tk }
  refine wpAny_bind (wpAny_holding (wpAny_call_entry slot_list_sort ⟨_, ho, rfl⟩ entry_list_sort (list_sort_treeK strKind_oneLt ho hS.keysOf (fun v₁ v₂ rest e => keyKind_strs (by rw [← e]; exact hS)) (by omega) fun st' a1 a2 => ⟨_, rfl, ?_⟩) (args_list_sort _)))
  obtain ⟨ss', b1, b2, b3⟩ := sorted_out_str hS a1 a2
  obtain ⟨e, he⟩ := sortedHeap_at (out := (arrOf st').map (·.2)) ho
  refine wpAny_pure ⟨_, rfl, h h1 tk _ e _ ss' hk (fun b o z => ?_) (by rw [Array.toArray_toList]; exact he) b1 b2⟩
  rw [sortedHeap_old (Nat.ne_of_lt (Heap.lt_size z)) (by rw [size_push']; exact Nat.lt_succ_of_lt (Heap.lt_size z))]
  exact Heap.get?_push_of_some _ z
end
def rSortD (K : Frag) : List V → Hp → VK → Prop := fun xs H Q => ∃ (a : Addr) (kvs : List (Key × V)) (zs : List Str), xs = [.ref a] ∧ H a = some (.dK kvs) ∧ kvs.map (·.1) = zs.map Sum.inr ∧ kvs.length < 64 ∧
  ∀ D ys H2, ys.Perm zs → New H D (.lst (List.map V.str ys)) H2 → Q (.ref D) H2
theorem strs_vals : ∀ {vs : List Value} {ss : List Str}, StrsAre vs ss → Vals (List.map V.str ss) vs
  | _, _, .nil => .nil
  | _, _, .cons x t r => .cons ⟨t, rfl⟩ (strs_vals r)
theorem vals_strs : ∀ {zs : List Str} {vs : List Value}, Vals (List.map V.str zs) vs → StrsAre vs zs
  | [], _, .nil => .nil
  | z :: zs, _, .cons h r => by
    obtain ⟨t, rfl⟩ := h
    exact .cons z t (vals_strs r)
theorem call_sortD {X : Cx} (hc : X.calm = true) : CallR X (.builtin "sorted") (rSortD X.K) := by
  intro pins s σ H xs us Q I r h
  obtain ⟨a, kvs, zs, rfl, ha, hk, h64, q⟩ := h
  obtain ⟨u, rfl, rx⟩ := vals1 r
  cases rx
  obtain ⟨hz, lo, vs, rel, dd⟩ := dk_of I.hok ha
  obtain ⟨ep, hat⟩ := dd.dictAt
  have hlen := rel.length
  have ez : (kvs.map fun kv => kV kv.1) = List.map V.str zs := by
    have := congrArg (List.map kV) hk
    rw [List.map_map, List.map_map] at this
    exact this
  have hzl : zs.length = kvs.length := by have := congrArg List.length hk; rw [List.length_map, List.length_map] at this; exact this.symm
  refine sorted_kdl (ss := zs) (kdl_dict (knd := mixKind X.prog X.w) (kvs := vs) (ep := ep) lo) (I.ok.hd hc) hat (by omega) (fun cs hl hv => ?_) fun h1 tk h' e ds ss k1 k2 hg hS hp => ?_
  · have := vals_keys (P := X.prog) (w := X.w) rel cs hl hv
    rw [ez] at this
    exact vals_strs this
  · have hss := StrsAre.length hS
    have hpl := hp.length_eq
    have I1 : Inv X pins σ H { s with heap := h1, toks := tk } := I.kept (t' := tk) k1
    exact ⟨.ref h1.objs.size, _, I1.laid (t' := tk) k2 (Nat.le_refl _) (show ObjOk X.prog X.w _ h' _ (.lst (List.map V.str ss)) from ⟨by rw [List.length_map, sizeLine_eq]; omega, ds, e, strs_vals hS, hg⟩), rfl, q _ ss _ hp ⟨I1.hok.fresh (Nat.le_refl _), rfl⟩⟩
theorem i_sortD {K : Frag} {a : Addr} {kvs : List (Key × V)} {zs : List Str} {H : Hp} {Q : VK} (h : H a = some (.dK kvs)) (hk : kvs.map (·.1) = zs.map Sum.inr) (h64 : kvs.length < 64) (q : ∀ D ys H2, ys.Perm zs → New H D (.lst (List.map V.str ys)) H2 → Q (.ref D) H2) : rSortD K [.ref a] H Q := ⟨a, kvs, zs, rfl, h, hk, h64, q⟩
end L2
set_option Elab.async false
set_option linter.all false
set_option maxRecDepth 100000
set_option maxHeartbeats 4000000
namespace Lap
open PySem L2
seal PE PA PT PS PSs PW PI PG PO
local macro_rules | `(tactic| walk_at "rd1") => `(tactic| first
  | (with_reducible refine i_callX ?_) | (with_reducible refine i_chain ?_) | (with_reducible refine i_gcons ?_) | (with_reducible refine i_gnil ?_) | (with_reducible refine i_inS ?_) | (with_reducible refine i_max ?_) | (with_reducible refine i_raise ?_) | (with_reducible refine i_bm0 ?_) | (with_reducible refine i_bm ?_) | (with_reducible refine i_fmt ?_) | (with_reducible refine i_jNil ?_) | (with_reducible refine i_jRepr ?_) | (with_reducible refine i_jPlain ?_) | (with_reducible refine i_lstA ?_) | (with_reducible refine i_tupA ?_)
  | (with_reducible refine i_seq ?_) | (with_reducible refine i_sl ?_) | (with_reducible refine i_noPart ?_) | (with_reducible refine i_part ?_) | (with_reducible refine i_partI ?_) | (with_reducible refine i_eqB ?_) | (with_reducible refine i_ret ?_) | (with_reducible refine i_ifS ?_) | (with_reducible refine i_asg ?_) | (with_reducible refine i_name ?_) | (with_reducible refine i_next ?_) | (with_reducible refine i_drop ?_)
  | (with_reducible refine i_op ?_) | (with_reducible refine i_un ?_) | (with_reducible refine i_C ?_)
  | ((with_reducible show tVar _ _ _ _); refine ⟨_, rfl, ?_⟩)
  | (with_reducible refine i_I0 ?_) | (with_reducible refine i_U ?_) | (with_reducible refine i_test ?_) | (with_reducible refine i_B ?_) | (with_reducible refine i_bl ?_)
  | (with_reducible refine i_eqI ?_) | (with_reducible refine i_eqS ?_) | (with_reducible refine i_neI ?_) | (with_reducible refine i_neS ?_)
  | (with_reducible refine i_and ?_) | (with_reducible refine i_or ?_) | (with_reducible refine i_not ?_) | (with_reducible refine i_andV ?_) | (with_reducible refine i_orV ?_) | (with_reducible refine i_notV ?_) | (with_reducible refine i_if ?_)
  | (with_reducible refine i_call ?_) | (with_reducible refine i_CB ?_) | (with_reducible refine i_nil ?_) | (with_reducible refine i_cons ?_)
  | (with_reducible refine iteT ?_) | (with_reducible refine iteF ?_) | (with_reducible refine iteNT ?_) | (with_reducible refine iteNF ?_)
  | ((with_reducible refine i_mod ?_ ?_); (first | assumption | (decide +kernel) | omega))
  | ((with_reducible refine i_div ?_ ?_); (decide +kernel))
  | ((with_reducible refine i_pow ?_ ?_); (decide +kernel)))
local macro_rules | `(tactic| walk_at "rd") => `(tactic| repeat (walk_at "rd1"))
def top (i : Nat) : Stmt := PySem.Challenge.pw_lapwork_k14_runs_refused.main.body.getD i (.Pass ⟨0, 0, 0, 0⟩)
abbrev st_Deed_of : Stmt := inClass (top 23) 1
theorem sc_Deed_of : FnScope ["self", "numbers", "measure"] ["self", "numbers", "measure"] (defScope st_Deed_of) := ⟨rfl, rfl, rfl, by decide +kernel, rfl, by decide +kernel, by decide +kernel⟩
abbrev st_Sum_of : Stmt := inClass (top 24) 1
theorem sc_Sum_of : FnScope ["self", "numbers", "measure"] ["self", "numbers", "measure"] (defScope st_Sum_of) := ⟨rfl, rfl, rfl, by decide +kernel, rfl, by decide +kernel, by decide +kernel⟩
abbrev st_Less_of : Stmt := inClass (top 25) 1
theorem sc_Less_of : FnScope ["self", "numbers", "measure"] ["self", "numbers", "measure"] (defScope st_Less_of) := ⟨rfl, rfl, rfl, by decide +kernel, rfl, by decide +kernel, by decide +kernel⟩
abbrev st_Times_of : Stmt := inClass (top 26) 1
theorem sc_Times_of : FnScope ["self", "numbers", "measure"] ["self", "numbers", "measure"] (defScope st_Times_of) := ⟨rfl, rfl, rfl, by decide +kernel, rfl, by decide +kernel, by decide +kernel⟩
abbrev st_Least_of : Stmt := inClass (top 27) 1
theorem sc_Least_of : FnScope ["self", "numbers", "measure"] ["self", "numbers", "measure"] (defScope st_Least_of) := ⟨rfl, rfl, rfl, by decide +kernel, rfl, by decide +kernel, by decide +kernel⟩
abbrev st_Most_of : Stmt := inClass (top 28) 1
theorem sc_Most_of : FnScope ["self", "numbers", "measure"] ["self", "numbers", "measure"] (defScope st_Most_of) := ⟨rfl, rfl, rfl, by decide +kernel, rfl, by decide +kernel, by decide +kernel⟩
abbrev st_Pick_of : Stmt := inClass (top 29) 1
theorem sc_Pick_of : FnScope ["self", "numbers", "measure"] ["self", "numbers", "measure"] (defScope st_Pick_of) := ⟨rfl, rfl, rfl, by decide +kernel, rfl, by decide +kernel, by decide +kernel⟩
abbrev st_Deed_wants : Stmt := inClass (top 23) 0
theorem sc_Deed_wants : FnScope ["self"] ["self"] (defScope st_Deed_wants) := ⟨rfl, rfl, rfl, by decide +kernel, rfl, by decide +kernel, by decide +kernel⟩
abbrev st_Sum_wants : Stmt := inClass (top 24) 0
theorem sc_Sum_wants : FnScope ["self"] ["self"] (defScope st_Sum_wants) := ⟨rfl, rfl, rfl, by decide +kernel, rfl, by decide +kernel, by decide +kernel⟩
abbrev st_Less_wants : Stmt := inClass (top 25) 0
theorem sc_Less_wants : FnScope ["self"] ["self"] (defScope st_Less_wants) := ⟨rfl, rfl, rfl, by decide +kernel, rfl, by decide +kernel, by decide +kernel⟩
abbrev st_Times_wants : Stmt := inClass (top 26) 0
theorem sc_Times_wants : FnScope ["self"] ["self"] (defScope st_Times_wants) := ⟨rfl, rfl, rfl, by decide +kernel, rfl, by decide +kernel, by decide +kernel⟩
abbrev st_Least_wants : Stmt := inClass (top 27) 0
theorem sc_Least_wants : FnScope ["self"] ["self"] (defScope st_Least_wants) := ⟨rfl, rfl, rfl, by decide +kernel, rfl, by decide +kernel, by decide +kernel⟩
abbrev st_Most_wants : Stmt := inClass (top 28) 0
theorem sc_Most_wants : FnScope ["self"] ["self"] (defScope st_Most_wants) := ⟨rfl, rfl, rfl, by decide +kernel, rfl, by decide +kernel, by decide +kernel⟩
abbrev st_Pick_wants : Stmt := inClass (top 29) 0
theorem sc_Pick_wants : FnScope ["self"] ["self"] (defScope st_Pick_wants) := ⟨rfl, rfl, rfl, by decide +kernel, rfl, by decide +kernel, by decide +kernel⟩
abbrev st_Take_wants : Stmt := inClass (top 32) 0
theorem sc_Take_wants : FnScope ["self"] ["self"] (defScope st_Take_wants) := ⟨rfl, rfl, rfl, by decide +kernel, rfl, by decide +kernel, by decide +kernel⟩
abbrev st_deed_of : Stmt := top 33
theorem sc_deed_of : FnScope ["word"] ["word"] (defScope st_deed_of) := ⟨rfl, rfl, rfl, by decide +kernel, rfl, by decide +kernel, by decide +kernel⟩
abbrev st_is_name : Stmt := top 47
theorem sc_is_name : FnScope ["text"] ["text"] (defScope st_is_name) := ⟨rfl, rfl, rfl, by decide +kernel, rfl, by decide +kernel, by decide +kernel⟩
abbrev st_is_lettered : Stmt := top 48
theorem sc_is_lettered : FnScope ["text"] ["text"] (defScope st_is_lettered) := ⟨rfl, rfl, rfl, by decide +kernel, rfl, by decide +kernel, by decide +kernel⟩
abbrev st_Loop___init__ : Stmt := inClass (top 52) 0
theorem sc_Loop___init__ : FnScope ["self", "measure", "rows"] ["self", "measure", "rows"] (defScope st_Loop___init__) := ⟨rfl, rfl, rfl, by decide +kernel, rfl, by decide +kernel, by decide +kernel⟩
abbrev st_Loop_rows : Stmt := inClass (top 52) 1
theorem sc_Loop_rows : FnScope ["self"] ["self"] (defScope st_Loop_rows) := ⟨rfl, rfl, rfl, by decide +kernel, rfl, by decide +kernel, by decide +kernel⟩
abbrev st_Loop_deepest : Stmt := inClass (top 52) 2
theorem sc_Loop_deepest : FnScope ["self", "name"] ["self", "name"] (defScope st_Loop_deepest) := ⟨rfl, rfl, rfl, by decide +kernel, rfl, by decide +kernel, by decide +kernel⟩
abbrev st_check_measure : Stmt := top 53
theorem sc_check_measure : FnScope ["measure"] ["measure"] (defScope st_check_measure) := ⟨rfl, rfl, rfl, by decide +kernel, rfl, by decide +kernel, by decide +kernel⟩
abbrev st_check_rows : Stmt := top 54
theorem sc_check_rows : FnScope ["rows", "names", "place", "row", "above", "read"] ["rows"] (defScope st_check_rows) := ⟨rfl, rfl, rfl, by decide +kernel, rfl, by decide +kernel, by decide +kernel⟩
abbrev st_check_head : Stmt := top 55
theorem sc_check_head : FnScope ["name", "word", "reads", "above"] ["name", "word", "reads", "above"] (defScope st_check_head) := ⟨rfl, rfl, rfl, by decide +kernel, rfl, by decide +kernel, by decide +kernel⟩
abbrev st_check_read : Stmt := top 56
theorem sc_check_read : FnScope ["read", "names", "above"] ["read", "names", "above"] (defScope st_check_read) := ⟨rfl, rfl, rfl, by decide +kernel, rfl, by decide +kernel, by decide +kernel⟩
abbrev st_check_number : Stmt := top 57
theorem sc_check_number : FnScope ["number"] ["number"] (defScope st_check_number) := ⟨rfl, rfl, rfl, by decide +kernel, rfl, by decide +kernel, by decide +kernel⟩
abbrev st_check_look_back : Stmt := top 58
theorem sc_check_look_back : FnScope ["name", "back", "names", "above"] ["name", "back", "names", "above"] (defScope st_check_look_back) := ⟨rfl, rfl, rfl, by decide +kernel, rfl, by decide +kernel, by decide +kernel⟩
abbrev st_copy_of_row : Stmt := top 59
theorem sc_copy_of_row : FnScope ["row", "reads"] ["row"] (defScope st_copy_of_row) := ⟨rfl, rfl, rfl, by decide +kernel, rfl, by decide +kernel, by decide +kernel⟩
abbrev st_depths_of : Stmt := top 60
theorem sc_depths_of : FnScope ["rows", "depths", "row", "read"] ["rows"] (defScope st_depths_of) := ⟨rfl, rfl, rfl, by decide +kernel, rfl, by decide +kernel, by decide +kernel⟩
abbrev st_law_cell_at : Stmt := top 62
theorem sc_law_cell_at : FnScope ["_law_script", "_law_k"] ["_law_script", "_law_k"] (defScope st_law_cell_at) := ⟨rfl, rfl, rfl, by decide +kernel, rfl, by decide +kernel, by decide +kernel⟩
abbrev st_law_mix : Stmt := top 63
theorem sc_law_mix : FnScope ["_law_cell", "_law_k", "_law_number"] ["_law_cell", "_law_k"] (defScope st_law_mix) := ⟨rfl, rfl, rfl, by decide +kernel, rfl, by decide +kernel, by decide +kernel⟩
abbrev st_law_letters : Stmt := top 64
theorem sc_law_letters : FnScope ["_law_number", "_law_many", "_law_made", "_law_k"] ["_law_number", "_law_many"] (defScope st_law_letters) := ⟨rfl, rfl, rfl, by decide +kernel, rfl, by decide +kernel, by decide +kernel⟩
abbrev st_law_names : Stmt := top 65
theorem sc_law_names : FnScope ["_law_script", "_law_many", "_law_number", "_law_place", "_law_made", "_law_at", "_law_own", "_law_word", "_law_sign"] ["_law_script", "_law_many"] (defScope st_law_names) := ⟨rfl, rfl, rfl, by decide +kernel, rfl, by decide +kernel, by decide +kernel⟩
abbrev st_law_wants : Stmt := top 66
theorem sc_law_wants : FnScope ["_law_word"] ["_law_word"] (defScope st_law_wants) := ⟨rfl, rfl, rfl, by decide +kernel, rfl, by decide +kernel, by decide +kernel⟩
abbrev st_law_row : Stmt := top 67
theorem sc_law_row : FnScope ["_law_script", "_law_names_here", "_law_at", "_law_words", "_law_number", "_law_word", "_law_reads", "_law_k", "_law_back", "_law_spot"] ["_law_script", "_law_names_here", "_law_at", "_law_words"] (defScope st_law_row) := ⟨rfl, rfl, rfl, by decide +kernel, rfl, by decide +kernel, by decide +kernel⟩
abbrev st_law_rows : Stmt := top 68
theorem sc_law_rows : FnScope ["_law_script", "_law_many", "_law_words", "_law_names_here"] ["_law_script", "_law_many"] (defScope st_law_rows) := ⟨rfl, rfl, rfl, by decide +kernel, rfl, by decide +kernel, by decide +kernel⟩
abbrev st_law_measure : Stmt := top 69
theorem sc_law_measure : FnScope ["_law_script", "_law_number"] ["_law_script"] (defScope st_law_measure) := ⟨rfl, rfl, rfl, by decide +kernel, rfl, by decide +kernel, by decide +kernel⟩
abbrev st_law_deepest : Stmt := top 70
theorem sc_law_deepest : FnScope ["_law_rows_here", "_law_name", "_law_found", "_law_row_here", "_law_read"] ["_law_rows_here", "_law_name"] (defScope st_law_deepest) := ⟨rfl, rfl, rfl, by decide +kernel, rfl, by decide +kernel, by decide +kernel⟩
abbrev st_Short___init__ : Stmt := inClass (top 20) 0
theorem sc_Short___init__ : FnScope ["self", "name"] ["self", "name"] (defScope st_Short___init__) := ⟨rfl, rfl, rfl, by decide +kernel, rfl, by decide +kernel, by decide +kernel⟩
abbrev st_Run___init__ : Stmt := inClass (top 36) 0
theorem sc_Run___init__ : FnScope ["self", "loop", "feeds", "begin", "row"] ["self", "loop", "feeds", "begin"] (defScope st_Run___init__) := ⟨rfl, rfl, rfl, by decide +kernel, rfl, by decide +kernel, by decide +kernel⟩
abbrev st_Run_made_at : Stmt := inClass (top 36) 1
theorem sc_Run_made_at : FnScope ["self", "name", "turn"] ["self", "name", "turn"] (defScope st_Run_made_at) := ⟨rfl, rfl, rfl, by decide +kernel, rfl, by decide +kernel, by decide +kernel⟩
abbrev st_Run_numbers_for : Stmt := inClass (top 36) 2
theorem sc_Run_numbers_for : FnScope ["self", "row", "turn"] ["self", "row", "turn"] (defScope st_Run_numbers_for) := ⟨rfl, rfl, rfl, by decide +kernel, rfl, by decide +kernel, by decide +kernel⟩
abbrev st_Run_number_read : Stmt := inClass (top 36) 3
theorem sc_Run_number_read : FnScope ["self", "read", "turn"] ["self", "read", "turn"] (defScope st_Run_number_read) := ⟨rfl, rfl, rfl, by decide +kernel, rfl, by decide +kernel, by decide +kernel⟩
abbrev st_Run_do_turn : Stmt := inClass (top 36) 4
theorem sc_Run_do_turn : FnScope ["self", "turn", "row", "numbers"] ["self", "turn"] (defScope st_Run_do_turn) := ⟨rfl, rfl, rfl, by decide +kernel, rfl, by decide +kernel, by decide +kernel⟩
abbrev st_Run_last_made : Stmt := inClass (top 36) 5
theorem sc_Run_last_made : FnScope ["self", "name", "turns"] ["self", "name", "turns"] (defScope st_Run_last_made) := ⟨rfl, rfl, rfl, by decide +kernel, rfl, by decide +kernel, by decide +kernel⟩
abbrev st_table : Stmt := top 37
theorem sc_table : FnScope ["loop", "turns", "feeds", "begin", "done"] ["loop", "turns", "feeds", "begin"] (defScope st_table) := ⟨rfl, rfl, rfl, by decide +kernel, rfl, by decide +kernel, by decide +kernel⟩
abbrev st_outcome : Stmt := top 38
theorem sc_outcome : FnScope ["loop", "turns", "feeds", "begin", "done", "told", "deep"] ["loop", "turns", "feeds", "begin"] (defScope st_outcome) := ⟨rfl, rfl, rfl, by decide +kernel, rfl, by decide +kernel, by decide +kernel⟩
abbrev st_done_run : Stmt := top 39
theorem sc_done_run : FnScope ["loop", "turns", "feeds", "begin", "done", "turn"] ["loop", "turns", "feeds", "begin"] (defScope st_done_run) := ⟨rfl, rfl, rfl, by decide +kernel, rfl, by decide +kernel, by decide +kernel⟩
abbrev st_check_run : Stmt := top 40
theorem sc_check_run : FnScope ["loop", "turns", "feeds", "begin"] ["loop", "turns", "feeds", "begin"] (defScope st_check_run) := ⟨rfl, rfl, rfl, by decide +kernel, rfl, by decide +kernel, by decide +kernel⟩
abbrev st_check_turns : Stmt := top 41
theorem sc_check_turns : FnScope ["turns"] ["turns"] (defScope st_check_turns) := ⟨rfl, rfl, rfl, by decide +kernel, rfl, by decide +kernel, by decide +kernel⟩
abbrev st_check_feeds : Stmt := top 42
theorem sc_check_feeds : FnScope ["loop", "turns", "feeds", "row"] ["loop", "turns", "feeds"] (defScope st_check_feeds) := ⟨rfl, rfl, rfl, by decide +kernel, rfl, by decide +kernel, by decide +kernel⟩
abbrev st_check_begin : Stmt := top 43
theorem sc_check_begin : FnScope ["loop", "begin", "row"] ["loop", "begin"] (defScope st_check_begin) := ⟨rfl, rfl, rfl, by decide +kernel, rfl, by decide +kernel, by decide +kernel⟩
abbrev st_law_given : Stmt := top 71
theorem sc_law_given : FnScope ["_law_script", "_law_at", "_law_most", "_law_made", "_law_k", "_law_cell", "_law_number"] ["_law_script", "_law_at", "_law_most"] (defScope st_law_given) := ⟨rfl, rfl, rfl, by decide +kernel, rfl, by decide +kernel, by decide +kernel⟩
abbrev st_law_feeds : Stmt := top 72
theorem sc_law_feeds : FnScope ["_law_script", "_law_rows_here", "_law_turns", "_law_made", "_law_at"] ["_law_script", "_law_rows_here", "_law_turns"] (defScope st_law_feeds) := ⟨rfl, rfl, rfl, by decide +kernel, rfl, by decide +kernel, by decide +kernel⟩
abbrev st_law_begin : Stmt := top 73
theorem sc_law_begin : FnScope ["_law_script", "_law_rows_here", "_law_made", "_law_at", "_law_deep"] ["_law_script", "_law_rows_here"] (defScope st_law_begin) := ⟨rfl, rfl, rfl, by decide +kernel, rfl, by decide +kernel, by decide +kernel⟩
abbrev st_law_copy : Stmt := top 74
theorem sc_law_copy : FnScope ["_law_lists", "_law_made", "_law_name", "_law_row_here"] ["_law_lists"] (defScope st_law_copy) := ⟨rfl, rfl, rfl, by decide +kernel, rfl, by decide +kernel, by decide +kernel⟩
abbrev st_law_classes : Stmt := top 75
theorem sc_law_classes : FnScope ["_law_kept", "_law_found"] ["_law_kept"] (defScope st_law_classes) := ⟨rfl, rfl, rfl, by decide +kernel, rfl, by decide +kernel, by decide +kernel⟩
abbrev st_law_short : Stmt := top 76
theorem sc_law_short : FnScope ["_law_rows_here", "_law_turns", "_law_feeds_here", "_law_begin_here", "_law_row_here", "_law_deep"] ["_law_rows_here", "_law_turns", "_law_feeds_here", "_law_begin_here"] (defScope st_law_short) := ⟨rfl, rfl, rfl, by decide +kernel, rfl, by decide +kernel, by decide +kernel⟩
abbrev st_law_shorter : Stmt := top 77
theorem sc_law_shorter : FnScope ["_law_lists", "_law_rows_here", "_law_turns", "_law_number", "_law_made", "_law_name", "_law_long", "_law_row_here"] ["_law_lists", "_law_rows_here", "_law_turns", "_law_number"] (defScope st_law_shorter) := ⟨rfl, rfl, rfl, by decide +kernel, rfl, by decide +kernel, by decide +kernel⟩
abbrev st_law_caught : Stmt := top 78
theorem sc_law_caught : FnScope ["_law_loop", "_law_turns", "_law_feeds_here", "_law_begin_here", "_law_way", "_law_kept", "e"] ["_law_loop", "_law_turns", "_law_feeds_here", "_law_begin_here", "_law_way"] (defScope st_law_caught) := ⟨rfl, rfl, rfl, by decide +kernel, rfl, by decide +kernel, by decide +kernel⟩
abbrev st_law : Stmt := top 79
theorem sc_law : FnScope ["_law_script", "_law_head", "_law_rows_here", "_law_turns", "_law_good", "_law_handed", "_law_many", "_law_loop", "_law_short_here", "_law_way", "_law_kept"] ["_law_script"] (defScope st_law) := ⟨rfl, rfl, rfl, by decide +kernel, rfl, by decide +kernel, by decide +kernel⟩
inductive Xk where
  | LapError
  | NoDeed
  | NoMeasure
  | BadRows
  | BadName
  | Twice
  | BadCount
  | BadNumber
  | NoRow
  | BadBack
  | TooEarly
  | BadTurns
  | Short
  | BadWidth
  | BadArms
  | NoArm
  | BadDelay
  | BadHold
  | BadPlan
  | Unfit
  | BadText
  | Loop
  | Run
  deriving DecidableEq
structure Tp0 (K : PySem.W.Frag) (C : Dk → Addr) (CE : Xk → Addr) : Prop where
  c_Sum : HasC K "Sum" (C .sum)
  c_Less : HasC K "Less" (C .less)
  c_Times : HasC K "Times" (C .times)
  c_Least : HasC K "Least" (C .least)
  c_Most : HasC K "Most" (C .most)
  c_Pick : HasC K "Pick" (C .pick)
  c_Same : HasC K "Same" (C .same)
  c_Tell : HasC K "Tell" (C .tell)
  c_Take : HasC K "Take" (C .take)
  g_LapError : PySem.W.nsIn K mainGlobals "LapError" = some (some (.ref (CE .LapError)))
  g_NoDeed : PySem.W.nsIn K mainGlobals "NoDeed" = some (some (.ref (CE .NoDeed)))
  g_NoMeasure : PySem.W.nsIn K mainGlobals "NoMeasure" = some (some (.ref (CE .NoMeasure)))
  g_BadRows : PySem.W.nsIn K mainGlobals "BadRows" = some (some (.ref (CE .BadRows)))
  g_BadName : PySem.W.nsIn K mainGlobals "BadName" = some (some (.ref (CE .BadName)))
  g_Twice : PySem.W.nsIn K mainGlobals "Twice" = some (some (.ref (CE .Twice)))
  g_BadCount : PySem.W.nsIn K mainGlobals "BadCount" = some (some (.ref (CE .BadCount)))
  g_BadNumber : PySem.W.nsIn K mainGlobals "BadNumber" = some (some (.ref (CE .BadNumber)))
  g_NoRow : PySem.W.nsIn K mainGlobals "NoRow" = some (some (.ref (CE .NoRow)))
  g_BadBack : PySem.W.nsIn K mainGlobals "BadBack" = some (some (.ref (CE .BadBack)))
  g_TooEarly : PySem.W.nsIn K mainGlobals "TooEarly" = some (some (.ref (CE .TooEarly)))
  g_BadTurns : PySem.W.nsIn K mainGlobals "BadTurns" = some (some (.ref (CE .BadTurns)))
  g_Short : PySem.W.nsIn K mainGlobals "Short" = some (some (.ref (CE .Short)))
  g_BadWidth : PySem.W.nsIn K mainGlobals "BadWidth" = some (some (.ref (CE .BadWidth)))
  g_BadArms : PySem.W.nsIn K mainGlobals "BadArms" = some (some (.ref (CE .BadArms)))
  g_NoArm : PySem.W.nsIn K mainGlobals "NoArm" = some (some (.ref (CE .NoArm)))
  g_BadDelay : PySem.W.nsIn K mainGlobals "BadDelay" = some (some (.ref (CE .BadDelay)))
  g_BadHold : PySem.W.nsIn K mainGlobals "BadHold" = some (some (.ref (CE .BadHold)))
  g_BadPlan : PySem.W.nsIn K mainGlobals "BadPlan" = some (some (.ref (CE .BadPlan)))
  g_Unfit : PySem.W.nsIn K mainGlobals "Unfit" = some (some (.ref (CE .Unfit)))
  g_BadText : PySem.W.nsIn K mainGlobals "BadText" = some (some (.ref (CE .BadText)))
  g_Loop : PySem.W.nsIn K mainGlobals "Loop" = some (some (.ref (CE .Loop)))
  g_Run : PySem.W.nsIn K mainGlobals "Run" = some (some (.ref (CE .Run)))
structure Tp1 (K : PySem.W.Frag) (C : Dk → Addr) (CE : Xk → Addr) : Prop where
  f_of_sum : HasM K (C .sum) "of" "Sum.of" st_Sum_of
  f_of_less : HasM K (C .less) "of" "Less.of" st_Less_of
  f_of_times : HasM K (C .times) "of" "Times.of" st_Times_of
  f_of_least : HasM K (C .least) "of" "Least.of" st_Least_of
  f_of_most : HasM K (C .most) "of" "Most.of" st_Most_of
  f_of_pick : HasM K (C .pick) "of" "Pick.of" st_Pick_of
  f_of_same : HasM K (C .same) "of" "Deed.of" st_Deed_of
  f_of_tell : HasM K (C .tell) "of" "Deed.of" st_Deed_of
  f_of_take : HasM K (C .take) "of" "Deed.of" st_Deed_of
  f_wa_sum : HasM K (C .sum) "wants" "Sum.wants" st_Sum_wants
  f_wa_less : HasM K (C .less) "wants" "Less.wants" st_Less_wants
  f_wa_times : HasM K (C .times) "wants" "Times.wants" st_Times_wants
  f_wa_least : HasM K (C .least) "wants" "Least.wants" st_Least_wants
  f_wa_most : HasM K (C .most) "wants" "Most.wants" st_Most_wants
  f_wa_pick : HasM K (C .pick) "wants" "Pick.wants" st_Pick_wants
  f_wa_same : HasM K (C .same) "wants" "Deed.wants" st_Deed_wants
  f_wa_tell : HasM K (C .tell) "wants" "Deed.wants" st_Deed_wants
  f_wa_take : HasM K (C .take) "wants" "Take.wants" st_Take_wants
  x_BadTurns : HasX K "BadTurns" (CE .BadTurns)
  m_BadTurns : PySem.W.mroIn K (CE .BadTurns) (.ref (CE .LapError)) = some true
  lapB : PySem.W.mroIn K (CE .LapError) (.type "BaseException") = some true
  lapT : PySem.W.typeIn K (.ref (CE .LapError)) = some (.type "type")
  e_Short : HasXI K "Short" (CE .Short) (CE .LapError) "Short.__init__" st_Short___init__
  lapR : PySem.W.readsIn K (CE .LapError) (.type "type") = true
  lapS : PySem.W.specialIn K (.ref (CE .LapError)) "__getattribute__" = some (some (.builtin "type.__getattribute__"))
  lapI : PySem.W.findCls K (.ref (CE .LapError)) (.type "type") "__init__" = some (.val (.builtin "ValueError.__init__"))
  i_Loop : HasCI K "Loop" (CE .Loop) "Loop.__init__" st_Loop___init__
  f_Loop_rows : HasM K (CE .Loop) "rows" "Loop.rows" st_Loop_rows
  f_Loop_deepest : HasM K (CE .Loop) "deepest" "Loop.deepest" st_Loop_deepest
  i_Run : HasCI K "Run" (CE .Run) "Run.__init__" st_Run___init__
  f_Run_made_at : HasM K (CE .Run) "made_at" "Run.made_at" st_Run_made_at
  f_Run_number_read : HasM K (CE .Run) "number_read" "Run.number_read" st_Run_number_read
  f_Run_numbers_for : HasM K (CE .Run) "numbers_for" "Run.numbers_for" st_Run_numbers_for
  f_Run_do_turn : HasM K (CE .Run) "do_turn" "Run.do_turn" st_Run_do_turn
  f_Run_last_made : HasM K (CE .Run) "last_made" "Run.last_made" st_Run_last_made
  w_LETTERS : HasV K "LETTERS" (.str (Str.ofString "abcdefghijklmnopqrstuvwxyz"))
structure Tp2 (K : PySem.W.Frag) (C : Dk → Addr) (CE : Xk → Addr) : Prop where
  w_MOST_LETTERS : HasV K "MOST_LETTERS" (.int 12)
  w_MOST_ROWS : HasV K "MOST_ROWS" (.int 12)
  w_MOST_BACK : HasV K "MOST_BACK" (.int 6)
  w_MOST_TURNS : HasV K "MOST_TURNS" (.int 300)
  f_table : HasF K "table" st_table
  f_outcome : HasF K "outcome" st_outcome
  f_run : HasF K "done_run" st_done_run
  f_crun : HasF K "check_run" st_check_run
  f_cturns : HasF K "check_turns" st_check_turns
  f_cfeeds : HasF K "check_feeds" st_check_feeds
  f_cbegin : HasF K "check_begin" st_check_begin
  f_deed : HasF K "deed_of" st_deed_of
  f_islet : HasF K "is_lettered" st_is_lettered
  f_isname : HasF K "is_name" st_is_name
  f_cmeas : HasF K "check_measure" st_check_measure
  f_crows : HasF K "check_rows" st_check_rows
  f_chead : HasF K "check_head" st_check_head
  f_cread : HasF K "check_read" st_check_read
  f_cnum : HasF K "check_number" st_check_number
  f_clook : HasF K "check_look_back" st_check_look_back
  f_copy : HasF K "copy_of_row" st_copy_of_row
  f_depths : HasF K "depths_of" st_depths_of
  f_cell : HasF K "_law_cell_at" st_law_cell_at
  f_mix : HasF K "_law_mix" st_law_mix
  f_letters : HasF K "_law_letters" st_law_letters
  f_names : HasF K "_law_names" st_law_names
  f_wants : HasF K "_law_wants" st_law_wants
  f_row : HasF K "_law_row" st_law_row
  f_rows : HasF K "_law_rows" st_law_rows
  f_measure : HasF K "_law_measure" st_law_measure
  f_deepest : HasF K "_law_deepest" st_law_deepest
  f_given : HasF K "_law_given" st_law_given
  f_feeds : HasF K "_law_feeds" st_law_feeds
  f_begin : HasF K "_law_begin" st_law_begin
  f_copyL : HasF K "_law_copy" st_law_copy
  f_classes : HasF K "_law_classes" st_law_classes
structure Tp3 (K : PySem.W.Frag) (C : Dk → Addr) (CE : Xk → Addr) : Prop where
  f_shortl : HasF K "_law_short" st_law_short
  f_shorter : HasF K "_law_shorter" st_law_shorter
  f_caught : HasF K "_law_caught" st_law_caught
  z_ValueError : PySem.W.nsIn K mainGlobals "ValueError" = some none
  z_all : PySem.W.nsIn K mainGlobals "all" = some none
  z_bool : PySem.W.nsIn K mainGlobals "bool" = some none
  z_enumerate : PySem.W.nsIn K mainGlobals "enumerate" = some none
  z_int : PySem.W.nsIn K mainGlobals "int" = some none
  z_isinstance : PySem.W.nsIn K mainGlobals "isinstance" = some none
  z_len : PySem.W.nsIn K mainGlobals "len" = some none
  z_list : PySem.W.nsIn K mainGlobals "list" = some none
  z_max : PySem.W.nsIn K mainGlobals "max" = some none
  z_min : PySem.W.nsIn K mainGlobals "min" = some none
  z_range : PySem.W.nsIn K mainGlobals "range" = some none
  z_sorted : PySem.W.nsIn K mainGlobals "sorted" = some none
  z_str : PySem.W.nsIn K mainGlobals "str" = some none
  z_sum : PySem.W.nsIn K mainGlobals "sum" = some none
  z_tuple : PySem.W.nsIn K mainGlobals "tuple" = some none
  kII : PySem.W.kitOne K (.type "int") (.type "int") = some true
  kIB : PySem.W.kitOne K (.type "int") (.type "bool") = some false
  kTT : PySem.W.kitOne K (.type "tuple") (.type "tuple") = some true
  kTI : PySem.W.kitOne K (.type "tuple") (.type "int") = some false
  kIT : PySem.W.kitOne K (.type "int") (.type "tuple") = some false
  kLL : PySem.W.kitOne K (.type "list") (.type "list") = some true
  kSS : PySem.W.kitOne K (.type "str") (.type "str") = some true
  nM : NoAttr K (CE .Loop) "measure"
  nK : NoAttr K (CE .Loop) "kept"
  nD : NoAttr K (CE .Loop) "depths"
  nRL : NoAttr K (CE .Run) "loop"
  nRF : NoAttr K (CE .Run) "feeds"
  nRB : NoAttr K (CE .Run) "begin"
  nRM : NoAttr K (CE .Run) "made"
  kX_Short : ∀ f, f ≠ .LapError → f ≠ .Loop → f ≠ .Run → PySem.W.kitOne K (.ref (CE .Short)) (.ref (CE f)) = some (decide (f = .Short))
  kV_Short : PySem.W.kitOne K (.ref (CE .Short)) (.type "ValueError") = some true
  kL_Short : PySem.W.kitOne K (.ref (CE .Short)) (.ref (CE .LapError)) = some true
  kX_BadTurns : ∀ f, f ≠ .LapError → f ≠ .Loop → f ≠ .Run → PySem.W.kitOne K (.ref (CE .BadTurns)) (.ref (CE f)) = some (decide (f = .BadTurns))
structure Tp4 (K : PySem.W.Frag) (C : Dk → Addr) (CE : Xk → Addr) : Prop where
  kV_BadTurns : PySem.W.kitOne K (.ref (CE .BadTurns)) (.type "ValueError") = some true
  kL_BadTurns : PySem.W.kitOne K (.ref (CE .BadTurns)) (.ref (CE .LapError)) = some true
  m_Short : PySem.W.mroIn K (CE .Short) (.ref (CE .LapError)) = some true
  nSn : NoAttr K (CE .Short) "name"
structure Tp (K : PySem.W.Frag) (C : Dk → Addr) (CE : Xk → Addr) : Prop extends Tp0 K C CE, Tp1 K C CE, Tp2 K C CE, Tp3 K C CE, Tp4 K C CE
structure Txt (K : PySem.W.Frag) (mg : Str → Option Value) (C : Dk → Addr) (CE : Xk → Addr) : Prop extends Tp K C CE where
  mg_Sum : mg "Sum" = some (.ref (C .sum))
  mg_Less : mg "Less" = some (.ref (C .less))
  mg_Times : mg "Times" = some (.ref (C .times))
  mg_Least : mg "Least" = some (.ref (C .least))
  mg_Most : mg "Most" = some (.ref (C .most))
  mg_Pick : mg "Pick" = some (.ref (C .pick))
  mg_Same : mg "Same" = some (.ref (C .same))
  mg_Tell : mg "Tell" = some (.ref (C .tell))
  mg_Take : mg "Take" = some (.ref (C .take))
  mg_LapError : mg "LapError" = some (.ref (CE .LapError))
  mg_NoDeed : mg "NoDeed" = some (.ref (CE .NoDeed))
  mg_NoMeasure : mg "NoMeasure" = some (.ref (CE .NoMeasure))
  mg_BadRows : mg "BadRows" = some (.ref (CE .BadRows))
  mg_BadName : mg "BadName" = some (.ref (CE .BadName))
  mg_Twice : mg "Twice" = some (.ref (CE .Twice))
  mg_BadCount : mg "BadCount" = some (.ref (CE .BadCount))
  mg_BadNumber : mg "BadNumber" = some (.ref (CE .BadNumber))
  mg_NoRow : mg "NoRow" = some (.ref (CE .NoRow))
  mg_BadBack : mg "BadBack" = some (.ref (CE .BadBack))
  mg_TooEarly : mg "TooEarly" = some (.ref (CE .TooEarly))
  mg_BadTurns : mg "BadTurns" = some (.ref (CE .BadTurns))
  mg_Short : mg "Short" = some (.ref (CE .Short))
  mg_BadWidth : mg "BadWidth" = some (.ref (CE .BadWidth))
  mg_BadArms : mg "BadArms" = some (.ref (CE .BadArms))
  mg_NoArm : mg "NoArm" = some (.ref (CE .NoArm))
  mg_BadDelay : mg "BadDelay" = some (.ref (CE .BadDelay))
  mg_BadHold : mg "BadHold" = some (.ref (CE .BadHold))
  mg_BadPlan : mg "BadPlan" = some (.ref (CE .BadPlan))
  mg_Unfit : mg "Unfit" = some (.ref (CE .Unfit))
  mg_BadText : mg "BadText" = some (.ref (CE .BadText))
  mg_Loop : mg "Loop" = some (.ref (CE .Loop))
  mg_Run : mg "Run" = some (.ref (CE .Run))
  nVE : mg "ValueError" = none
  nall : mg "all" = none
  nbool : mg "bool" = none
  nenumerate : mg "enumerate" = none
  nint : mg "int" = none
  nisi : mg "isinstance" = none
  nlen : mg "len" = none
  nlist : mg "list" = none
  nmax : mg "max" = none
  nmin : mg "min" = none
  nrange : mg "range" = none
  nsorted : mg "sorted" = none
  nstr : mg "str" = none
  nsum : mg "sum" = none
  ntuple : mg "tuple" = none
  v_LETTERS : ∃ u, mg "LETTERS" = some u ∧ RelV (.str (Str.ofString "abcdefghijklmnopqrstuvwxyz")) u
  v_MOST_LETTERS : ∃ u, mg "MOST_LETTERS" = some u ∧ RelV (.int 12) u
  v_MOST_ROWS : ∃ u, mg "MOST_ROWS" = some u ∧ RelV (.int 12) u
  v_MOST_BACK : ∃ u, mg "MOST_BACK" = some u ∧ RelV (.int 6) u
  v_MOST_TURNS : ∃ u, mg "MOST_TURNS" = some u ∧ RelV (.int 300) u
section
variable {K : PySem.W.Frag} {mg : Str → Option Value} {C : Dk → Addr} {CE : Xk → Addr}
theorem Txt.cl (T : Txt K mg C CE) : ∀ d, Cls K (C d)
  | .sum => T.c_Sum.cl
  | .less => T.c_Less.cl
  | .times => T.c_Times.cl
  | .least => T.c_Least.cl
  | .most => T.c_Most.cl
  | .pick => T.c_Pick.cl
  | .same => T.c_Same.cl
  | .tell => T.c_Tell.cl
  | .take => T.c_Take.cl
theorem Txt.mk_Sum (T : Txt K mg C CE) : MkN K (C .sum) := T.c_Sum.mkn
theorem Txt.mk_Less (T : Txt K mg C CE) : MkN K (C .less) := T.c_Less.mkn
theorem Txt.mk_Times (T : Txt K mg C CE) : MkN K (C .times) := T.c_Times.mkn
theorem Txt.mk_Least (T : Txt K mg C CE) : MkN K (C .least) := T.c_Least.mkn
theorem Txt.mk_Most (T : Txt K mg C CE) : MkN K (C .most) := T.c_Most.mkn
theorem Txt.mk_Pick (T : Txt K mg C CE) : MkN K (C .pick) := T.c_Pick.mkn
theorem Txt.mk_Same (T : Txt K mg C CE) : MkN K (C .same) := T.c_Same.mkn
theorem Txt.mk_Tell (T : Txt K mg C CE) : MkN K (C .tell) := T.c_Tell.mkn
theorem Txt.mk_Take (T : Txt K mg C CE) : MkN K (C .take) := T.c_Take.mkn
theorem Tp.txt {h : Heap} (T : Tp K C CE) (X : K.In h) (G : h.Ns mainGlobals mg) : Txt K mg C CE where
  toTp := T
  mg_Sum := PySem.W.mg_of X G T.c_Sum.ns
  mg_Less := PySem.W.mg_of X G T.c_Less.ns
  mg_Times := PySem.W.mg_of X G T.c_Times.ns
  mg_Least := PySem.W.mg_of X G T.c_Least.ns
  mg_Most := PySem.W.mg_of X G T.c_Most.ns
  mg_Pick := PySem.W.mg_of X G T.c_Pick.ns
  mg_Same := PySem.W.mg_of X G T.c_Same.ns
  mg_Tell := PySem.W.mg_of X G T.c_Tell.ns
  mg_Take := PySem.W.mg_of X G T.c_Take.ns
  mg_LapError := PySem.W.mg_of X G T.g_LapError
  mg_NoDeed := PySem.W.mg_of X G T.g_NoDeed
  mg_NoMeasure := PySem.W.mg_of X G T.g_NoMeasure
  mg_BadRows := PySem.W.mg_of X G T.g_BadRows
  mg_BadName := PySem.W.mg_of X G T.g_BadName
  mg_Twice := PySem.W.mg_of X G T.g_Twice
  mg_BadCount := PySem.W.mg_of X G T.g_BadCount
  mg_BadNumber := PySem.W.mg_of X G T.g_BadNumber
  mg_NoRow := PySem.W.mg_of X G T.g_NoRow
  mg_BadBack := PySem.W.mg_of X G T.g_BadBack
  mg_TooEarly := PySem.W.mg_of X G T.g_TooEarly
  mg_BadTurns := PySem.W.mg_of X G T.g_BadTurns
  mg_Short := PySem.W.mg_of X G T.g_Short
  mg_BadWidth := PySem.W.mg_of X G T.g_BadWidth
  mg_BadArms := PySem.W.mg_of X G T.g_BadArms
  mg_NoArm := PySem.W.mg_of X G T.g_NoArm
  mg_BadDelay := PySem.W.mg_of X G T.g_BadDelay
  mg_BadHold := PySem.W.mg_of X G T.g_BadHold
  mg_BadPlan := PySem.W.mg_of X G T.g_BadPlan
  mg_Unfit := PySem.W.mg_of X G T.g_Unfit
  mg_BadText := PySem.W.mg_of X G T.g_BadText
  mg_Loop := PySem.W.mg_of X G T.g_Loop
  mg_Run := PySem.W.mg_of X G T.g_Run
  nVE := PySem.W.mg_none_of X G T.z_ValueError
  nall := PySem.W.mg_none_of X G T.z_all
  nbool := PySem.W.mg_none_of X G T.z_bool
  nenumerate := PySem.W.mg_none_of X G T.z_enumerate
  nint := PySem.W.mg_none_of X G T.z_int
  nisi := PySem.W.mg_none_of X G T.z_isinstance
  nlen := PySem.W.mg_none_of X G T.z_len
  nlist := PySem.W.mg_none_of X G T.z_list
  nmax := PySem.W.mg_none_of X G T.z_max
  nmin := PySem.W.mg_none_of X G T.z_min
  nrange := PySem.W.mg_none_of X G T.z_range
  nsorted := PySem.W.mg_none_of X G T.z_sorted
  nstr := PySem.W.mg_none_of X G T.z_str
  nsum := PySem.W.mg_none_of X G T.z_sum
  ntuple := PySem.W.mg_none_of X G T.z_tuple
  v_LETTERS := T.w_LETTERS.mg X G
  v_MOST_LETTERS := T.w_MOST_LETTERS.mg X G
  v_MOST_ROWS := T.w_MOST_ROWS.mg X G
  v_MOST_BACK := T.w_MOST_BACK.mg X G
  v_MOST_TURNS := T.w_MOST_TURNS.mg X G
end
def Dk.wants : Dk → Nat
  | .pick => 3 | .same => 1 | .tell => 1 | .take => 0 | _ => 2
def spWants (d : Dk) : Sp := fun vs H Q _ => ∃ a : Addr, vs = [.ref a] ∧ Q (.int (d.wants : Nat)) H
def spCell (K : PySem.W.Frag) : Sp := fun vs H Q _ => ∃ (a : Addr) (ns : List Int) (k : Nat), vs = [.ref a, .int (k : Int)] ∧ SqL K H a (ns.map V.int) ∧ ∀ i : Int, Q (.int i) H
def spMix : Sp := fun vs H Q _ => ∃ (c : Int) (k : Nat), vs = [.int c, .int (k : Int)] ∧ k ≤ 100 ∧ ∀ m : Nat, Q (.int (m : Int)) H
section
variable {P : Program} {w : World} {K : PySem.W.Frag} {mg : Str → Option Value} {base : Heap} {C : Dk → Addr} {CE : Xk → Addr}
theorem lenOf {d : Dk} : ∀ vs H Q E, spOf K d vs H Q E → vs.length = ["self", "numbers", "measure"].length := by
  rintro vs H Q E ⟨a, p, ns, m, rfl, _⟩
  rfl
theorem of_sum (T : Txt K mg C CE) : ∃ f fd, Meth K (C .sum) "of" f ∧ FnOk P w K mg base CX0 1 f fd ["self", "numbers", "measure"] (spOf K .sum) ∧ Binds K fd ["self", "numbers", "measure"] [] := by
  refine T.f_of_sum.fn sc_Sum_of (fun _ _ _ _ _ _ us hl => match us, hl with | [_, _, _], _ => rfl) lenOf (fun f cdv A outer s H vs Q E hr h => ?_)
  obtain ⟨a, p, ns, m, rfl, hS, hn, hm, ho, q⟩ := h
  have hn' : 2 ≤ ns.length := hn
  refine ⟨_, (pss_one (ps_ret (pe_op op_mod (pe_op op_add (pe_ix ix_seq (pv 1) pe_int (fun _ _ => rfl)) (pe_ix ix_seq (pv 1) pe_int (fun _ _ => rfl))) (pv 2)))), ?_⟩
  repeat' (first
    | (walk_at "rd1")
    | ((with_reducible show rIx _ (V.ref _) (V.int _) _ _); (first | refine i_ixL hS (at_ints 0 (by omega)) ?_ | refine i_ixL hS (at_ints 1 (by omega)) ?_ | refine i_ixL hS (at_ints 2 (by omega)) ?_))
    | ((with_reducible refine i_mul ?_ ?_); (exact ho rfl))
    | (refine ⟨_, _, rfl, ?_⟩)
    | (with_reducible refine i_iteI (fun e => ?_) (fun e => ?_)))
  exact q
theorem of_less (T : Txt K mg C CE) : ∃ f fd, Meth K (C .less) "of" f ∧ FnOk P w K mg base CX0 1 f fd ["self", "numbers", "measure"] (spOf K .less) ∧ Binds K fd ["self", "numbers", "measure"] [] := by
  refine T.f_of_less.fn sc_Less_of (fun _ _ _ _ _ _ us hl => match us, hl with | [_, _, _], _ => rfl) lenOf (fun f cdv A outer s H vs Q E hr h => ?_)
  obtain ⟨a, p, ns, m, rfl, hS, hn, hm, ho, q⟩ := h
  have hn' : 2 ≤ ns.length := hn
  refine ⟨_, (pss_one (ps_ret (pe_op op_mod (pe_op op_sub (pe_ix ix_seq (pv 1) pe_int (fun _ _ => rfl)) (pe_ix ix_seq (pv 1) pe_int (fun _ _ => rfl))) (pv 2)))), ?_⟩
  repeat' (first
    | (walk_at "rd1")
    | ((with_reducible show rIx _ (V.ref _) (V.int _) _ _); (first | refine i_ixL hS (at_ints 0 (by omega)) ?_ | refine i_ixL hS (at_ints 1 (by omega)) ?_ | refine i_ixL hS (at_ints 2 (by omega)) ?_))
    | ((with_reducible refine i_mul ?_ ?_); (exact ho rfl))
    | (refine ⟨_, _, rfl, ?_⟩)
    | (with_reducible refine i_iteI (fun e => ?_) (fun e => ?_)))
  exact q
theorem of_times (T : Txt K mg C CE) : ∃ f fd, Meth K (C .times) "of" f ∧ FnOk P w K mg base CX0 1 f fd ["self", "numbers", "measure"] (spOf K .times) ∧ Binds K fd ["self", "numbers", "measure"] [] := by
  refine T.f_of_times.fn sc_Times_of (fun _ _ _ _ _ _ us hl => match us, hl with | [_, _, _], _ => rfl) lenOf (fun f cdv A outer s H vs Q E hr h => ?_)
  obtain ⟨a, p, ns, m, rfl, hS, hn, hm, ho, q⟩ := h
  have hn' : 2 ≤ ns.length := hn
  refine ⟨_, (pss_one (ps_ret (pe_op op_mod (pe_op op_mulO (pe_ix ix_seq (pv 1) pe_int (fun _ _ => rfl)) (pe_ix ix_seq (pv 1) pe_int (fun _ _ => rfl))) (pv 2)))), ?_⟩
  repeat' (first
    | (walk_at "rd1")
    | ((with_reducible show rIx _ (V.ref _) (V.int _) _ _); (first | refine i_ixL hS (at_ints 0 (by omega)) ?_ | refine i_ixL hS (at_ints 1 (by omega)) ?_ | refine i_ixL hS (at_ints 2 (by omega)) ?_))
    | ((with_reducible refine i_mul ?_ ?_); (exact ho rfl))
    | (refine ⟨_, _, rfl, ?_⟩)
    | (with_reducible refine i_iteI (fun e => ?_) (fun e => ?_)))
  exact q
theorem of_least (T : Txt K mg C CE) : ∃ f fd, Meth K (C .least) "of" f ∧ FnOk P w K mg base CX0 1 f fd ["self", "numbers", "measure"] (spOf K .least) ∧ Binds K fd ["self", "numbers", "measure"] [] := by
  refine T.f_of_least.fn sc_Least_of (fun _ _ _ _ _ _ us hl => match us, hl with | [_, _, _], _ => rfl) lenOf (fun f cdv A outer s H vs Q E hr h => ?_)
  obtain ⟨a, p, ns, m, rfl, hS, hn, hm, ho, q⟩ := h
  have hn' : 2 ≤ ns.length := hn
  refine ⟨_, (pss_one (ps_ret (pe_callB (call_min2 rfl) rfl T.nmin PyProof.Rows.boot_min (pa_cons (pe_op op_mod (pe_ix ix_seq (pv 1) pe_int (fun _ _ => rfl)) (pv 2)) (pa_cons (pe_op op_mod (pe_ix ix_seq (pv 1) pe_int (fun _ _ => rfl)) (pv 2)) pa_nil (se rfl)) (se rfl)) (he := se rfl) (hpl := nst rfl)))), ?_⟩
  repeat' (first
    | (walk_at "rd1")
    | ((with_reducible show rIx _ (V.ref _) (V.int _) _ _); (first | refine i_ixL hS (at_ints 0 (by omega)) ?_ | refine i_ixL hS (at_ints 1 (by omega)) ?_ | refine i_ixL hS (at_ints 2 (by omega)) ?_))
    | ((with_reducible refine i_mul ?_ ?_); (exact ho rfl))
    | (refine ⟨_, _, rfl, ?_⟩)
    | (with_reducible refine i_iteI (fun e => ?_) (fun e => ?_)))
  exact q
theorem of_most (T : Txt K mg C CE) : ∃ f fd, Meth K (C .most) "of" f ∧ FnOk P w K mg base CX0 1 f fd ["self", "numbers", "measure"] (spOf K .most) ∧ Binds K fd ["self", "numbers", "measure"] [] := by
  refine T.f_of_most.fn sc_Most_of (fun _ _ _ _ _ _ us hl => match us, hl with | [_, _, _], _ => rfl) lenOf (fun f cdv A outer s H vs Q E hr h => ?_)
  obtain ⟨a, p, ns, m, rfl, hS, hn, hm, ho, q⟩ := h
  have hn' : 2 ≤ ns.length := hn
  refine ⟨_, (pss_one (ps_ret (pe_callB (call_max2 rfl) rfl T.nmax PyProof.Rows.boot_max (pa_cons (pe_op op_mod (pe_ix ix_seq (pv 1) pe_int (fun _ _ => rfl)) (pv 2)) (pa_cons (pe_op op_mod (pe_ix ix_seq (pv 1) pe_int (fun _ _ => rfl)) (pv 2)) pa_nil (se rfl)) (se rfl)) (he := se rfl) (hpl := nst rfl)))), ?_⟩
  repeat' (first
    | (walk_at "rd1")
    | ((with_reducible show rIx _ (V.ref _) (V.int _) _ _); (first | refine i_ixL hS (at_ints 0 (by omega)) ?_ | refine i_ixL hS (at_ints 1 (by omega)) ?_ | refine i_ixL hS (at_ints 2 (by omega)) ?_))
    | ((with_reducible refine i_mul ?_ ?_); (exact ho rfl))
    | (refine ⟨_, _, rfl, ?_⟩)
    | (with_reducible refine i_iteI (fun e => ?_) (fun e => ?_)))
  first | exact q | (rw [show max (ns.getD 0 0 % m) (ns.getD 1 0 % m) = (if ns.getD 1 0 % m > ns.getD 0 0 % m then ns.getD 1 0 % m else ns.getD 0 0 % m) by split <;> omega]; exact q)
theorem of_pick (T : Txt K mg C CE) : ∃ f fd, Meth K (C .pick) "of" f ∧ FnOk P w K mg base CX0 1 f fd ["self", "numbers", "measure"] (spOf K .pick) ∧ Binds K fd ["self", "numbers", "measure"] [] := by
  refine T.f_of_pick.fn sc_Pick_of (fun _ _ _ _ _ _ us hl => match us, hl with | [_, _, _], _ => rfl) lenOf (fun f cdv A outer s H vs Q E hr h => ?_)
  obtain ⟨a, p, ns, m, rfl, hS, hn, hm, ho, q⟩ := h
  have hn' : 3 ≤ ns.length := hn
  refine ⟨_, (pss_cons (ps_if (pt_cmpR op_eq (pe_op op_mod (pe_ix ix_seq (pv 1) pe_int (fun _ _ => rfl)) (pv 2)) pe_int (nomark _)) (pss_one (ps_ret (pe_op op_mod (pe_ix ix_seq (pv 1) pe_int (fun _ _ => rfl)) (pv 2)))) pss_nil)
    (pss_one (ps_ret (pe_op op_mod (pe_ix ix_seq (pv 1) pe_int (fun _ _ => rfl)) (pv 2))))), ?_⟩
  repeat' (first
    | (walk_at "rd1")
    | ((with_reducible show rIx _ (V.ref _) (V.int _) _ _); (first | refine i_ixL hS (at_ints 0 (by omega)) ?_ | refine i_ixL hS (at_ints 1 (by omega)) ?_ | refine i_ixL hS (at_ints 2 (by omega)) ?_))
    | ((with_reducible refine i_mul ?_ ?_); (exact ho rfl))
    | (refine ⟨_, _, rfl, ?_⟩)
    | (with_reducible refine i_iteI (fun e => ?_) (fun e => ?_)))
  all_goals
    have q' : Q (.int (if ns.getD 0 0 % m = 0 then ns.getD 2 0 % m else ns.getD 1 0 % m)) H := q
    first
    | (rw [if_pos (by assumption)] at q'; exact q')
    | (rw [if_neg (by assumption)] at q'; exact q')
theorem of_same (T : Txt K mg C CE) : ∃ f fd, Meth K (C .same) "of" f ∧ FnOk P w K mg base CX0 1 f fd ["self", "numbers", "measure"] (spOf K .same) ∧ Binds K fd ["self", "numbers", "measure"] [] := by
  refine T.f_of_same.fn sc_Deed_of (fun _ _ _ _ _ _ us hl => match us, hl with | [_, _, _], _ => rfl) lenOf (fun f cdv A outer s H vs Q E hr h => ?_)
  obtain ⟨a, p, ns, m, rfl, hS, hn, hm, ho, q⟩ := h
  have hn' : 1 ≤ ns.length := hn
  refine ⟨_, (pss_one (ps_ret (pe_op op_mod (pe_ix ix_seq (pv 1) pe_int (fun _ _ => rfl)) (pv 2)))), ?_⟩
  repeat' (first
    | (walk_at "rd1")
    | ((with_reducible show rIx _ (V.ref _) (V.int _) _ _); (first | refine i_ixL hS (at_ints 0 (by omega)) ?_ | refine i_ixL hS (at_ints 1 (by omega)) ?_ | refine i_ixL hS (at_ints 2 (by omega)) ?_))
    | ((with_reducible refine i_mul ?_ ?_); (exact ho rfl))
    | (refine ⟨_, _, rfl, ?_⟩)
    | (with_reducible refine i_iteI (fun e => ?_) (fun e => ?_)))
  exact q
theorem of_tell (T : Txt K mg C CE) : ∃ f fd, Meth K (C .tell) "of" f ∧ FnOk P w K mg base CX0 1 f fd ["self", "numbers", "measure"] (spOf K .tell) ∧ Binds K fd ["self", "numbers", "measure"] [] := by
  refine T.f_of_tell.fn sc_Deed_of (fun _ _ _ _ _ _ us hl => match us, hl with | [_, _, _], _ => rfl) lenOf (fun f cdv A outer s H vs Q E hr h => ?_)
  obtain ⟨a, p, ns, m, rfl, hS, hn, hm, ho, q⟩ := h
  have hn' : 1 ≤ ns.length := hn
  refine ⟨_, (pss_one (ps_ret (pe_op op_mod (pe_ix ix_seq (pv 1) pe_int (fun _ _ => rfl)) (pv 2)))), ?_⟩
  repeat' (first
    | (walk_at "rd1")
    | ((with_reducible show rIx _ (V.ref _) (V.int _) _ _); (first | refine i_ixL hS (at_ints 0 (by omega)) ?_ | refine i_ixL hS (at_ints 1 (by omega)) ?_ | refine i_ixL hS (at_ints 2 (by omega)) ?_))
    | ((with_reducible refine i_mul ?_ ?_); (exact ho rfl))
    | (refine ⟨_, _, rfl, ?_⟩)
    | (with_reducible refine i_iteI (fun e => ?_) (fun e => ?_)))
  exact q
theorem of_take (T : Txt K mg C CE) : ∃ f fd, Meth K (C .take) "of" f ∧ FnOk P w K mg base CX0 1 f fd ["self", "numbers", "measure"] (spOf K .take) ∧ Binds K fd ["self", "numbers", "measure"] [] := by
  refine T.f_of_take.fn sc_Deed_of (fun _ _ _ _ _ _ us hl => match us, hl with | [_, _, _], _ => rfl) lenOf (fun f cdv A outer s H vs Q E hr h => ?_)
  obtain ⟨a, p, ns, m, rfl, hS, hn, hm, ho, q⟩ := h
  have hn' : 1 ≤ ns.length := hn
  refine ⟨_, (pss_one (ps_ret (pe_op op_mod (pe_ix ix_seq (pv 1) pe_int (fun _ _ => rfl)) (pv 2)))), ?_⟩
  repeat' (first
    | (walk_at "rd1")
    | ((with_reducible show rIx _ (V.ref _) (V.int _) _ _); (first | refine i_ixL hS (at_ints 0 (by omega)) ?_ | refine i_ixL hS (at_ints 1 (by omega)) ?_ | refine i_ixL hS (at_ints 2 (by omega)) ?_))
    | ((with_reducible refine i_mul ?_ ?_); (exact ho rfl))
    | (refine ⟨_, _, rfl, ?_⟩)
    | (with_reducible refine i_iteI (fun e => ?_) (fun e => ?_)))
  exact q
theorem m_of (T : Txt K mg C CE) : MethI P w K mg base 1 "of" ["self", "numbers", "measure"] C (spOf K) := by
  refine ⟨fun d => ⟨T.cl d, ?_⟩⟩
  cases d
  · exact of_sum T
  · exact of_less T
  · exact of_times T
  · exact of_least T
  · exact of_most T
  · exact of_pick T
  · exact of_same T
  · exact of_tell T
  · exact of_take T
theorem wa_sum (T : Txt K mg C CE) : ∃ f fd, Meth K (C .sum) "wants" f ∧ FnOk P w K mg base CX0 1 f fd ["self"] (spWants .sum) ∧ Binds K fd ["self"] [] := by
  refine T.f_wa_sum.fn sc_Sum_wants (fun _ _ _ _ _ _ us hl => match us, hl with | [_], _ => rfl) (by rintro vs H Q E ⟨a, rfl, _⟩; rfl) (fun f cdv A outer s H vs Q E hr h => ?_)
  obtain ⟨a, rfl, q⟩ := h
  refine ⟨_, (pss_one (ps_ret pe_int)), ?_⟩
  walk_at "rd"
  exact q
theorem wa_less (T : Txt K mg C CE) : ∃ f fd, Meth K (C .less) "wants" f ∧ FnOk P w K mg base CX0 1 f fd ["self"] (spWants .less) ∧ Binds K fd ["self"] [] := by
  refine T.f_wa_less.fn sc_Less_wants (fun _ _ _ _ _ _ us hl => match us, hl with | [_], _ => rfl) (by rintro vs H Q E ⟨a, rfl, _⟩; rfl) (fun f cdv A outer s H vs Q E hr h => ?_)
  obtain ⟨a, rfl, q⟩ := h
  refine ⟨_, (pss_one (ps_ret pe_int)), ?_⟩
  walk_at "rd"
  exact q
theorem wa_times (T : Txt K mg C CE) : ∃ f fd, Meth K (C .times) "wants" f ∧ FnOk P w K mg base CX0 1 f fd ["self"] (spWants .times) ∧ Binds K fd ["self"] [] := by
  refine T.f_wa_times.fn sc_Times_wants (fun _ _ _ _ _ _ us hl => match us, hl with | [_], _ => rfl) (by rintro vs H Q E ⟨a, rfl, _⟩; rfl) (fun f cdv A outer s H vs Q E hr h => ?_)
  obtain ⟨a, rfl, q⟩ := h
  refine ⟨_, (pss_one (ps_ret pe_int)), ?_⟩
  walk_at "rd"
  exact q
theorem wa_least (T : Txt K mg C CE) : ∃ f fd, Meth K (C .least) "wants" f ∧ FnOk P w K mg base CX0 1 f fd ["self"] (spWants .least) ∧ Binds K fd ["self"] [] := by
  refine T.f_wa_least.fn sc_Least_wants (fun _ _ _ _ _ _ us hl => match us, hl with | [_], _ => rfl) (by rintro vs H Q E ⟨a, rfl, _⟩; rfl) (fun f cdv A outer s H vs Q E hr h => ?_)
  obtain ⟨a, rfl, q⟩ := h
  refine ⟨_, (pss_one (ps_ret pe_int)), ?_⟩
  walk_at "rd"
  exact q
theorem wa_most (T : Txt K mg C CE) : ∃ f fd, Meth K (C .most) "wants" f ∧ FnOk P w K mg base CX0 1 f fd ["self"] (spWants .most) ∧ Binds K fd ["self"] [] := by
  refine T.f_wa_most.fn sc_Most_wants (fun _ _ _ _ _ _ us hl => match us, hl with | [_], _ => rfl) (by rintro vs H Q E ⟨a, rfl, _⟩; rfl) (fun f cdv A outer s H vs Q E hr h => ?_)
  obtain ⟨a, rfl, q⟩ := h
  refine ⟨_, (pss_one (ps_ret pe_int)), ?_⟩
  walk_at "rd"
  exact q
theorem wa_pick (T : Txt K mg C CE) : ∃ f fd, Meth K (C .pick) "wants" f ∧ FnOk P w K mg base CX0 1 f fd ["self"] (spWants .pick) ∧ Binds K fd ["self"] [] := by
  refine T.f_wa_pick.fn sc_Pick_wants (fun _ _ _ _ _ _ us hl => match us, hl with | [_], _ => rfl) (by rintro vs H Q E ⟨a, rfl, _⟩; rfl) (fun f cdv A outer s H vs Q E hr h => ?_)
  obtain ⟨a, rfl, q⟩ := h
  refine ⟨_, (pss_one (ps_ret pe_int)), ?_⟩
  walk_at "rd"
  exact q
theorem wa_same (T : Txt K mg C CE) : ∃ f fd, Meth K (C .same) "wants" f ∧ FnOk P w K mg base CX0 1 f fd ["self"] (spWants .same) ∧ Binds K fd ["self"] [] := by
  refine T.f_wa_same.fn sc_Deed_wants (fun _ _ _ _ _ _ us hl => match us, hl with | [_], _ => rfl) (by rintro vs H Q E ⟨a, rfl, _⟩; rfl) (fun f cdv A outer s H vs Q E hr h => ?_)
  obtain ⟨a, rfl, q⟩ := h
  refine ⟨_, (pss_one (ps_ret pe_int)), ?_⟩
  walk_at "rd"
  exact q
theorem wa_tell (T : Txt K mg C CE) : ∃ f fd, Meth K (C .tell) "wants" f ∧ FnOk P w K mg base CX0 1 f fd ["self"] (spWants .tell) ∧ Binds K fd ["self"] [] := by
  refine T.f_wa_tell.fn sc_Deed_wants (fun _ _ _ _ _ _ us hl => match us, hl with | [_], _ => rfl) (by rintro vs H Q E ⟨a, rfl, _⟩; rfl) (fun f cdv A outer s H vs Q E hr h => ?_)
  obtain ⟨a, rfl, q⟩ := h
  refine ⟨_, (pss_one (ps_ret pe_int)), ?_⟩
  walk_at "rd"
  exact q
theorem wa_take (T : Txt K mg C CE) : ∃ f fd, Meth K (C .take) "wants" f ∧ FnOk P w K mg base CX0 1 f fd ["self"] (spWants .take) ∧ Binds K fd ["self"] [] := by
  refine T.f_wa_take.fn sc_Take_wants (fun _ _ _ _ _ _ us hl => match us, hl with | [_], _ => rfl) (by rintro vs H Q E ⟨a, rfl, _⟩; rfl) (fun f cdv A outer s H vs Q E hr h => ?_)
  obtain ⟨a, rfl, q⟩ := h
  refine ⟨_, (pss_one (ps_ret pe_int)), ?_⟩
  walk_at "rd"
  exact q
theorem m_wants (T : Txt K mg C CE) : MethI P w K mg base 1 "wants" ["self"] C spWants := by
  refine ⟨fun d => ⟨T.cl d, ?_⟩⟩
  cases d
  · exact wa_sum T
  · exact wa_less T
  · exact wa_times T
  · exact wa_least T
  · exact wa_most T
  · exact wa_pick T
  · exact wa_same T
  · exact wa_tell T
  · exact wa_take T
theorem d_deed (T : Txt K mg C CE) (Kb : K.In base) (G : base.Ns mainGlobals mg) : Df P w K mg base 1 "deed_of" ["word"] (spDeedA C) := by
  refine T.f_deed.df Kb G sc_deed_of (fun _ _ _ _ _ _ us hl => match us, hl with | [_], _ => rfl) (by rintro vs H Q E ⟨d, rfl, _⟩; rfl) (fun f cdv A outer s H vs Q E hr h => ?_)
  refine ⟨_, (pss_cons (ps_if (pt_cmpR op_eq (pv 0) pe_str (nomark _)) (pss_one (ps_ret (pe_makeA T.mk_Sum rfl T.mg_Sum))) pss_nil)
    (pss_cons (ps_if (pt_cmpR op_eq (pv 0) pe_str (nomark _)) (pss_one (ps_ret (pe_makeA T.mk_Less rfl T.mg_Less))) pss_nil)
    (pss_cons (ps_if (pt_cmpR op_eq (pv 0) pe_str (nomark _)) (pss_one (ps_ret (pe_makeA T.mk_Times rfl T.mg_Times))) pss_nil)
    (pss_cons (ps_if (pt_cmpR op_eq (pv 0) pe_str (nomark _)) (pss_one (ps_ret (pe_makeA T.mk_Least rfl T.mg_Least))) pss_nil)
    (pss_cons (ps_if (pt_cmpR op_eq (pv 0) pe_str (nomark _)) (pss_one (ps_ret (pe_makeA T.mk_Most rfl T.mg_Most))) pss_nil)
    (pss_cons (ps_if (pt_cmpR op_eq (pv 0) pe_str (nomark _)) (pss_one (ps_ret (pe_makeA T.mk_Pick rfl T.mg_Pick))) pss_nil)
    (pss_cons (ps_if (pt_cmpR op_eq (pv 0) pe_str (nomark _)) (pss_one (ps_ret (pe_makeA T.mk_Same rfl T.mg_Same))) pss_nil)
    (pss_cons (ps_if (pt_cmpR op_eq (pv 0) pe_str (nomark _)) (pss_one (ps_ret (pe_makeA T.mk_Tell rfl T.mg_Tell))) pss_nil)
    (pss_cons (ps_if (pt_cmpR op_eq (pv 0) pe_str (nomark _)) (pss_one (ps_ret (pe_makeA T.mk_Take rfl T.mg_Take))) pss_nil)
    (pss_one ps_never)))))))))), ?_⟩
  obtain ⟨d, rfl, k⟩ := h
  cases d
  all_goals
    repeat (first
      | (walk_at "rd1")
      | ((with_reducible refine i_iteSe ?_ ?_); (rfl))
      | ((with_reducible refine i_iteSf ?_ ?_); (decide +kernel)))
    exact k
theorem d_cell (T : Txt K mg C CE) (Kb : K.In base) (G : base.Ns mainGlobals mg) : Df P w K mg base 1 "_law_cell_at" ["_law_script", "_law_k"] (spCell K) := by
  refine T.f_cell.df Kb G sc_law_cell_at (fun _ _ _ _ _ _ us hl => match us, hl with | [_, _], _ => rfl) (by rintro vs H Q E ⟨a, ns, k, rfl, _⟩; rfl) (fun f cdv A outer s H vs Q E hr h => ?_)
  obtain ⟨a, ns, k, rfl, hS, q⟩ := h
  refine ⟨_, (pss_cons (ps_if (pt_cmpR op_lt (pv 1) (pe_callB call_len_seq rfl T.nlen PySem.boot_len (pa_cons (pv 0) pa_nil (se rfl)) (he := se rfl) (hpl := nst rfl)) (nomark _)) (pss_one (ps_ret (pe_ix ix_seq (pv 0) (pv 1) (fun _ _ => rfl)))) pss_nil)
    (pss_one (ps_ret pe_int))), ?_⟩
  walk_at "rd"
  refine ⟨a, _, rfl, .inl hS, ?_⟩
  walk_at "rd"
  refine i_iteD (fun hk => ?_) (fun hk => ?_)
  · walk_at "rd"
    rw [List.length_map] at hk
    refine i_ixL hS (at_ints k (by omega)) ?_
    exact q _
  · walk_at "rd"
    exact q _
theorem mod_b (x : Int) {m : Int} (h : 0 < m) : 0 ≤ x % m ∧ x % m < m := ⟨Int.emod_nonneg x (by omega), Int.emod_lt_of_pos x h⟩
theorem ok_of {a b : Int} (m n : Nat) (a0 : 0 ≤ a) (a1 : a < 2 ^ m) (b0 : 0 ≤ b) (b1 : b < 2 ^ n) (h : m + n ≤ 134217728) : IntMulOk a b := by
  refine mulOk_abs m n ?_ ?_ h
  · have : ((a.natAbs : Nat) : Int) < ((2 ^ m : Nat) : Int) := by
      rw [Int.natCast_pow]; show _ < (2 : Int) ^ m; omega
    exact Int.ofNat_lt.mp this
  · have : ((b.natAbs : Nat) : Int) < ((2 ^ n : Nat) : Int) := by
      rw [Int.natCast_pow]; show _ < (2 : Int) ^ n; omega
    exact Int.ofNat_lt.mp this
theorem d_mix (T : Txt K mg C CE) (Kb : K.In base) (G : base.Ns mainGlobals mg) : Df P w K mg base 1 "_law_mix" ["_law_cell", "_law_k"] spMix := by
  refine T.f_mix.df Kb G sc_law_mix (fun _ _ _ _ _ _ us hl => match us, hl with | [_, _], _ => rfl) (by rintro vs H Q E ⟨c, k, rfl, _⟩; rfl) (fun f cdv A outer s H vs Q E hr h => ?_)
  obtain ⟨c, k, rfl, hk, q⟩ := h
  refine ⟨_, (pss_cons (ps_set (i := 2) sc_law_mix.nd rfl (by first | exact Or.inl rfl | exact Or.inr rfl) (pe_op op_mod (pv 0) (pe_op op_pow pe_int pe_int)))
    (pss_cons (ps_set (i := 2) sc_law_mix.nd rfl (by first | exact Or.inl rfl | exact Or.inr rfl) (pe_op op_mod (pe_op op_mulO (pe_op op_add (pe_op op_add (pe_op op_mulO (pv 2) (pv 2)) (pe_op op_mulO (pe_op op_mulO pe_int (pv 1)) (pv 1))) pe_int) pe_int) (pe_op op_add (pe_op op_pow pe_int pe_int) pe_int)))
    (pss_one (ps_ret (pe_op op_mod (pe_op op_mulO (pv 2) pe_int) (pe_op op_add (pe_op op_pow pe_int pe_int) pe_int)))))), ?_⟩
  walk_at "rd"
  have b := mod_b c (show (0 : Int) < 10 ^ (60 : Int).toNat by decide +kernel)
  have e60 : (10 : Int) ^ (60 : Int).toNat < 2 ^ 200 := by decide +kernel
  generalize c % 10 ^ (60 : Int).toNat = n at *
  obtain ⟨b0, b1⟩ := b
  refine i_mul (ok_of 200 200 b0 (by omega) b0 (by omega) (by decide)) ?_
  walk_at "rd"
  refine i_mul (IntMulOk.of_left (by decide)) ?_
  walk_at "rd"
  have hk2 : (40503 : Int) * (k : Int) < 2 ^ 64 := by omega
  refine i_mul (ok_of 64 64 (by omega) hk2 (by omega) (by omega) (by decide)) ?_
  clear hk2 e60 b1 b0
  walk_at "rd"
  refine i_mul (IntMulOk.of_right (by decide)) ?_
  walk_at "rd"
  have b2 := mod_b ((n * n + 40503 * (k : Int) * (k : Int) + 7919) * 1812433253982451697) (show (0 : Int) < 10 ^ (18 : Int).toNat + 9 by decide +kernel)
  have e18 : (10 : Int) ^ (18 : Int).toNat + 9 < 2 ^ 64 := by decide +kernel
  generalize (n * n + 40503 * (k : Int) * (k : Int) + 7919) * 1812433253982451697 % (10 ^ (18 : Int).toNat + 9) = m2 at *
  refine i_mul (ok_of 64 200 b2.1 (by omega) (by decide) (by decide) (by decide)) ?_
  clear e18 b2
  walk_at "rd"
  have b3 := mod_b (m2 * 739108512309184756019283746561) (show (0 : Int) < 10 ^ (40 : Int).toNat + 121 by decide +kernel)
  generalize m2 * 739108512309184756019283746561 % (10 ^ (40 : Int).toNat + 121) = m3 at *
  obtain ⟨r, rfl⟩ := Int.eq_ofNat_of_zero_le b3.1
  exact q r
theorem at_all {α : Type} {l : List α} {i : Int} {p : α → Prop} (hp : ∀ c ∈ l, p c) (h0 : 0 ≤ i) (h1 : i < l.length) : ∃ c, p c ∧ atI l i = some c := by
  obtain ⟨k, rfl⟩ := Int.eq_ofNat_of_zero_le h0
  have hk : k < l.length := by omega
  exact ⟨l[k], hp _ (List.getElem_mem hk), atI_nat (List.getElem?_eq_getElem hk)⟩
theorem app_list (x y : Str) : (x ++ y).cps.toList = x.cps.toList ++ y.cps.toList := by
  show (x.cps ++ y.cps).toList = _
  simp
theorem len_list (x : Str) : x.cps.toList.length = x.length := Array.length_toList
theorem cut_take (w : Str) (p : Nat) (h : p ≤ w.length) : (cutS w none (some (p : Int))).cps.toList = w.cps.toList.take p := by
  show ((w.cps.toList.drop (HT.sIx w.length 0 none)).take (HT.sIx w.length w.length (some (p : Int)) - HT.sIx w.length 0 none)).toArray.toList = _
  have e1 : HT.sIx w.length 0 none = 0 := rfl
  have e2 : HT.sIx w.length w.length (some (p : Int)) = p := by
    show (if (p : Int) < 0 then ((p : Int) + (w.length : Int)).toNat else min (p : Int).toNat w.length) = p
    rw [if_neg (by omega)]; omega
  rw [e1, e2]; simp
theorem cut_drop (w : Str) (p : Nat) (h : p ≤ w.length) : (cutS w (some (p : Int)) none).cps.toList = w.cps.toList.drop p := by
  show ((w.cps.toList.drop (HT.sIx w.length 0 (some (p : Int)))).take (HT.sIx w.length w.length none - HT.sIx w.length 0 (some (p : Int)))).toArray.toList = _
  have e1 : HT.sIx w.length w.length none = w.length := rfl
  have e2 : HT.sIx w.length 0 (some (p : Int)) = p := by
    show (if (p : Int) < 0 then ((p : Int) + (w.length : Int)).toNat else min (p : Int).toNat w.length) = p
    rw [if_neg (by omega)]; omega
  rw [e1, e2]
  have : (w.cps.toList.drop p).length ≤ w.length - p := by rw [List.length_drop, len_list]; omega
  simp only [List.toList_toArray]
  exact List.take_of_length_le this
def Lo (z : Str) : Prop := ∀ c ∈ z.cps.toList, 97 ≤ c ∧ c ≤ 122
theorem line_big : 10000 ≤ sizeLine := by rw [sizeLine_eq]; decide
def spLetters : Sp := fun vs H Q _ => ∃ (n many : Nat), vs = [.int (n : Int), .int (many : Int)] ∧ many ≤ 12 ∧ ∀ z : Str, z.length = many → Lo z → Q (.str z) H
theorem d_letters (T : Txt K mg C CE) (Kb : K.In base) (G : base.Ns mainGlobals mg) : Df P w K mg base 1 "_law_letters" ["_law_number", "_law_many"] spLetters := by
  refine T.f_letters.df Kb G sc_law_letters (fun _ _ _ _ _ _ us hl => match us, hl with | [_, _], _ => rfl) (by rintro vs H Q E ⟨n, many, rfl, _⟩; rfl) (fun f cdv A outer s H vs Q E hr h => ?_)
  obtain ⟨n, many, rfl, hm, q⟩ := h
  refine ⟨_, (pss_cons (ps_set (i := 2) sc_law_letters.nd rfl (by first | exact Or.inl rfl | exact Or.inr rfl) pe_str)
    (pss_cons (ps_for PassesOwn.never rfl (pi_range1 rfl T.nrange (pa_cons (pv 1) pa_nil (se rfl))) (pg_name (i := 3) sc_law_letters.nd rfl (by first | exact Or.inl rfl | exact Or.inr rfl))
      (pss_cons (ps_set (i := 2) sc_law_letters.nd rfl (by first | exact Or.inl rfl | exact Or.inr rfl) (pe_op op_addS (pv 2) (pe_ix ix_seq pe_str (pe_op op_mod (pv 0) pe_int) (fun _ _ => rfl))))
    (pss_one (ps_set (i := 0) sc_law_letters.nd rfl (by first | exact Or.inl rfl | exact Or.inr rfl) (pe_op op_fdiv (pv 0) pe_int)))))
    (pss_one (ps_ret (pv 2))))), ?_⟩
  walk_at "rd"
  refine i_for (i_rng1 ?_)
  walk_at "rd"
  refine ⟨_, rfl, by omega, by omega, ?_⟩
  rw [Int.toNat_natCast]
  have lb := line_big
  refine for_range (lo := 0) (n := many) (fun i σ H2 => ∃ (m : Nat) (z : Str) (x : Option V), σ = [some (.int (m : Int)), some (.int (many : Int)), some (.str z), x] ∧ z.length = i ∧ Lo z ∧ H2 = H) ⟨n, _, none, rfl, by decide +kernel, (by unfold Lo; decide +kernel), rfl⟩ ?_ ?_
  · rintro i σ H2 hi ⟨m, z, x, rfl, hz, hL, rfl⟩
    walk_at "rd"
    have b := mod_b (m : Int) (show (0 : Int) < 26 by decide)
    obtain ⟨ch, hch, hat⟩ := at_all (l := (Str.ofString "abcdefghijklmnopqrstuvwxyz").cps.toList) (p := fun c => 97 ≤ c ∧ c ≤ 122) (by decide +kernel) b.1 (by
      have : (Str.ofString "abcdefghijklmnopqrstuvwxyz").cps.toList.length = 26 := by decide +kernel
      rw [this]; exact b.2)
    refine i_ixS (by decide +kernel) hat ?_
    refine i_addS (by show z.length + 1 ≤ sizeLine; omega) ?_
    walk_at "rd"
    refine ⟨m / 26, _, _, rfl, by rw [strLen_append, hz]; rfl, fun c hc => ?_, rfl⟩
    rw [app_list] at hc
    rcases List.mem_append.mp hc with h | h
    · exact hL c h
    · have : c = ch := by simpa using h
      rw [this]; exact hch
  · rintro σ H2 ⟨m, z, x, rfl, hz, hL, rfl⟩
    walk_at "rd"
    exact q z hz hL
def NmAt (place number i : Nat) (z : Str) : Prop := 1 ≤ z.length ∧ z.length ≤ 12 ∧ Lo z ∧ z.cps.toList[place]? = some (97 + (i + number) % 12)
def NamesOk (zs : List Str) : Prop := zs.length ≤ 12 ∧ ∃ place number : Nat, ∀ i z, zs[i]? = some z → NmAt place number i z
theorem twelve : ∀ j, j < 12 → (Str.ofString "abcdefghijkl").cps.toList[j]? = some (97 + j) := by decide +kernel
theorem nm_of {w : Str} {place number i : Nat} (hp : place < w.length) (hl : w.length ≤ 12) (hL : Lo w) : NmAt place number i ((cutS w none (some (place : Int)) ++ ⟨#[97 + (i + number) % 12]⟩) ++ cutS w (some ((place : Int) + 1)) none) := by
  have e1 := cut_take w place (Nat.le_of_lt hp)
  have e2 : (cutS w (some ((place : Int) + 1)) none).cps.toList = w.cps.toList.drop (place + 1) := cut_drop w (place + 1) hp
  have e : ((cutS w none (some (place : Int)) ++ ⟨#[97 + (i + number) % 12]⟩) ++ cutS w (some ((place : Int) + 1)) none).cps.toList = w.cps.toList.take place ++ [97 + (i + number) % 12] ++ w.cps.toList.drop (place + 1) := by
    rw [app_list, app_list, e1, e2]
  have el : ((cutS w none (some (place : Int)) ++ ⟨#[97 + (i + number) % 12]⟩) ++ cutS w (some ((place : Int) + 1)) none).length = w.length := by
    rw [← len_list, e, List.length_append, List.length_append, List.length_take, List.length_drop, len_list]
    simp only [List.length_cons, List.length_nil]; omega
  refine ⟨by omega, by omega, fun c hc => ?_, ?_⟩
  · rw [e] at hc
    rcases List.mem_append.mp hc with h | h
    · rcases List.mem_append.mp h with h | h
      · exact hL c (List.mem_of_mem_take h)
      · have : c = 97 + (i + number) % 12 := by simpa using h
        omega
    · exact hL c (List.mem_of_mem_drop h)
  · rw [e, List.append_assoc, List.getElem?_append_right (by rw [List.length_take, len_list]; omega)]
    have : place - (w.cps.toList.take place).length = 0 := by rw [List.length_take, len_list]; omega
    rw [this]; rfl
def spNames (K : PySem.W.Frag) : Sp := fun vs H Q _ => ∃ (a : Addr) (ns : List Int) (many : Nat), vs = [.ref a, .int (many : Int)] ∧ SqL K H a (ns.map V.int) ∧ many ≤ 12 ∧
  ∀ p H2 zs, Same H H2 → H2 p = some (.lst (List.map V.str zs)) → NamesOk zs → zs.length = many → Q (.ref p) H2
theorem d_names (T : Txt K mg C CE) (Kb : K.In base) (G : base.Ns mainGlobals mg) : Df P w K mg base 2 "_law_names" ["_law_script", "_law_many"] (spNames K) := by
  have D_law_cell_at : Df P w K mg base 1 "_law_cell_at" ["_law_script", "_law_k"] (spCell K) := d_cell T Kb G
  have D_law_mix : Df P w K mg base 1 "_law_mix" ["_law_cell", "_law_k"] spMix := d_mix T Kb G
  have D_law_letters : Df P w K mg base 1 "_law_letters" ["_law_number", "_law_many"] spLetters := d_letters T Kb G
  refine T.f_names.df Kb G sc_law_names (fun _ _ _ _ _ _ us hl => match us, hl with | [_, _], _ => rfl) (by rintro vs H Q E ⟨a, ns, many, rfl, _⟩; rfl) (fun f cdv A outer s H vs Q E hr h => ?_)
  obtain ⟨a, ns, many, rfl, hS, hm, q⟩ := h
  refine ⟨_, (pss_cons (ps_set (i := 2) sc_law_names.nd rfl (by first | exact Or.inl rfl | exact Or.inr rfl) (pe_callD D_law_mix (hr.mono (by decide)) rfl (pa_cons (pe_callD D_law_cell_at (hr.mono (by decide)) rfl (pa_cons (pv 0) (pa_cons pe_int pa_nil (se rfl)) (se rfl)) (he := se rfl) (hpl := nst rfl)) (pa_cons pe_int pa_nil (se rfl)) (se rfl)) (he := se rfl) (hpl := nst rfl)))
    (pss_cons (ps_set (i := 3) sc_law_names.nd rfl (by first | exact Or.inl rfl | exact Or.inr rfl) (pe_op op_mod (pv 2) pe_int))
    (pss_cons (ps_set (i := 4) sc_law_names.nd rfl (by first | exact Or.inl rfl | exact Or.inr rfl) (pe_lstA pa_nil))
    (pss_cons (ps_for PassesOwn.never rfl (pi_range1 rfl T.nrange (pa_cons (pv 1) pa_nil (se rfl))) (pg_name (i := 5) sc_law_names.nd rfl (by first | exact Or.inl rfl | exact Or.inr rfl))
      (pss_cons (ps_set (i := 6) sc_law_names.nd rfl (by first | exact Or.inl rfl | exact Or.inr rfl) (pe_op op_fdiv (pv 2) pe_int))
    (pss_cons (ps_join (ps_if (pt_cmpR op_gt (pe_op op_mod (pv 2) pe_int) pe_int (nomark _)) (pss_one (ps_set (i := 6) sc_law_names.nd rfl (by first | exact Or.inl rfl | exact Or.inr rfl) (pe_callD D_law_mix (hr.mono (by decide)) rfl (pa_cons (pe_callD D_law_cell_at (hr.mono (by decide)) rfl (pa_cons (pv 0) (pa_cons pe_int pa_nil (se rfl)) (se rfl)) (he := se rfl) (hpl := nst rfl)) (pa_cons (pe_op op_add pe_int (pv 5)) pa_nil (se rfl)) (se rfl)) (he := se rfl) (hpl := nst rfl)))) pss_nil))
    (pss_cons (ps_set (i := 7) sc_law_names.nd rfl (by first | exact Or.inl rfl | exact Or.inr rfl) (pe_callD D_law_letters (hr.mono (by decide)) rfl (pa_cons (pv 6) (pa_cons (pe_op op_add (pe_op op_add (pv 3) pe_int) (pe_op op_mod (pe_op op_fdiv (pv 2) pe_int) (pe_op op_sub pe_int (pv 3)))) pa_nil (se rfl)) (se rfl)) (he := se rfl) (hpl := nst rfl)))
    (pss_cons (ps_set (i := 8) sc_law_names.nd rfl (by first | exact Or.inl rfl | exact Or.inr rfl) (pe_ix ix_seq pe_str (pe_op op_mod (pe_op op_add (pv 5) (pv 2)) pe_int) (fun _ _ => rfl)))
    (pss_one (ps_expr (pe_bm PySem.F.plainAttrs_list PySem.F.slot_list_append PySem.F.type_list_append mt_append (pv 4) (pa_cons (pe_op op_addS (pe_op op_addS (pe_slice sl_str (pv 7) po_none (po_some (pv 3))) (pv 8)) (pe_slice sl_str (pv 7) (po_some (pe_op op_add (pv 3) pe_int)) po_none)) pa_nil (se rfl)) (hs := se rfl) (hplain := nst rfl)))))))))
    (pss_one (ps_ret (pv 4))))))), ?_⟩
  walk_at "rd"
  refine ⟨a, ns, 1, rfl, hS, fun c => ?_⟩
  walk_at "rd"
  refine ⟨c, 1, rfl, by decide, fun n => ?_⟩
  walk_at "rd"
  have bp := mod_b (n : Int) (show (0 : Int) < 8 by decide)
  obtain ⟨place, hpl⟩ := Int.eq_ofNat_of_zero_le bp.1
  rw [hpl] at bp
  rw [hpl]
  have hp8 : place < 8 := by omega
  clear bp hpl
  refine ⟨by show 0 ≤ sizeLine; exact Nat.zero_le _, fun D H1 hN1 => ?_⟩
  walk_at "rd"
  refine i_for (i_rng1 ?_)
  walk_at "rd"
  refine ⟨_, rfl, by omega, by omega, ?_⟩
  rw [Int.toNat_natCast]
  have lb := line_big
  refine for_range (lo := 0) (n := many) (fun i σ H2 => ∃ (zs : List Str) (x5 x6 x7 x8 : Option V), σ = [some (.ref a), some (.int (many : Int)), some (.int (n : Int)), some (.int (place : Int)), some (.ref D), x5, x6, x7, x8] ∧ zs.length = i ∧ H2 D = some (.lst (List.map V.str zs)) ∧ Same H H2 ∧ ∀ j z, zs[j]? = some z → NmAt place n j z)
    ⟨[], none, none, none, none, rfl, rfl, hN1.at, hN1.same, fun j z e => by simp at e⟩ ?_ ?_
  · rintro i σ H2 hi ⟨zs, x5, x6, x7, x8, rfl, hl, hD, s2, hz⟩
    have e0 : (0 : Int) + (i : Int) = (i : Int) := Int.zero_add _
    rw [e0]
    walk_at "rd"
    refine i_join (fun σ' H' => H' = H2 ∧ ∃ own : Nat, σ' = [some (.ref a), some (.int (many : Int)), some (.int (n : Int)), some (.int (place : Int)), some (.ref D), some (.int (i : Int)), some (.int (own : Int)), x7, x8]) ?_ ?_
    · walk_at "rd"
      refine i_iteD (fun _ => ?_) (fun _ => ?_)
      · walk_at "rd"
        refine ⟨a, ns, 1, rfl, s2.seq hS, fun c => ?_⟩
        walk_at "rd"
        refine ⟨c, 20 + i, rfl, by omega, fun m => ?_⟩
        walk_at "rd"
        exact ⟨rfl, m, rfl⟩
      · walk_at "rd"
        exact ⟨rfl, n / 4, rfl⟩
    rintro σ' H' ⟨rfl, own, rfl⟩
    walk_at "rd"
    have bq := mod_b ((n : Int) / 12) (show (0 : Int) < 12 - (place : Int) by omega)
    obtain ⟨ex, hex⟩ := Int.eq_ofNat_of_zero_le bq.1
    rw [hex] at bq
    rw [hex]
    refine ⟨own, place + 1 + ex, rfl, by omega, fun wd hwl hwL => ?_⟩
    walk_at "rd"
    have b12 : ((i : Int) + (n : Int)) % 12 = (((i + n) % 12 : Nat) : Int) := by omega
    have hat : atI (Str.ofString "abcdefghijkl").cps.toList (((i : Int) + (n : Int)) % 12) = some (97 + (i + n) % 12) := by
      rw [b12]; exact atI_nat (twelve _ (Nat.mod_lt _ (by decide)))
    refine i_ixS (by decide +kernel) hat ?_
    walk_at "rd"
    refine ⟨.inl ⟨rfl, _, .inl (.inl hD)⟩, ?_⟩
    walk_at "rd"
    have hw12 : wd.length ≤ 12 := by omega
    refine i_slS (by omega) ?_
    have c1 := cutS_len wd none (some (place : Int))
    have c2 := cutS_len wd (some ((place : Int) + 1)) none
    walk_at "rd"
    refine i_addS (by show _ + 1 ≤ _; omega) ?_
    walk_at "rd"
    refine i_slS (by omega) ?_
    refine i_addS (by rw [strLen_append]; show _ + 1 + _ ≤ _; omega) ?_
    walk_at "rd"
    refine i_append hD (by rw [List.length_map]; omega) ?_
    walk_at "rd"
    have hnm : NmAt place n i _ := nm_of (w := wd) (place := place) (number := n) (i := i) (by omega) hw12 hwL
    refine ⟨zs ++ [_], _, _, _, _, rfl, by rw [List.length_append, hl]; rfl, by rw [upd_same, List.map_append]; rfl, fun b u e => ?_, fun j z e => ?_⟩
    · rw [upd_ne (ne_of_none e hN1.free)]; exact s2 _ _ e
    · by_cases hj : j < zs.length
      · rw [List.getElem?_append_left hj] at e
        exact hz j z e
      · rw [List.getElem?_append_right (by omega)] at e
        have hj0 : j = i := by
          by_cases h0 : j - zs.length = 0
          · omega
          · rw [List.getElem?_eq_none (by simp; omega)] at e; cases e
        rw [hj0, show i - zs.length = 0 by omega] at e
        cases e
        rw [hj0]; exact hnm
  · rintro σ H2 ⟨zs, x5, x6, x7, x8, rfl, hl, hD, s2, hz⟩
    walk_at "rd"
    exact q D H2 zs s2 hD ⟨by omega, place, n, hz⟩ hl
inductive Rd where
  | num (i : Int) | back (z : Str) (b : Int)
def RdAt (H : Hp) : Rd → V → Prop
  | .num i, v => v = .int i
  | .back z b, v => ∃ a, v = .ref a ∧ H a = some (.tup [.str z, .int b])
structure RdsAt (H : Hp) (rs : List Rd) (vs : List V) : Prop where
  len : rs.length = vs.length
  at_ : ∀ (i : Nat) r v, rs[i]? = some r → vs[i]? = some v → RdAt H r v
structure Row where
  name : Str
  d : Dk
  reads : List Rd
def RowAt (H : Hp) (r : Row) (v : V) : Prop := ∃ p1 p2 vs, v = .ref p2 ∧ H p2 = some (.tup [.str r.name, .str r.d.word, .ref p1]) ∧ H p1 = some (.tup vs) ∧ RdsAt H r.reads vs
theorem RdAt.same {H H' : Hp} {r : Rd} {v : V} (s : Same H H') (h : RdAt H r v) : RdAt H' r v := by
  cases r with
  | num i => exact h
  | back z b => obtain ⟨a, e, q⟩ := h; exact ⟨a, e, s _ _ q⟩
theorem RdsAt.same {H H' : Hp} {rs : List Rd} {vs : List V} (s : Same H H') (h : RdsAt H rs vs) : RdsAt H' rs vs := ⟨h.len, fun i r v e1 e2 => (h.at_ i r v e1 e2).same s⟩
theorem RowAt.same {H H' : Hp} {r : Row} {v : V} (s : Same H H') (h : RowAt H r v) : RowAt H' r v := by
  obtain ⟨p1, p2, vs, e, h1, h2, h3⟩ := h
  exact ⟨p1, p2, vs, e, s _ _ h1, s _ _ h2, h3.same s⟩
def hide (D : Addr) (H : Hp) : Hp := fun b => if b = D then none else H b
theorem hide_same (D : Addr) (H : Hp) : Same (hide D H) H := fun b u e => by
  unfold hide at e
  by_cases hb : b = D
  · rw [if_pos hb] at e; cases e
  · rw [if_neg hb] at e; exact e
theorem hide_sameB {D : Addr} {H H' : Hp} (s : SameB D H H') : Same (hide D H) (hide D H') := fun b u e => by
  unfold hide at e ⊢
  by_cases hb : b = D
  · rw [if_pos hb] at e; cases e
  · rw [if_neg hb] at e ⊢; exact s b u hb e
theorem at_hide {D : Addr} {H : Hp} {ys xs : List V} {a : Addr} (hD : H D = some (.lst ys)) (h : H a = some (.tup xs)) : hide D H a = some (.tup xs) := by
  unfold hide
  rw [if_neg (fun z => by rw [z, hD] at h; cases h)]; exact h
theorem RdAt.hide {D : Addr} {H : Hp} {ys : List V} (hD : H D = some (.lst ys)) {r : Rd} {v : V} (h : RdAt H r v) : RdAt (hide D H) r v := by
  cases r with
  | num i => exact h
  | back z b => obtain ⟨a, e, q⟩ := h; exact ⟨a, e, at_hide hD q⟩
theorem RdsAt.hide {D : Addr} {H : Hp} {ys : List V} (hD : H D = some (.lst ys)) {rs : List Rd} {vs : List V} (h : RdsAt H rs vs) : RdsAt (hide D H) rs vs := ⟨h.len, fun i r v e1 e2 => (h.at_ i r v e1 e2).hide hD⟩
theorem RowAt.hide {D : Addr} {H : Hp} {ys : List V} (hD : H D = some (.lst ys)) {r : Row} {v : V} (h : RowAt H r v) : RowAt (hide D H) r v := by
  obtain ⟨p1, p2, vs, e, h1, h2, h3⟩ := h
  exact ⟨p1, p2, vs, e, at_hide hD h1, at_hide hD h2, h3.hide hD⟩
def RdOk (zs : List Str) (k : Nat) : Rd → Prop
  | .num i => 0 ≤ i ∧ i < 10 ^ 60
  | .back z b => ∃ j : Nat, zs[j]? = some z ∧ 0 ≤ b ∧ b ≤ 6 ∧ (b = 0 → j < k)
structure RowOk (zs : List Str) (k : Nat) (r : Row) : Prop where
  name : zs[k]? = some r.name
  many : r.reads.length = r.d.wants
  reads : ∀ rd ∈ r.reads, RdOk zs k rd
def spLWants : Sp := fun vs H Q _ => ∃ d : Dk, vs = [.str d.word] ∧ ∀ H2, Same H H2 → Q (.int (d.wants : Nat)) H2
theorem d_lwants (T : Txt K mg C CE) (Kb : K.In base) (G : base.Ns mainGlobals mg) : Df P w K mg base 1 "_law_wants" ["_law_word"] spLWants := by
  refine T.f_wants.df Kb G sc_law_wants (fun _ _ _ _ _ _ us hl => match us, hl with | [_], _ => rfl) (by rintro vs H Q E ⟨d, rfl, _⟩; rfl) (fun f cdv A outer s H vs Q E hr h => ?_)
  refine ⟨_, (pss_cons (ps_if (pt_cmpR op_eq (pv 0) pe_str (nomark _)) (pss_one (ps_ret pe_int)) pss_nil)
    (pss_cons (ps_if (PW.pt (pw_or (pt_cmpR op_eq (pv 0) pe_str (nomark _)) (pw_or1 (pt_cmpR op_eq (pv 0) pe_str (nomark _))))) (pss_one (ps_ret pe_int)) pss_nil)
    (pss_one (ps_ret (pe_ix ix_seq (pe_lstA (pa_cons pe_int (pa_cons pe_int pa_nil (se rfl)) (se rfl))) (pe_callTy call_int1 rfl T.nint PyProof.Rows.boot_int (pa_cons (pe_cmpR op_eq (pv 0) pe_str (nomark _)) pa_nil (se rfl)) (he := se rfl) (hpl := nst rfl)) (fun _ _ => rfl)))))), ?_⟩
  obtain ⟨d, rfl, k⟩ := h
  have e2 : ∀ b : Bool, atI [V.int 2, V.int 3] (if b then 1 else 0) = some (.int (if b then 3 else 2)) := by decide +kernel
  cases d
  all_goals
    repeat (first
      | (walk_at "rd1")
      | ((with_reducible refine i_iteSe ?_ ?_); (rfl))
      | ((with_reducible refine i_iteSf ?_ ?_); (decide +kernel)))
  all_goals first
    | exact k _ (Same.refl _)
    | (refine ⟨by show 2 ≤ sizeLine; decide, fun p H2 hN => ?_⟩
       walk_at "rd"
       refine .inr ⟨_, rfl, ?_⟩
       refine i_ixL hN.lst (e2 _) ?_
       first
         | (rw [show decide (V.str Dk.pick.word = V.str (Str.ofString "pick")) = true by decide +kernel]; exact k _ hN.same)
         | (rw [decide_eq_false (by intro e; exact absurd (V.str.inj e) (by decide +kernel))]; exact k _ hN.same))
def dks : List Dk := [.sum, .less, .times, .least, .most, .pick, .same, .tell, .take]
def wordsV : List V := dks.map fun d => V.str d.word
theorem at_dk {c : Int} (h0 : 0 ≤ c) (h1 : c < 9) : ∃ d : Dk, atI wordsV c = some (.str d.word) := by
  obtain ⟨k, rfl⟩ := Int.eq_ofNat_of_zero_le h0
  have hk : k < 9 := by omega
  refine ⟨dks[k]'hk, atI_nat ?_⟩
  unfold wordsV
  rw [List.getElem?_map, List.getElem?_eq_getElem (show k < dks.length from hk)]; rfl
theorem at_str {zs : List Str} {j : Nat} (h : j < zs.length) : ∃ z, zs[j]? = some z ∧ atI (List.map V.str zs) (j : Int) = some (.str z) :=
  ⟨zs[j], List.getElem?_eq_getElem h, atI_nat (by rw [List.getElem?_map, List.getElem?_eq_getElem h]; rfl)⟩
theorem RdsAt.snoc {H : Hp} {rs : List Rd} {vs : List V} {r : Rd} {v : V} (h : RdsAt H rs vs) (hr : RdAt H r v) : RdsAt H (rs ++ [r]) (vs ++ [v]) := by
  refine ⟨by rw [List.length_append, List.length_append, h.len]; rfl, fun i r' v' e1 e2 => ?_⟩
  have hl := h.len
  by_cases hi : i < rs.length
  · rw [List.getElem?_append_left hi] at e1
    rw [List.getElem?_append_left (by omega)] at e2
    exact h.at_ i r' v' e1 e2
  · rw [List.getElem?_append_right (by omega)] at e1
    rw [List.getElem?_append_right (by omega)] at e2
    have h0 : i - rs.length = 0 := by
      by_cases h0 : i - rs.length = 0
      · exact h0
      · rw [List.getElem?_eq_none (by simp; omega)] at e1; cases e1
    rw [h0] at e1; rw [show i - vs.length = 0 by omega] at e2
    cases e1; cases e2; exact hr
theorem hide_upd (D : Addr) (H : Hp) (o : HO) : hide D (upd H D o) = hide D H := by
  funext b
  unfold hide
  by_cases hb : b = D
  · rw [if_pos hb, if_pos hb]
  · rw [if_neg hb, if_neg hb, upd_ne hb]
theorem RdsAt.app {D : Addr} {H : Hp} {ys : List V} (hD : H D = some (.lst ys)) {rs : List Rd} {vs : List V} {o : HO} (h : RdsAt H rs vs) : RdsAt (upd H D o) rs vs := by
  have h1 := h.hide hD
  rw [← hide_upd D H o] at h1
  exact h1.same (hide_same D _)
theorem mem_snoc {rs : List Rd} {r : Rd} {p : Rd → Prop} (h : ∀ x ∈ rs, p x) (hr : p r) : ∀ x ∈ rs ++ [r], p x := fun x hx => by
  rcases List.mem_append.mp hx with h1 | h1
  · exact h x h1
  · rw [show x = r by simpa using h1]; exact hr
def spRow (K : PySem.W.Frag) : Sp := fun vs H Q _ => ∃ (a np wp : Addr) (ns : List Int) (zs : List Str) (k : Nat), vs = [.ref a, .ref np, .int (k : Int), .ref wp] ∧ SqL K H a (ns.map V.int) ∧ H np = some (.lst (List.map V.str zs)) ∧ H wp = some (.lst wordsV) ∧ NamesOk zs ∧ k < zs.length ∧
  ∀ r v H2, Same H H2 → RowAt H2 r v → RowOk zs k r → Q v H2
theorem wants3 (d : Dk) : d.wants ≤ 3 := by cases d <;> decide
theorem d_row (T : Txt K mg C CE) (Kb : K.In base) (G : base.Ns mainGlobals mg) : Df P w K mg base 2 "_law_row" ["_law_script", "_law_names_here", "_law_at", "_law_words"] (spRow K) := by
  have D_law_cell_at : Df P w K mg base 1 "_law_cell_at" ["_law_script", "_law_k"] (spCell K) := d_cell T Kb G
  have D_law_mix : Df P w K mg base 1 "_law_mix" ["_law_cell", "_law_k"] spMix := d_mix T Kb G
  have D_law_wants : Df P w K mg base 1 "_law_wants" ["_law_word"] spLWants := d_lwants T Kb G
  refine T.f_row.df Kb G sc_law_row (fun _ _ _ _ _ _ us hl => match us, hl with | [_, _, _, _], _ => rfl) (by rintro vs H Q E ⟨a, np, wp, ns, zs, k, rfl, _⟩; rfl) (fun f cdv A outer s H vs Q E hr h => ?_)
  obtain ⟨a, np, wp, ns, zs, k, rfl, hS, hnp, hwp, hzs, hk, q⟩ := h
  have h12 := hzs.1
  refine ⟨_, (pss_cons (ps_set (i := 4) sc_law_row.nd rfl (by first | exact Or.inl rfl | exact Or.inr rfl) (pe_callD D_law_mix (hr.mono (by decide)) rfl (pa_cons (pe_callD D_law_cell_at (hr.mono (by decide)) rfl (pa_cons (pv 0) (pa_cons (pe_op op_add pe_int (pv 2)) pa_nil (se rfl)) (se rfl)) (he := se rfl) (hpl := nst rfl)) (pa_cons (pv 2) pa_nil (se rfl)) (se rfl)) (he := se rfl) (hpl := nst rfl)))
    (pss_cons (ps_set (i := 5) sc_law_row.nd rfl (by first | exact Or.inl rfl | exact Or.inr rfl) (pe_ix ix_seq (pv 3) (pe_op op_mod (pv 4) (pe_callB call_len_seq rfl T.nlen PySem.boot_len (pa_cons (pv 3) pa_nil (se rfl)) (he := se rfl) (hpl := nst rfl))) (fun _ _ => rfl)))
    (pss_cons (ps_set (i := 4) sc_law_row.nd rfl (by first | exact Or.inl rfl | exact Or.inr rfl) (pe_op op_fdiv (pv 4) (pe_callB call_len_seq rfl T.nlen PySem.boot_len (pa_cons (pv 3) pa_nil (se rfl)) (he := se rfl) (hpl := nst rfl))))
    (pss_cons (ps_set (i := 6) sc_law_row.nd rfl (by first | exact Or.inl rfl | exact Or.inr rfl) (pe_lstA pa_nil))
    (pss_cons (ps_for PassesOwn.never rfl (pi_range1 rfl T.nrange (pa_cons (pe_callD D_law_wants (hr.mono (by decide)) rfl (pa_cons (pv 5) pa_nil (se rfl)) (he := se rfl) (hpl := nst rfl)) pa_nil (se rfl))) (pg_name (i := 7) sc_law_row.nd rfl (by first | exact Or.inl rfl | exact Or.inr rfl))
      (pss_cons (ps_set (i := 8) sc_law_row.nd rfl (by first | exact Or.inl rfl | exact Or.inr rfl) (pe_op op_mod (pv 4) pe_int))
    (pss_cons (ps_set (i := 9) sc_law_row.nd rfl (by first | exact Or.inl rfl | exact Or.inr rfl) (pe_op op_mod (pe_op op_fdiv (pv 4) pe_int) (pe_callB call_len_seq rfl T.nlen PySem.boot_len (pa_cons (pv 1) pa_nil (se rfl)) (he := se rfl) (hpl := nst rfl))))
    (pss_cons (ps_join (ps_if (PW.pt (pw_and (pt_cmpR op_eq (pv 8) pe_int (nomark _)) (pw_and1 (pt_cmpR op_ge (pv 9) (pv 2) (nomark _))))) (pss_one (ps_set (i := 8) sc_law_row.nd rfl (by first | exact Or.inl rfl | exact Or.inr rfl) (pe_op op_add pe_int (pe_op op_mod (pe_op op_fdiv (pv 4) pe_int) pe_int)))) pss_nil))
    (pss_cons (ps_join (ps_if (pt_cmpR op_eq (pe_op op_mod (pe_op op_fdiv (pv 4) pe_int) pe_int) pe_int (nomark _)) (pss_one (ps_expr (pe_bm PySem.F.plainAttrs_list PySem.F.slot_list_append PySem.F.type_list_append mt_append (pv 6) (pa_cons (pe_op op_mod (pe_callD D_law_cell_at (hr.mono (by decide)) rfl (pa_cons (pv 0) (pa_cons (pe_op op_add (pe_op op_add pe_int (pe_op op_mulO pe_int (pv 2))) (pv 7)) pa_nil (se rfl)) (se rfl)) (he := se rfl) (hpl := nst rfl)) (pe_op op_pow pe_int pe_int)) pa_nil (se rfl)) (hs := se rfl) (hplain := nst rfl)))) (pss_one (ps_expr (pe_bm PySem.F.plainAttrs_list PySem.F.slot_list_append PySem.F.type_list_append mt_append (pv 6) (pa_cons (pe_tupA (pa_cons (pe_ix ix_seq (pv 1) (pv 9) (fun _ _ => rfl)) (pa_cons (pv 8) pa_nil (se rfl)) (se rfl))) pa_nil (se rfl)) (hs := se rfl) (hplain := nst rfl))))))
    (pss_one (ps_set (i := 4) sc_law_row.nd rfl (by first | exact Or.inl rfl | exact Or.inr rfl) (pe_op op_fdiv (pv 4) pe_int))))))))
    (pss_one (ps_ret (pe_tupA (pa_cons (pe_ix ix_seq (pv 1) (pv 2) (fun _ _ => rfl)) (pa_cons (pv 5) (pa_cons (pe_callTy call_tupleA rfl T.ntuple PyProof.Rows.boot_tuple (pa_cons (pv 6) pa_nil (se rfl)) (he := se rfl) (hpl := nst rfl)) pa_nil (se rfl)) (se rfl)) (se rfl)))))))))), ?_⟩
  walk_at "rd"
  refine ⟨a, ns, 4 + k, rfl, hS, fun c => ?_⟩
  walk_at "rd"
  refine ⟨c, k, rfl, by omega, fun n => ?_⟩
  walk_at "rd"
  refine ⟨_, _, rfl, .inl (sqL_inj_of hwp), ?_⟩
  have e9 : (wordsV.length : Int) = 9 := rfl
  rw [e9]
  walk_at "rd"
  have b9 := mod_b (n : Int) (show (0 : Int) < 9 by decide)
  obtain ⟨d, hat⟩ := at_dk b9.1 b9.2
  refine i_ixL (sqL_inj_of hwp) hat ?_
  walk_at "rd"
  refine ⟨_, _, rfl, .inl (sqL_inj_of hwp), ?_⟩
  rw [e9]
  walk_at "rd"
  refine ⟨by show 0 ≤ sizeLine; exact Nat.zero_le _, fun D H1 hN1 => ?_⟩
  walk_at "rd"
  refine i_for (i_rng1 ?_)
  walk_at "rd"
  refine ⟨d, rfl, fun H2 s2 => ?_⟩
  walk_at "rd"
  have w3 := wants3 d
  refine ⟨_, rfl, by omega, by omega, ?_⟩
  rw [Int.toNat_natCast]
  have lb := line_big
  have hzl : 0 < zs.length := by omega
  refine for_range (lo := 0) (n := d.wants) (fun i σ H' => ∃ (m : Nat) (rs : List Rd) (vs : List V) (x7 x8 x9 : Option V), σ = [some (.ref a), some (.ref np), some (.int (k : Int)), some (.ref wp), some (.int (m : Int)), some (.str d.word), some (.ref D), x7, x8, x9] ∧ rs.length = i ∧ H' D = some (.lst vs) ∧ Same H H' ∧ RdsAt H' rs vs ∧ ∀ rd ∈ rs, RdOk zs k rd)
    ⟨n / 9, [], [], none, none, none, rfl, rfl, s2 _ _ hN1.at, hN1.same.trans s2, ⟨rfl, fun i r v e => by simp at e⟩, fun rd h => by simp at h⟩ ?_ ?_
  · rintro i σ H' hi ⟨m, rs, vs, x7, x8, x9, rfl, hrl, hD, s3, hrs, hok⟩
    have hvl := hrs.len
    have e0 : (0 : Int) + (i : Int) = (i : Int) := Int.zero_add _
    rw [e0]
    walk_at "rd"
    refine ⟨_, _, rfl, .inl (sqL_inj_of (s3 _ _ hnp)), ?_⟩
    rw [List.length_map]
    walk_at "rd"
    have b7 := mod_b (m : Int) (show (0 : Int) < 7 by decide)
    generalize (m : Int) % 7 = bk at *
    have bs := mod_b ((m : Int) / 7) (show (0 : Int) < (zs.length : Int) by omega)
    obtain ⟨spot, hsp⟩ := Int.eq_ofNat_of_zero_le bs.1
    rw [hsp] at bs ⊢
    clear hsp
    refine i_join (fun σ' H'' => H'' = H' ∧ ∃ b : Int, σ' = [some (.ref a), some (.ref np), some (.int (k : Int)), some (.ref wp), some (.int (m : Int)), some (.str d.word), some (.ref D), some (.int (i : Int)), some (.int b), some (.int (spot : Int))] ∧ 0 ≤ b ∧ b ≤ 6 ∧ (b = 0 → spot < k)) ?_ ?_
    · walk_at "rd"
      refine i_iteI (fun h0 => ?_) (fun h0 => ?_)
      · walk_at "rd"
        refine i_iteD (fun h1 => ?_) (fun h1 => ?_)
        · walk_at "rd"
          have b6 := mod_b ((m : Int) / 100) (show (0 : Int) < 6 by decide)
          exact ⟨rfl, _, rfl, by omega, by omega, by omega⟩
        · walk_at "rd"
          exact ⟨rfl, _, rfl, by omega, by omega, by omega⟩
      · walk_at "rd"
        exact ⟨rfl, _, rfl, by omega, by omega, fun z => absurd z h0⟩
    rintro σ' H'' ⟨rfl, b, rfl, b0, b1, b2⟩
    walk_at "rd"
    refine i_join (fun σ' H2' => ∃ (rs' : List Rd) (vs' : List V), σ' = [some (.ref a), some (.ref np), some (.int (k : Int)), some (.ref wp), some (.int (m : Int)), some (.str d.word), some (.ref D), some (.int (i : Int)), some (.int b), some (.int (spot : Int))] ∧ rs'.length = i + 1 ∧ H2' D = some (.lst vs') ∧ Same H H2' ∧ RdsAt H2' rs' vs' ∧ ∀ rd ∈ rs', RdOk zs k rd) ?_ ?_
    · have hDn : H D = none := hN1.free
      walk_at "rd"
      refine i_iteI (fun h0 => ?_) (fun h0 => ?_)
      · walk_at "rd"
        refine ⟨.inl ⟨rfl, _, sqL_inj_of hD⟩, ?_⟩
        walk_at "rd"
        refine i_mul (IntMulOk.of_left (by decide)) ?_
        walk_at "rd"
        refine ⟨a, ns, 16 + 3 * k + i, rfl, s3.seq hS, fun c => ?_⟩
        walk_at "rd"
        refine i_append hD (by omega) ?_
        have b60 := mod_b c (show (0 : Int) < 10 ^ (60 : Int).toNat by decide +kernel)
        generalize c % 10 ^ (60 : Int).toNat = v at *
        refine ⟨rs ++ [.num v], vs ++ [.int v], rfl, by rw [List.length_append, hrl]; rfl, upd_same, fun b' u e => ?_, RdsAt.snoc (r := .num v) (v := .int v) (hrs.app hD) rfl, mem_snoc (r := .num v) hok ⟨b60.1, b60.2⟩⟩
        rw [upd_ne (ne_of_none e hDn)]; exact s3 _ _ e
      · walk_at "rd"
        refine ⟨.inl ⟨rfl, _, sqL_inj_of hD⟩, ?_⟩
        walk_at "rd"
        obtain ⟨z, hz, hza⟩ := at_str (zs := zs) (j := spot) (by omega)
        refine i_ixL (sqL_inj_of (s3 _ _ hnp)) hza ?_
        walk_at "rd"
        refine ⟨by show 2 ≤ sizeLine; decide, fun t H3 hN3 => ?_⟩
        walk_at "rd"
        have hD3 := hN3.same _ _ hD
        refine i_append hD3 (by omega) ?_
        have hrd : RdAt H3 (.back z b) (.ref t) := ⟨t, rfl, hN3.at⟩
        have hrd' : RdAt (upd H3 D (.lst (vs ++ [.ref t]))) (.back z b) (.ref t) := by
          have h1 := hrd.hide hD3
          rw [← hide_upd D H3 (.lst (vs ++ [.ref t]))] at h1
          exact h1.same (hide_same D _)
        refine ⟨rs ++ [.back z b], vs ++ [.ref t], rfl, by rw [List.length_append, hrl]; rfl, upd_same, fun b' u e => ?_, RdsAt.snoc ((hrs.same hN3.same).app hD3) hrd', mem_snoc (r := .back z b) hok ⟨spot, hz, b0, b1, b2⟩⟩
        rw [upd_ne (ne_of_none e hDn)]; exact hN3.same _ _ (s3 _ _ e)
    rintro σ' H2' ⟨rs', vs', rfl, h1, h2, h3, h4, h5⟩
    walk_at "rd"
    exact ⟨m / 10000, rs', vs', _, _, _, rfl, h1, h2, h3, h4, h5⟩
  · rintro σ H' ⟨m, rs, vs, x7, x8, x9, rfl, hrl, hD, s3, hrs, hok⟩
    walk_at "rd"
    obtain ⟨z, hz, hza⟩ := at_str hk
    refine i_ixL (sqL_inj_of (s3 _ _ hnp)) hza ?_
    walk_at "rd"
    refine i_tupleAL (sqL_inj_of hD) fun p1 H3 hN3 => ?_
    walk_at "rd"
    refine ⟨by show 3 ≤ sizeLine; decide, fun p2 H4 hN4 => ?_⟩
    exact q ⟨z, d, rs⟩ _ _ ((s3.trans hN3.same).trans hN4.same) ⟨p1, p2, vs, rfl, hN4.at, hN4.same _ _ hN3.at, (hrs.same hN3.same).same hN4.same⟩ ⟨hz, hrl, hok⟩
theorem pick_list {α β : Type} : ∀ (ys : List β) (P : Nat → α → β → Prop), (∀ (i : Nat) y, ys[i]? = some y → ∃ r, P i r y) → ∃ rs : List α, rs.length = ys.length ∧ ∀ (i : Nat) r y, rs[i]? = some r → ys[i]? = some y → P i r y
  | [], _, _ => ⟨[], rfl, fun i r y e => by simp at e⟩
  | y :: ys, P, h => by
    obtain ⟨r, hr⟩ := h 0 y rfl
    obtain ⟨rs, hl, hP⟩ := pick_list ys (fun i => P (i + 1)) (fun i y' e => h (i + 1) y' e)
    refine ⟨r :: rs, by simp [hl], fun i r' y' e1 e2 => ?_⟩
    cases i with
    | zero => cases e1; cases e2; exact hr
    | succ i => exact hP i r' y' e1 e2
structure RowsAt (H : Hp) (rs : List Row) (us : List V) : Prop where
  len : rs.length = us.length
  at_ : ∀ (i : Nat) r u, rs[i]? = some r → us[i]? = some u → RowAt H r u
theorem RowsAt.same {H H' : Hp} {rs : List Row} {us : List V} (s : Same H H') (h : RowsAt H rs us) : RowsAt H' rs us := ⟨h.len, fun i r u e1 e2 => (h.at_ i r u e1 e2).same s⟩
structure RowsOk (zs : List Str) (rs : List Row) : Prop where
  names : NamesOk zs
  len : rs.length = zs.length
  at_ : ∀ (i : Nat) r, rs[i]? = some r → RowOk zs i r
def spRows (K : PySem.W.Frag) : Sp := fun vs H Q _ => ∃ (a : Addr) (ns : List Int) (many : Nat), vs = [.ref a, .int (many : Int)] ∧ SqL K H a (ns.map V.int) ∧ many ≤ 12 ∧
  ∀ p H2 zs rs us, Same H H2 → H2 p = some (.lst us) → RowsAt H2 rs us → RowsOk zs rs → rs.length = many → Q (.ref p) H2
theorem d_rows (T : Txt K mg C CE) (Kb : K.In base) (G : base.Ns mainGlobals mg) : Df P w K mg base 3 "_law_rows" ["_law_script", "_law_many"] (spRows K) := by
  have D_law_names : Df P w K mg base 2 "_law_names" ["_law_script", "_law_many"] (spNames K) := d_names T Kb G
  have D_law_row : Df P w K mg base 2 "_law_row" ["_law_script", "_law_names_here", "_law_at", "_law_words"] (spRow K) := d_row T Kb G
  refine T.f_rows.df Kb G sc_law_rows (fun _ _ _ _ _ _ us hl => match us, hl with | [_, _], _ => rfl) (by rintro vs H Q E ⟨a, ns, many, rfl, _⟩; rfl) (fun f cdv A outer s H vs Q E hr h => ?_)
  obtain ⟨a, ns, many, rfl, hS, hm, q⟩ := h
  refine ⟨_, (pss_cons (ps_set (i := 2) sc_law_rows.nd rfl (by first | exact Or.inl rfl | exact Or.inr rfl) (pe_lstA (pa_cons pe_str (pa_cons pe_str (pa_cons pe_str (pa_cons pe_str (pa_cons pe_str (pa_cons pe_str (pa_cons pe_str (pa_cons pe_str (pa_cons pe_str pa_nil (se rfl)) (se rfl)) (se rfl)) (se rfl)) (se rfl)) (se rfl)) (se rfl)) (se rfl)) (se rfl))))
    (pss_cons (ps_set (i := 3) sc_law_rows.nd rfl (by first | exact Or.inl rfl | exact Or.inr rfl) (pe_callD D_law_names (hr.mono (by decide)) rfl (pa_cons (pv 0) (pa_cons (pv 1) pa_nil (se rfl)) (se rfl)) (he := se rfl) (hpl := nst rfl)))
    (pss_one (ps_ret (pe_lc (Blk.of (caps := ["_law_script", "_law_names_here", "_law_words"]) (ix := [0, 3, 2]) rfl) rfl (pi_range1 rfl T.nrange (pa_cons (pv 1) pa_nil (se rfl))) (fun _ _ _ _ => pf_nil) (fun _ _ _ _ => (pe_callD D_law_row (hr.mono (by decide)) rfl (pa_cons (pv 1) (pa_cons (pv 2) (pa_cons (pv 0) (pa_cons (pv 3) pa_nil (se rfl)) (se rfl)) (se rfl)) (se rfl)) (he := se rfl) (hpl := nst rfl)))))))), ?_⟩
  walk_at "rd"
  refine ⟨by show 9 ≤ sizeLine; decide, fun wp H1 hN1 => ?_⟩
  walk_at "rd"
  refine ⟨a, ns, many, rfl, hN1.same.seq hS, hm, fun np H2 zs s2 hnp hzs hzl => ?_⟩
  walk_at "rd"
  refine i_lc (i_rng1 ?_)
  walk_at "rd"
  refine ⟨_, rfl, by omega, by omega, ?_⟩
  rw [Int.toNat_natCast]
  have lb := line_big
  have t2 := hN1.same.trans s2
  refine lcN LcIt.rng (fun D i y H' => ∃ r, RowOk zs i r ∧ RowAt (hide D H') r y) (by omega) (fun D i y H' H'' s h => ?_) (fun D i H' R hi hD hy s r => ?_) (fun D ys H' hD s hHD hyl hP => ?_)
  · obtain ⟨r, h1, h2⟩ := h
    exact ⟨r, h1, h2.same (hide_sameB s)⟩
  · obtain ⟨ys, hy⟩ := hy
    walk_at "rd"
    refine ⟨a, np, wp, ns, zs, i, by rw [Int.zero_add]; rfl, (t2.trans s).seq hS, s _ _ hnp, s _ _ (s2 _ _ hN1.at), hzs, by omega, fun rw v H'' s'' hrow hok => ?_⟩
    exact r v H'' s'' ⟨rw, hok, hrow.hide (s'' _ _ hy)⟩
  · obtain ⟨rs, hrl, hrs⟩ := pick_list ys (fun i r y => RowOk zs i r ∧ RowAt (hide D H') r y) hP
    refine q D H' zs rs ys (t2.trans s) hHD ⟨hrl, fun i r u e1 e2 => (hrs i r u e1 e2).2.same (hide_same D H')⟩ ⟨hzs, by omega, fun i r e => ?_⟩ (by omega)
    have hi : i < ys.length := by rw [← hrl]; exact (List.getElem?_eq_some_iff.mp e).1
    exact (hrs i r ys[i] e (List.getElem?_eq_getElem hi)).1
def spMeasure (K : PySem.W.Frag) : Sp := fun vs H Q _ => ∃ (a : Addr) (ns : List Int), vs = [.ref a] ∧ SqL K H a (ns.map V.int) ∧ ∀ m : Int, 2 ≤ m → m ≤ 10 ^ (60 : Int).toNat → Q (.int m) H
theorem d_measure (T : Txt K mg C CE) (Kb : K.In base) (G : base.Ns mainGlobals mg) : Df P w K mg base 2 "_law_measure" ["_law_script"] (spMeasure K) := by
  have D_law_cell_at : Df P w K mg base 1 "_law_cell_at" ["_law_script", "_law_k"] (spCell K) := d_cell T Kb G
  have D_law_mix : Df P w K mg base 1 "_law_mix" ["_law_cell", "_law_k"] spMix := d_mix T Kb G
  refine T.f_measure.df Kb G sc_law_measure (fun _ _ _ _ _ _ us hl => match us, hl with | [_], _ => rfl) (by rintro vs H Q E ⟨a, ns, rfl, _⟩; rfl) (fun f cdv A outer s H vs Q E hr h => ?_)
  obtain ⟨a, ns, rfl, hS, q⟩ := h
  refine ⟨_, (pss_cons (ps_set (i := 1) sc_law_measure.nd rfl (by first | exact Or.inl rfl | exact Or.inr rfl) (pe_callD D_law_mix (hr.mono (by decide)) rfl (pa_cons (pe_callD D_law_cell_at (hr.mono (by decide)) rfl (pa_cons (pv 0) (pa_cons pe_int pa_nil (se rfl)) (se rfl)) (he := se rfl) (hpl := nst rfl)) (pa_cons pe_int pa_nil (se rfl)) (se rfl)) (he := se rfl) (hpl := nst rfl)))
    (pss_cons (ps_if (pt_cmpR op_eq (pe_op op_mod (pv 1) pe_int) pe_int (nomark _)) (pss_one (ps_ret (pe_op op_add pe_int (pe_op op_mod (pe_op op_fdiv (pv 1) pe_int) pe_int)))) pss_nil)
    (pss_one (ps_ret (pe_op op_add pe_int (pe_op op_mod (pe_callD D_law_cell_at (hr.mono (by decide)) rfl (pa_cons (pv 0) (pa_cons pe_int pa_nil (se rfl)) (se rfl)) (he := se rfl) (hpl := nst rfl)) (pe_op op_sub (pe_op op_pow pe_int pe_int) pe_int))))))), ?_⟩
  walk_at "rd"
  refine ⟨a, ns, 2, rfl, hS, fun c => ?_⟩
  walk_at "rd"
  refine ⟨c, 2, rfl, by decide, fun n => ?_⟩
  walk_at "rd"
  have e60 : (1000 : Int) ≤ 10 ^ (60 : Int).toNat := by decide +kernel
  have p60 : (0 : Int) < 10 ^ (60 : Int).toNat - 1 := by omega
  refine i_iteI (fun _ => ?_) (fun _ => ?_)
  · clear e60 p60
    walk_at "rd"
    have b := mod_b ((n : Int) / 3) (show (0 : Int) < 30 by decide)
    have e60 : (1000 : Int) ≤ 10 ^ (60 : Int).toNat := by decide +kernel
    exact q _ (by omega) (by omega)
  · clear e60
    walk_at "rd"
    refine ⟨a, ns, 2, rfl, hS, fun c => ?_⟩
    walk_at "rd"
    have b := mod_b c p60
    generalize c % (10 ^ (60 : Int).toNat - 1) = r at *
    exact q _ (by omega) (by omega)
def rdDV : Rd → DV
  | .num i => .f (.int i)
  | .back z b => .t [.f (.str z), .f (.int b)]
theorem at_v {us : List V} {i : Nat} (h : i < us.length) : atI us (i : Int) = some us[i] := atI_nat (List.getElem?_eq_getElem h)
theorem max_of (a b : Int) : (if b > a then b else a) = max a b := by split <;> omega
def deepR (z : Str) (acc : Int) : Rd → Int
  | .num _ => acc
  | .back y b => if y = z then max acc b else acc
def deepRow (z : Str) (acc : Int) (r : Row) : Int := r.reads.foldl (deepR z) acc
def deep (rs : List Row) (z : Str) : Int := rs.foldl (deepRow z) 0
theorem fold_next {α β : Type} (f : β → α → β) (b : β) {l : List α} {i : Nat} {x : α} (h : l[i]? = some x) : (l.take (i + 1)).foldl f b = f ((l.take i).foldl f b) x := by
  rw [List.take_add_one, h, List.foldl_append]; rfl
def spDeepest : Sp := fun vs H Q _ => ∃ (p : Addr) (us : List V) (rs : List Row) (z : Str), vs = [.ref p, .str z] ∧ H p = some (.lst us) ∧ RowsAt H rs us ∧ Q (.int (deep rs z)) H
theorem d_deepest (T : Txt K mg C CE) (Kb : K.In base) (G : base.Ns mainGlobals mg) : Df P w K mg base 1 "_law_deepest" ["_law_rows_here", "_law_name"] spDeepest := by
  refine T.f_deepest.df Kb G sc_law_deepest (fun _ _ _ _ _ _ us hl => match us, hl with | [_, _], _ => rfl) (by rintro vs H Q E ⟨p, us, rs, z, rfl, _⟩; rfl) (fun f cdv A outer s H vs Q E hr h => ?_)
  obtain ⟨p, us, rs, z, rfl, hp, hu, q⟩ := h
  refine ⟨_, (pss_cons (ps_set (i := 2) sc_law_deepest.nd rfl (by first | exact Or.inl rfl | exact Or.inr rfl) pe_int)
    (pss_cons (ps_for PassesOwn.never rfl (pi_list (pv 0)) (pg_name (i := 3) sc_law_deepest.nd rfl (by first | exact Or.inl rfl | exact Or.inr rfl))
      (pss_one (ps_for PassesOwn.never rfl (pi_tup (pe_ix ix_seq (pv 3) pe_int (fun _ _ => rfl))) (pg_name (i := 4) sc_law_deepest.nd rfl (by first | exact Or.inl rfl | exact Or.inr rfl))
      (pss_one (ps_join (ps_if (PW.pt (pw_and (pt_val (pe_callB call_isi rfl T.nisi PyProof.Rows.boot_isinstance (pa_cons (pv 4) (pa_cons (pe_bltn (v := .ty "tuple") rfl T.ntuple PyProof.Rows.boot_tuple rfl) pa_nil (se rfl)) (se rfl)) (he := se rfl) (hpl := nst rfl))) (pw_and1 (pt_cmpR op_eq (pe_ix ix_seq (pv 4) pe_int (fun _ _ => rfl)) (pv 1) (nomark _))))) (pss_one (ps_set (i := 2) sc_law_deepest.nd rfl (by first | exact Or.inl rfl | exact Or.inr rfl) (pe_callB (call_max2 rfl) rfl T.nmax PyProof.Rows.boot_max (pa_cons (pv 2) (pa_cons (pe_ix ix_seq (pv 4) pe_int (fun _ _ => rfl)) pa_nil (se rfl)) (se rfl)) (he := se rfl) (hpl := nst rfl)))) pss_nil))))))
    (pss_one (ps_ret (pv 2))))), ?_⟩
  have l1 := hu.len
  walk_at "rd"
  refine i_for (i_list ?_)
  walk_at "rd"
  refine ⟨p, rfl, ⟨us, sqL_inj_of hp⟩, ?_⟩
  refine for_list (xs := us) (fun i σ H' => H' = H ∧ ∃ x3 x4, σ = [some (.ref p), some (.str z), some (.int ((rs.take i).foldl (deepRow z) 0)), x3, x4]) ⟨rfl, none, none, rfl⟩ (fun i σ H' _ h => by rw [h.1]; exact sqL_inj_of hp) ?_ ?_
  · rintro i u σ H' hui ⟨rfl, x3, x4, rfl⟩
    have hir : i < rs.length := by rw [l1]; exact (List.getElem?_eq_some_iff.mp hui).1
    have hri := List.getElem?_eq_getElem hir
    have r1 := hu.at_ i rs[i] u hri hui
    rw [fold_next (deepRow z) 0 hri]
    generalize rs[i] = rw at *
    generalize (rs.take i).foldl (deepRow z) 0 = acc at *
    obtain ⟨p1, p2, vs, rfl, h1, h2, h3⟩ := r1
    walk_at "rd"
    refine i_for (i_tupI ?_)
    walk_at "rd"
    refine i_ixT (.inl (.inl h1)) (show atI _ 2 = some (.ref p1) from rfl) ?_
    refine ⟨p1, rfl, ⟨vs, .inl (.inl h2)⟩, ?_⟩
    have l3 := h3.len
    refine for_tup (xs := vs) (fun j σ H2 => H2 = H' ∧ ∃ x4, σ = [some (.ref p), some (.str z), some (.int ((rw.reads.take j).foldl (deepR z) acc)), some (.ref p2), x4]) ⟨rfl, x4, rfl⟩ (fun j σ H2 _ h => by rw [h.1]; exact .inl (.inl h2)) ?_ ?_
    · rintro j v σ H2 hvj ⟨rfl, x4, rfl⟩
      have hjr : j < rw.reads.length := by rw [l3]; exact (List.getElem?_eq_some_iff.mp hvj).1
      have hrj := List.getElem?_eq_getElem hjr
      have r3 := h3.at_ j rw.reads[j] v hrj hvj
      rw [fold_next (deepR z) acc hrj]
      generalize rw.reads[j] = rd at *
      generalize (rw.reads.take j).foldl (deepR z) acc = ac at *
      walk_at "rd"
      refine i_join (fun σ' H' => H' = H2 ∧ σ' = [some (.ref p), some (.str z), some (.int (deepR z ac rd)), some (.ref p2), some v]) ?_ (fun σ' H' ⟨e1, e2⟩ => ⟨e1, _, e2⟩)
      cases rd with
      | num i =>
        have e : v = .int i := r3
        subst e
        walk_at "rd"
        refine ⟨_, _, _, _, rfl, rfl, .int i, T.kIT, ?_⟩
        walk_at "rd"
        exact ⟨rfl, rfl⟩
      | back y b =>
        obtain ⟨t, rfl, ht⟩ := r3
        walk_at "rd"
        refine i_isiT ht T.kTT ?_
        walk_at "rd"
        refine i_ixT (.inl (.inl ht)) (show atI _ 0 = some (.str y) from rfl) ?_
        walk_at "rd"
        by_cases hyz : y = z
        · refine i_iteSe hyz ?_
          walk_at "rd"
          refine i_ixT (.inl (.inl ht)) (show atI _ 1 = some (.int b) from rfl) ?_
          walk_at "rd"
          refine ⟨ac, b, rfl, ?_⟩
          rw [max_of]
          walk_at "rd"
          exact ⟨rfl, by simp [deepR, hyz]⟩
        · refine i_iteSf hyz ?_
          walk_at "rd"
          exact ⟨rfl, by simp [deepR, hyz]⟩
    · rintro σ H2 ⟨rfl, x4, rfl⟩
      refine ⟨rfl, some (.ref p2), x4, ?_⟩
      rw [← l3, List.take_length]; rfl
  · rintro σ H' ⟨rfl, x3, x4, rfl⟩
    walk_at "rd"
    rw [← l1, List.take_length]
    exact q
theorem in_let (c : Nat) (h : 97 ≤ c ∧ c ≤ 122) : c ∈ (Str.ofString "abcdefghijklmnopqrstuvwxyz").cps.toList := by
  have e : ∀ j, j < 26 → 97 + j ∈ (Str.ofString "abcdefghijklmnopqrstuvwxyz").cps.toList := by decide +kernel
  have := e (c - 97) (by omega)
  rwa [show 97 + (c - 97) = c by omega] at this
def spIsName : Sp := fun vs H Q _ => ∃ z : Str, vs = [.str z] ∧ 1 ≤ z.length ∧ z.length ≤ 12 ∧ Lo z ∧ ∀ H2, Same H H2 → Q (.bl true) H2
def spIsLet : Sp := fun vs H Q _ => ∃ z : Str, vs = [.str z] ∧ 1 ≤ z.length ∧ z.length ≤ 12 ∧ Lo z ∧ ∀ H2, Same H H2 → Q (.bl true) H2
theorem d_islet (T : Txt K mg C CE) (Kb : K.In base) (G : base.Ns mainGlobals mg) : Df P w K mg base 1 "is_lettered" ["text"] spIsLet := by
  refine T.f_islet.df Kb G sc_is_lettered (fun _ _ _ _ _ _ us hl => match us, hl with | [_], _ => rfl) (by rintro vs H Q E ⟨z, rfl, _⟩; rfl) (fun f cdv A outer s H vs Q E hr h => ?_)
  obtain ⟨z, rfl, h1, h2, hL, q⟩ := h
  refine ⟨_, (pss_one (ps_ret (pe_and (pe_cmpR op_gt (pe_callB call_lenS rfl T.nlen PySem.boot_len (pa_cons (pv 0) pa_nil (se rfl)) (he := se rfl) (hpl := nst rfl)) pe_int (nomark _)) (pe_one (pe_callB (call_all rfl) rfl T.nall PyProof.Rows.boot_all (pa_cons (pe_lc (Blk.of (caps := []) (ix := []) rfl) rfl (pi_str (pv 0)) (fun _ _ _ _ => pf_nil) (fun _ _ _ _ => (pe_cmpR op_inS (pv 0) (pe_val T.v_LETTERS rfl) (by with_unfolding_all rfl)))) pa_nil (se rfl)) (he := se rfl) (hpl := nst rfl)))))), ?_⟩
  have lb := line_big
  walk_at "rd"
  refine i_lenS (by omega) ?_
  walk_at "rd"
  refine i_iteDt (by omega) ?_
  walk_at "rd"
  refine i_lc (i_strI ?_)
  walk_at "rd"
  refine lcS z (fun c => .bl (decide (c ∈ (Str.ofString "abcdefghijklmnopqrstuvwxyz").cps.toList))) (by omega) (fun c H' R hc s r => ?_) (fun D H2 hN => ?_)
  · walk_at "rd"
    exact r
  · have e : z.cps.toList.map (fun c => V.bl (decide (c ∈ (Str.ofString "abcdefghijklmnopqrstuvwxyz").cps.toList))) = List.map V.bl (z.cps.toList.map fun c => decide (c ∈ (Str.ofString "abcdefghijklmnopqrstuvwxyz").cps.toList)) := by rw [List.map_map]; rfl
    rw [e] at hN
    walk_at "rd"
    refine i_all hN.lst ?_
    have ea : (z.cps.toList.map fun c => decide (c ∈ (Str.ofString "abcdefghijklmnopqrstuvwxyz").cps.toList)).all id = true := by
      rw [List.all_map, List.all_eq_true]
      intro c hc
      exact decide_eq_true (in_let c (hL c hc))
    rw [ea]
    exact q _ hN.same
theorem d_isname (T : Txt K mg C CE) (Kb : K.In base) (G : base.Ns mainGlobals mg) : Df P w K mg base 2 "is_name" ["text"] spIsName := by
  have Dis_lettered : Df P w K mg base 1 "is_lettered" ["text"] spIsLet := d_islet T Kb G
  refine T.f_isname.df Kb G sc_is_name (fun _ _ _ _ _ _ us hl => match us, hl with | [_], _ => rfl) (by rintro vs H Q E ⟨z, rfl, _⟩; rfl) (fun f cdv A outer s H vs Q E hr h => ?_)
  obtain ⟨z, rfl, h1, h2, hL, q⟩ := h
  refine ⟨_, (pss_one (ps_ret (pe_and (pe_callD Dis_lettered (hr.mono (by decide)) rfl (pa_cons (pv 0) pa_nil (se rfl)) (he := se rfl) (hpl := nst rfl)) (pe_one (pe_cmpR op_le (pe_callB call_lenS rfl T.nlen PySem.boot_len (pa_cons (pv 0) pa_nil (se rfl)) (he := se rfl) (hpl := nst rfl)) (pe_val T.v_MOST_LETTERS rfl) (nomark _)))))), ?_⟩
  have lb := line_big
  walk_at "rd"
  refine ⟨z, rfl, h1, h2, hL, fun H1 s1 => ?_⟩
  walk_at "rd"
  refine i_lenS (by omega) ?_
  walk_at "rd"
  rw [decide_eq_true (show (z.length : Int) ≤ 12 by omega)]
  exact q _ s1
def spCMeas : Sp := fun vs H Q _ => ∃ m : Int, vs = [.int m] ∧ 2 ≤ m ∧ m ≤ 10 ^ (60 : Int).toNat ∧ Q .non H
theorem d_cmeas (T : Txt K mg C CE) (Kb : K.In base) (G : base.Ns mainGlobals mg) : Df P w K mg base 1 "check_measure" ["measure"] spCMeas := by
  refine T.f_cmeas.df Kb G sc_check_measure (fun _ _ _ _ _ _ us hl => match us, hl with | [_], _ => rfl) (by rintro vs H Q E ⟨m, rfl, _⟩; rfl) (fun f cdv A outer s H vs Q E hr h => ?_)
  obtain ⟨m, rfl, h1, h2, q⟩ := h
  refine ⟨_, (pss_one (ps_if (pt_not (pt_chain op_le op_le pe_int (pv 0) (pe_op op_pow pe_int pe_int))) (pss_one ps_never) pss_nil)), ?_⟩
  walk_at "rd"
  refine i_iteDt h1 ?_
  walk_at "rd"
  rw [decide_eq_true h2]
  walk_at "rd"
  exact q
def spCNum : Sp := fun vs H Q _ => ∃ i : Int, vs = [.int i] ∧ 0 ≤ i ∧ i < 10 ^ (60 : Int).toNat ∧ Q .non H
theorem d_cnum (T : Txt K mg C CE) (Kb : K.In base) (G : base.Ns mainGlobals mg) : Df P w K mg base 1 "check_number" ["number"] spCNum := by
  refine T.f_cnum.df Kb G sc_check_number (fun _ _ _ _ _ _ us hl => match us, hl with | [_], _ => rfl) (by rintro vs H Q E ⟨m, rfl, _⟩; rfl) (fun f cdv A outer s H vs Q E hr h => ?_)
  obtain ⟨m, rfl, h1, h2, q⟩ := h
  refine ⟨_, (pss_one (ps_if (pt_not (pt_chain op_le op_lt pe_int (pv 0) (pe_op op_pow pe_int pe_int))) (pss_one ps_never) pss_nil)), ?_⟩
  walk_at "rd"
  refine i_iteDt h1 ?_
  walk_at "rd"
  rw [decide_eq_true h2]
  walk_at "rd"
  exact q
theorem inV_mem {z : Str} {zs : List Str} (h : z ∈ zs) : inV (.str z) (List.map V.str zs) = true := by
  refine List.any_eq_true.mpr ⟨.str z, List.mem_map.mpr ⟨z, h, rfl⟩, ?_⟩
  show (z == z) = true
  exact beq_self_eq_true _
theorem inV_not {z : Str} {zs : List Str} (h : ¬ z ∈ zs) : inV (.str z) (List.map V.str zs) = false := by
  refine Bool.eq_false_iff.mpr fun e => h ?_
  obtain ⟨y, hy, e⟩ := List.any_eq_true.mp e
  obtain ⟨x, hx, rfl⟩ := List.mem_map.mp hy
  have e' : (x == z) = true := e
  rw [← beq_iff_eq.mp e']; exact hx
theorem flat_strs (zs : List Str) : (List.map V.str zs).all flatV = true := by rw [List.all_map]; exact List.all_eq_true.mpr fun _ _ => rfl
def spCLook : Sp := fun vs H Q _ => ∃ (z : Str) (b : Int) (np ap : Addr) (zs as : List Str), vs = [.str z, .int b, .ref np, .ref ap] ∧ H np = some (.lst (List.map V.str zs)) ∧ H ap = some (.lst (List.map V.str as)) ∧ z ∈ zs ∧ 0 ≤ b ∧ b ≤ 6 ∧ (b = 0 → z ∈ as) ∧ Q .non H
theorem d_clook (T : Txt K mg C CE) (Kb : K.In base) (G : base.Ns mainGlobals mg) : Df P w K mg base 1 "check_look_back" ["name", "back", "names", "above"] spCLook := by
  refine T.f_clook.df Kb G sc_check_look_back (fun _ _ _ _ _ _ us hl => match us, hl with | [_, _, _, _], _ => rfl) (by rintro vs H Q E ⟨z, b, np, ap, zs, as, rfl, _⟩; rfl) (fun f cdv A outer s H vs Q E hr h => ?_)
  obtain ⟨z, b, np, ap, zs, as, rfl, hnp, hap, hz, b0, b6, ha, q⟩ := h
  refine ⟨_, (pss_cons (ps_if (pt_cmpR op_notIn_seq (pv 0) (pv 2) (by with_unfolding_all rfl)) (pss_one ps_never) pss_nil)
    (pss_cons (ps_if (pt_not (pt_chain op_le op_le pe_int (pv 1) (pe_val T.v_MOST_BACK rfl))) (pss_one ps_never) pss_nil)
    (pss_one (ps_if (PW.pt (pw_and (pt_cmpR op_eq (pv 1) pe_int (nomark _)) (pw_and1 (pt_cmpR op_notIn_seq (pv 0) (pv 3) (by with_unfolding_all rfl))))) (pss_one ps_never) pss_nil)))), ?_⟩
  walk_at "rd"
  refine i_ninL (sqL_inj_of hnp) rfl (flat_strs zs) ?_
  rw [inV_mem hz]
  walk_at "rd"
  refine i_iteDt b0 ?_
  walk_at "rd"
  rw [decide_eq_true b6]
  walk_at "rd"
  refine i_iteI (fun h0 => ?_) (fun h0 => ?_)
  · walk_at "rd"
    refine i_ninL (sqL_inj_of hap) rfl (flat_strs as) ?_
    rw [inV_mem (ha h0)]
    walk_at "rd"
    exact q
  · walk_at "rd"
    exact q
def spCRead : Sp := fun vs H Q _ => ∃ (v : V) (np ap : Addr) (zs : List Str) (k : Nat) (rd : Rd), vs = [v, .ref np, .ref ap] ∧ H np = some (.lst (List.map V.str zs)) ∧ H ap = some (.lst (List.map V.str (zs.take k))) ∧ RdAt H rd v ∧ RdOk zs k rd ∧ Q .non H
theorem d_cread (T : Txt K mg C CE) (Kb : K.In base) (G : base.Ns mainGlobals mg) : Df P w K mg base 2 "check_read" ["read", "names", "above"] spCRead := by
  have Dcheck_number : Df P w K mg base 1 "check_number" ["number"] spCNum := d_cnum T Kb G
  have Dcheck_look_back : Df P w K mg base 1 "check_look_back" ["name", "back", "names", "above"] spCLook := d_clook T Kb G
  refine T.f_cread.df Kb G sc_check_read (fun _ _ _ _ _ _ us hl => match us, hl with | [_, _, _], _ => rfl) (by rintro vs H Q E ⟨v, np, ap, zs, k, rd, rfl, _⟩; rfl) (fun f cdv A outer s H vs Q E hr h => ?_)
  obtain ⟨v, np, ap, zs, k, rd, rfl, hnp, hap, hrd, hok, q⟩ := h
  refine ⟨_, (pss_one (ps_if (pt_val (pe_callB call_isi rfl T.nisi PyProof.Rows.boot_isinstance (pa_cons (pv 0) (pa_cons (pe_bltn (v := .ty "int") rfl T.nint PyProof.Rows.boot_int rfl) pa_nil (se rfl)) (se rfl)) (he := se rfl) (hpl := nst rfl))) (pss_one (ps_expr (pe_callD Dcheck_number (hr.mono (by decide)) rfl (pa_cons (pv 0) pa_nil (se rfl)) (he := se rfl) (hpl := nst rfl)))) (pss_one (ps_expr (pe_callD Dcheck_look_back (hr.mono (by decide)) rfl (pa_cons (pe_ix ix_seq (pv 0) pe_int (fun _ _ => rfl)) (pa_cons (pe_ix ix_seq (pv 0) pe_int (fun _ _ => rfl)) (pa_cons (pv 1) (pa_cons (pv 2) pa_nil (se rfl)) (se rfl)) (se rfl)) (se rfl)) (he := se rfl) (hpl := nst rfl)))))), ?_⟩
  cases rd with
  | num i =>
    have e : v = .int i := hrd
    subst e
    walk_at "rd"
    refine i_isiI T.kII ?_
    walk_at "rd"
    refine ⟨i, rfl, hok.1, hok.2, ?_⟩
    walk_at "rd"
    exact q
  | back z b =>
    obtain ⟨t, rfl, ht⟩ := hrd
    obtain ⟨j, hj, b0, b6, bk⟩ := hok
    walk_at "rd"
    refine i_isiT ht T.kTI ?_
    walk_at "rd"
    refine i_ixT (.inl (.inl ht)) (show atI _ 0 = some (.str z) from rfl) ?_
    walk_at "rd"
    refine i_ixT (.inl (.inl ht)) (show atI _ 1 = some (.int b) from rfl) ?_
    walk_at "rd"
    refine ⟨z, b, np, ap, zs, zs.take k, rfl, hnp, hap, List.mem_iff_getElem?.mpr ⟨j, hj⟩, b0, b6, fun h0 => List.mem_iff_getElem?.mpr ⟨j, by rw [List.getElem?_take_of_lt (bk h0)]; exact hj⟩, ?_⟩
    walk_at "rd"
    exact q
def spCHead : Sp := fun vs H Q _ => ∃ (z : Str) (d : Dk) (p1 ap : Addr) (us : List V) (as : List Str), vs = [.str z, .str d.word, .ref p1, .ref ap] ∧ 1 ≤ z.length ∧ z.length ≤ 12 ∧ Lo z ∧ H p1 = some (.tup us) ∧ us.length = d.wants ∧ H ap = some (.lst (List.map V.str as)) ∧ ¬ z ∈ as ∧ ∀ H2, Same H H2 → Q .non H2
theorem d_chead (T : Txt K mg C CE) (Kb : K.In base) (G : base.Ns mainGlobals mg) : Df P w K mg base 3 "check_head" ["name", "word", "reads", "above"] spCHead := by
  have Dis_name : Df P w K mg base 2 "is_name" ["text"] spIsName := d_isname T Kb G
  have Ddeed_of : Df P w K mg base 1 "deed_of" ["word"] (spDeedA C) := d_deed T Kb G
  have Mwants : MethI P w K mg base 1 "wants" ["self"] C spWants := m_wants T
  refine T.f_chead.df Kb G sc_check_head (fun _ _ _ _ _ _ us hl => match us, hl with | [_, _, _, _], _ => rfl) (by rintro vs H Q E ⟨z, d, p1, ap, us, as, rfl, _⟩; rfl) (fun f cdv A outer s H vs Q E hr h => ?_)
  obtain ⟨z, d, p1, ap, us, as, rfl, z1, z12, hL, hp1, hul, hap, hna, q⟩ := h
  refine ⟨_, (pss_cons (ps_if (pt_not (pt_val (pe_callD Dis_name (hr.mono (by decide)) rfl (pa_cons (pv 0) pa_nil (se rfl)) (he := se rfl) (hpl := nst rfl)))) (pss_one ps_never) pss_nil)
    (pss_cons (ps_if (pt_cmpR op_in_seq (pv 0) (pv 3) (by with_unfolding_all rfl)) (pss_one ps_never) pss_nil)
    (pss_one (ps_if (pt_cmpR op_ne (pe_callB call_len_seq rfl T.nlen PySem.boot_len (pa_cons (pv 2) pa_nil (se rfl)) (he := se rfl) (hpl := nst rfl)) (pe_methI0 Mwants (pe_callD Ddeed_of (hr.mono (by decide)) rfl (pa_cons (pv 1) pa_nil (se rfl)) (he := se rfl) (hpl := nst rfl)) (hr.mono (by decide))) (nomark _)) (pss_one ps_never) pss_nil)))), ?_⟩
  walk_at "rd"
  refine ⟨z, rfl, z1, z12, hL, fun H1 s1 => ?_⟩
  walk_at "rd"
  refine i_inL (sqL_inj_of (s1 _ _ hap)) rfl (flat_strs as) ?_
  rw [inV_not hna]
  walk_at "rd"
  refine ⟨_, _, rfl, .inr (.inl (.inl (s1 _ _ hp1))), ?_⟩
  walk_at "rd"
  refine i_methI ?_
  walk_at "rd"
  refine ⟨d, rfl, fun x dx H2 hN2 => ?_⟩
  refine ⟨d, x, dx, [], rfl, hN2.at, rfl, ?_⟩
  walk_at "rd"
  refine ⟨x, rfl, ?_⟩
  walk_at "rd"
  rw [decide_eq_true (show V.int (us.length : Int) = V.int (d.wants : Nat) by rw [hul])]
  walk_at "rd"
  exact q _ (s1.trans hN2.same)
theorem cutV_take (xs : List V) (k : Nat) : cutV xs none (some (k : Int)) = xs.take k := by
  unfold cutV
  have e1 : HT.sIx xs.length 0 none = 0 := rfl
  have e2 : HT.sIx xs.length xs.length (some (k : Int)) = min k xs.length := by
    show (if (k : Int) < 0 then ((k : Int) + (xs.length : Int)).toNat else min (k : Int).toNat xs.length) = _
    rw [if_neg (by omega)]; omega
  rw [e1, e2, List.drop_zero, Nat.sub_zero]
  by_cases h : k ≤ xs.length
  · rw [Nat.min_eq_left h]
  · rw [Nat.min_eq_right (by omega), List.take_length, List.take_of_length_le (by omega)]
theorem nd_names {zs : List Str} (h : NamesOk zs) {i : Nat} {z : Str} (hz : zs[i]? = some z) : ¬ z ∈ zs.take i := by
  obtain ⟨h12, place, n, hn⟩ := h
  intro hm
  obtain ⟨j, hj⟩ := List.mem_iff_getElem?.mp hm
  have hji : j < i := by
    have := (List.getElem?_eq_some_iff.mp hj).1
    rw [List.length_take] at this; omega
  rw [List.getElem?_take_of_lt hji] at hj
  have hi12 : i < zs.length := (List.getElem?_eq_some_iff.mp hz).1
  have a := (hn i z hz).2.2.2
  have b := (hn j z hj).2.2.2
  rw [a] at b
  have := Option.some.inj b
  omega
def TK (H H' : Hp) : Prop := ∀ b xs, H b = some (.tup xs) → H' b = some (.tup xs)
theorem TK.upd {H : Hp} {x : Addr} {o u : HO} (h : H x = some o) (n : ∀ xs, o ≠ .tup xs) : TK H (L2.upd H x u) := fun b xs e => by
  rw [upd_ne (fun z => by rw [z, h] at e; exact n xs (Option.some.inj e))]; exact e
theorem RdAt.keep {H H' : Hp} {r : Rd} {v : V} (s : TK H H') (h : RdAt H r v) : RdAt H' r v := by
  cases r with
  | num i => exact h
  | back z b => obtain ⟨a, e, q⟩ := h; exact ⟨a, e, s _ _ q⟩
theorem RowAt.keep {H H' : Hp} {r : Row} {v : V} (s : TK H H') (h : RowAt H r v) : RowAt H' r v := by
  obtain ⟨p1, p2, vs, e, h1, h2, h3⟩ := h
  exact ⟨p1, p2, vs, e, s _ _ h1, s _ _ h2, h3.len, fun i r v e1 e2 => (h3.at_ i r v e1 e2).keep s⟩
theorem RowsAt.keep {H H' : Hp} {rs : List Row} {us : List V} (s : TK H H') (h : RowsAt H rs us) : RowsAt H' rs us := ⟨h.len, fun i r u e1 e2 => (h.at_ i r u e1 e2).keep s⟩
def spCRows : Sp := fun vs H Q _ => ∃ (p : Addr) (us : List V) (zs : List Str) (rs : List Row), vs = [.ref p] ∧ H p = some (.lst us) ∧ RowsAt H rs us ∧ RowsOk zs rs ∧ 1 ≤ rs.length ∧ ∀ H2, Same H H2 → Q .non H2
theorem d_crows (T : Txt K mg C CE) (Kb : K.In base) (G : base.Ns mainGlobals mg) : Df P w K mg base 4 "check_rows" ["rows"] spCRows := by
  have Dcheck_head : Df P w K mg base 3 "check_head" ["name", "word", "reads", "above"] spCHead := d_chead T Kb G
  have Dcheck_read : Df P w K mg base 2 "check_read" ["read", "names", "above"] spCRead := d_cread T Kb G
  refine T.f_crows.df Kb G sc_check_rows (fun _ _ _ _ _ _ us hl => match us, hl with | [_], _ => rfl) (by rintro vs H Q E ⟨p, us, zs, rs, rfl, _⟩; rfl) (fun f cdv A outer s H vs Q E hr h => ?_)
  obtain ⟨p, us, zs, rs, rfl, hp, hu, hok, h1, q⟩ := h
  refine ⟨_, (pss_cons (ps_if (pt_not (pt_chain op_le op_le pe_int (pe_callB call_len_seq rfl T.nlen PySem.boot_len (pa_cons (pv 0) pa_nil (se rfl)) (he := se rfl) (hpl := nst rfl)) (pe_val T.v_MOST_ROWS rfl))) (pss_one ps_never) pss_nil)
    (pss_cons (ps_lc (i := 1) sc_check_rows.nd rfl rfl (by with_unfolding_all rfl) (Blk.of (caps := []) (ix := []) rfl) rfl (pi_list (pv 0)) (fun _ _ _ _ => pf_nil) (fun _ _ _ _ => (pe_ix (ix_seqK (K := K) rfl) (pv 0) pe_int (fun _ _ => rfl))))
    (pss_one (ps_for PassesOwn.never rfl (pi_enum rfl T.nenumerate (pa_cons (pv 0) pa_nil (se rfl))) (pg_tup rfl (pgs_cons (pg_name (i := 2) sc_check_rows.nd rfl (by first | exact Or.inl rfl | exact Or.inr rfl)) (pgs_cons (pg_name (i := 3) sc_check_rows.nd rfl (by first | exact Or.inl rfl | exact Or.inr rfl)) pgs_nil)))
      (pss_cons (ps_set (i := 4) sc_check_rows.nd rfl (by first | exact Or.inl rfl | exact Or.inr rfl) (pe_slice sl_listA (pv 1) po_none (po_some (pv 2))))
    (pss_cons (ps_expr (pe_callD Dcheck_head (hr.mono (by decide)) rfl (pa_cons (pe_ix ix_seq (pv 3) pe_int (fun _ _ => rfl)) (pa_cons (pe_ix ix_seq (pv 3) pe_int (fun _ _ => rfl)) (pa_cons (pe_ix ix_seq (pv 3) pe_int (fun _ _ => rfl)) (pa_cons (pv 4) pa_nil (se rfl)) (se rfl)) (se rfl)) (se rfl)) (he := se rfl) (hpl := nst rfl)))
    (pss_one (ps_for PassesOwn.never rfl (pi_tup (pe_ix ix_seq (pv 3) pe_int (fun _ _ => rfl))) (pg_name (i := 5) sc_check_rows.nd rfl (by first | exact Or.inl rfl | exact Or.inr rfl))
      (pss_one (ps_expr (pe_callD Dcheck_read (hr.mono (by decide)) rfl (pa_cons (pv 5) (pa_cons (pv 1) (pa_cons (pv 4) pa_nil (se rfl)) (se rfl)) (se rfl)) (he := se rfl) (hpl := nst rfl)))))))))))), ?_⟩
  have l1 := hu.len
  have l2 := hok.len
  have l12 := hok.names.1
  have lb := line_big
  walk_at "rd"
  refine ⟨_, _, rfl, .inl (sqL_inj_of hp), ?_⟩
  walk_at "rd"
  refine i_iteDt (by omega) ?_
  walk_at "rd"
  rw [decide_eq_true (show (us.length : Int) ≤ 12 by omega)]
  walk_at "rd"
  refine i_setLc (i_lc (i_list ?_))
  walk_at "rd"
  refine lcNL us (fun D i y H' => ∃ r, rs[i]? = some r ∧ y = .str r.name) (sqL_inj_of hp) (by omega) (fun D i y H' H'' _ h => h) (fun D i v H' R hv hD hy s r => ?_) (fun D ys H1 hD s1 hHD hyl hP => ?_)
  · have hir : i < rs.length := by rw [l1]; exact (List.getElem?_eq_some_iff.mp hv).1
    have hri := List.getElem?_eq_getElem hir
    obtain ⟨p1, p2, vs, rfl, h1, h2, h3⟩ := (hu.at_ i rs[i] v hri hv).same s
    walk_at "rd"
    refine i_ixT (.inl (.inl h1)) (show atI _ 0 = some (.str rs[i].name) from rfl) ?_
    exact r _ _ (Same.refl _) ⟨rs[i], hri, rfl⟩
  have hnp : H1 D = some (.lst (List.map V.str zs)) := by
    rw [hHD]
    congr 1; congr 1
    refine List.ext_getElem? fun i => ?_
    rw [List.getElem?_map]
    by_cases hi : i < ys.length
    · obtain ⟨r, hr1, hr2⟩ := hP i ys[i] (List.getElem?_eq_getElem hi)
      rw [List.getElem?_eq_getElem hi, hr2, (hok.at_ i r hr1).name]; rfl
    · rw [List.getElem?_eq_none (by omega), List.getElem?_eq_none (by omega)]; rfl
  dsimp only
  refine i_for (i_enumI ?_)
  walk_at "rd"
  refine ⟨p, rfl, ⟨us, sqL_inj_of (s1 _ _ hp)⟩, ?_⟩
  refine for_enum (xs := us) (fun i σ H' => Same H1 H' ∧ ∃ x2 x3 x4 x5, σ = [some (.ref p), some (.ref D), x2, x3, x4, x5]) ⟨Same.refl _, none, none, none, none, rfl⟩ (fun i σ H' _ h => sqL_inj_of (h.1 _ _ (s1 _ _ hp))) ?_ ?_
  · rintro i u t σ H2 H3 hui ⟨s2, x2, x3, x4, x5, rfl⟩ hN3
    have s3 := s2.trans hN3.same
    have hir : i < rs.length := by rw [l1]; exact (List.getElem?_eq_some_iff.mp hui).1
    have hri := List.getElem?_eq_getElem hir
    have rok := hok.at_ i rs[i] hri
    have rat := (hu.at_ i rs[i] u hri hui).same (s1.trans s3)
    generalize rs[i] = rw at *
    obtain ⟨place, n, hn⟩ := hok.names.2
    have nm := hn i rw.name rok.name
    have nd := nd_names hok.names rok.name
    obtain ⟨p1, p2, vs, rfl, r1, r2, r3⟩ := rat
    have r3l := r3.len
    refine i_gtup hN3.tup rfl ?_
    walk_at "rd"
    refine i_slLA (sqL_inj_of (s3 _ _ hnp)) fun ap H4 hN4 => ?_
    rw [cutV_take, ← List.map_take] at hN4
    have s4 := s3.trans hN4.same
    walk_at "rd"
    refine i_ixT (.inl (.inl (hN4.same _ _ r1))) (show atI _ 0 = some (.str rw.name) from rfl) ?_
    walk_at "rd"
    refine i_ixT (.inl (.inl (hN4.same _ _ r1))) (show atI _ 1 = some (.str rw.d.word) from rfl) ?_
    walk_at "rd"
    refine i_ixT (.inl (.inl (hN4.same _ _ r1))) (show atI _ 2 = some (.ref p1) from rfl) ?_
    walk_at "rd"
    refine ⟨rw.name, rw.d, p1, ap, vs, zs.take i, rfl, nm.1, nm.2.1, nm.2.2.1, hN4.same _ _ r2, by rw [← r3l]; exact rok.many, hN4.at, nd, fun H5 s5 => ?_⟩
    walk_at "rd"
    dsimp only
    refine i_for (i_tupI ?_)
    walk_at "rd"
    refine i_ixT (.inl (.inl (s5 _ _ (hN4.same _ _ r1)))) (show atI _ 2 = some (.ref p1) from rfl) ?_
    have r2' := s5 _ _ (hN4.same _ _ r2)
    refine ⟨p1, rfl, ⟨vs, .inl (.inl r2')⟩, ?_⟩
    refine for_tup (xs := vs) (fun j σ H' => H' = H5 ∧ ∃ x5, σ = [some (.ref p), some (.ref D), some (.int (i : Int)), some (.ref p2), some (.ref ap), x5]) ⟨rfl, x5, rfl⟩ (fun j σ H' _ h => by rw [h.1]; exact .inl (.inl r2')) ?_ ?_
    · rintro j v σ H' hvj ⟨rfl, x5, rfl⟩
      have hjr : j < rw.reads.length := by rw [r3l]; exact (List.getElem?_eq_some_iff.mp hvj).1
      have hrj := List.getElem?_eq_getElem hjr
      have ra := ((r3.at_ j rw.reads[j] v hrj hvj).same hN4.same).same s5
      have ro := rok.reads rw.reads[j] (List.getElem_mem hjr)
      walk_at "rd"
      refine ⟨v, D, ap, zs, i, rw.reads[j], rfl, (s4.trans s5) _ _ hnp, s5 _ _ hN4.at, ra, ro, ?_⟩
      walk_at "rd"
      exact ⟨rfl, _, rfl⟩
    · rintro σ H' ⟨rfl, x5, rfl⟩
      exact ⟨s4.trans s5, _, _, _, _, rfl⟩
  · rintro σ H2 ⟨s2, x2, x3, x4, x5, rfl⟩
    exact q _ (s1.trans s2)
def spCopy : Sp := fun vs H Q _ => ∃ (u : V) (r : Row), vs = [u] ∧ r.reads.length ≤ 3 ∧ RowAt H r u ∧ ∀ v H2, Same H H2 → RowAt H2 r v → Q v H2
theorem d_copy (T : Txt K mg C CE) (Kb : K.In base) (G : base.Ns mainGlobals mg) : Df P w K mg base 1 "copy_of_row" ["row"] spCopy := by
  refine T.f_copy.df Kb G sc_copy_of_row (fun _ _ _ _ _ _ us hl => match us, hl with | [_], _ => rfl) (by rintro vs H Q E ⟨u, r, rfl, _⟩; rfl) (fun f cdv A outer s H vs Q E hr h => ?_)
  obtain ⟨u, r, rfl, hl3, hrow, q⟩ := h
  obtain ⟨p1, p2, vs, rfl, r1, r2, r3⟩ := hrow
  have r3l := r3.len
  have lb := line_big
  refine ⟨_, (pss_cons (ps_lc (i := 1) sc_copy_of_row.nd rfl rfl (by with_unfolding_all rfl) (Blk.of (caps := []) (ix := []) rfl) rfl (pi_tup (pe_ix ix_seq (pv 0) pe_int (fun _ _ => rfl))) (fun _ _ _ _ => pf_nil) (fun _ _ _ _ => (pe_ifExp (pt_val (pe_callB (call_isiK (K := K) rfl) rfl T.nisi PyProof.Rows.boot_isinstance (pa_cons (pv 0) (pa_cons (pe_bltn (v := .ty "int") rfl T.nint PyProof.Rows.boot_int rfl) pa_nil (se rfl)) (se rfl)) (he := se rfl) (hpl := nst rfl))) (pv 0) (pe_callTy (call_tupleK (K := K) rfl) rfl T.ntuple PyProof.Rows.boot_tuple (pa_cons (pv 0) pa_nil (se rfl)) (he := se rfl) (hpl := nst rfl)))))
    (pss_one (ps_ret (pe_tupA (pa_cons (pe_ix ix_seq (pv 0) pe_int (fun _ _ => rfl)) (pa_cons (pe_ix ix_seq (pv 0) pe_int (fun _ _ => rfl)) (pa_cons (pe_callTy call_tupleA rfl T.ntuple PyProof.Rows.boot_tuple (pa_cons (pv 1) pa_nil (se rfl)) (he := se rfl) (hpl := nst rfl)) pa_nil (se rfl)) (se rfl)) (se rfl)))))), ?_⟩
  walk_at "rd"
  refine i_setLc (i_lc (i_tupI ?_))
  walk_at "rd"
  refine i_ixT (.inl (.inl r1)) (show atI _ 2 = some (.ref p1) from rfl) ?_
  refine lcT vs id (.inl (.inl r2)) (by omega) (fun i v H' R hv s k => ?_) (fun D H1 hN1 => ?_)
  · have hir : i < r.reads.length := by rw [r3l]; exact (List.getElem?_eq_some_iff.mp hv).1
    have ra := (r3.at_ i r.reads[i] v (List.getElem?_eq_getElem hir) hv).same s
    generalize r.reads[i] = rd at *
    cases rd with
    | num i =>
      have e : v = .int i := ra
      subst e
      walk_at "rd"
      refine i_isiI T.kII ?_
      walk_at "rd"
      exact k
    | back z b =>
      obtain ⟨t, rfl, ht⟩ := ra
      walk_at "rd"
      refine i_isiT ht T.kTI ?_
      walk_at "rd"
      refine i_tupleAT (.inl (.inl ht)) ?_
      exact k
  rw [List.map_id] at hN1
  walk_at "rd"
  have r1' := hN1.same _ _ r1
  refine i_ixT (.inl (.inl r1')) (show atI _ 0 = some (.str r.name) from rfl) ?_
  walk_at "rd"
  refine i_ixT (.inl (.inl r1')) (show atI _ 1 = some (.str r.d.word) from rfl) ?_
  walk_at "rd"
  refine i_tupleAL hN1.lst fun p3 H2 hN2 => ?_
  walk_at "rd"
  refine ⟨by show 3 ≤ sizeLine; decide, fun p4 H3 hN3 => ?_⟩
  have s3 := (hN1.same.trans hN2.same).trans hN3.same
  exact q _ _ s3 ⟨p3, p4, vs, rfl, hN3.at, hN3.same _ _ hN2.at, r3.same s3⟩
def DepOf (kvs : List (Key × V)) (g : Str → Int) : Prop := ∀ z : Str, (valV kvs (Sum.inr z)).getD (.int 0) = .int (g z)
theorem DepOf.put {kvs : List (Key × V)} {g : Str → Int} (h : DepOf kvs g) (y : Str) (b : Int) : DepOf (putK kvs (Sum.inr y) (.int (max b (g y)))) (fun z => deepR z (g z) (.back y b)) := by
  intro z
  rw [valV_put]
  by_cases hz : z = y
  · subst hz
    simp [deepR, Int.max_comm]
  · have : ¬ (Sum.inr z : Key) = Sum.inr y := fun e => hz (Sum.inr.inj e)
    rw [if_neg this, h z]
    show V.int (g z) = V.int (if y = z then max (g z) b else g z)
    rw [if_neg fun e => hz e.symm]
def spDepths : Sp := fun vs H Q _ => ∃ (p : Addr) (us : List V) (rs : List Row), vs = [.ref p] ∧ H p = some (.lst us) ∧ RowsAt H rs us ∧ rs.length ≤ 12 ∧ (∀ r ∈ rs, r.reads.length ≤ 3) ∧ ∀ d kvs H2, Same H H2 → H2 d = some (.dK kvs) → DepOf kvs (deep rs) → Q (.ref d) H2
theorem d_depths (T : Txt K mg C CE) (Kb : K.In base) (G : base.Ns mainGlobals mg) : Df P w K mg base 1 "depths_of" ["rows"] spDepths := by
  refine T.f_depths.df Kb G sc_depths_of (fun _ _ _ _ _ _ us hl => match us, hl with | [_], _ => rfl) (by rintro vs H Q E ⟨p, us, rs, rfl, _⟩; rfl) (fun f cdv A outer s H vs Q E hr h => ?_)
  obtain ⟨p, us, rs, rfl, hp, hu, h12, h3, q⟩ := h
  refine ⟨_, (pss_cons (ps_set (i := 1) sc_depths_of.nd rfl (by first | exact Or.inl rfl | exact Or.inr rfl) pe_dnewK)
    (pss_cons (ps_for PassesOwn.never rfl (pi_list (pv 0)) (pg_name (i := 2) sc_depths_of.nd rfl (by first | exact Or.inl rfl | exact Or.inr rfl))
      (pss_one (ps_for PassesOwn.never rfl (pi_tup (pe_ix ix_seq (pv 2) pe_int (fun _ _ => rfl))) (pg_name (i := 3) sc_depths_of.nd rfl (by first | exact Or.inl rfl | exact Or.inr rfl))
      (pss_one (ps_join (ps_if (pt_not (pt_val (pe_callB call_isi rfl T.nisi PyProof.Rows.boot_isinstance (pa_cons (pv 3) (pa_cons (pe_bltn (v := .ty "int") rfl T.nint PyProof.Rows.boot_int rfl) pa_nil (se rfl)) (se rfl)) (he := se rfl) (hpl := nst rfl)))) (pss_one (ps_dput (hu_of hr) (pv 1) (pe_ix ix_seq (pv 3) pe_int (fun _ _ => rfl)) (pe_callB (call_max2 rfl) rfl T.nmax PyProof.Rows.boot_max (pa_cons (pe_ix ix_seq (pv 3) pe_int (fun _ _ => rfl)) (pa_cons (pe_dget2 (hu_of hr) (pv 1) (pe_ix ix_seq (pv 3) pe_int (fun _ _ => rfl)) pe_int ⟨rfl, rfl, rfl, rfl⟩) pa_nil (se rfl)) (se rfl)) (he := se rfl) (hpl := nst rfl)) rfl)) pss_nil))))))
    (pss_one (ps_ret (pv 1))))), ?_⟩
  have l1 := hu.len
  have lb := line_big
  walk_at "rd"
  refine i_dnew fun d hd => ?_
  have hs0 : Same H (upd H d (.dK [])) := Same.new hd
  have hd0 : upd H d (.dK []) d = some (.dK []) := upd_same
  generalize upd H d (.dK []) = H0 at *
  walk_at "rd"
  dsimp only
  refine i_for (i_list ?_)
  walk_at "rd"
  refine ⟨p, rfl, ⟨us, sqL_inj_of (hs0 _ _ hp)⟩, ?_⟩
  refine for_list (xs := us) (fun i σ H' => Same H H' ∧ ∃ kvs x2 x3, σ = [some (.ref p), some (.ref d), x2, x3] ∧ H' d = some (.dK kvs) ∧ kvs.length ≤ 3 * i ∧ DepOf kvs fun z => (rs.take i).foldl (deepRow z) 0)
    ⟨hs0, [], none, none, rfl, hd0, Nat.zero_le _, fun z => rfl⟩ (fun i σ H' _ h => sqL_inj_of (h.1 _ _ hp)) ?_ ?_
  · rintro i u σ H' hui ⟨s1, kvs, x2, x3, rfl, hdk, hkl, hdep⟩
    have hiu := (List.getElem?_eq_some_iff.mp hui).1
    have hir : i < rs.length := by rw [l1]; exact hiu
    have hri := List.getElem?_eq_getElem hir
    have r1 := hu.at_ i rs[i] u hri hui
    have hr3 := h3 rs[i] (List.getElem_mem hir)
    have hnx : (fun z => (rs.take (i + 1)).foldl (deepRow z) 0) = fun z => deepRow z ((rs.take i).foldl (deepRow z) 0) rs[i] := by
      funext z; exact fold_next (deepRow z) 0 hri
    rw [hnx]
    generalize rs[i] = rw at *
    generalize hg : (fun z => (rs.take i).foldl (deepRow z) 0) = g at *
    have hg' : (fun z => deepRow z ((rs.take i).foldl (deepRow z) 0) rw) = fun z => deepRow z (g z) rw := by rw [← hg]
    rw [hg']
    obtain ⟨p1, p2, vs, rfl, h1, h2, hv⟩ := r1
    have hvl := hv.len
    walk_at "rd"
    dsimp only
    refine i_for (i_tupI ?_)
    walk_at "rd"
    refine i_ixT (.inl (.inl (s1 _ _ h1))) (show atI _ 2 = some (.ref p1) from rfl) ?_
    refine ⟨p1, rfl, ⟨vs, .inl (.inl (s1 _ _ h2))⟩, ?_⟩
    refine for_tup (xs := vs) (fun j σ H2 => Same H H2 ∧ ∃ kvs x3, σ = [some (.ref p), some (.ref d), some (.ref p2), x3] ∧ H2 d = some (.dK kvs) ∧ kvs.length ≤ 3 * i + j ∧ DepOf kvs fun z => (rw.reads.take j).foldl (deepR z) (g z))
      ⟨s1, kvs, x3, rfl, hdk, hkl, hdep⟩ (fun j σ H2 _ h => .inl (.inl (h.1 _ _ h2))) ?_ ?_
    · rintro j v σ H2 hvj ⟨s2, kv2, x3, rfl, hd2, hk2, hdep2⟩
      have hjv := (List.getElem?_eq_some_iff.mp hvj).1
      have hjr : j < rw.reads.length := by rw [hvl]; exact hjv
      have hrj := List.getElem?_eq_getElem hjr
      have r3 := (hv.at_ j rw.reads[j] v hrj hvj).same s2
      have hnx2 : (fun z => (rw.reads.take (j + 1)).foldl (deepR z) (g z)) = fun z => deepR z ((rw.reads.take j).foldl (deepR z) (g z)) rw.reads[j] := by
        funext z; exact fold_next (deepR z) (g z) hrj
      rw [hnx2]
      generalize rw.reads[j] = rd at *
      generalize hg2 : (fun z => (rw.reads.take j).foldl (deepR z) (g z)) = g2 at *
      have hg2' : (fun z => deepR z ((rw.reads.take j).foldl (deepR z) (g z)) rd) = fun z => deepR z (g2 z) rd := by rw [← hg2]
      rw [hg2']
      walk_at "rd"
      refine i_join (fun σ' H3 => Same H H3 ∧ σ' = [some (.ref p), some (.ref d), some (.ref p2), some v] ∧ ∃ kv3, H3 d = some (.dK kv3) ∧ kv3.length ≤ 3 * i + (j + 1) ∧ DepOf kv3 fun z => deepR z (g2 z) rd) ?_ (fun σ' H3 ⟨a, b, kv3, c⟩ => ⟨a, kv3, _, b, c⟩)
      cases rd with
      | num i' =>
        have e : v = .int i' := r3
        subst e
        walk_at "rd"
        refine i_isiI T.kII ?_
        walk_at "rd"
        exact ⟨s2, rfl, kv2, hd2, by omega, hdep2⟩
      | back y b =>
        obtain ⟨t, rfl, ht⟩ := r3
        walk_at "rd"
        refine i_isiT ht T.kTI ?_
        walk_at "rd"
        refine i_dput ?_
        walk_at "rd"
        refine i_ixT (.inl (.inl ht)) (show atI _ 1 = some (.int b) from rfl) ?_
        walk_at "rd"
        refine i_dget2 ?_
        walk_at "rd"
        refine ⟨d, rfl, .inl ⟨kv2, .inl hd2⟩, ?_⟩
        walk_at "rd"
        refine i_ixT (.inl (.inl ht)) (show atI _ 0 = some (.str y) from rfl) ?_
        walk_at "rd"
        refine ⟨_, DGet.k (k := Sum.inr y) hd2, ?_⟩
        rw [hdep2 y]
        walk_at "rd"
        refine ⟨b, g2 y, rfl, ?_⟩
        rw [max_of]
        walk_at "rd"
        refine i_ixT (.inl (.inl ht)) (show atI _ 0 = some (.str y) from rfl) ?_
        refine ⟨d, _, rfl, DPut.k (k := Sum.inr y) hd2 (by omega), ?_⟩
        refine ⟨fun b' u e => ?_, rfl, _, upd_same, ?_, hdep2.put y b⟩
        · rw [upd_ne (ne_of_none e hd)]; exact s2 _ _ e
        · have := length_putK kv2 (Sum.inr y : Key) (.int (max b (g2 y))); omega
    · rintro σ H2 ⟨s2, kv2, x3, rfl, hd2, hk2, hdep2⟩
      refine ⟨s2, kv2, _, _, rfl, hd2, by omega, ?_⟩
      rw [← hvl, List.take_length] at hdep2
      exact hdep2
  · rintro σ H' ⟨s1, kvs, x2, x3, rfl, hdk, hkl, hdep⟩
    walk_at "rd"
    rw [← l1, List.take_length] at hdep
    exact q d kvs H' s1 hdk hdep
def LoopAt (CL : Addr) (H : Hp) (x k : Addr) (m : Int) (rs : List Row) : Prop := ∃ (dx d : Addr) (fs : List (Str × V)) (ws : List V) (kvs : List (Key × V)), H x = some (.ins CL dx fs) ∧ fs.lookup (Str.ofString "measure") = some (.int m) ∧ fs.lookup (Str.ofString "kept") = some (.ref k) ∧ fs.lookup (Str.ofString "depths") = some (.ref d) ∧ fs.lookup (Str.ofString "rows") = none ∧ fs.lookup (Str.ofString "deepest") = none ∧
  H k = some (.lst ws) ∧ RowsAt H rs ws ∧ H d = some (.dK kvs) ∧ DepOf kvs (deep rs)
theorem LoopAt.same {CL : Addr} {H H' : Hp} {x k : Addr} {m : Int} {rs : List Row} (s : Same H H') (h : LoopAt CL H x k m rs) : LoopAt CL H' x k m rs := by
  obtain ⟨dx, d, fs, ws, kvs, h1, a, b, c, e, f, h2, h3, h4, h5⟩ := h
  exact ⟨dx, d, fs, ws, kvs, s _ _ h1, a, b, c, e, f, s _ _ h2, h3.same s, s _ _ h4, h5⟩
def spLRows (CL : Addr) : Sp := fun vs H Q _ => ∃ (x k : Addr) (m : Int) (rs : List Row), vs = [.ref x] ∧ LoopAt CL H x k m rs ∧ ∀ p us H2, New H p (.lst us) H2 → RowsAt H2 rs us → Q (.ref p) H2
theorem m_rows (T : Txt K mg C CE) : MethI P w K mg base 1 "rows" ["self"] (fun _ : Unit => CE .Loop) (fun _ => spLRows (CE .Loop)) := by
  refine ⟨fun _ => ⟨T.i_Loop.cl, ?_⟩⟩
  refine T.f_Loop_rows.fn sc_Loop_rows (fun _ _ _ _ _ _ us hl => match us, hl with | [_], _ => rfl) (by rintro vs H Q E ⟨a, k, m, rs, rfl, _⟩; rfl) (fun f cdv A outer s H vs Q E hr h => ?_)
  obtain ⟨x, k, m, rs, rfl, hl, q⟩ := h
  obtain ⟨dx, d, fs, ws, kvs, h1, a, b, c, e, f', h2, h3, h4, h5⟩ := hl
  refine ⟨_, (pss_one (ps_ret (pe_callTy call_listA rfl T.nlist PyProof.Rows.boot_list (pa_cons (pe_fld (pv 0) rfl) pa_nil (se rfl)) (he := se rfl) (hpl := nst rfl)))), ?_⟩
  walk_at "rd"
  refine i_fld ?_
  walk_at "rd"
  refine ⟨x, _, dx, fs, .ref k, rfl, h1, T.i_Loop.cl, T.nK, b, ?_⟩
  walk_at "rd"
  refine i_listAL (sqL_inj_of h2) fun p H2 hN => ?_
  exact q p ws H2 hN (h3.same hN.same)
def spLDeep (CL : Addr) : Sp := fun vs H Q _ => ∃ (x k : Addr) (m : Int) (rs : List Row) (z : Str), vs = [.ref x, .str z] ∧ LoopAt CL H x k m rs ∧ Q (.int (deep rs z)) H
theorem m_deepest (T : Txt K mg C CE) : MethI P w K mg base 1 "deepest" ["self", "name"] (fun _ : Unit => CE .Loop) (fun _ => spLDeep (CE .Loop)) := by
  refine ⟨fun _ => ⟨T.i_Loop.cl, ?_⟩⟩
  refine T.f_Loop_deepest.fn sc_Loop_deepest (fun _ _ _ _ _ _ us hl => match us, hl with | [_, _], _ => rfl) (by rintro vs H Q E ⟨a, k, m, rs, z, rfl, _⟩; rfl) (fun f cdv A outer s H vs Q E hr h => ?_)
  obtain ⟨x, k, m, rs, z, rfl, hl, q⟩ := h
  obtain ⟨dx, d, fs, ws, kvs, h1, a, b, c, e, f', h2, h3, h4, h5⟩ := hl
  refine ⟨_, (pss_one (ps_ret (pe_dget2 (hu_of hr) (pe_fld (pv 0) rfl) (pv 1) pe_int ⟨rfl, rfl, rfl, rfl⟩))), ?_⟩
  walk_at "rd"
  refine i_dget2 ?_
  refine i_fld ?_
  walk_at "rd"
  refine ⟨x, _, dx, fs, .ref d, rfl, h1, T.i_Loop.cl, T.nD, c, ?_⟩
  refine ⟨d, rfl, .inl ⟨kvs, .inl h4⟩, ?_⟩
  walk_at "rd"
  refine ⟨_, DGet.k (k := Sum.inr z) h4, ?_⟩
  rw [h5 z]
  exact q
theorem reads3 {zs : List Str} {rs : List Row} (h : RowsOk zs rs) : ∀ r ∈ rs, r.reads.length ≤ 3 := fun r hr => by
  obtain ⟨i, hi⟩ := List.mem_iff_getElem?.mp hr
  rw [(h.at_ i r hi).many]; exact wants3 _
def spInit (CL : Addr) : Sp := fun vs H Q _ => ∃ (x dx p : Addr) (m : Int) (us : List V) (zs : List Str) (rs : List Row), vs = [.ref x, .int m, .ref p] ∧ H x = some (.ins CL dx []) ∧ 2 ≤ m ∧ m ≤ 10 ^ (60 : Int).toNat ∧ H p = some (.lst us) ∧ RowsAt H rs us ∧ RowsOk zs rs ∧ 1 ≤ rs.length ∧
  ∀ k H2, H k = none → SameB x H H2 → LoopAt CL H2 x k m rs → Q .non H2
theorem mk_loop (T : Txt K mg C CE) (Kb : K.In base) (G : base.Ns mainGlobals mg) : MkI P w K mg base 5 (CE .Loop) ["self", "measure", "rows"] (spInit (CE .Loop)) := by
  have Dcheck_measure : Df P w K mg base 1 "check_measure" ["measure"] spCMeas := d_cmeas T Kb G
  have Dcheck_rows : Df P w K mg base 4 "check_rows" ["rows"] spCRows := d_crows T Kb G
  have Dcopy_of_row : Df P w K mg base 1 "copy_of_row" ["row"] spCopy := d_copy T Kb G
  have Ddepths_of : Df P w K mg base 1 "depths_of" ["rows"] spDepths := d_depths T Kb G
  refine T.i_Loop.mki sc_Loop___init__ (fun _ _ _ _ _ _ us hl => match us, hl with | [_, _, _], _ => rfl) (by rintro vs H Q E ⟨x, dx, p, m, us, zs, rs, rfl, _⟩; rfl) (fun f cdv A outer s H vs Q E hr h => ?_)
  obtain ⟨x, dx, p, m, us, zs, rs, rfl, hx, m2, m60, hp, hu, hok, h1, q⟩ := h
  refine ⟨_, (pss_cons (ps_expr (pe_callD Dcheck_measure (hr.mono (by decide)) rfl (pa_cons (pv 1) pa_nil (se rfl)) (he := se rfl) (hpl := nst rfl)))
    (pss_cons (ps_expr (pe_callD Dcheck_rows (hr.mono (by decide)) rfl (pa_cons (pv 2) pa_nil (se rfl)) (he := se rfl) (hpl := nst rfl)))
    (pss_cons (ps_fld (pv 0) (pv 1) (by with_unfolding_all rfl))
    (pss_cons (ps_fld (pv 0) (pe_lc (Blk.of (caps := []) (ix := []) rfl) rfl (pi_list (pv 2)) (fun _ _ _ _ => pf_nil) (fun _ _ _ _ => (pe_callD Dcopy_of_row (hr.mono (by decide)) rfl (pa_cons (pv 0) pa_nil (se rfl)) (he := se rfl) (hpl := nst rfl)))) (by with_unfolding_all rfl))
    (pss_one (ps_fld (pv 0) (pe_callD Ddepths_of (hr.mono (by decide)) rfl (pa_cons (pe_fld (pv 0) rfl) pa_nil (se rfl)) (he := se rfl) (hpl := nst rfl)) (by with_unfolding_all rfl))))))), ?_⟩
  have l1 := hu.len
  have l2 := hok.len
  have l12 := hok.names.1
  have lb := line_big
  walk_at "rd"
  refine ⟨m, rfl, m2, m60, ?_⟩
  walk_at "rd"
  refine ⟨p, us, zs, rs, rfl, hp, hu, hok, h1, fun H1 s1 => ?_⟩
  clear m60
  walk_at "rd"
  refine i_setFld ?_
  walk_at "rd"
  refine ⟨x, _, dx, [], rfl, s1 _ _ hx, T.i_Loop.cl, T.nM, by show 0 < 1000; decide, ?_⟩
  have b2 : SameB x H (upd H1 x (.ins (CE .Loop) dx (putF (Str.ofString "measure") (.int m) []))) := fun b u n e => by rw [upd_ne n]; exact s1 _ _ e
  have x2 : upd H1 x (.ins (CE .Loop) dx (putF (Str.ofString "measure") (.int m) [])) x = some (.ins (CE .Loop) dx (putF (Str.ofString "measure") (.int m) [])) := upd_same
  have u2 : RowsAt (upd H1 x (.ins (CE .Loop) dx (putF (Str.ofString "measure") (.int m) []))) rs us := (hu.same s1).keep (TK.upd (s1 _ _ hx) (by intro xs z; cases z))
  have hpx : p ≠ x := ne_of hp hx (by intro z; cases z)
  have p2 := b2 p _ hpx hp
  generalize upd H1 x (.ins (CE .Loop) dx (putF (Str.ofString "measure") (.int m) [])) = H2 at *
  walk_at "rd"
  dsimp only
  refine i_setFld ?_
  refine i_lc (i_list ?_)
  walk_at "rd"
  refine lcNL us (fun D i y H' => ∃ r, rs[i]? = some r ∧ RowAt (hide D H') r y) (sqL_inj_of p2) (by omega) (fun D i y H' H'' s' h => ?_) (fun D i v H' R hv hD hy s' r => ?_) (fun k ws H3 hk s3 hk3 hwl hP => ?_)
  · obtain ⟨r, e1, e2⟩ := h
    exact ⟨r, e1, e2.same (hide_sameB s')⟩
  · obtain ⟨ys, hy⟩ := hy
    have hir : i < rs.length := by rw [l1]; exact (List.getElem?_eq_some_iff.mp hv).1
    have hri := List.getElem?_eq_getElem hir
    walk_at "rd"
    refine ⟨v, rs[i], rfl, reads3 hok _ (List.getElem_mem hir), (u2.at_ i rs[i] v hri hv).same s', fun v' H'' s'' hrow => ?_⟩
    exact r v' H'' s'' ⟨rs[i], hri, hrow.hide (s'' _ _ hy)⟩
  have w3 : RowsAt H3 rs ws := ⟨by omega, fun i r u e1 e2 => by
    obtain ⟨r', e3, e4⟩ := hP i u e2
    rw [e1] at e3; cases e3
    exact e4.same (hide_same k H3)⟩
  have x3 := s3 _ _ x2
  have hkx : k ≠ x := fun z => by rw [z, x2] at hk; cases hk
  have hk0 : H k = none := by
    cases e : H k with
    | none => rfl
    | some o => have := b2 k o hkx e; rw [hk] at this; cases this
  walk_at "rd"
  refine ⟨x, _, dx, _, rfl, x3, T.i_Loop.cl, T.nK, (show 1 < 1000 by decide), ?_⟩
  have b4 : SameB x H (upd H3 x (.ins (CE .Loop) dx (putF (Str.ofString "kept") (.ref k) (putF (Str.ofString "measure") (.int m) [])))) := fun b u n e => by rw [upd_ne n]; exact s3 _ _ (b2 b u n e)
  have x4 : upd H3 x (.ins (CE .Loop) dx (putF (Str.ofString "kept") (.ref k) (putF (Str.ofString "measure") (.int m) []))) x = some (.ins (CE .Loop) dx (putF (Str.ofString "kept") (.ref k) (putF (Str.ofString "measure") (.int m) []))) := upd_same
  have w4 : RowsAt (upd H3 x (.ins (CE .Loop) dx (putF (Str.ofString "kept") (.ref k) (putF (Str.ofString "measure") (.int m) [])))) rs ws := w3.keep (TK.upd x3 (by intro xs z; cases z))
  have k4 : upd H3 x (.ins (CE .Loop) dx (putF (Str.ofString "kept") (.ref k) (putF (Str.ofString "measure") (.int m) []))) k = some (.lst ws) := by rw [upd_ne hkx]; exact hk3
  generalize upd H3 x (.ins (CE .Loop) dx (putF (Str.ofString "kept") (.ref k) (putF (Str.ofString "measure") (.int m) []))) = H4 at *
  dsimp only
  refine i_setFld ?_
  walk_at "rd"
  refine i_fld ?_
  walk_at "rd"
  refine ⟨x, _, dx, _, .ref k, rfl, x4, T.i_Loop.cl, T.nK, rfl, ?_⟩
  walk_at "rd"
  refine ⟨k, ws, rs, rfl, k4, w4, by omega, reads3 hok, fun d kvs H5 s5 hd5 hdep => ?_⟩
  walk_at "rd"
  refine ⟨x, _, dx, _, rfl, s5 _ _ x4, T.i_Loop.cl, T.nD, (show 2 < 1000 by decide), ?_⟩
  have x5 := s5 _ _ x4
  refine q k _ hk0 (fun b u n e => by rw [upd_ne n]; exact s5 _ _ (b4 b u n e)) ⟨dx, d, _, ws, kvs, upd_same, rfl, rfl, rfl, rfl, rfl, ?_, (w4.same s5).keep (TK.upd x5 (by intro xs z; cases z)), ?_, hdep⟩
  · rw [upd_ne hkx]; exact s5 _ _ k4
  · rw [upd_ne (ne_of hd5 x5 (by intro z; cases z))]; exact hd5
theorem name_inj {zs : List Str} (h : NamesOk zs) {i j : Nat} {z : Str} (hi : zs[i]? = some z) (hj : zs[j]? = some z) : i = j := by
  rcases Nat.lt_trichotomy i j with l | l | l
  · exact absurd (List.mem_iff_getElem?.mpr ⟨i, by rw [List.getElem?_take_of_lt l]; exact hi⟩) (nd_names h hj)
  · exact l
  · exact absurd (List.mem_iff_getElem?.mpr ⟨j, by rw [List.getElem?_take_of_lt l]; exact hj⟩) (nd_names h hi)
theorem deepR_le (z : Str) (acc : Int) (rd : Rd) : acc ≤ deepR z acc rd := by
  cases rd with
  | num i => exact Int.le_refl _
  | back y b =>
    show acc ≤ if y = z then max acc b else acc
    split <;> omega
theorem foldR_le (z : Str) : ∀ (l : List Rd) (acc : Int), acc ≤ l.foldl (deepR z) acc
  | [], acc => Int.le_refl _
  | rd :: l, acc => Int.le_trans (deepR_le z acc rd) (foldR_le z l _)
theorem foldR_mem {z : Str} {b : Int} : ∀ {l : List Rd} {acc : Int}, Rd.back z b ∈ l → b ≤ l.foldl (deepR z) acc
  | rd :: l, acc, h => by
    rcases List.mem_cons.mp h with e | h
    · refine Int.le_trans ?_ (foldR_le z l _)
      rw [← e]
      show b ≤ if z = z then max acc b else acc
      rw [if_pos rfl]; omega
    · exact foldR_mem (l := l) h
theorem foldRow_le (z : Str) : ∀ (l : List Row) (acc : Int), acc ≤ l.foldl (deepRow z) acc
  | [], acc => Int.le_refl _
  | r :: l, acc => Int.le_trans (foldR_le z r.reads acc) (foldRow_le z l _)
theorem foldRow_mem {z : Str} {b : Int} {r : Row} (hb : Rd.back z b ∈ r.reads) : ∀ {l : List Row} {acc : Int}, r ∈ l → b ≤ l.foldl (deepRow z) acc
  | q :: l, acc, h => by
    rcases List.mem_cons.mp h with e | h
    · refine Int.le_trans ?_ (foldRow_le z l _)
      rw [← e]; exact foldR_mem hb
    · exact foldRow_mem hb (l := l) h
theorem deep_mem {rs : List Row} {z : Str} {b : Int} {r : Row} (hr : r ∈ rs) (hb : Rd.back z b ∈ r.reads) : b ≤ deep rs z := foldRow_mem hb hr
theorem deep_nn (rs : List Row) (z : Str) : 0 ≤ deep rs z := foldRow_le z rs 0
theorem foldR_6 {z : Str} : ∀ {l : List Rd} {acc : Int}, acc ≤ 6 → (∀ rd ∈ l, ∀ y b, rd = Rd.back y b → b ≤ 6) → l.foldl (deepR z) acc ≤ 6
  | [], acc, h, _ => h
  | rd :: l, acc, h, hl => by
    refine foldR_6 (l := l) ?_ fun rd' h' => hl rd' (List.mem_cons_of_mem _ h')
    cases rd with
    | num i => exact h
    | back y b =>
      have := hl _ List.mem_cons_self y b rfl
      show (if y = z then max acc b else acc) ≤ 6
      split <;> omega
theorem foldRow_6 {z : Str} : ∀ {l : List Row} {acc : Int}, acc ≤ 6 → (∀ r ∈ l, ∀ rd ∈ r.reads, ∀ y b, rd = Rd.back y b → b ≤ 6) → l.foldl (deepRow z) acc ≤ 6
  | [], acc, h, _ => h
  | r :: l, acc, h, hl => foldRow_6 (l := l) (foldR_6 h (hl r List.mem_cons_self)) fun r' h' => hl r' (List.mem_cons_of_mem _ h')
theorem deep_6 {zs : List Str} {rs : List Row} (h : RowsOk zs rs) (z : Str) : deep rs z ≤ 6 := by
  refine foldRow_6 (by decide) fun r hr rd hrd y b e => ?_
  obtain ⟨i, hi⟩ := List.mem_iff_getElem?.mp hr
  have := (h.at_ i r hi).reads rd hrd
  rw [e] at this
  obtain ⟨_, _, _, h6, _⟩ := this
  exact h6
abbrev Ls := List (Str × List Int)
abbrev Md := Str → List Int
def look (l : Ls) (z : Str) : List Int := (l.lookup z).getD []
def getR (m : Int) (bl : Ls) (M : Md) (t : Nat) : Rd → Int
  | .num i => i
  | .back z b => if (t : Int) < b then (look bl z).getD (b - t - 1).toNat 0 % m else (M z).getD ((t : Int) - b).toNat 0
def gets (m : Int) (fl bl : Ls) (M : Md) (t : Nat) (r : Row) : List Int := if r.d = .take then [(look fl r.name).getD t 0] else r.reads.map (getR m bl M t)
def stepR (m : Int) (fl bl : Ls) (t : Nat) (M : Md) (r : Row) : Md := fun z => if z = r.name then M z ++ [r.d.of (gets m fl bl M t r) m] else M z
def turnR (m : Int) (fl bl : Ls) (rs : List Row) (M : Md) (t : Nat) : Md := rs.foldl (stepR m fl bl t) M
def runR (m : Int) (fl bl : Ls) (rs : List Row) (n : Nat) : Md := (List.range n).foldl (turnR m fl bl rs) fun _ => []
theorem runR_next (m : Int) (fl bl : Ls) (rs : List Row) (n : Nat) : runR m fl bl rs (n + 1) = turnR m fl bl rs (runR m fl bl rs n) n := by
  unfold runR
  rw [List.range_succ, List.foldl_append]; rfl
def RdGo (bl : Ls) (zs : List Str) (M : Md) (t : Nat) : Rd → Prop
  | .num _ => True
  | .back z b => z ∈ zs ∧ 0 ≤ b ∧ ((t : Int) < b → ∃ l, bl.lookup z = some l ∧ (b - t - 1).toNat < l.length) ∧ (b ≤ (t : Int) → ((t : Int) - b).toNat < (M z).length)
def RowGo (fl bl : Ls) (zs : List Str) (M : Md) (t : Nat) (r : Row) : Prop := (r.d = .take → ∃ l, fl.lookup r.name = some l ∧ t < l.length) ∧ ∀ rd ∈ r.reads, RdGo bl zs M t rd
def FeOk (rs : List Row) (fl : Ls) (n : Nat) : Prop := ∀ r ∈ rs, r.d = .take → 0 < n → ∃ l, fl.lookup r.name = some l ∧ n ≤ l.length
def BeOk (rs : List Row) (bl : Ls) : Prop := ∀ r ∈ rs, 0 < deep rs r.name → ∃ l, bl.lookup r.name = some l ∧ deep rs r.name ≤ l.length
structure Going (zs : List Str) (m : Int) (i t : Nat) (M : Md) : Prop where
  len : ∀ (j : Nat) z, zs[j]? = some z → (M z).length = if j < i then t + 1 else t
  bd : ∀ z x, x ∈ M z → 0 ≤ x ∧ x < m
theorem Going.at {zs : List Str} {m : Int} {i t : Nat} {M : Md} (g : Going zs m i t M) (h0 : 0 < m) (z : Str) (k : Nat) : 0 ≤ (M z).getD k 0 ∧ (M z).getD k 0 < m := by
  rw [List.getD]
  cases hk : (M z)[k]? with
  | none => exact ⟨Int.le_refl _, h0⟩
  | some x => exact g.bd z x (List.mem_of_getElem? hk)
theorem of_b (d : Dk) (ns : List Int) {m : Int} (h : 0 < m) : 0 ≤ d.of ns m ∧ d.of ns m < m := by
  cases d <;> simp only [Dk.of]
  all_goals first
    | exact mod_b _ h
    | (split <;> exact mod_b _ h)
theorem Going.go {zs : List Str} {rs : List Row} {m : Int} {fl bl : Ls} {n i t : Nat} {M : Md} {r : Row} (g : Going zs m i t M) (hok : RowsOk zs rs) (hr : rs[i]? = some r) (hf : FeOk rs fl n) (hb : BeOk rs bl) (ht : t < n) : RowGo fl bl zs M t r := by
  have hm : r ∈ rs := List.mem_iff_getElem?.mpr ⟨i, hr⟩
  refine ⟨fun e => ?_, fun rd hrd => ?_⟩
  · obtain ⟨l, h1, h2⟩ := hf r hm e (by omega)
    exact ⟨l, h1, by omega⟩
  · have ok := (hok.at_ i r hr).reads rd hrd
    cases rd with
    | num _ => trivial
    | back z b =>
      obtain ⟨j, hj, b0, b6, bk⟩ := ok
      refine ⟨List.mem_iff_getElem?.mpr ⟨j, hj⟩, b0, fun hlt => ?_, fun hle => ?_⟩
      · have hd := deep_mem hm hrd
        have hjl : j < rs.length := by rw [hok.len]; exact (List.getElem?_eq_some_iff.mp hj).1
        have hrj := List.getElem?_eq_getElem hjl
        have hn := (hok.at_ j rs[j] hrj).name
        rw [hj] at hn
        have hn' : z = rs[j].name := Option.some.inj hn
        obtain ⟨l, h1, h2⟩ := hb rs[j] (List.getElem_mem hjl) (by rw [← hn']; omega)
        rw [← hn'] at h1 h2
        exact ⟨l, h1, by omega⟩
      · rw [g.len j z hj]
        by_cases h0 : b = 0
        · rw [if_pos (bk h0)]; omega
        · split <;> omega
theorem Going.step {zs : List Str} {rs : List Row} {m : Int} {fl bl : Ls} {i t : Nat} {M : Md} {r : Row} (g : Going zs m i t M) (hok : RowsOk zs rs) (hr : rs[i]? = some r) (h0 : 0 < m) : Going zs m (i + 1) t (stepR m fl bl t M r) := by
  have hn := (hok.at_ i r hr).name
  refine ⟨fun j z hj => ?_, fun z x hx => ?_⟩
  · show (if z = r.name then M z ++ [r.d.of (gets m fl bl M t r) m] else M z).length = _
    by_cases hz : z = r.name
    · have hji : j = i := name_inj hok.names hj (by rw [hz]; exact hn)
      rw [if_pos hz, List.length_append, g.len j z hj, if_neg (by omega), if_pos (by omega)]; rfl
    · have hji : j ≠ i := fun e => hz (by rw [e, hn] at hj; exact (Option.some.inj hj).symm)
      rw [if_neg hz, g.len j z hj]
      by_cases hlt : j < i
      · rw [if_pos hlt, if_pos (by omega)]
      · rw [if_neg hlt, if_neg (by omega)]
  · have hx' : x ∈ (if z = r.name then M z ++ [r.d.of (gets m fl bl M t r) m] else M z) := hx
    by_cases hz : z = r.name
    · rw [if_pos hz] at hx'
      rcases List.mem_append.mp hx' with h | h
      · exact g.bd z x h
      · rw [show x = r.d.of (gets m fl bl M t r) m by simpa using h]; exact of_b _ _ h0
    · rw [if_neg hz] at hx'; exact g.bd z x hx'
theorem Going.take {zs : List Str} {rs : List Row} {m : Int} {fl bl : Ls} {t : Nat} {M : Md} (g : Going zs m 0 t M) (hok : RowsOk zs rs) (h0 : 0 < m) : ∀ i, i ≤ rs.length → Going zs m i t ((rs.take i).foldl (stepR m fl bl t) M)
  | 0, _ => by simpa using g
  | i + 1, h => by
    have hr := List.getElem?_eq_getElem (show i < rs.length by omega)
    rw [fold_next (stepR m fl bl t) M hr]
    exact (Going.take g hok h0 i (by omega)).step hok hr h0
theorem Going.turn {zs : List Str} {rs : List Row} {m : Int} {fl bl : Ls} {t : Nat} {M : Md} (g : Going zs m 0 t M) (hok : RowsOk zs rs) (h0 : 0 < m) : Going zs m 0 (t + 1) (turnR m fl bl rs M t) := by
  have h := Going.take (fl := fl) (bl := bl) g hok h0 rs.length (Nat.le_refl _)
  rw [List.take_length] at h
  refine ⟨fun j z hj => ?_, h.bd⟩
  have hl : j < rs.length := by rw [hok.len]; exact (List.getElem?_eq_some_iff.mp hj).1
  have := h.len j z hj
  rw [if_pos hl] at this
  rw [if_neg (by omega)]; exact this
theorem Going.run {zs : List Str} {rs : List Row} {m : Int} (fl bl : Ls) (hok : RowsOk zs rs) (h0 : 0 < m) : ∀ n, Going zs m 0 n (runR m fl bl rs n)
  | 0 => ⟨fun j z hj => by rw [if_neg (by omega)]; rfl, fun z x hx => by simp [runR] at hx⟩
  | n + 1 => by rw [runR_next]; exact (Going.run fl bl hok h0 n).turn hok h0
theorem getR_b {zs : List Str} {m : Int} {bl : Ls} {i t : Nat} {M : Md} {k : Nat} {rd : Rd} (g : Going zs m i t M) (h0 : 0 < m) (h60 : m ≤ 10 ^ 60) (ok : RdOk zs k rd) : 0 ≤ getR m bl M t rd ∧ getR m bl M t rd < 10 ^ 60 := by
  cases rd with
  | num v => exact ok
  | back z b =>
    show 0 ≤ (if (t : Int) < b then _ else _) ∧ (if (t : Int) < b then _ else _) < (10 : Int) ^ 60
    split
    · have := mod_b ((look bl z).getD (b - t - 1).toNat 0) h0
      omega
    · have := g.at h0 z ((t : Int) - b).toNat
      omega
theorem gets_b {zs : List Str} {m : Int} {fl bl : Ls} {i t k : Nat} {M : Md} {r : Row} (g : Going zs m i t M) (h0 : 0 < m) (h60 : m ≤ 10 ^ 60) (ok : RowOk zs k r) (hd : r.d ≠ .take) (j : Nat) : 0 ≤ (gets m fl bl M t r).getD j 0 ∧ (gets m fl bl M t r).getD j 0 < 10 ^ 60 := by
  unfold gets
  rw [if_neg hd, List.getD, List.getElem?_map]
  cases hj : r.reads[j]? with
  | none => exact ⟨Int.le_refl _, by show (0 : Int) < 10 ^ 60; decide⟩
  | some rd => exact getR_b g h0 h60 (ok.reads rd (List.mem_of_getElem? hj))
theorem gets_len {zs : List Str} {m : Int} {fl bl : Ls} {t k : Nat} {M : Md} {r : Row} (ok : RowOk zs k r) : r.d.need ≤ (gets m fl bl M t r).length := by
  unfold gets
  by_cases hd : r.d = .take
  · rw [if_pos hd, hd]; exact Nat.le_refl _
  · rw [if_neg hd, List.length_map, ok.many]
    revert hd
    cases r.d <;> intro hd <;> first | exact Nat.le_refl _ | exact absurd rfl hd
def endV (m : Int) (bl : Ls) (M : Md) (n : Nat) (z : Str) (k : Nat) : Int := if n < k + 1 then (look bl z).getD (k - n) 0 % m else (M z).getD (n - 1 - k) 0
def endsOf (m : Int) (bl : Ls) (rs : List Row) (M : Md) (n : Nat) (z : Str) : List Int := (List.range (deep rs z).toNat).map (endV m bl M n z)
def LiAt (H : Hp) (a : Str × List Int) (b : Key × V) : Prop := b.1 = Sum.inr a.1 ∧ ∃ p, b.2 = .ref p ∧ H p = some (.lst (List.map V.int a.2))
def LsAt (H : Hp) (d : Addr) (ls : Ls) : Prop := ∃ kvs, H d = some (.dK kvs) ∧ (ls.map (·.1)).Nodup ∧ Paired (LiAt H) ls kvs
theorem LiAt.same {H H' : Hp} (s : Same H H') {a : Str × List Int} {b : Key × V} (h : LiAt H a b) : LiAt H' a b := by
  obtain ⟨e, p, e2, hp⟩ := h
  exact ⟨e, p, e2, s _ _ hp⟩
theorem LsAt.same {H H' : Hp} {d : Addr} {ls : Ls} (s : Same H H') (h : LsAt H d ls) : LsAt H' d ls := by
  obtain ⟨kvs, e, n, r⟩ := h
  exact ⟨kvs, s _ _ e, n, Paired.mapP r fun a b z => z.same s⟩
theorem paired_none {H : Hp} : ∀ {ls : Ls} {kvs : List (Key × V)}, Paired (LiAt H) ls kvs → ∀ {z : Str}, ls.lookup z = none → valV kvs (Sum.inr z) = none := by
  intro ls kvs h
  induction h with
  | nil => intro z _; exact valV_nil
  | @cons a b l1 l2 h _ ih =>
    intro z e
    obtain ⟨e1, p, ep, hp⟩ := h
    obtain ⟨a1, a2⟩ := a
    rw [List.lookup_cons] at e
    cases hz : z == a1 with
    | true => rw [hz] at e; cases e
    | false =>
      rw [hz] at e
      have hz' : ¬ z = a1 := by simpa using hz
      rw [valV_neg (by rw [e1]; exact fun q => hz' (Sum.inr.inj q).symm)]
      exact ih e
theorem paired_some {H : Hp} : ∀ {ls : Ls} {kvs : List (Key × V)}, Paired (LiAt H) ls kvs → ∀ {z : Str} {l : List Int}, ls.lookup z = some l → ∃ p, valV kvs (Sum.inr z) = some (.ref p) ∧ H p = some (.lst (List.map V.int l)) := by
  intro ls kvs h
  induction h with
  | nil => intro z l e; simp at e
  | @cons a b l1 l2 h _ ih =>
    intro z l e
    obtain ⟨e1, p, ep, hp⟩ := h
    obtain ⟨a1, a2⟩ := a
    rw [List.lookup_cons] at e
    cases hz : z == a1 with
    | true =>
      rw [hz] at e
      have hz' : z = a1 := by simpa using hz
      have e' : a2 = l := Option.some.inj e
      exact ⟨p, by rw [valV_pos (by rw [e1, hz']), ep], by rw [← e']; exact hp⟩
    | false =>
      rw [hz] at e
      have hz' : ¬ z = a1 := by simpa using hz
      obtain ⟨q, h1, h2⟩ := ih e
      exact ⟨q, by rw [valV_neg (by rw [e1]; exact fun q => hz' (Sum.inr.inj q).symm)]; exact h1, h2⟩
theorem LsAt.isD {H : Hp} {d : Addr} {ls : Ls} (h : LsAt H d ls) : IsD H d := by
  obtain ⟨kvs, e, _⟩ := h
  exact .inl ⟨kvs, .inl e⟩
theorem LsAt.get {H : Hp} {d : Addr} {ls : Ls} {z : Str} {l : List Int} (h : LsAt H d ls) (e : ls.lookup z = some l) : ∃ p, DGet H d (.str z) (some (.ref p)) ∧ H p = some (.lst (List.map V.int l)) := by
  obtain ⟨kvs, hd, _, r⟩ := h
  obtain ⟨p, h1, h2⟩ := paired_some r e
  refine ⟨p, ?_, h2⟩
  rw [← h1]; exact DGet.k (k := Sum.inr z) hd
theorem LsAt.getN {H : Hp} {d : Addr} {ls : Ls} {z : Str} (h : LsAt H d ls) (e : ls.lookup z = none) : DGet H d (.str z) none := by
  obtain ⟨kvs, hd, _, r⟩ := h
  rw [← paired_none r e]; exact DGet.k (k := Sum.inr z) hd
theorem look_none : ∀ {ls : Ls} {z : Str}, ¬ z ∈ ls.map (·.1) → ls.lookup z = none
  | [], _, _ => rfl
  | (a, b) :: ls, z, h => by
    have h1 : ¬ z = a := fun e => h (by rw [e]; exact List.mem_cons_self)
    rw [List.lookup_cons, show (z == a) = false by simpa using h1]
    exact look_none fun q => h (List.mem_cons_of_mem _ q)
theorem look_mem : ∀ {ls : Ls} {z : Str}, z ∈ ls.map (·.1) → ∃ l, ls.lookup z = some l ∧ (z, l) ∈ ls
  | [], _, h => by simp at h
  | (a, b) :: ls, z, h => by
    rw [List.lookup_cons]
    cases hz : z == a with
    | true =>
      have hz' : z = a := by simpa using hz
      exact ⟨b, rfl, by rw [hz']; exact List.mem_cons_self⟩
    | false =>
      have hz' : ¬ z = a := by simpa using hz
      have h1 : z ∈ ls.map (·.1) := by
        rcases List.mem_cons.mp (show z ∈ a :: ls.map (·.1) from h) with e | e
        · exact absurd e hz'
        · exact e
      obtain ⟨l, e1, e2⟩ := look_mem h1
      exact ⟨l, e1, List.mem_cons_of_mem _ e2⟩
theorem Paired.len' {α β : Type} {F : α → β → Prop} : ∀ {l : List α} {r : List β}, Paired F l r → l.length = r.length
  | _, _, .nil => rfl
  | _, _, .cons _ t => by rw [List.length_cons, List.length_cons, Paired.len' t]
theorem LsAt.add {H : Hp} {d p : Addr} {ls : Ls} {z : Str} {l : List Int} (h : LsAt H d ls) (hz : ¬ z ∈ ls.map (·.1)) (hp : H p = some (.lst (List.map V.int l))) (hl : ls.length < 1000) :
    ∃ H', DPut H d (.str z) (.ref p) H' ∧ SameB d H H' ∧ LsAt H' d (ls ++ [(z, l)]) := by
  obtain ⟨kvs, hd, n, r⟩ := h
  have hv := paired_none r (look_none hz)
  have lb := line_big
  have hlen := Paired.len' r
  refine ⟨_, DPut.k (k := Sum.inr z) hd (by omega), fun b u nb e => by rw [upd_ne nb]; exact e, kvs ++ [(Sum.inr z, .ref p)], ?_, ?_, ?_⟩
  · rw [upd_same, putK_new (.ref p) hv]
  · rw [List.map_append]; exact nd_snoc n hz
  · have hk : ∀ (q : Addr) (xs : List V), H q = some (.lst xs) → upd H d (.dK (putK kvs (Sum.inr z) (.ref p))) q = some (.lst xs) := fun q xs e => by
      rw [upd_ne (ne_of e hd (by intro z; cases z))]; exact e
    refine Paired.snoc (Paired.mapP r fun a b z => ?_) ⟨rfl, p, rfl, hk _ _ hp⟩
    obtain ⟨e1, q, e2, e3⟩ := z
    exact ⟨e1, q, e2, hk _ _ e3⟩
theorem LsAt.upd {H : Hp} {d b : Addr} {ls : Ls} {o u : HO} (h : LsAt H d ls) (hb : H b = some u) (n1 : ∀ kvs, u ≠ .dK kvs) (n2 : ∀ xs, u ≠ .lst xs) : LsAt (L2.upd H b o) d ls := by
  obtain ⟨kvs, hd, n, r⟩ := h
  refine ⟨kvs, ?_, n, Paired.mapP r fun a c z => ?_⟩
  · rw [upd_ne (ne_of hd hb (fun z => n1 _ z.symm))]; exact hd
  · obtain ⟨e1, q, e2, e3⟩ := z
    exact ⟨e1, q, e2, by rw [upd_ne (ne_of e3 hb (fun z => n2 _ z.symm))]; exact e3⟩
structure MadeAt (H : Hp) (d : Addr) (A : Str → Addr) (zs : List Str) (M : Md) : Prop where
  ex : ∃ kvs, H d = some (.dK kvs) ∧ kvs.length ≤ zs.length ∧ ∀ z ∈ zs, valV kvs (Sum.inr z) = some (.ref (A z))
  at_ : ∀ z ∈ zs, H (A z) = some (.lst (List.map V.int (M z)))
  inj : ∀ y ∈ zs, ∀ z ∈ zs, A y = A z → y = z
theorem MadeAt.same {H H' : Hp} {d : Addr} {A : Str → Addr} {zs : List Str} {M : Md} (s : Same H H') (h : MadeAt H d A zs M) : MadeAt H' d A zs M := by
  obtain ⟨kvs, e, l, v⟩ := h.ex
  exact ⟨⟨kvs, s _ _ e, l, v⟩, fun z hz => s _ _ (h.at_ z hz), h.inj⟩
theorem MadeAt.get {H : Hp} {d : Addr} {A : Str → Addr} {zs : List Str} {M : Md} {z : Str} (h : MadeAt H d A zs M) (hz : z ∈ zs) : DGet H d (.str z) (some (.ref (A z))) := by
  obtain ⟨kvs, e, l, v⟩ := h.ex
  rw [← v z hz]; exact DGet.k (k := Sum.inr z) e
theorem MadeAt.app {H : Hp} {d : Addr} {A : Str → Addr} {zs : List Str} {M M' : Md} {z : Str} {x : Int} (h : MadeAt H d A zs M) (hz : z ∈ zs) (hM : ∀ y, M' y = if y = z then M y ++ [x] else M y) : MadeAt (upd H (A z) (.lst (List.map V.int (M z) ++ [.int x]))) d A zs M' := by
  obtain ⟨kvs, e, l, v⟩ := h.ex
  refine ⟨⟨kvs, by rw [upd_ne (ne_of e (h.at_ z hz) (by intro z; cases z))]; exact e, l, v⟩, fun y hy => ?_, h.inj⟩
  by_cases hyz : y = z
  · subst hyz
    rw [upd_same, hM y, if_pos rfl, List.map_append]; rfl
  · rw [upd_ne (fun q => hyz (h.inj y hy z hz q)), hM y, if_neg hyz]; exact h.at_ y hy
theorem MadeAt.grow {H H1 : Hp} {d p : Addr} {A : Str → Addr} {zs : List Str} {i : Nat} {z : Str} (h : MadeAt H d A (zs.take i) fun _ => []) (hz : zs[i]? = some z) (nz : ¬ z ∈ zs.take i) (hl : zs.length ≤ 12) (hN : New H p (.lst []) H1) :
    ∃ H', DPut H1 d (.str z) (.ref p) H' ∧ SameB d H H' ∧ MadeAt H' d (fun y => if y = z then p else A y) (zs.take (i + 1)) fun _ => [] := by
  obtain ⟨kvs, e, l, v⟩ := h.ex
  have lb := line_big
  have hi : i < zs.length := (List.getElem?_eq_some_iff.mp hz).1
  rw [List.length_take] at l
  have e1 := hN.same _ _ e
  have hdp : d ≠ p := ne_of_none e hN.free
  have ht : zs.take (i + 1) = zs.take i ++ [z] := by rw [List.take_add_one, hz]; rfl
  refine ⟨_, DPut.k (k := Sum.inr z) e1 (by omega), fun b u nb q => by rw [upd_ne nb]; exact hN.same _ _ q, ⟨⟨_, upd_same, ?_, fun y hy => ?_⟩, fun y hy => ?_, fun y hy w hw q => ?_⟩⟩
  · have := length_putK kvs (Sum.inr z : Key) (.ref p)
    rw [List.length_take]; omega
  · rw [valV_put]
    by_cases hyz : y = z
    · rw [if_pos (by rw [hyz]), if_pos hyz]
    · rw [if_neg (fun q => hyz (Sum.inr.inj q)), if_neg hyz]
      refine v y ?_
      rw [ht] at hy
      rcases List.mem_append.mp hy with q | q
      · exact q
      · exact absurd (by simpa using q) hyz
  · by_cases hyz : y = z
    · rw [if_pos hyz, upd_ne (Ne.symm hdp)]; exact hN.at
    · rw [if_neg hyz]
      have hy' : y ∈ zs.take i := by
        rw [ht] at hy
        rcases List.mem_append.mp hy with q | q
        · exact q
        · exact absurd (by simpa using q) hyz
      have := hN.same _ _ (h.at_ y hy')
      rw [upd_ne (ne_of this e1 (by intro z; cases z))]; exact this
  · have hmem : ∀ y ∈ zs.take (i + 1), ¬ y = z → y ∈ zs.take i := fun y hy n => by
      rw [ht] at hy
      rcases List.mem_append.mp hy with q | q
      · exact q
      · exact absurd (by simpa using q) n
    by_cases hyz : y = z
    · by_cases hwz : w = z
      · rw [hyz, hwz]
      · rw [if_pos hyz, if_neg hwz] at q
        have := h.at_ w (hmem w hw hwz)
        rw [← q, hN.free] at this; cases this
    · by_cases hwz : w = z
      · rw [if_neg hyz, if_pos hwz] at q
        have := h.at_ y (hmem y hy hyz)
        rw [q, hN.free] at this; cases this
      · rw [if_neg hyz, if_neg hwz] at q
        exact h.inj y (hmem y hy hyz) w (hmem w hw hwz) q
def PrAt1 (S : Addr → Prop) (H : Hp) (a : Str × List Int) (u : V) : Prop := ∃ t p, u = .ref t ∧ H t = some (.tup [.str a.1, .ref p]) ∧ H p = some (.lst (List.map V.int a.2)) ∧ S p
structure PrAt (S : Addr → Prop) (H : Hp) (ps : Ls) (us : List V) : Prop where
  len : ps.length = us.length
  at_ : ∀ (i : Nat) a u, ps[i]? = some a → us[i]? = some u → PrAt1 S H a u
theorem PrAt.same {S : Addr → Prop} {H H' : Hp} {ps : Ls} {us : List V} (s : Same H H') (h : PrAt S H ps us) : PrAt S H' ps us := ⟨h.len, fun i a u e1 e2 => by
  obtain ⟨t, p, e, h1, h2, h3⟩ := h.at_ i a u e1 e2
  exact ⟨t, p, e, s _ _ h1, s _ _ h2, h3⟩⟩
theorem cut_ints (ns : List Int) (a b : Option Int) : ∃ ks : List Int, cutV (List.map V.int ns) a b = List.map V.int ks := by
  unfold cutV
  rw [List.length_map]
  exact ⟨_, by rw [← List.map_drop, ← List.map_take]⟩
def spGiven (K : PySem.W.Frag) : Sp := fun vs H Q _ => ∃ (a : Addr) (ns : List Int) (at' most : Nat), vs = [.ref a, .int (at' : Int), .int (most : Int)] ∧ SqL K H a (ns.map V.int) ∧ at' ≤ 100 ∧ most ≤ 400 ∧
  ∀ p H2 (l : List Int), Same H H2 → H p = none → H2 p = some (.lst (List.map V.int l)) → l.length = most → Q (.ref p) H2
theorem d_given (T : Txt K mg C CE) (Kb : K.In base) (G : base.Ns mainGlobals mg) : Df P w K mg base 1 "_law_given" ["_law_script", "_law_at", "_law_most"] (spGiven K) := by
  refine T.f_given.df Kb G sc_law_given (fun _ _ _ _ _ _ us hl => match us, hl with | [_, _, _], _ => rfl) (by rintro vs H Q E ⟨a, ns, at', most, rfl, _⟩; rfl) (fun f cdv A outer s H vs Q E hr h => ?_)
  obtain ⟨a, ns, at', most, rfl, hS, hat, hmo, q⟩ := h
  refine ⟨_, (pss_cons (ps_set (i := 3) sc_law_given.nd rfl (by first | exact Or.inl rfl | exact Or.inr rfl) (pe_lstA pa_nil))
    (pss_cons (ps_for PassesOwn.never rfl (pi_enum rfl T.nenumerate (pa_cons (pe_slice sl_listA (pv 0) (po_some (pv 1)) (po_some pe_int)) pa_nil (se rfl))) (pg_tup rfl (pgs_cons (pg_name (i := 4) sc_law_given.nd rfl (by first | exact Or.inl rfl | exact Or.inr rfl)) (pgs_cons (pg_name (i := 5) sc_law_given.nd rfl (by first | exact Or.inl rfl | exact Or.inr rfl)) pgs_nil)))
      (pss_cons (ps_set (i := 6) sc_law_given.nd rfl (by first | exact Or.inl rfl | exact Or.inr rfl) (pe_op op_mod (pv 5) (pe_op op_pow pe_int pe_int)))
    (pss_cons (ps_join (ps_if (pt_cmpR op_eq (pe_op op_mod (pe_op op_fdiv (pv 5) pe_int) pe_int) pe_int (nomark _)) (pss_one (ps_set (i := 6) sc_law_given.nd rfl (by first | exact Or.inl rfl | exact Or.inr rfl) (pe_un un_neg (pv 6)))) pss_nil))
    (pss_one (ps_if (pt_cmpR op_lt (pe_callB call_len_seq rfl T.nlen PySem.boot_len (pa_cons (pv 3) pa_nil (se rfl)) (he := se rfl) (hpl := nst rfl)) (pv 2) (nomark _)) (pss_one (ps_expr (pe_bm PySem.F.plainAttrs_list PySem.F.slot_list_append PySem.F.type_list_append mt_append (pv 3) (pa_cons (pv 6) pa_nil (se rfl)) (hs := se rfl) (hplain := nst rfl)))) pss_nil)))))
    (pss_cons (ps_for PassesOwn.never rfl (pi_range2 rfl T.nrange (pa_cons (pe_callB call_len_seq rfl T.nlen PySem.boot_len (pa_cons (pv 3) pa_nil (se rfl)) (he := se rfl) (hpl := nst rfl)) (pa_cons (pv 2) pa_nil (se rfl)) (se rfl))) (pg_name (i := 4) sc_law_given.nd rfl (by first | exact Or.inl rfl | exact Or.inr rfl))
      (pss_one (ps_expr (pe_bm PySem.F.plainAttrs_list PySem.F.slot_list_append PySem.F.type_list_append mt_append (pv 3) (pa_cons (pe_op op_add (pe_op op_mulO (pv 4) (pv 1)) (pv 2)) pa_nil (se rfl)) (hs := se rfl) (hplain := nst rfl)))))
    (pss_one (ps_ret (pv 3)))))), ?_⟩
  have lb := line_big
  walk_at "rd"
  refine ⟨by show 0 ≤ sizeLine; exact Nat.zero_le _, fun D H1 hN1 => ?_⟩
  walk_at "rd"
  refine i_for (i_enumI ?_)
  walk_at "rd"
  refine i_slLA (hN1.same.seq hS) fun sp H2 hN2 => ?_
  walk_at "rd"
  obtain ⟨ks, hks⟩ := cut_ints ns (some (at' : Int)) (some 63)
  rw [hks] at hN2
  have hDn : H D = none := hN1.free
  have hDsp : D ≠ sp := ne_of_none hN1.at hN2.free
  refine ⟨sp, rfl, ⟨_, hN2.lst⟩, ?_⟩
  refine for_enum (xs := List.map V.int ks) (fun i σ H' => Same H H' ∧ H' sp = some (.lst (List.map V.int ks)) ∧ ∃ (l : List Int) (x4 x5 x6 : Option V), σ = [some (.ref a), some (.int (at' : Int)), some (.int (most : Int)), some (.ref D), x4, x5, x6] ∧ H' D = some (.lst (List.map V.int l)) ∧ l.length ≤ most)
    ⟨hN1.same.trans hN2.same, hN2.at, [], none, none, none, rfl, hN2.same _ _ hN1.at, Nat.zero_le _⟩ (fun i σ H' _ h => sqL_inj_of h.2.1) ?_ ?_
  · rintro i u t σ H3 H4 hui ⟨s3, hsp, l, x4, x5, x6, rfl, hD, hll⟩ hN4
    rw [List.getElem?_map] at hui
    obtain ⟨c, hci, rfl⟩ : ∃ c, ks[i]? = some c ∧ V.int c = u := by
      cases hci : ks[i]? with
      | none => rw [hci] at hui; cases hui
      | some c => rw [hci] at hui; exact ⟨c, rfl, Option.some.inj hui⟩
    refine i_gtup hN4.tup rfl ?_
    walk_at "rd"
    refine i_join (fun σ' H' => H' = H4 ∧ ∃ v : Int, σ' = [some (.ref a), some (.int (at' : Int)), some (.int (most : Int)), some (.ref D), some (.int (i : Int)), some (.int c), some (.int v)]) ?_ ?_
    · walk_at "rd"
      refine i_iteI (fun _ => ?_) (fun _ => ?_)
      · walk_at "rd"
        exact ⟨rfl, _, rfl⟩
      · walk_at "rd"
        exact ⟨rfl, _, rfl⟩
    rintro σ' H' ⟨rfl, v, rfl⟩
    have hD4 := hN4.same _ _ hD
    have hsp4 := hN4.same _ _ hsp
    have s4 := s3.trans hN4.same
    walk_at "rd"
    refine ⟨_, _, rfl, .inl (sqL_inj_of hD4), ?_⟩
    walk_at "rd"
    refine i_iteD (fun hlt => ?_) (fun hlt => ?_)
    · walk_at "rd"
      refine ⟨.inl ⟨rfl, _, sqL_inj_of hD4⟩, ?_⟩
      walk_at "rd"
      rw [List.length_map] at hlt
      refine i_append hD4 (by rw [List.length_map]; omega) ?_
      refine ⟨fun b o e => ?_, ?_, l ++ [v], _, _, _, rfl, by rw [upd_same, List.map_append]; rfl, by rw [List.length_append, List.length_singleton]; omega⟩
      · rw [upd_ne (ne_of_none e hDn)]; exact s4 _ _ e
      · rw [upd_ne (Ne.symm hDsp)]; exact hsp4
    · walk_at "rd"
      exact ⟨s4, hsp4, l, _, _, _, rfl, hD4, hll⟩
  · rintro σ H3 ⟨s3, hsp, l, x4, x5, x6, rfl, hD, hll⟩
    dsimp only
    refine i_for (i_rng2 ?_)
    walk_at "rd"
    refine ⟨_, _, rfl, .inl (sqL_inj_of hD), ?_⟩
    walk_at "rd"
    rw [List.length_map]
    refine ⟨_, _, rfl, ⟨by omega, by omega, by omega, by omega⟩, ?_⟩
    refine for_range (lo := (l.length : Int)) (n := ((most : Int) - (l.length : Int)).toNat) (fun i σ H' => Same H H' ∧ ∃ (l' : List Int) (x4 x5 x6 : Option V), σ = [some (.ref a), some (.int (at' : Int)), some (.int (most : Int)), some (.ref D), x4, x5, x6] ∧ H' D = some (.lst (List.map V.int l')) ∧ l'.length = l.length + i)
      ⟨s3, l, _, _, _, rfl, hD, rfl⟩ ?_ ?_
    · rintro i σ H4 hi ⟨s4, l', y4, y5, y6, rfl, hD4, hl'⟩
      walk_at "rd"
      refine ⟨.inl ⟨rfl, _, sqL_inj_of hD4⟩, ?_⟩
      walk_at "rd"
      refine i_mul (ok_of 64 64 (by omega) (by omega) (by omega) (by omega) (by decide)) ?_
      walk_at "rd"
      refine i_append hD4 (by rw [List.length_map]; omega) ?_
      refine ⟨fun b o e => ?_, l' ++ [_], _, _, _, rfl, by rw [upd_same, List.map_append]; rfl, by rw [List.length_append, List.length_singleton]; omega⟩
      rw [upd_ne (ne_of_none e hDn)]; exact s4 _ _ e
    · rintro σ H4 ⟨s4, l', y4, y5, y6, rfl, hD4, hl'⟩
      walk_at "rd"
      exact q D H4 l' s4 hDn hD4 (by omega)
theorem word_ne {d e : Dk} (h : ¬ d = e) : ¬ d.word = e.word := by
  revert h
  cases d <;> cases e <;> intro h <;> first | exact absurd rfl h | decide +kernel
theorem nm_not {zs : List Str} {rs : List Row} (h : RowsOk zs rs) {i : Nat} {r : Row} (hr : rs[i]? = some r) (q : Row → Bool) : ¬ r.name ∈ ((rs.take i).filter q).map (·.name) := fun hm => by
  obtain ⟨r', hr', e⟩ := List.mem_map.mp hm
  obtain ⟨j, hj⟩ := List.mem_iff_getElem?.mp (List.mem_filter.mp hr').1
  have hji : j < i := by
    have := (List.getElem?_eq_some_iff.mp hj).1
    rw [List.length_take] at this; omega
  rw [List.getElem?_take_of_lt hji] at hj
  have h1 := (h.at_ j r' hj).name
  have h2 := (h.at_ i r hr).name
  rw [e] at h1
  have := name_inj h.names h1 h2
  omega
theorem filt_next {rs : List Row} {i : Nat} {r : Row} (hr : rs[i]? = some r) (q : Row → Bool) : ((rs.take (i + 1)).filter q).map (·.name) = ((rs.take i).filter q).map (·.name) ++ if q r = true then [r.name] else [] := by
  rw [List.take_add_one, hr, Option.toList_some, List.filter_append, List.map_append]
  cases hq : q r <;> simp [hq]
structure FedAt (H : Hp) (d : Addr) (rs : List Row) (q : Row → Bool) (n : Str → Int) (ls : Ls) : Prop where
  at_ : LsAt H d ls
  keys : ls.map (·.1) = (rs.filter q).map (·.name)
  lens : ∀ a ∈ ls, n a.1 ≤ (a.2.length : Int)
theorem FedAt.len {H : Hp} {d : Addr} {rs : List Row} {q : Row → Bool} {n : Str → Int} {ls : Ls} (h : FedAt H d rs q n ls) : ls.length ≤ rs.length := by
  have e : (ls.map (·.1)).length = ((rs.filter q).map (·.name)).length := by rw [h.keys]
  rw [List.length_map, List.length_map] at e
  have := List.length_filter_le q rs
  omega
theorem FedAt.next {H H3 : Hp} {d p : Addr} {rs : List Row} {q : Row → Bool} {n : Str → Int} {ls : Ls} {zs : List Str} {i : Nat} {r : Row} {l : List Int} (h : FedAt H d (rs.take i) q n ls) (s : Same H H3) (hok : RowsOk zs rs) (hr : rs[i]? = some r) (hq : q r = true)
    (hp : H3 p = some (.lst (List.map V.int l))) (hl : n r.name ≤ (l.length : Int)) : ∃ H', DPut H3 d (.str r.name) (.ref p) H' ∧ SameB d H3 H' ∧ FedAt H' d (rs.take (i + 1)) q n (ls ++ [(r.name, l)]) := by
  have hlen := h.len
  have h12 := hok.names.1
  have hrl := hok.len
  rw [List.length_take] at hlen
  obtain ⟨H', a, b, c⟩ := (h.at_.same s).add (z := r.name) (p := p) (l := l) (by rw [h.keys]; exact nm_not hok hr q) hp (by omega)
  refine ⟨H', a, b, c, ?_, fun x hx => ?_⟩
  · rw [List.map_append, h.keys, filt_next hr q, if_pos hq]; rfl
  · rcases List.mem_append.mp hx with z | z
    · exact h.lens x z
    · rw [show x = (r.name, l) by simpa using z]; exact hl
theorem FedAt.skip {H : Hp} {d : Addr} {rs : List Row} {q : Row → Bool} {n : Str → Int} {ls : Ls} {i : Nat} {r : Row} (h : FedAt H d (rs.take i) q n ls) (hr : rs[i]? = some r) (hq : q r = false) : FedAt H d (rs.take (i + 1)) q n ls :=
  ⟨h.at_, by rw [h.keys, filt_next hr q, hq]; simp, h.lens⟩
theorem FedAt.look {H : Hp} {d : Addr} {rs : List Row} {q : Row → Bool} {n : Str → Int} {ls : Ls} (h : FedAt H d rs q n ls) {r : Row} (hr : r ∈ rs) (hq : q r = true) : ∃ l, ls.lookup r.name = some l ∧ n r.name ≤ (l.length : Int) := by
  obtain ⟨l, e1, e2⟩ := look_mem (ls := ls) (z := r.name) (by rw [h.keys]; exact List.mem_map.mpr ⟨r, List.mem_filter.mpr ⟨hr, hq⟩, rfl⟩)
  exact ⟨l, e1, h.lens _ e2⟩
def isTake (r : Row) : Bool := decide (r.d = .take)
def isDeep (rs : List Row) (r : Row) : Bool := decide (0 < deep rs r.name)
def spFeeds (K : PySem.W.Frag) : Sp := fun vs H Q _ => ∃ (a p : Addr) (ns : List Int) (us : List V) (zs : List Str) (rs : List Row) (n : Nat), vs = [.ref a, .ref p, .int (n : Int)] ∧ SqL K H a (ns.map V.int) ∧ H p = some (.lst us) ∧ RowsAt H rs us ∧ RowsOk zs rs ∧ n ≤ 300 ∧
  ∀ d H2 (ls : Ls), Same H H2 → H d = none → FedAt H2 d rs isTake (fun _ => (n : Int)) ls → Q (.ref d) H2
theorem d_feeds (T : Txt K mg C CE) (Kb : K.In base) (G : base.Ns mainGlobals mg) : Df P w K mg base 2 "_law_feeds" ["_law_script", "_law_rows_here", "_law_turns"] (spFeeds K) := by
  have D_law_given : Df P w K mg base 1 "_law_given" ["_law_script", "_law_at", "_law_most"] (spGiven K) := d_given T Kb G
  refine T.f_feeds.df Kb G sc_law_feeds (fun _ _ _ _ _ _ us hl => match us, hl with | [_, _, _], _ => rfl) (by rintro vs H Q E ⟨a, p, ns, us, zs, rs, n, rfl, _⟩; rfl) (fun f cdv A outer s H vs Q E hr h => ?_)
  obtain ⟨a, p, ns, us, zs, rs, n, rfl, hS, hp, hu, hok, hn, q⟩ := h
  refine ⟨_, (pss_cons (ps_set (i := 3) sc_law_feeds.nd rfl (by first | exact Or.inl rfl | exact Or.inr rfl) pe_dnewK)
    (pss_cons (ps_for PassesOwn.never rfl (pi_range1 rfl T.nrange (pa_cons (pe_callB call_len_seq rfl T.nlen PySem.boot_len (pa_cons (pv 1) pa_nil (se rfl)) (he := se rfl) (hpl := nst rfl)) pa_nil (se rfl))) (pg_name (i := 4) sc_law_feeds.nd rfl (by first | exact Or.inl rfl | exact Or.inr rfl))
      (pss_one (ps_if (pt_cmpR op_eq (pe_ix ix_seq (pe_ix ix_seq (pv 1) (pv 4) (fun _ _ => rfl)) pe_int (fun _ _ => rfl)) pe_str (nomark _)) (pss_one (ps_dput (hu_of hr) (pv 3) (pe_ix ix_seq (pe_ix ix_seq (pv 1) (pv 4) (fun _ _ => rfl)) pe_int (fun _ _ => rfl)) (pe_callD D_law_given (hr.mono (by decide)) rfl (pa_cons (pv 0) (pa_cons (pv 4) (pa_cons (pe_op op_add (pv 2) (pe_op op_mod (pv 4) pe_int)) pa_nil (se rfl)) (se rfl)) (se rfl)) (he := se rfl) (hpl := nst rfl)) rfl)) pss_nil)))
    (pss_one (ps_ret (pv 3))))), ?_⟩
  have l1 := hu.len
  have l2 := hok.len
  have l12 := hok.names.1
  walk_at "rd"
  refine i_dnew fun d hd => ?_
  have hs0 : Same H (upd H d (.dK [])) := Same.new hd
  have hd0 : upd H d (.dK []) d = some (.dK []) := upd_same
  generalize upd H d (.dK []) = H0 at *
  walk_at "rd"
  dsimp only
  refine i_for (i_rng1 ?_)
  walk_at "rd"
  refine ⟨_, _, rfl, .inl (sqL_inj_of (hs0 _ _ hp)), ?_⟩
  refine ⟨_, rfl, by omega, by omega, ?_⟩
  rw [Int.toNat_natCast]
  refine for_range (lo := 0) (n := us.length) (fun i σ H' => Same H H' ∧ ∃ (ls : Ls) (x4 : Option V), σ = [some (.ref a), some (.ref p), some (.int (n : Int)), some (.ref d), x4] ∧ FedAt H' d (rs.take i) isTake (fun _ => (n : Int)) ls)
    ⟨hs0, [], none, rfl, ⟨[], hd0, List.nodup_nil, .nil⟩, rfl, fun a h => by simp at h⟩ ?_ ?_
  · rintro i σ H' hi ⟨s1, ls, x4, rfl, hF⟩
    have e0 : (0 : Int) + (i : Int) = (i : Int) := Int.zero_add _
    rw [e0]
    have hir : i < rs.length := by omega
    have hri := List.getElem?_eq_getElem hir
    have hui := List.getElem?_eq_getElem hi
    have a1 := at_v hi
    have r1 := (hu.at_ i rs[i] us[i] hri hui).same s1
    generalize rs[i] = rw at *
    generalize us[i] = u at *
    obtain ⟨p1, p2, vs, rfl, h1, h2, h3⟩ := r1
    walk_at "rd"
    refine i_ixL (sqL_inj_of (s1 _ _ hp)) a1 ?_
    walk_at "rd"
    refine i_ixT (.inl (.inl h1)) (show atI _ 1 = some (.str rw.d.word) from rfl) ?_
    walk_at "rd"
    by_cases ht : rw.d = .take
    · refine i_iteSe (by rw [ht]; rfl) ?_
      walk_at "rd"
      refine i_dput ?_
      walk_at "rd"
      refine ⟨a, ns, i, n + i % 2, rfl, s1.seq hS, by omega, by omega, fun lp H3 l s3 hfr hlp hll => ?_⟩
      walk_at "rd"
      refine i_ixL (sqL_inj_of (s3 _ _ (s1 _ _ hp))) a1 ?_
      walk_at "rd"
      refine i_ixT (.inl (.inl (s3 _ _ h1))) (show atI _ 0 = some (.str rw.name) from rfl) ?_
      obtain ⟨H4, hput, sb, hF4⟩ := hF.next s3 hok hri (show isTake rw = true from decide_eq_true ht) hlp (show (n : Int) ≤ (l.length : Int) by omega)
      refine ⟨d, H4, rfl, hput, fun b o e => ?_, _, _, rfl, hF4⟩
      exact sb b o (ne_of_none e hd) (s3 _ _ (s1 _ _ e))
    · refine i_iteSf (word_ne (e := .take) ht) ?_
      walk_at "rd"
      exact ⟨s1, ls, _, rfl, hF.skip hri (decide_eq_false ht)⟩
  · rintro σ H' ⟨s1, ls, x4, rfl, hF⟩
    walk_at "rd"
    rw [← l1, List.take_length] at hF
    exact q d H' ls s1 hd hF
def spBegin (K : PySem.W.Frag) : Sp := fun vs H Q _ => ∃ (a p : Addr) (ns : List Int) (us : List V) (zs : List Str) (rs : List Row), vs = [.ref a, .ref p] ∧ SqL K H a (ns.map V.int) ∧ H p = some (.lst us) ∧ RowsAt H rs us ∧ RowsOk zs rs ∧
  ∀ d H2 (ls : Ls), Same H H2 → H d = none → FedAt H2 d rs (isDeep rs) (deep rs) ls → Q (.ref d) H2
theorem d_begin (T : Txt K mg C CE) (Kb : K.In base) (G : base.Ns mainGlobals mg) : Df P w K mg base 2 "_law_begin" ["_law_script", "_law_rows_here"] (spBegin K) := by
  have D_law_given : Df P w K mg base 1 "_law_given" ["_law_script", "_law_at", "_law_most"] (spGiven K) := d_given T Kb G
  have D_law_deepest : Df P w K mg base 1 "_law_deepest" ["_law_rows_here", "_law_name"] spDeepest := d_deepest T Kb G
  refine T.f_begin.df Kb G sc_law_begin (fun _ _ _ _ _ _ us hl => match us, hl with | [_, _], _ => rfl) (by rintro vs H Q E ⟨a, p, ns, us, zs, rs, rfl, _⟩; rfl) (fun f cdv A outer s H vs Q E hr h => ?_)
  obtain ⟨a, p, ns, us, zs, rs, rfl, hS, hp, hu, hok, q⟩ := h
  refine ⟨_, (pss_cons (ps_set (i := 2) sc_law_begin.nd rfl (by first | exact Or.inl rfl | exact Or.inr rfl) pe_dnewK)
    (pss_cons (ps_for PassesOwn.never rfl (pi_range1 rfl T.nrange (pa_cons (pe_callB call_len_seq rfl T.nlen PySem.boot_len (pa_cons (pv 1) pa_nil (se rfl)) (he := se rfl) (hpl := nst rfl)) pa_nil (se rfl))) (pg_name (i := 3) sc_law_begin.nd rfl (by first | exact Or.inl rfl | exact Or.inr rfl))
      (pss_cons (ps_set (i := 4) sc_law_begin.nd rfl (by first | exact Or.inl rfl | exact Or.inr rfl) (pe_callD D_law_deepest (hr.mono (by decide)) rfl (pa_cons (pv 1) (pa_cons (pe_ix ix_seq (pe_ix ix_seq (pv 1) (pv 3) (fun _ _ => rfl)) pe_int (fun _ _ => rfl)) pa_nil (se rfl)) (se rfl)) (he := se rfl) (hpl := nst rfl)))
    (pss_one (ps_if (pt_cmpR op_gt (pv 4) pe_int (nomark _)) (pss_one (ps_dput (hu_of hr) (pv 2) (pe_ix ix_seq (pe_ix ix_seq (pv 1) (pv 3) (fun _ _ => rfl)) pe_int (fun _ _ => rfl)) (pe_callD D_law_given (hr.mono (by decide)) rfl (pa_cons (pv 0) (pa_cons (pe_op op_add (pe_op op_mulO pe_int (pv 3)) pe_int) (pa_cons (pe_op op_add (pv 4) (pe_op op_mod (pv 3) pe_int)) pa_nil (se rfl)) (se rfl)) (se rfl)) (he := se rfl) (hpl := nst rfl)) rfl)) pss_nil))))
    (pss_one (ps_ret (pv 2))))), ?_⟩
  have l1 := hu.len
  have l2 := hok.len
  have l12 := hok.names.1
  walk_at "rd"
  refine i_dnew fun d hd => ?_
  have hs0 : Same H (upd H d (.dK [])) := Same.new hd
  have hd0 : upd H d (.dK []) d = some (.dK []) := upd_same
  generalize upd H d (.dK []) = H0 at *
  walk_at "rd"
  dsimp only
  refine i_for (i_rng1 ?_)
  walk_at "rd"
  refine ⟨_, _, rfl, .inl (sqL_inj_of (hs0 _ _ hp)), ?_⟩
  refine ⟨_, rfl, by omega, by omega, ?_⟩
  rw [Int.toNat_natCast]
  refine for_range (lo := 0) (n := us.length) (fun i σ H' => Same H H' ∧ ∃ (ls : Ls) (x3 x4 : Option V), σ = [some (.ref a), some (.ref p), some (.ref d), x3, x4] ∧ FedAt H' d (rs.take i) (isDeep rs) (deep rs) ls)
    ⟨hs0, [], none, none, rfl, ⟨[], hd0, List.nodup_nil, .nil⟩, rfl, fun a h => by simp at h⟩ ?_ ?_
  · rintro i σ H' hi ⟨s1, ls, x3, x4, rfl, hF⟩
    have e0 : (0 : Int) + (i : Int) = (i : Int) := Int.zero_add _
    rw [e0]
    have hir : i < rs.length := by omega
    have hri := List.getElem?_eq_getElem hir
    have hui := List.getElem?_eq_getElem hi
    have a1 := at_v hi
    have r1 := (hu.at_ i rs[i] us[i] hri hui).same s1
    generalize rs[i] = rw at *
    generalize us[i] = u at *
    obtain ⟨p1, p2, vs, rfl, h1, h2, h3⟩ := r1
    walk_at "rd"
    refine i_ixL (sqL_inj_of (s1 _ _ hp)) a1 ?_
    walk_at "rd"
    refine i_ixT (.inl (.inl h1)) (show atI _ 0 = some (.str rw.name) from rfl) ?_
    walk_at "rd"
    refine ⟨p, us, rs, rw.name, rfl, s1 _ _ hp, hu.same s1, ?_⟩
    obtain ⟨dn, hdn⟩ := Int.eq_ofNat_of_zero_le (deep_nn rs rw.name)
    have hd6 := deep_6 hok rw.name
    walk_at "rd"
    refine i_iteD (fun hlt => ?_) (fun hlt => ?_)
    · walk_at "rd"
      refine i_dput ?_
      walk_at "rd"
      refine i_mul (IntMulOk.of_left (by decide)) ?_
      walk_at "rd"
      refine ⟨a, ns, 3 * i + 1, dn + i % 3, by rw [hdn]; rfl, s1.seq hS, by omega, by omega, fun lp H3 l s3 hfr hlp hll => ?_⟩
      walk_at "rd"
      refine i_ixL (sqL_inj_of (s3 _ _ (s1 _ _ hp))) a1 ?_
      walk_at "rd"
      refine i_ixT (.inl (.inl (s3 _ _ h1))) (show atI _ 0 = some (.str rw.name) from rfl) ?_
      obtain ⟨H4, hput, sb, hF4⟩ := hF.next s3 hok hri (show isDeep rs rw = true from decide_eq_true hlt) hlp (show deep rs rw.name ≤ (l.length : Int) by omega)
      refine ⟨d, H4, rfl, hput, fun b o e => ?_, _, _, _, rfl, hF4⟩
      exact sb b o (ne_of_none e hd) (s3 _ _ (s1 _ _ e))
    · walk_at "rd"
      exact ⟨s1, ls, _, _, rfl, hF.skip hri (decide_eq_false hlt)⟩
  · rintro σ H' ⟨s1, ls, x3, x4, rfl, hF⟩
    walk_at "rd"
    rw [← l1, List.take_length] at hF
    exact q d H' ls s1 hd hF
theorem gets_take {m : Int} {fl bl : Ls} {M : Md} {t : Nat} {r : Row} (h : r.d = .take) : gets m fl bl M t r = [(look fl r.name).getD t 0] := if_pos h
theorem gets_not {m : Int} {fl bl : Ls} {M : Md} {t : Nat} {r : Row} (h : ¬ r.d = .take) : gets m fl bl M t r = r.reads.map (getR m bl M t) := if_neg h
theorem look_of {l : Ls} {z : Str} {xs : List Int} (h : l.lookup z = some xs) : look l z = xs := by unfold look; rw [h]; rfl
theorem at_int {ns : List Int} {i : Int} (h0 : 0 ≤ i) (h : i.toNat < ns.length) : atI (List.map V.int ns) i = some (.int (ns.getD i.toNat 0)) := by
  have e : i = ((i.toNat : Nat) : Int) := by omega
  have := at_ints (ns := ns) i.toNat h
  rw [← e] at this; exact this
theorem zs_mem {zs : List Str} {rs : List Row} (h : RowsOk zs rs) {i : Nat} {r : Row} (hr : rs[i]? = some r) : r.name ∈ zs := List.mem_iff_getElem?.mpr ⟨i, (h.at_ i r hr).name⟩
def endsL (m : Int) (bl : Ls) (rs : List Row) (M : Md) (n : Nat) (qs : List Row) : Ls := (qs.filter (isDeep rs)).map fun r => (r.name, endsOf m bl rs M n r.name)
theorem paired_at {α β : Type} {F : α → β → Prop} : ∀ {l : List α} {r : List β}, Paired F l r → ∀ {i : Nat} {b : β}, r[i]? = some b → ∃ a, l[i]? = some a ∧ F a b := by
  intro l r h
  induction h with
  | nil => intro i b e; simp at e
  | @cons a b' l1 l2 h _ ih =>
    intro i b e
    cases i with
    | zero => cases e; exact ⟨a, rfl, h⟩
    | succ i => exact ih (i := i) (by simpa using e)
theorem nd_at {ls : Ls} (h : (ls.map (·.1)).Nodup) {i : Nat} {z : Str} {l : List Int} (e : ls[i]? = some (z, l)) : ¬ z ∈ (ls.take i).map (·.1) := fun hm => by
  have hi := (List.getElem?_eq_some_iff.mp e).1
  have e1 : ls.map (·.1) = (ls.take i).map (·.1) ++ z :: (ls.drop (i + 1)).map (·.1) := by
    have h1 : ls = ls.take i ++ (z, l) :: ls.drop (i + 1) := by
      have h2 : ls.drop i = (z, l) :: ls.drop (i + 1) := by
        rw [List.drop_eq_getElem_cons hi, (List.getElem?_eq_some_iff.mp e).2]
      rw [← h2, List.take_append_drop]
    conv => lhs; rw [h1]
    rw [List.map_append]; rfl
  rw [e1] at h
  exact (List.nodup_append.mp h).2.2 z hm z List.mem_cons_self rfl
def spCopyL : Sp := fun vs H Q _ => ∃ (d : Addr) (ls : Ls), vs = [.ref d] ∧ LsAt H d ls ∧ ls.length ≤ 100 ∧ ∀ d' H2, Same H H2 → H d' = none → LsAt H2 d' ls → Q (.ref d') H2
theorem d_copyL (T : Txt K mg C CE) (Kb : K.In base) (G : base.Ns mainGlobals mg) : Df P w K mg base 1 "_law_copy" ["_law_lists"] spCopyL := by
  refine T.f_copyL.df Kb G sc_law_copy (fun _ _ _ _ _ _ us hl => match us, hl with | [_], _ => rfl) (by rintro vs H Q E ⟨d, ls, rfl, _⟩; rfl) (fun f cdv A outer s H vs Q E hr h => ?_)
  obtain ⟨d, ls, rfl, hls, h100, q⟩ := h
  obtain ⟨kvs, hd, hnd, hpr⟩ := hls
  have hlen := Paired.len' hpr
  refine ⟨_, (pss_cons (ps_set (i := 1) sc_law_copy.nd rfl (by first | exact Or.inl rfl | exact Or.inr rfl) pe_dnewK)
    (pss_cons (ps_fz (ps_for PassesOwn.never rfl (pi_items (pv 0)) (pg_tup rfl (pgs_cons (pg_name (i := 2) sc_law_copy.nd rfl (by first | exact Or.inl rfl | exact Or.inr rfl)) (pgs_cons (pg_name (i := 3) sc_law_copy.nd rfl (by first | exact Or.inl rfl | exact Or.inr rfl)) pgs_nil)))
      (pss_one (ps_dput (hu_of hr) (pv 1) (pv 2) (pe_callTy call_listA rfl T.nlist PyProof.Rows.boot_list (pa_cons (pv 3) pa_nil (se rfl)) (he := se rfl) (hpl := nst rfl)) rfl))))
    (pss_one (ps_ret (pv 1))))), ?_⟩
  walk_at "rd"
  refine i_dnew fun D hD => ?_
  have hs0 : Same H (upd H D (.dK [])) := Same.new hD
  have hD0 : upd H D (.dK []) D = some (.dK []) := upd_same
  generalize upd H D (.dK []) = H0 at *
  have hdD : D ≠ d := fun z => by rw [z, hd] at hD; cases hD
  walk_at "rd"
  dsimp only
  refine i_fz (hs0 _ _ hd) fun o => ?_
  refine i_for (i_items ?_)
  walk_at "rd"
  refine ⟨d, o, kvs, rfl, upd_same, ?_⟩
  refine for_items (kvs := kvs) (fun i σ H' => SameB d H H' ∧ H' d = some (.frz o (.dK kvs)) ∧ ∃ (x2 x3 : Option V), σ = [some (.ref d), some (.ref D), x2, x3] ∧ LsAt H' D (ls.take i))
    ⟨fun b u n e => by rw [upd_ne n]; exact hs0 _ _ e, upd_same, none, none, rfl, ⟨[], by rw [upd_ne hdD]; exact hD0, List.nodup_nil, .nil⟩⟩ (fun i σ H' _ h => h.2.1) ?_ ?_
  · rintro i k x t σ H1 H2 hx ⟨sb, hfz, x2, x3, rfl, hL⟩ hN2
    obtain ⟨⟨z, l⟩, hzl, hk, p, hxp, hp⟩ := paired_at hpr hx
    have hk' : k = Sum.inr z := hk
    have hxp' : x = .ref p := hxp
    subst hk' hxp'
    have hpd : p ≠ d := ne_of hp hd (by intro z; cases z)
    have hp2 := hN2.same _ _ (sb p _ hpd hp)
    refine i_gtup hN2.tup rfl ?_
    walk_at "rd"
    refine i_dput ?_
    walk_at "rd"
    refine i_listAL (sqL_inj_of hp2) fun lp H3 hN3 => ?_
    walk_at "rd"
    have hil : i < ls.length := (List.getElem?_eq_some_iff.mp hzl).1
    obtain ⟨H4, hput, sb4, hL4⟩ := ((hL.same hN2.same).same hN3.same).add (z := z) (p := lp) (l := l) (nd_at hnd hzl) hN3.at (by rw [List.length_take]; omega)
    have s13 := hN2.same.trans hN3.same
    have hdD' : d ≠ D := Ne.symm hdD
    refine ⟨D, H4, rfl, hput, fun b u n e => ?_, ?_, _, _, rfl, ?_⟩
    · exact sb4 b u (fun w => by rw [w, hD] at e; cases e) (s13 _ _ (sb b u n e))
    · exact sb4 d _ hdD' (s13 _ _ hfz)
    · rw [List.take_add_one, hzl]; exact hL4
  · rintro σ H1 ⟨sb, hfz, x2, x3, rfl, hL⟩
    refine ⟨hfz, ?_⟩
    walk_at "rd"
    rw [← hlen, List.take_length] at hL
    refine q D _ (fun b u e => ?_) hD (hL.upd hfz (by intro kvs z; cases z) (by intro xs z; cases z))
    by_cases hb : b = d
    · rw [hb] at e ⊢
      rw [hd] at e
      rw [upd_same]; exact e
    · rw [upd_ne hb]; exact sb b u hb e
theorem get_len {H : Hp} {bd e : Addr} {bl : Ls} {z : Str} (h : LsAt H bd bl) (he : H e = some (.lst [])) : ∃ (o : Option V) (lp : Addr), DGet H bd (.str z) o ∧ o.getD (.ref e) = .ref lp ∧ H lp = some (.lst (List.map V.int (look bl z))) := by
  unfold look
  cases hlk : bl.lookup z with
  | none => exact ⟨none, e, h.getN hlk, rfl, he⟩
  | some l =>
    obtain ⟨lp, g1, g2⟩ := h.get hlk
    exact ⟨_, lp, g1, rfl, g2⟩
structure RunAt (CL CR : Addr) (H0 H : Hp) (x : Addr) (m : Int) (rs : List Row) (zs : List Str) (fl bl : Ls) (A : Str → Addr) (M : Md) : Prop where
  ex : ∃ (lx k fd bd md dx : Addr) (fs : List (Str × V)), LoopAt CL H0 lx k m rs ∧ LsAt H0 fd fl ∧ LsAt H0 bd bl ∧ H x = some (.ins CR dx fs) ∧ fs.lookup (Str.ofString "loop") = some (.ref lx) ∧ fs.lookup (Str.ofString "feeds") = some (.ref fd) ∧ fs.lookup (Str.ofString "begin") = some (.ref bd) ∧ fs.lookup (Str.ofString "made") = some (.ref md) ∧
    (fs.lookup (Str.ofString "made_at") = none ∧ fs.lookup (Str.ofString "number_read") = none ∧ fs.lookup (Str.ofString "numbers_for") = none ∧ fs.lookup (Str.ofString "do_turn") = none ∧ fs.lookup (Str.ofString "last_made") = none) ∧ MadeAt H md A zs M
  same : Same H0 H
  fr : ∀ z ∈ zs, H0 (A z) = none
theorem RunAt.to {CL CR : Addr} {H0 H H' : Hp} {x : Addr} {m : Int} {rs : List Row} {zs : List Str} {fl bl : Ls} {A : Str → Addr} {M : Md} (s : Same H H') (h : RunAt CL CR H0 H x m rs zs fl bl A M) : RunAt CL CR H0 H' x m rs zs fl bl A M := by
  obtain ⟨⟨lx, k, fd, bd, md, dx, fs, a, b, c, d, e1, e2, e3, e4, e5, hM⟩, hs, hf⟩ := h
  exact ⟨⟨lx, k, fd, bd, md, dx, fs, a, b, c, s _ _ d, e1, e2, e3, e4, e5, hM.same s⟩, hs.trans s, hf⟩
theorem loop_fs {CL : Addr} {H : Hp} {x k : Addr} {m : Int} {rs : List Row} (h : LoopAt CL H x k m rs) : ∃ dx fs, H x = some (.ins CL dx fs) ∧ fs.lookup (Str.ofString "measure") = some (.int m) ∧ fs.lookup (Str.ofString "rows") = none ∧ fs.lookup (Str.ofString "deepest") = none := by
  obtain ⟨dx, d, fs, ws, kvs, h1, a, b, c, e, f, _⟩ := h
  exact ⟨dx, fs, h1, a, e, f⟩
def spRMadeAt (CL CR : Addr) : Sp := fun vs H Q _ => ∃ (H0 : Hp) (x : Addr) (m : Int) (rs : List Row) (zs : List Str) (fl bl : Ls) (A : Str → Addr) (M : Md) (z : Str) (t : Int), vs = [.ref x, .str z, .int t] ∧ RunAt CL CR H0 H x m rs zs fl bl A M ∧ z ∈ zs ∧ 0 < m ∧ (t < 0 → ∃ l, bl.lookup z = some l ∧ (-t - 1).toNat < l.length) ∧ (0 ≤ t → t.toNat < (M z).length) ∧
  Q (.int (if t < 0 then (look bl z).getD (-t - 1).toNat 0 % m else (M z).getD t.toNat 0)) H
theorem m_madeat (T : Txt K mg C CE) : MethI P w K mg base 1 "made_at" ["self", "name", "turn"] (fun _ : Unit => CE .Run) (fun _ => spRMadeAt (CE .Loop) (CE .Run)) := by
  refine ⟨fun _ => ⟨T.i_Run.cl, ?_⟩⟩
  refine T.f_Run_made_at.fn sc_Run_made_at (fun _ _ _ _ _ _ us hl => match us, hl with | [_, _, _], _ => rfl) (by rintro vs H Q E ⟨H0, x, m, rs, zs, fl, bl, A, M, z, t, rfl, _⟩; rfl) (fun f cdv A outer s H vs Q E hr h => ?_)
  obtain ⟨H0, x, m, rs, zs, fl, bl, A', M, z, t, rfl, hR, hz, m0, hlt, hle, q⟩ := h
  obtain ⟨⟨lx, k, fd, bd, md, dx, fs, hL, hf, hb, hx, f1, f2, f3, f4, f5, hM⟩, hs, hfr⟩ := hR
  obtain ⟨dxl, fsl, hlx, gm, gr, gd⟩ := loop_fs (hL.same hs)
  refine ⟨_, (pss_cons (ps_if (pt_cmpR op_lt (pv 2) pe_int (nomark _)) (pss_one (ps_ret (pe_op op_mod (pe_ix ix_seq (pe_dget (hu_of hr) (pe_fld (pv 0) rfl) (pv 1) (fun _ _ => rfl)) (pe_op op_sub (pe_un un_neg (pv 2)) pe_int) (fun _ _ => rfl)) (pe_fld (pe_fld (pv 0) rfl) rfl)))) pss_nil)
    (pss_one (ps_ret (pe_ix ix_seq (pe_dget (hu_of hr) (pe_fld (pv 0) rfl) (pv 1) (fun _ _ => rfl)) (pv 2) (fun _ _ => rfl))))), ?_⟩
  walk_at "rd"
  refine i_iteD (fun h0 => ?_) (fun h0 => ?_)
  · rw [if_pos h0] at q
    obtain ⟨l, hl, hll⟩ := hlt h0
    obtain ⟨lp, g1, g2⟩ := (hb.same hs).get hl
    rw [look_of hl] at q
    walk_at "rd"
    refine i_dix ?_
    refine i_fld ?_
    walk_at "rd"
    refine ⟨x, _, dx, fs, .ref bd, rfl, hx, T.i_Run.cl, T.nRB, f3, ?_⟩
    walk_at "rd"
    refine ⟨bd, _, rfl, g1, ?_⟩
    walk_at "rd"
    refine i_ixL (sqL_inj_of g2) (at_int (by omega) hll) ?_
    walk_at "rd"
    refine i_fld ?_
    refine i_fld ?_
    walk_at "rd"
    refine ⟨x, _, dx, fs, .ref lx, rfl, hx, T.i_Run.cl, T.nRL, f1, ?_⟩
    refine ⟨lx, _, dxl, fsl, .int m, rfl, hlx, T.i_Loop.cl, T.nM, gm, ?_⟩
    walk_at "rd"
    exact q
  · rw [if_neg h0] at q
    walk_at "rd"
    refine i_dix ?_
    refine i_fld ?_
    walk_at "rd"
    refine ⟨x, _, dx, fs, .ref md, rfl, hx, T.i_Run.cl, T.nRM, f4, ?_⟩
    walk_at "rd"
    refine ⟨md, _, rfl, hM.get hz, ?_⟩
    walk_at "rd"
    refine i_ixL (sqL_inj_of (hM.at_ z hz)) (at_int (by omega) (hle (by omega))) ?_
    exact q
def spRNumRead (CL CR : Addr) : Sp := fun vs H Q _ => ∃ (H0 : Hp) (x : Addr) (m : Int) (rs : List Row) (zs : List Str) (fl bl : Ls) (A : Str → Addr) (M : Md) (v : V) (rd : Rd) (t : Nat), vs = [.ref x, v, .int (t : Int)] ∧ RunAt CL CR H0 H x m rs zs fl bl A M ∧ RdAt H rd v ∧ RdGo bl zs M t rd ∧ 0 < m ∧ Q (.int (getR m bl M t rd)) H
theorem m_numread (T : Txt K mg C CE) : MethI P w K mg base 2 "number_read" ["self", "read", "turn"] (fun _ : Unit => CE .Run) (fun _ => spRNumRead (CE .Loop) (CE .Run)) := by
  have Mmade_at : MethI P w K mg base 1 "made_at" ["self", "name", "turn"] (fun _ : Unit => CE .Run) (fun _ => spRMadeAt (CE .Loop) (CE .Run)) := m_madeat T
  refine ⟨fun _ => ⟨T.i_Run.cl, ?_⟩⟩
  refine T.f_Run_number_read.fn sc_Run_number_read (fun _ _ _ _ _ _ us hl => match us, hl with | [_, _, _], _ => rfl) (by rintro vs H Q E ⟨H0, x, m, rs, zs, fl, bl, A, M, v, rd, t, rfl, _⟩; rfl) (fun f cdv A outer s H vs Q E hr h => ?_)
  obtain ⟨H0, x, m, rs, zs, fl, bl, A', M, v, rd, t, rfl, hR, hrd, hgo, m0, q⟩ := h
  refine ⟨_, (pss_cons (ps_if (pt_val (pe_callB call_isi rfl T.nisi PyProof.Rows.boot_isinstance (pa_cons (pv 1) (pa_cons (pe_bltn (v := .ty "int") rfl T.nint PyProof.Rows.boot_int rfl) pa_nil (se rfl)) (se rfl)) (he := se rfl) (hpl := nst rfl))) (pss_one (ps_ret (pv 1))) pss_nil)
    (pss_one (ps_ret (pe_methI Mmade_at (pv 0) (hr.mono (by decide)) (pa_cons (pe_ix ix_seq (pv 1) pe_int (fun _ _ => rfl)) (pa_cons (pe_op op_sub (pv 2) (pe_ix ix_seq (pv 1) pe_int (fun _ _ => rfl))) pa_nil (se rfl)) (se rfl)) (hst := se rfl) (hpl := nst rfl))))), ?_⟩
  cases rd with
  | num i =>
    have e : v = .int i := hrd
    subst e
    walk_at "rd"
    refine i_isiI T.kII ?_
    walk_at "rd"
    exact q
  | back z b =>
    obtain ⟨ta, rfl, hta⟩ := hrd
    obtain ⟨hz, b0, glt, gle⟩ := hgo
    have hR0 := hR
    obtain ⟨⟨lx, k, fd, bd, md, dx, fs, hL, hf, hb, hx, f1, f2, f3, f4, ⟨f5, f6, f7, f8, f9⟩, hM⟩, hs, hfr⟩ := hR
    walk_at "rd"
    refine i_isiT hta T.kTI ?_
    walk_at "rd"
    refine i_methI ?_
    walk_at "rd"
    refine ⟨(), x, dx, fs, rfl, hx, f5, ?_⟩
    walk_at "rd"
    refine i_ixT (.inl (.inl hta)) (show atI _ 0 = some (.str z) from rfl) ?_
    walk_at "rd"
    refine i_ixT (.inl (.inl hta)) (show atI _ 1 = some (.int b) from rfl) ?_
    walk_at "rd"
    refine ⟨H0, x, m, rs, zs, fl, bl, A', M, z, (t : Int) - b, rfl, hR0, hz, m0, fun h0 => ?_, fun h0 => gle (by omega), ?_⟩
    · obtain ⟨l, h1, h2⟩ := glt (by omega)
      exact ⟨l, h1, by omega⟩
    · have e : (if (t : Int) - b < 0 then (look bl z).getD (-((t : Int) - b) - 1).toNat 0 % m else (M z).getD ((t : Int) - b).toNat 0) = getR m bl M t (.back z b) := by
        show _ = if (t : Int) < b then (look bl z).getD (b - t - 1).toNat 0 % m else (M z).getD ((t : Int) - b).toNat 0
        by_cases h0 : (t : Int) < b
        · rw [if_pos h0, if_pos (by omega), show (-((t : Int) - b) - 1).toNat = (b - t - 1).toNat by omega]
        · rw [if_neg h0, if_neg (by omega)]
      rw [e]; exact q
def spRNumFor (CL CR : Addr) : Sp := fun vs H Q _ => ∃ (H0 : Hp) (x : Addr) (m : Int) (rs : List Row) (zs : List Str) (fl bl : Ls) (A : Str → Addr) (M : Md) (v : V) (r : Row) (t : Nat), vs = [.ref x, v, .int (t : Int)] ∧ RunAt CL CR H0 H x m rs zs fl bl A M ∧ RowAt H r v ∧ RowGo fl bl zs M t r ∧ 0 < m ∧ r.reads.length ≤ 3 ∧
  ∀ p H2, Same H H2 → H2 p = some (.lst (List.map V.int (gets m fl bl M t r))) → Q (.ref p) H2
theorem m_numfor (T : Txt K mg C CE) : MethI P w K mg base 3 "numbers_for" ["self", "row", "turn"] (fun _ : Unit => CE .Run) (fun _ => spRNumFor (CE .Loop) (CE .Run)) := by
  have Mnumber_read : MethI P w K mg base 2 "number_read" ["self", "read", "turn"] (fun _ : Unit => CE .Run) (fun _ => spRNumRead (CE .Loop) (CE .Run)) := m_numread T
  refine ⟨fun _ => ⟨T.i_Run.cl, ?_⟩⟩
  refine T.f_Run_numbers_for.fn sc_Run_numbers_for (fun _ _ _ _ _ _ us hl => match us, hl with | [_, _, _], _ => rfl) (by rintro vs H Q E ⟨H0, x, m, rs, zs, fl, bl, A, M, v, r, t, rfl, _⟩; rfl) (fun f cdv A outer s H vs Q E hr h => ?_)
  obtain ⟨H0, x, m, rs, zs, fl, bl, A', M, v, r, t, rfl, hR, hrow, hgo, m0, hr3, q⟩ := h
  have hR0 := hR
  obtain ⟨⟨lx, k, fd, bd, md, dx, fs, hL, hf, hb, hx, f1, f2, f3, f4, ⟨f5, f6, f7, f8, f9⟩, hM⟩, hs, hfr⟩ := hR
  obtain ⟨p1, p2, vs, rfl, h1, h2, h3⟩ := hrow
  have l3 := h3.len
  have lb := line_big
  refine ⟨_, (pss_cons (ps_if (pt_cmpR op_eq (pe_ix ix_seq (pv 1) pe_int (fun _ _ => rfl)) pe_str (nomark _)) (pss_one (ps_ret (pe_lstA (pa_cons (pe_ix ix_seq (pe_dget (hu_of hr) (pe_fld (pv 0) rfl) (pe_ix ix_seq (pv 1) pe_int (fun _ _ => rfl)) (fun _ _ => rfl)) (pv 2) (fun _ _ => rfl)) pa_nil (se rfl))))) pss_nil)
    (pss_one (ps_ret (pe_lc (Blk.of (caps := ["turn", "self"]) (ix := [2, 0]) rfl) rfl (pi_tup (pe_ix ix_seq (pv 1) pe_int (fun _ _ => rfl))) (fun _ _ _ _ => pf_nil) (fun _ _ _ _ => (pe_methI Mnumber_read (pv 2) (hr.mono (by decide)) (pa_cons (pv 0) (pa_cons (pv 1) pa_nil (se rfl)) (se rfl)) (hst := se rfl) (hpl := nst rfl))))))), ?_⟩
  walk_at "rd"
  refine i_ixT (.inl (.inl h1)) (show atI _ 1 = some (.str r.d.word) from rfl) ?_
  walk_at "rd"
  by_cases ht : r.d = .take
  · refine i_iteSe (by rw [ht]; rfl) ?_
    obtain ⟨l, hl, htl⟩ := hgo.1 ht
    obtain ⟨lp, g1, g2⟩ := (hf.same hs).get hl
    walk_at "rd"
    refine i_dix ?_
    refine i_fld ?_
    walk_at "rd"
    refine ⟨x, _, dx, fs, .ref fd, rfl, hx, T.i_Run.cl, T.nRF, f2, ?_⟩
    walk_at "rd"
    refine i_ixT (.inl (.inl h1)) (show atI _ 0 = some (.str r.name) from rfl) ?_
    refine ⟨fd, _, rfl, g1, ?_⟩
    walk_at "rd"
    refine i_ixL (sqL_inj_of g2) (at_ints t htl) ?_
    walk_at "rd"
    refine ⟨by show 1 ≤ sizeLine; omega, fun p H2 hN => ?_⟩
    refine q p H2 hN.same ?_
    rw [hN.at, gets_take ht, look_of hl]; rfl
  · refine i_iteSf (word_ne (e := .take) ht) ?_
    walk_at "rd"
    refine i_lc (i_tupI ?_)
    walk_at "rd"
    refine i_ixT (.inl (.inl h1)) (show atI _ 2 = some (.ref p1) from rfl) ?_
    refine ⟨p1, rfl, ⟨vs, .inl (.inl h2)⟩, ?_⟩
    refine lcN (LcIt.tup (.inl (.inl h2))) (fun D i y H' => ∃ rd, r.reads[i]? = some rd ∧ y = .int (getR m bl M t rd)) (by omega) (fun D i y H' H'' _ h => h) (fun D i H' R hi hD hy s' rr => ?_) (fun D ys H2 hD s2 hHD hyl hP => ?_)
    · have hir : i < r.reads.length := by omega
      have hri := List.getElem?_eq_getElem hir
      have hvi := List.getElem?_eq_getElem hi
      have ra := (h3.at_ i r.reads[i] vs[i] hri hvi).same s'
      have go := hgo.2 r.reads[i] (List.getElem_mem hir)
      have ev : vs.getD i V.non = vs[i] := by rw [List.getD, hvi]; rfl
      rw [ev]
      generalize vs[i] = v at *
      walk_at "rd"
      refine i_methI ?_
      walk_at "rd"
      refine ⟨(), x, dx, fs, rfl, s' _ _ hx, f6, ?_⟩
      walk_at "rd"
      refine ⟨H0, x, m, rs, zs, fl, bl, A', M, v, r.reads[i], t, rfl, hR0.to s', ra, go, m0, ?_⟩
      exact rr _ _ (Same.refl _) ⟨r.reads[i], hri, rfl⟩
    · refine q D H2 s2 ?_
      rw [hHD, gets_not ht]
      congr 1; congr 1
      refine List.ext_getElem? fun i => ?_
      rw [List.getElem?_map, List.getElem?_map]
      by_cases hi : i < ys.length
      · obtain ⟨rd, e1, e2⟩ := hP i ys[i] (List.getElem?_eq_getElem hi)
        rw [List.getElem?_eq_getElem hi, e1, e2]; rfl
      · rw [List.getElem?_eq_none (by omega), List.getElem?_eq_none (by omega)]; rfl
def spRTurn (CL CR : Addr) : Sp := fun vs H Q _ => ∃ (H0 : Hp) (x : Addr) (m : Int) (rs : List Row) (zs : List Str) (fl bl : Ls) (A : Str → Addr) (M : Md) (t n : Nat), vs = [.ref x, .int (t : Int)] ∧ RunAt CL CR H0 H x m rs zs fl bl A M ∧ RowsOk zs rs ∧ Going zs m 0 t M ∧ FeOk rs fl n ∧ BeOk rs bl ∧ t < n ∧ n ≤ 300 ∧ 2 ≤ m ∧ m ≤ 10 ^ 60 ∧
  ∀ H2, RunAt CL CR H0 H2 x m rs zs fl bl A (turnR m fl bl rs M t) → Q .non H2
theorem m_turn (T : Txt K mg C CE) (Kb : K.In base) (G : base.Ns mainGlobals mg) : MethI P w K mg base 4 "do_turn" ["self", "turn"] (fun _ : Unit => CE .Run) (fun _ => spRTurn (CE .Loop) (CE .Run)) := by
  have Mnumbers_for : MethI P w K mg base 3 "numbers_for" ["self", "row", "turn"] (fun _ : Unit => CE .Run) (fun _ => spRNumFor (CE .Loop) (CE .Run)) := m_numfor T
  have Mrows : MethI P w K mg base 1 "rows" ["self"] (fun _ : Unit => CE .Loop) (fun _ => spLRows (CE .Loop)) := m_rows T
  have Ddeed_of : Df P w K mg base 1 "deed_of" ["word"] (spDeedA C) := d_deed T Kb G
  have Mof : MethI P w K mg base 1 "of" ["self", "numbers", "measure"] C (spOf K) := m_of T
  refine ⟨fun _ => ⟨T.i_Run.cl, ?_⟩⟩
  refine T.f_Run_do_turn.fn sc_Run_do_turn (fun _ _ _ _ _ _ us hl => match us, hl with | [_, _], _ => rfl) (by rintro vs H Q E ⟨H0, x, m, rs, zs, fl, bl, A, M, t, n, rfl, _⟩; rfl) (fun f cdv A outer s H vs Q E hr h => ?_)
  obtain ⟨H0, x, m, rs, zs, fl, bl, A', M, t, n, rfl, hR, hok, hg, hfe, hbe, htn, hn, m2, m60, q⟩ := h
  have hR0 := hR
  obtain ⟨⟨lx, k, fd, bd, md, dx, fs, hL, hf, hb, hx, f1, f2, f3, f4, ⟨f5, f6, f7, f8, f9⟩, hM⟩, hs, hfr⟩ := hR
  obtain ⟨dxl, fsl, hlx, gm, gr, gd⟩ := loop_fs hL
  have m0 : 0 < m := by omega
  have l2 := hok.len
  have l12 := hok.names.1
  have lb := line_big
  refine ⟨_, (pss_one (ps_for PassesOwn.never rfl (pi_list (pe_methI0 Mrows (pe_fld (pv 0) rfl) (hr.mono (by decide)))) (pg_name (i := 2) sc_Run_do_turn.nd rfl (by first | exact Or.inl rfl | exact Or.inr rfl))
      (pss_cons (ps_set (i := 3) sc_Run_do_turn.nd rfl (by first | exact Or.inl rfl | exact Or.inr rfl) (pe_methI Mnumbers_for (pv 0) (hr.mono (by decide)) (pa_cons (pv 2) (pa_cons (pv 1) pa_nil (se rfl)) (se rfl)) (hst := se rfl) (hpl := nst rfl)))
    (pss_one (ps_expr (pe_bm PySem.F.plainAttrs_list PySem.F.slot_list_append PySem.F.type_list_append mt_append (pe_dget (hu_of hr) (pe_fld (pv 0) rfl) (pe_ix ix_seq (pv 2) pe_int (fun _ _ => rfl)) (fun _ _ => rfl)) (pa_cons (pe_methI Mof (pe_callD Ddeed_of (hr.mono (by decide)) rfl (pa_cons (pe_ix ix_seq (pv 2) pe_int (fun _ _ => rfl)) pa_nil (se rfl)) (he := se rfl) (hpl := nst rfl)) (hr.mono (by decide)) (pa_cons (pv 3) (pa_cons (pe_fld (pe_fld (pv 0) rfl) rfl) pa_nil (se rfl)) (se rfl)) (hst := se rfl) (hpl := nst rfl)) pa_nil (se rfl)) (hs := se rfl) (hplain := nst rfl))))))), ?_⟩
  walk_at "rd"
  refine i_for (i_list ?_)
  refine i_methI ?_
  refine i_fld ?_
  walk_at "rd"
  refine ⟨x, _, dx, fs, .ref lx, rfl, hx, T.i_Run.cl, T.nRL, f1, ?_⟩
  refine ⟨(), lx, dxl, fsl, rfl, hs _ _ hlx, gr, ?_⟩
  walk_at "rd"
  refine ⟨lx, k, m, rs, rfl, hL.same hs, fun p us H1 hN1 hu => ?_⟩
  have l1 := hu.len
  refine ⟨p, rfl, ⟨us, hN1.lst⟩, ?_⟩
  refine for_list (xs := us) (fun i σ H' => RunAt (CE .Loop) (CE .Run) H0 H' x m rs zs fl bl A' ((rs.take i).foldl (stepR m fl bl t) M) ∧ H' p = some (.lst us) ∧ RowsAt H' rs us ∧ H' x = some (.ins (CE .Run) dx fs) ∧ MadeAt H' md A' zs ((rs.take i).foldl (stepR m fl bl t) M) ∧ ∃ x2 x3, σ = [some (.ref x), some (.int (t : Int)), x2, x3])
    ⟨hR0.to hN1.same, hN1.at, hu, hN1.same _ _ hx, hM.same hN1.same, none, none, rfl⟩ (fun i σ H' _ h => sqL_inj_of h.2.1) ?_ ?_
  · rintro i u σ H3 hui ⟨hR3, hp3, hu3, hx3, hM3, x2, x3, rfl⟩
    have hiu := (List.getElem?_eq_some_iff.mp hui).1
    have hir : i < rs.length := by rw [l1]; exact hiu
    have hri := List.getElem?_eq_getElem hir
    have r1 := hu3.at_ i rs[i] u hri hui
    have gi := hg.take (fl := fl) (bl := bl) hok m0 i (by omega)
    have go := gi.go hok hri hfe hbe htn
    have rok := hok.at_ i rs[i] hri
    have hzm := zs_mem hok hri
    have fn := fold_next (stepR m fl bl t) M hri
    have hrd3 : rs[i].reads.length ≤ 3 := by rw [rok.many]; exact wants3 _
    generalize rs[i] = rw at *
    generalize (rs.take i).foldl (stepR m fl bl t) M = M3 at *
    have r0 := r1
    obtain ⟨p1, p2, vs, rfl, h1, h2, h3⟩ := r1
    have hlM := gi.len i rw.name rok.name
    rw [if_neg (by omega)] at hlM
    have hs3 := hR3.same
    walk_at "rd"
    refine i_methI ?_
    walk_at "rd"
    refine ⟨(), x, dx, fs, rfl, hx3, f7, ?_⟩
    walk_at "rd"
    refine ⟨H0, x, m, rs, zs, fl, bl, A', M3, .ref p2, rw, t, rfl, hR3, r0, go, m0, hrd3, fun np H4 s4 hnp => ?_⟩
    have hx4 := s4 _ _ hx3
    have hM4 := hM3.same s4
    walk_at "rd"
    refine i_dix ?_
    refine i_fld ?_
    walk_at "rd"
    refine ⟨x, _, dx, fs, .ref md, rfl, hx4, T.i_Run.cl, T.nRM, f4, ?_⟩
    walk_at "rd"
    refine i_ixT (.inl (.inl (s4 _ _ h1))) (show atI _ 0 = some (.str rw.name) from rfl) ?_
    refine ⟨md, _, rfl, hM4.get hzm, ?_⟩
    refine ⟨.inl ⟨rfl, _, sqL_inj_of (hM4.at_ _ hzm)⟩, ?_⟩
    walk_at "rd"
    refine i_methI ?_
    walk_at "rd"
    refine i_ixT (.inl (.inl (s4 _ _ h1))) (show atI _ 1 = some (.str rw.d.word) from rfl) ?_
    walk_at "rd"
    refine ⟨rw.d, rfl, fun y dy H5 hN5 => ?_⟩
    refine ⟨rw.d, y, dy, [], rfl, hN5.at, rfl, ?_⟩
    have s5 := s4.trans hN5.same
    walk_at "rd"
    refine i_fld ?_
    refine i_fld ?_
    walk_at "rd"
    refine ⟨x, _, dx, fs, .ref lx, rfl, s5 _ _ hx3, T.i_Run.cl, T.nRL, f1, ?_⟩
    refine ⟨lx, _, dxl, fsl, .int m, rfl, s5 _ _ (hs3 _ _ hlx), T.i_Loop.cl, T.nM, gm, ?_⟩
    walk_at "rd"
    refine ⟨y, np, gets m fl bl M3 t rw, m, rfl, sqL_inj_of (hN5.same _ _ hnp), gets_len rok, m0, fun hti => ?_, ?_⟩
    · have ntk : rw.d ≠ .take := by rw [hti]; decide
      have e60 : (10 : Int) ^ 60 < 2 ^ 200 := by decide +kernel
      have b0 := gets_b (fl := fl) (bl := bl) gi m0 m60 rok ntk 0
      have b1 := gets_b (fl := fl) (bl := bl) gi m0 m60 rok ntk 1
      exact ok_of 200 200 b0.1 (by omega) b1.1 (by omega) (by decide)
    have hM5 := hM3.same s5
    walk_at "rd"
    refine i_append (hM5.at_ _ hzm) (by rw [List.length_map]; omega) ?_
    have hA5 := hM5.at_ _ hzm
    have hM6 := hM5.app (M' := stepR m fl bl t M3 rw) (x := rw.d.of (gets m fl bl M3 t rw) m) hzm fun y => rfl
    have hx6 : upd H5 (A' rw.name) (.lst (List.map V.int (M3 rw.name) ++ [.int (rw.d.of (gets m fl bl M3 t rw) m)])) x = some (.ins (CE .Run) dx fs) := by
      rw [upd_ne (ne_of (s5 _ _ hx3) hA5 (by intro z; cases z))]; exact s5 _ _ hx3
    have hs6 : Same H0 (upd H5 (A' rw.name) (.lst (List.map V.int (M3 rw.name) ++ [.int (rw.d.of (gets m fl bl M3 t rw) m)]))) := fun b o e => by
      rw [upd_ne (ne_of_none e (hfr _ hzm))]; exact s5 _ _ (hs3 _ _ e)
    have hp5 := s5 _ _ hp3
    have hpA : p ≠ A' rw.name := fun z => by
      have := hM.at_ _ hzm
      rw [← z, hN1.free] at this; cases this
    rw [fn]
    refine ⟨⟨⟨lx, k, fd, bd, md, dx, fs, hL, hf, hb, hx6, f1, f2, f3, f4, ⟨f5, f6, f7, f8, f9⟩, hM6⟩, hs6, hfr⟩, ?_, (hu3.same s5).keep (TK.upd hA5 (by intro xs z; cases z)), hx6, hM6, _, _, rfl⟩
    rw [upd_ne hpA]; exact hp5
  · rintro σ H3 ⟨hR3, hp3, hu3, hx3, hM3, x2, x3, rfl⟩
    rw [← l1, List.take_length] at hR3
    exact q H3 hR3
def spRLast (CL CR : Addr) : Sp := fun vs H Q _ => ∃ (H0 : Hp) (x : Addr) (m : Int) (rs : List Row) (zs : List Str) (fl bl : Ls) (A : Str → Addr) (M : Md) (z : Str) (n : Nat), vs = [.ref x, .str z, .int (n : Int)] ∧ RunAt CL CR H0 H x m rs zs fl bl A M ∧ RowsOk zs rs ∧ z ∈ zs ∧ (0 < deep rs z → ∃ l, bl.lookup z = some l ∧ deep rs z ≤ l.length) ∧ (M z).length = n ∧ 0 < m ∧
  ∀ p H2, New H p (.lst (List.map V.int (endsOf m bl rs M n z))) H2 → Q (.ref p) H2
theorem m_last (T : Txt K mg C CE) : MethI P w K mg base 2 "last_made" ["self", "name", "turns"] (fun _ : Unit => CE .Run) (fun _ => spRLast (CE .Loop) (CE .Run)) := by
  have Mmade_at : MethI P w K mg base 1 "made_at" ["self", "name", "turn"] (fun _ : Unit => CE .Run) (fun _ => spRMadeAt (CE .Loop) (CE .Run)) := m_madeat T
  have Mdeepest : MethI P w K mg base 1 "deepest" ["self", "name"] (fun _ : Unit => CE .Loop) (fun _ => spLDeep (CE .Loop)) := m_deepest T
  refine ⟨fun _ => ⟨T.i_Run.cl, ?_⟩⟩
  refine T.f_Run_last_made.fn sc_Run_last_made (fun _ _ _ _ _ _ us hl => match us, hl with | [_, _, _], _ => rfl) (by rintro vs H Q E ⟨H0, x, m, rs, zs, fl, bl, A, M, z, n, rfl, _⟩; rfl) (fun f cdv A outer s H vs Q E hr h => ?_)
  obtain ⟨H0, x, m, rs, zs, fl, bl, A', M, z, n, rfl, hR, hok, hz, hbz, hlM, m0, q⟩ := h
  have hR0 := hR
  obtain ⟨⟨lx, k, fd, bd, md, dx, fs, hL, hf, hb, hx, f1, f2, f3, f4, ⟨f5, f6, f7, f8, f9⟩, hM⟩, hs, hfr⟩ := hR
  obtain ⟨dxl, fsl, hlx, gm, gr, gd⟩ := loop_fs hL
  have hd6 := deep_6 hok z
  obtain ⟨dn, hdn⟩ := Int.eq_ofNat_of_zero_le (deep_nn rs z)
  have lb := line_big
  refine ⟨_, (pss_one (ps_ret (pe_lc (Blk.of (caps := ["name", "self", "turns"]) (ix := [1, 0, 2]) rfl) rfl (pi_range1 rfl T.nrange (pa_cons (pe_methI Mdeepest (pe_fld (pv 0) rfl) (hr.mono (by decide)) (pa_cons (pv 1) pa_nil (se rfl)) (hst := se rfl) (hpl := nst rfl)) pa_nil (se rfl))) (fun _ _ _ _ => pf_nil) (fun _ _ _ _ => (pe_methI Mmade_at (pv 2) (hr.mono (by decide)) (pa_cons (pv 1) (pa_cons (pe_op op_sub (pe_op op_sub (pv 3) pe_int) (pv 0)) pa_nil (se rfl)) (se rfl)) (hst := se rfl) (hpl := nst rfl)))))), ?_⟩
  walk_at "rd"
  refine i_lc (i_rng1 ?_)
  walk_at "rd"
  refine i_methI ?_
  refine i_fld ?_
  walk_at "rd"
  refine ⟨x, _, dx, fs, .ref lx, rfl, hx, T.i_Run.cl, T.nRL, f1, ?_⟩
  refine ⟨(), lx, dxl, fsl, rfl, hs _ _ hlx, gd, ?_⟩
  walk_at "rd"
  refine ⟨lx, k, m, rs, z, rfl, hL.same hs, ?_⟩
  walk_at "rd"
  rw [hdn]
  refine ⟨_, rfl, by omega, by omega, ?_⟩
  rw [Int.toNat_natCast]
  refine lcR (n := dn) (fun i => .int (endV m bl M n z i)) (by omega) (fun i H' R hi s' rr => ?_) (fun D H2 hN => ?_)
  · have e0 : (0 : Int) + (i : Int) = (i : Int) := Int.zero_add _
    rw [e0]
    walk_at "rd"
    refine i_methI ?_
    walk_at "rd"
    refine ⟨(), x, dx, fs, rfl, s' _ _ hx, f5, ?_⟩
    walk_at "rd"
    refine ⟨H0, x, m, rs, zs, fl, bl, A', M, z, (n : Int) - 1 - (i : Int), rfl, hR0.to s', hz, m0, fun h0 => ?_, fun h0 => by omega, ?_⟩
    · obtain ⟨l, h1, h2⟩ := hbz (by omega)
      exact ⟨l, h1, by omega⟩
    · have e : (if (n : Int) - 1 - (i : Int) < 0 then (look bl z).getD (-((n : Int) - 1 - (i : Int)) - 1).toNat 0 % m else (M z).getD ((n : Int) - 1 - (i : Int)).toNat 0) = endV m bl M n z i := by
        unfold endV
        by_cases h0 : n < i + 1
        · rw [if_pos h0, if_pos (by omega), show (-((n : Int) - 1 - (i : Int)) - 1).toNat = i - n by omega]
        · rw [if_neg h0, if_neg (by omega), show ((n : Int) - 1 - (i : Int)).toNat = n - 1 - i by omega]
      rw [e]; exact rr
  · refine q D H2 ?_
    unfold endsOf
    rw [hdn, Int.toNat_natCast, List.map_map]
    exact hN
def spRunInit (CL CR : Addr) : Sp := fun vs H Q _ => ∃ (H0 : Hp) (x dx lx k fd bd : Addr) (m : Int) (rs : List Row) (zs : List Str) (fl bl : Ls), vs = [.ref x, .ref lx, .ref fd, .ref bd] ∧ H x = some (.ins CR dx []) ∧ Same H0 H ∧ H0 x = none ∧ LoopAt CL H0 lx k m rs ∧ LsAt H0 fd fl ∧ LsAt H0 bd bl ∧ RowsOk zs rs ∧
  ∀ A H2, RunAt CL CR H0 H2 x m rs zs fl bl A (fun _ => []) → Q .non H2
theorem mk_run (T : Txt K mg C CE) : MkI P w K mg base 2 (CE .Run) ["self", "loop", "feeds", "begin"] (spRunInit (CE .Loop) (CE .Run)) := by
  have Mrows : MethI P w K mg base 1 "rows" ["self"] (fun _ : Unit => CE .Loop) (fun _ => spLRows (CE .Loop)) := m_rows T
  refine T.i_Run.mki sc_Run___init__ (fun _ _ _ _ _ _ us hl => match us, hl with | [_, _, _, _], _ => rfl) (by rintro vs H Q E ⟨H0, x, dx, lx, k, fd, bd, m, rs, zs, fl, bl, rfl, _⟩; rfl) (fun f cdv A outer s H vs Q E hr h => ?_)
  obtain ⟨H0, x, dx, lx, k, fd, bd, m, rs, zs, fl, bl, rfl, hx, hs, hx0, hL, hf, hb, hok, q⟩ := h
  obtain ⟨dxl, fsl, hlx, gm, gr, gd⟩ := loop_fs hL
  have l2 := hok.len
  have l12 := hok.names.1
  have lb := line_big
  have su : ∀ {H' : Hp} {o : HO}, Same H0 H' → Same H0 (upd H' x o) := fun s b u e => by rw [upd_ne (ne_of_none e hx0)]; exact s _ _ e
  refine ⟨_, (pss_cons (ps_fld (pv 0) (pv 1) (by with_unfolding_all rfl))
    (pss_cons (ps_fld (pv 0) (pv 2) (by with_unfolding_all rfl))
    (pss_cons (ps_fld (pv 0) (pv 3) (by with_unfolding_all rfl))
    (pss_cons (ps_fld (pv 0) pe_dnewK (by with_unfolding_all rfl))
    (pss_one (ps_for PassesOwn.never rfl (pi_list (pe_methI0 Mrows (pv 1) (hr.mono (by decide)))) (pg_name (i := 4) sc_Run___init__.nd rfl (by first | exact Or.inl rfl | exact Or.inr rfl))
      (pss_one (ps_dput (hu_of hr) (pe_fld (pv 0) rfl) (pe_ix ix_seq (pv 4) pe_int (fun _ _ => rfl)) (pe_lstA pa_nil) rfl)))))))), ?_⟩
  walk_at "rd"
  refine i_setFld ?_
  walk_at "rd"
  refine ⟨x, _, dx, [], rfl, hx, T.i_Run.cl, T.nRL, by show 0 < 1000; decide, ?_⟩
  have hs1 := su (o := .ins (CE .Run) dx (putF (Str.ofString "loop") (.ref lx) [])) hs
  have hx1 : upd H x (.ins (CE .Run) dx (putF (Str.ofString "loop") (.ref lx) [])) x = some (.ins (CE .Run) dx (putF (Str.ofString "loop") (.ref lx) [])) := upd_same
  generalize upd H x (.ins (CE .Run) dx (putF (Str.ofString "loop") (.ref lx) [])) = H1 at *
  walk_at "rd"
  dsimp only
  refine i_setFld ?_
  walk_at "rd"
  refine ⟨x, _, dx, _, rfl, hx1, T.i_Run.cl, T.nRF, (show 1 < 1000 by decide), ?_⟩
  have hs2 := su (o := .ins (CE .Run) dx (putF (Str.ofString "feeds") (.ref fd) (putF (Str.ofString "loop") (.ref lx) []))) hs1
  have hx2 : upd H1 x (.ins (CE .Run) dx (putF (Str.ofString "feeds") (.ref fd) (putF (Str.ofString "loop") (.ref lx) []))) x = some (.ins (CE .Run) dx (putF (Str.ofString "feeds") (.ref fd) (putF (Str.ofString "loop") (.ref lx) []))) := upd_same
  generalize upd H1 x (.ins (CE .Run) dx (putF (Str.ofString "feeds") (.ref fd) (putF (Str.ofString "loop") (.ref lx) []))) = H2 at *
  walk_at "rd"
  dsimp only
  refine i_setFld ?_
  walk_at "rd"
  refine ⟨x, _, dx, _, rfl, hx2, T.i_Run.cl, T.nRB, (show 2 < 1000 by decide), ?_⟩
  have hs3 := su (o := .ins (CE .Run) dx (putF (Str.ofString "begin") (.ref bd) (putF (Str.ofString "feeds") (.ref fd) (putF (Str.ofString "loop") (.ref lx) [])))) hs2
  have hx3 : upd H2 x (.ins (CE .Run) dx (putF (Str.ofString "begin") (.ref bd) (putF (Str.ofString "feeds") (.ref fd) (putF (Str.ofString "loop") (.ref lx) [])))) x = some (.ins (CE .Run) dx (putF (Str.ofString "begin") (.ref bd) (putF (Str.ofString "feeds") (.ref fd) (putF (Str.ofString "loop") (.ref lx) [])))) := upd_same
  generalize upd H2 x (.ins (CE .Run) dx (putF (Str.ofString "begin") (.ref bd) (putF (Str.ofString "feeds") (.ref fd) (putF (Str.ofString "loop") (.ref lx) [])))) = H3 at *
  walk_at "rd"
  dsimp only
  refine i_setFld ?_
  refine i_dnew fun md hmd => ?_
  have hs4 : Same H0 (upd H3 md (.dK [])) := hs3.upd hmd
  have hm4 : upd H3 md (.dK []) md = some (.dK []) := upd_same
  have hxm : x ≠ md := ne_of_none hx3 hmd
  have hx4 : upd H3 md (.dK []) x = some (.ins (CE .Run) dx (putF (Str.ofString "begin") (.ref bd) (putF (Str.ofString "feeds") (.ref fd) (putF (Str.ofString "loop") (.ref lx) [])))) := by rw [upd_ne hxm]; exact hx3
  have hmd0 : H0 md = none := hs3.free hmd
  generalize upd H3 md (.dK []) = H4 at *
  walk_at "rd"
  refine ⟨x, _, dx, _, rfl, hx4, T.i_Run.cl, T.nRM, (show 3 < 1000 by decide), ?_⟩
  have hs5 := su (o := .ins (CE .Run) dx (putF (Str.ofString "made") (.ref md) (putF (Str.ofString "begin") (.ref bd) (putF (Str.ofString "feeds") (.ref fd) (putF (Str.ofString "loop") (.ref lx) []))))) hs4
  have hx5 : upd H4 x (.ins (CE .Run) dx (putF (Str.ofString "made") (.ref md) (putF (Str.ofString "begin") (.ref bd) (putF (Str.ofString "feeds") (.ref fd) (putF (Str.ofString "loop") (.ref lx) []))))) x = some (.ins (CE .Run) dx (putF (Str.ofString "made") (.ref md) (putF (Str.ofString "begin") (.ref bd) (putF (Str.ofString "feeds") (.ref fd) (putF (Str.ofString "loop") (.ref lx) []))))) := upd_same
  have hm5 : upd H4 x (.ins (CE .Run) dx (putF (Str.ofString "made") (.ref md) (putF (Str.ofString "begin") (.ref bd) (putF (Str.ofString "feeds") (.ref fd) (putF (Str.ofString "loop") (.ref lx) []))))) md = some (.dK []) := by rw [upd_ne (Ne.symm hxm)]; exact hm4
  generalize upd H4 x (.ins (CE .Run) dx (putF (Str.ofString "made") (.ref md) (putF (Str.ofString "begin") (.ref bd) (putF (Str.ofString "feeds") (.ref fd) (putF (Str.ofString "loop") (.ref lx) []))))) = H5 at *
  walk_at "rd"
  dsimp only
  refine i_for (i_list ?_)
  refine i_methI ?_
  walk_at "rd"
  refine ⟨(), lx, dxl, fsl, rfl, hs5 _ _ hlx, gr, ?_⟩
  walk_at "rd"
  refine ⟨lx, k, m, rs, rfl, hL.same hs5, fun p us H6 hN6 hu => ?_⟩
  have l1 := hu.len
  have hm6 := hN6.same _ _ hm5
  have hx6 := hN6.same _ _ hx5
  have hs6 := hs5.trans hN6.same
  have hpm : p ≠ md := fun z => by have := hN6.free; rw [z, hm5] at this; cases this
  refine ⟨p, rfl, ⟨us, hN6.lst⟩, ?_⟩
  refine for_list (xs := us) (fun i σ H' => SameB md H6 H' ∧ ∃ (A' : Str → Addr) (x4 : Option V), σ = [some (.ref x), some (.ref lx), some (.ref fd), some (.ref bd), x4] ∧ MadeAt H' md A' (zs.take i) (fun _ => []) ∧ ∀ z ∈ zs.take i, H0 (A' z) = none)
    ⟨fun b u n e => e, fun _ => md, none, rfl, ⟨⟨[], hm6, Nat.zero_le _, fun z h => by simp at h⟩, fun z h => by simp at h, fun y h => by simp at h⟩, fun z h => by simp at h⟩ (fun i σ H' _ h => sqL_inj_of (h.1 _ _ hpm hN6.at)) ?_ ?_
  · rintro i u σ H7 hui ⟨sb, A', x4, rfl, hM, hfr⟩
    have hir : i < rs.length := by rw [l1]; exact (List.getElem?_eq_some_iff.mp hui).1
    have hri := List.getElem?_eq_getElem hir
    have r1 : RowAt H7 rs[i] u := (hu.at_ i rs[i] u hri hui).keep fun b xs e => sb b _ (fun z => by rw [z, hm6] at e; cases e) e
    have hnm := (hok.at_ i rs[i] hri).name
    generalize rs[i] = rw at *
    obtain ⟨p1, p2, vs, rfl, h1, h2, h3⟩ := r1
    have hx7 := sb _ _ hxm hx6
    have hs7 : Same H0 H7 := fun b o e => sb b o (ne_of_none e hmd0) (hs6 _ _ e)
    walk_at "rd"
    refine i_dput ?_
    walk_at "rd"
    refine ⟨by show 0 ≤ sizeLine; exact Nat.zero_le _, fun lp H8 hN => ?_⟩
    walk_at "rd"
    refine i_fld ?_
    walk_at "rd"
    refine ⟨x, _, dx, _, .ref md, rfl, hN.same _ _ hx7, T.i_Run.cl, T.nRM, rfl, ?_⟩
    walk_at "rd"
    refine i_ixT (.inl (.inl (hN.same _ _ h1))) (show atI _ 0 = some (.str rw.name) from rfl) ?_
    obtain ⟨H9, hput, sb9, hM9⟩ := hM.grow hnm (nd_names hok.names hnm) l12 hN
    refine ⟨md, H9, rfl, hput, fun b o n e => sb9 b o n (sb b o n e), _, _, rfl, hM9, fun z hz => ?_⟩
    by_cases hzn : z = rw.name
    · rw [if_pos hzn]; exact hs7.free hN.free
    · rw [if_neg hzn]
      refine hfr z ?_
      rw [List.take_add_one, hnm] at hz
      rcases List.mem_append.mp hz with w | w
      · exact w
      · exact absurd (by simpa using w) hzn
  · rintro σ H7 ⟨sb, A', x4, rfl, hM, hfr⟩
    rw [← l1, l2, List.take_length] at hM hfr
    refine q A' H7 ⟨⟨lx, k, fd, bd, md, dx, _, hL, hf, hb, sb _ _ hxm hx6, rfl, rfl, rfl, rfl, ⟨rfl, rfl, rfl, rfl, rfl⟩, hM⟩, fun b o e => sb b o (ne_of_none e hmd0) (hs6 _ _ e), hfr⟩
def spCTurns : Sp := fun vs H Q _ => ∃ n : Nat, vs = [.int (n : Int)] ∧ n ≤ 300 ∧ Q .non H
theorem d_cturns (T : Txt K mg C CE) (Kb : K.In base) (G : base.Ns mainGlobals mg) : Df P w K mg base 1 "check_turns" ["turns"] spCTurns := by
  refine T.f_cturns.df Kb G sc_check_turns (fun _ _ _ _ _ _ us hl => match us, hl with | [_], _ => rfl) (by rintro vs H Q E ⟨m, rfl, _⟩; rfl) (fun f cdv A outer s H vs Q E hr h => ?_)
  obtain ⟨n, rfl, hn, q⟩ := h
  refine ⟨_, (pss_one (ps_if (pt_not (pt_chain op_le op_le pe_int (pv 0) (pe_val T.v_MOST_TURNS rfl))) (pss_one ps_never) pss_nil)), ?_⟩
  walk_at "rd"
  refine i_iteDt (by omega) ?_
  walk_at "rd"
  rw [decide_eq_true (show (n : Int) ≤ 300 by omega)]
  walk_at "rd"
  exact q
def spCFeeds (CL : Addr) : Sp := fun vs H Q _ => ∃ (lx k fd : Addr) (m : Int) (rs : List Row) (fl : Ls) (n : Nat), vs = [.ref lx, .int (n : Int), .ref fd] ∧ LoopAt CL H lx k m rs ∧ LsAt H fd fl ∧ FeOk rs fl n ∧ ∀ H2, Same H H2 → Q .non H2
theorem d_cfeeds (T : Txt K mg C CE) (Kb : K.In base) (G : base.Ns mainGlobals mg) : Df P w K mg base 2 "check_feeds" ["loop", "turns", "feeds"] (spCFeeds (CE .Loop)) := by
  have Mrows : MethI P w K mg base 1 "rows" ["self"] (fun _ : Unit => CE .Loop) (fun _ => spLRows (CE .Loop)) := m_rows T
  refine T.f_cfeeds.df Kb G sc_check_feeds (fun _ _ _ _ _ _ us hl => match us, hl with | [_, _, _], _ => rfl) (by rintro vs H Q E ⟨lx, k, fd, m, rs, fl, n, rfl, _⟩; rfl) (fun f cdv A outer s H vs Q E hr h => ?_)
  obtain ⟨lx, k, fd, m, rs, fl, n, rfl, hL, hf, hfe, q⟩ := h
  obtain ⟨dxl, fsl, hlx, gm, gr, gd⟩ := loop_fs hL
  refine ⟨_, (pss_one (ps_for PassesOwn.never rfl (pi_list (pe_methI0 Mrows (pv 0) (hr.mono (by decide)))) (pg_name (i := 3) sc_check_feeds.nd rfl (by first | exact Or.inl rfl | exact Or.inr rfl))
      (pss_one (ps_if (PW.pt (pw_and (pt_cmpR op_eq (pe_ix ix_seq (pv 3) pe_int (fun _ _ => rfl)) pe_str (nomark _)) (pw_and1 (pt_cmpR op_lt (pe_callB call_len_seq rfl T.nlen PySem.boot_len (pa_cons (pe_dget2 (hu_of hr) (pv 2) (pe_ix ix_seq (pv 3) pe_int (fun _ _ => rfl)) (pe_lstA pa_nil) ⟨rfl, rfl, rfl, rfl⟩) pa_nil (se rfl)) (he := se rfl) (hpl := nst rfl)) (pv 1) (nomark _))))) (pss_one ps_never) pss_nil)))), ?_⟩
  walk_at "rd"
  refine i_for (i_list ?_)
  refine i_methI ?_
  walk_at "rd"
  refine ⟨(), lx, dxl, fsl, rfl, hlx, gr, ?_⟩
  walk_at "rd"
  refine ⟨lx, k, m, rs, rfl, hL, fun p us H1 hN1 hu => ?_⟩
  have l1 := hu.len
  refine ⟨p, rfl, ⟨us, hN1.lst⟩, ?_⟩
  refine for_list (xs := us) (fun i σ H' => Same H1 H' ∧ ∃ x3, σ = [some (.ref lx), some (.int (n : Int)), some (.ref fd), x3]) ⟨Same.refl _, none, rfl⟩ (fun i σ H' _ h => sqL_inj_of (h.1 _ _ hN1.at)) ?_ ?_
  · rintro i u σ H2 hui ⟨s2, x3, rfl⟩
    have hir : i < rs.length := by rw [l1]; exact (List.getElem?_eq_some_iff.mp hui).1
    have hri := List.getElem?_eq_getElem hir
    have r1 := (hu.at_ i rs[i] u hri hui).same s2
    have hfr := hfe rs[i] (List.getElem_mem hir)
    generalize rs[i] = rw at *
    obtain ⟨p1, p2, vs, rfl, h1, h2, h3⟩ := r1
    walk_at "rd"
    refine i_ixT (.inl (.inl h1)) (show atI _ 1 = some (.str rw.d.word) from rfl) ?_
    walk_at "rd"
    by_cases ht : rw.d = .take
    · refine i_iteSe (by rw [ht]; rfl) ?_
      have hf2 := hf.same (hN1.same.trans s2)
      walk_at "rd"
      refine i_dget2 ?_
      walk_at "rd"
      refine ⟨fd, rfl, hf2.isD, ?_⟩
      walk_at "rd"
      refine i_ixT (.inl (.inl h1)) (show atI _ 0 = some (.str rw.name) from rfl) ?_
      walk_at "rd"
      refine ⟨by show 0 ≤ sizeLine; exact Nat.zero_le _, fun e H3 hN3 => ?_⟩
      obtain ⟨o, lp, g1, g2, g3⟩ := get_len (z := rw.name) (hf2.same hN3.same) hN3.at
      refine ⟨o, g1, ?_⟩
      rw [g2]
      walk_at "rd"
      refine ⟨lp, _, rfl, .inl (sqL_inj_of g3), ?_⟩
      rw [List.length_map]
      walk_at "rd"
      refine i_iteDf (fun z => by
        obtain ⟨l, hl, hnl⟩ := hfr ht (by omega)
        rw [look_of hl] at z; omega) ?_
      walk_at "rd"
      exact ⟨s2.trans hN3.same, _, rfl⟩
    · refine i_iteSf (word_ne (e := .take) ht) ?_
      walk_at "rd"
      exact ⟨s2, _, rfl⟩
  · rintro σ H2 ⟨s2, x3, rfl⟩
    exact q _ (hN1.same.trans s2)
def spCBegin (CL : Addr) : Sp := fun vs H Q _ => ∃ (lx k bd : Addr) (m : Int) (rs : List Row) (bl : Ls), vs = [.ref lx, .ref bd] ∧ LoopAt CL H lx k m rs ∧ LsAt H bd bl ∧ BeOk rs bl ∧ ∀ H2, Same H H2 → Q .non H2
theorem d_cbegin (T : Txt K mg C CE) (Kb : K.In base) (G : base.Ns mainGlobals mg) : Df P w K mg base 2 "check_begin" ["loop", "begin"] (spCBegin (CE .Loop)) := by
  have Mrows : MethI P w K mg base 1 "rows" ["self"] (fun _ : Unit => CE .Loop) (fun _ => spLRows (CE .Loop)) := m_rows T
  have Mdeepest : MethI P w K mg base 1 "deepest" ["self", "name"] (fun _ : Unit => CE .Loop) (fun _ => spLDeep (CE .Loop)) := m_deepest T
  refine T.f_cbegin.df Kb G sc_check_begin (fun _ _ _ _ _ _ us hl => match us, hl with | [_, _], _ => rfl) (by rintro vs H Q E ⟨lx, k, bd, m, rs, bl, rfl, _⟩; rfl) (fun f cdv A outer s H vs Q E hr h => ?_)
  obtain ⟨lx, k, bd, m, rs, bl, rfl, hL, hb, hbe, q⟩ := h
  obtain ⟨dxl, fsl, hlx, gm, gr, gd⟩ := loop_fs hL
  refine ⟨_, (pss_one (ps_for PassesOwn.never rfl (pi_list (pe_methI0 Mrows (pv 0) (hr.mono (by decide)))) (pg_name (i := 2) sc_check_begin.nd rfl (by first | exact Or.inl rfl | exact Or.inr rfl))
      (pss_one (ps_if (pt_cmpR op_lt (pe_callB call_len_seq rfl T.nlen PySem.boot_len (pa_cons (pe_dget2 (hu_of hr) (pv 1) (pe_ix ix_seq (pv 2) pe_int (fun _ _ => rfl)) (pe_lstA pa_nil) ⟨rfl, rfl, rfl, rfl⟩) pa_nil (se rfl)) (he := se rfl) (hpl := nst rfl)) (pe_methI Mdeepest (pv 0) (hr.mono (by decide)) (pa_cons (pe_ix ix_seq (pv 2) pe_int (fun _ _ => rfl)) pa_nil (se rfl)) (hst := se rfl) (hpl := nst rfl)) (nomark _)) (pss_one ps_never) pss_nil)))), ?_⟩
  walk_at "rd"
  refine i_for (i_list ?_)
  refine i_methI ?_
  walk_at "rd"
  refine ⟨(), lx, dxl, fsl, rfl, hlx, gr, ?_⟩
  walk_at "rd"
  refine ⟨lx, k, m, rs, rfl, hL, fun p us H1 hN1 hu => ?_⟩
  have l1 := hu.len
  refine ⟨p, rfl, ⟨us, hN1.lst⟩, ?_⟩
  refine for_list (xs := us) (fun i σ H' => Same H1 H' ∧ ∃ x2, σ = [some (.ref lx), some (.ref bd), x2]) ⟨Same.refl _, none, rfl⟩ (fun i σ H' _ h => sqL_inj_of (h.1 _ _ hN1.at)) ?_ ?_
  · rintro i u σ H2 hui ⟨s2, x2, rfl⟩
    have hir : i < rs.length := by rw [l1]; exact (List.getElem?_eq_some_iff.mp hui).1
    have hri := List.getElem?_eq_getElem hir
    have r1 := (hu.at_ i rs[i] u hri hui).same s2
    have hbr := hbe rs[i] (List.getElem_mem hir)
    generalize rs[i] = rw at *
    obtain ⟨p1, p2, vs, rfl, h1, h2, h3⟩ := r1
    have t2 := hN1.same.trans s2
    have hb2 := hb.same t2
    have dnn := deep_nn rs rw.name
    walk_at "rd"
    refine i_dget2 ?_
    walk_at "rd"
    refine ⟨bd, rfl, hb2.isD, ?_⟩
    walk_at "rd"
    refine i_ixT (.inl (.inl h1)) (show atI _ 0 = some (.str rw.name) from rfl) ?_
    walk_at "rd"
    refine ⟨by show 0 ≤ sizeLine; exact Nat.zero_le _, fun e H3 hN3 => ?_⟩
    obtain ⟨o, lp, l, g1, g2, g3, g4⟩ : ∃ (o : Option V) (lp : Addr) (l : List Int), DGet H3 bd (.str rw.name) o ∧ o.getD (.ref e) = .ref lp ∧ H3 lp = some (.lst (List.map V.int l)) ∧ ¬ ((l.length : Int) < deep rs rw.name) := by
      cases hlk : bl.lookup rw.name with
      | none =>
        refine ⟨none, e, [], (hb2.same hN3.same).getN hlk, rfl, hN3.at, fun z => ?_⟩
        have z' : (0 : Int) < deep rs rw.name := z
        obtain ⟨l, h1, _⟩ := hbr z'
        rw [hlk] at h1; cases h1
      | some l =>
        obtain ⟨lp, g1, g2⟩ := (hb2.same hN3.same).get hlk
        refine ⟨_, lp, l, g1, rfl, g2, fun z => ?_⟩
        obtain ⟨l', h1, h2⟩ := hbr (by omega)
        rw [hlk] at h1
        cases h1
        omega
    refine ⟨_, g1, ?_⟩
    rw [g2]
    walk_at "rd"
    refine ⟨lp, _, rfl, .inl (sqL_inj_of g3), ?_⟩
    rw [List.length_map]
    walk_at "rd"
    refine i_methI ?_
    walk_at "rd"
    have t3 := t2.trans hN3.same
    refine ⟨(), lx, dxl, fsl, rfl, t3 _ _ hlx, gd, ?_⟩
    walk_at "rd"
    refine i_ixT (.inl (.inl (hN3.same _ _ h1))) (show atI _ 0 = some (.str rw.name) from rfl) ?_
    walk_at "rd"
    refine ⟨lx, k, m, rs, rw.name, rfl, hL.same t3, ?_⟩
    walk_at "rd"
    refine i_iteDf g4 ?_
    walk_at "rd"
    exact ⟨s2.trans hN3.same, _, rfl⟩
  · rintro σ H2 ⟨s2, x2, rfl⟩
    exact q _ (hN1.same.trans s2)
structure Asks (CL : Addr) (H : Hp) (lx k fd bd : Addr) (m : Int) (rs : List Row) (zs : List Str) (fl bl : Ls) (n : Nat) : Prop where
  loop : LoopAt CL H lx k m rs
  ok : RowsOk zs rs
  fe : LsAt H fd fl
  be : LsAt H bd bl
  feo : FeOk rs fl n
  beo : BeOk rs bl
  few : n ≤ 300
  m2 : 2 ≤ m
  m60 : m ≤ 10 ^ 60
theorem Asks.same {CL : Addr} {H H' : Hp} {lx k fd bd : Addr} {m : Int} {rs : List Row} {zs : List Str} {fl bl : Ls} {n : Nat} (s : Same H H') (h : Asks CL H lx k fd bd m rs zs fl bl n) : Asks CL H' lx k fd bd m rs zs fl bl n :=
  ⟨h.loop.same s, h.ok, h.fe.same s, h.be.same s, h.feo, h.beo, h.few, h.m2, h.m60⟩
def spCRun (CL : Addr) : Sp := fun vs H Q _ => ∃ (lx k fd bd : Addr) (m : Int) (rs : List Row) (zs : List Str) (fl bl : Ls) (n : Nat), vs = [.ref lx, .int (n : Int), .ref fd, .ref bd] ∧ Asks CL H lx k fd bd m rs zs fl bl n ∧ ∀ H2, Same H H2 → Q .non H2
theorem d_crun (T : Txt K mg C CE) (Kb : K.In base) (G : base.Ns mainGlobals mg) : Df P w K mg base 3 "check_run" ["loop", "turns", "feeds", "begin"] (spCRun (CE .Loop)) := by
  have Dcheck_turns : Df P w K mg base 1 "check_turns" ["turns"] spCTurns := d_cturns T Kb G
  have Dcheck_feeds : Df P w K mg base 2 "check_feeds" ["loop", "turns", "feeds"] (spCFeeds (CE .Loop)) := d_cfeeds T Kb G
  have Dcheck_begin : Df P w K mg base 2 "check_begin" ["loop", "begin"] (spCBegin (CE .Loop)) := d_cbegin T Kb G
  refine T.f_crun.df Kb G sc_check_run (fun _ _ _ _ _ _ us hl => match us, hl with | [_, _, _, _], _ => rfl) (by rintro vs H Q E ⟨lx, k, fd, bd, m, rs, zs, fl, bl, n, rfl, _⟩; rfl) (fun f cdv A outer s H vs Q E hr h => ?_)
  obtain ⟨lx, k, fd, bd, m, rs, zs, fl, bl, n, rfl, h, q⟩ := h
  refine ⟨_, (pss_cons (ps_expr (pe_callD Dcheck_turns (hr.mono (by decide)) rfl (pa_cons (pv 1) pa_nil (se rfl)) (he := se rfl) (hpl := nst rfl)))
    (pss_cons (ps_expr (pe_callD Dcheck_feeds (hr.mono (by decide)) rfl (pa_cons (pv 0) (pa_cons (pv 1) (pa_cons (pv 2) pa_nil (se rfl)) (se rfl)) (se rfl)) (he := se rfl) (hpl := nst rfl)))
    (pss_one (ps_expr (pe_callD Dcheck_begin (hr.mono (by decide)) rfl (pa_cons (pv 0) (pa_cons (pv 3) pa_nil (se rfl)) (se rfl)) (he := se rfl) (hpl := nst rfl)))))), ?_⟩
  walk_at "rd"
  refine ⟨n, rfl, h.few, ?_⟩
  walk_at "rd"
  refine ⟨lx, k, fd, m, rs, fl, n, rfl, h.loop, h.fe, h.feo, fun H1 s1 => ?_⟩
  walk_at "rd"
  refine ⟨lx, k, bd, m, rs, bl, rfl, h.loop.same s1, h.be.same s1, h.beo, fun H2 s2 => ?_⟩
  walk_at "rd"
  exact q _ (s1.trans s2)
def spRun (CL CR : Addr) : Sp := fun vs H Q _ => ∃ (lx k fd bd : Addr) (m : Int) (rs : List Row) (zs : List Str) (fl bl : Ls) (n : Nat), vs = [.ref lx, .int (n : Int), .ref fd, .ref bd] ∧ Asks CL H lx k fd bd m rs zs fl bl n ∧ ∀ x A H2, RunAt CL CR H H2 x m rs zs fl bl A (runR m fl bl rs n) → Q (.ref x) H2
theorem d_run (T : Txt K mg C CE) (Kb : K.In base) (G : base.Ns mainGlobals mg) : Df P w K mg base 5 "done_run" ["loop", "turns", "feeds", "begin"] (spRun (CE .Loop) (CE .Run)) := by
  have Dcheck_run : Df P w K mg base 3 "check_run" ["loop", "turns", "feeds", "begin"] (spCRun (CE .Loop)) := d_crun T Kb G
  have MRun : MkI P w K mg base 2 (CE .Run) ["self", "loop", "feeds", "begin"] (spRunInit (CE .Loop) (CE .Run)) := mk_run T
  have Mdo_turn : MethI P w K mg base 4 "do_turn" ["self", "turn"] (fun _ : Unit => CE .Run) (fun _ => spRTurn (CE .Loop) (CE .Run)) := m_turn T Kb G
  refine T.f_run.df Kb G sc_done_run (fun _ _ _ _ _ _ us hl => match us, hl with | [_, _, _, _], _ => rfl) (by rintro vs H Q E ⟨lx, k, fd, bd, m, rs, zs, fl, bl, n, rfl, _⟩; rfl) (fun f cdv A outer s H vs Q E hr h => ?_)
  obtain ⟨lx, k, fd, bd, m, rs, zs, fl, bl, n, rfl, h, q⟩ := h
  have hn := h.few
  have m2 := h.m2
  have m60 := h.m60
  refine ⟨_, (pss_cons (ps_expr (pe_callD Dcheck_run (hr.mono (by decide)) rfl (pa_cons (pv 0) (pa_cons (pv 1) (pa_cons (pv 2) (pa_cons (pv 3) pa_nil (se rfl)) (se rfl)) (se rfl)) (se rfl)) (he := se rfl) (hpl := nst rfl)))
    (pss_cons (ps_set (i := 4) sc_done_run.nd rfl (by first | exact Or.inl rfl | exact Or.inr rfl) (pe_makeI MRun (hr.mono (by decide)) rfl T.mg_Run (pa_cons (pv 0) (pa_cons (pv 2) (pa_cons (pv 3) pa_nil (se rfl)) (se rfl)) (se rfl)) (he := se rfl) (hpl := nst rfl)))
    (pss_cons (ps_for PassesOwn.never rfl (pi_range1 rfl T.nrange (pa_cons (pv 1) pa_nil (se rfl))) (pg_name (i := 5) sc_done_run.nd rfl (by first | exact Or.inl rfl | exact Or.inr rfl))
      (pss_one (ps_expr (pe_methI Mdo_turn (pv 4) (hr.mono (by decide)) (pa_cons (pv 5) pa_nil (se rfl)) (hst := se rfl) (hpl := nst rfl)))))
    (pss_one (ps_ret (pv 4)))))), ?_⟩
  clear m60
  walk_at "rd"
  refine ⟨lx, k, fd, bd, m, rs, zs, fl, bl, n, rfl, h, fun H1 s1 => ?_⟩
  walk_at "rd"
  refine i_makeI ?_
  walk_at "rd"
  intro x dx hx hdx hne
  have sA : Same H1 (upd (upd H1 dx (.own x)) x (.ins (CE .Run) dx [])) := Same.upd (Same.new hdx) (by rw [upd_ne hne.symm]; exact hx)
  have xA : upd (upd H1 dx (.own x)) x (.ins (CE .Run) dx []) x = some (.ins (CE .Run) dx []) := upd_same
  generalize upd (upd H1 dx (.own x)) x (.ins (CE .Run) dx []) = HA at *
  have a1 := h.same s1
  refine ⟨H, x, dx, lx, k, fd, bd, m, rs, zs, fl, bl, rfl, xA, s1.trans sA, s1.free hx, h.loop, h.fe, h.be, h.ok, fun A' H2 hR => ⟨rfl, ?_⟩⟩
  walk_at "rd"
  refine i_for (i_rng1 ?_)
  walk_at "rd"
  refine ⟨_, rfl, by omega, by omega, ?_⟩
  rw [Int.toNat_natCast]
  refine for_range (lo := 0) (n := n) (fun t σ H' => RunAt (CE .Loop) (CE .Run) H H' x m rs zs fl bl A' (runR m fl bl rs t) ∧ ∃ x5, σ = [some (.ref lx), some (.int (n : Int)), some (.ref fd), some (.ref bd), some (.ref x), x5]) ⟨hR, none, rfl⟩ ?_ ?_
  · rintro t σ H3 ht ⟨hR3, x5, rfl⟩
    have e0 : (0 : Int) + (t : Int) = (t : Int) := Int.zero_add _
    rw [e0]
    have hR4 := hR3
    obtain ⟨⟨lx', k', fd', bd', md, dx', fs, hL, hf, hb, hx3, f1, f2, f3, f4, ⟨f5, f6, f7, f8, f9⟩, hM⟩, hs, hfr⟩ := hR3
    walk_at "rd"
    refine i_methI ?_
    walk_at "rd"
    refine ⟨(), x, dx', fs, rfl, hx3, f8, ?_⟩
    walk_at "rd"
    refine ⟨H, x, m, rs, zs, fl, bl, A', runR m fl bl rs t, t, n, rfl, hR4, h.ok, Going.run fl bl h.ok (by omega) t, h.feo, h.beo, ht, h.few, h.m2, h.m60, fun H4 hR5 => ?_⟩
    walk_at "rd"
    rw [← runR_next] at hR5
    exact ⟨hR5, _, rfl⟩
  · rintro σ H3 ⟨hR3, x5, rfl⟩
    walk_at "rd"
    exact q x A' H3 hR3
def pI (q : Row → Bool) (rs : List Row) (i : Nat) : Bool := match rs[i]? with
  | some r => q r
  | none => false
theorem idx_take (q : Row → Bool) (rs : List Row) : ∀ k, k ≤ rs.length → ((List.range k).filter (pI q rs)).map (fun i => rs[i]?) = ((rs.take k).filter q).map some
  | 0, _ => by simp
  | k + 1, h => by
    have hk : k < rs.length := by omega
    have hr := List.getElem?_eq_getElem hk
    have e : pI q rs k = q rs[k] := by unfold pI; rw [hr]
    rw [List.range_succ, List.filter_append, List.map_append, idx_take q rs k (by omega), List.take_add_one, hr, Option.toList_some, List.filter_append, List.map_append]
    cases hq : q rs[k] <;> simp [e, hq, hr]
theorem idx_filter (q : Row → Bool) (rs : List Row) : ((List.range rs.length).filter (pI q rs)).map (fun i => rs[i]?) = (rs.filter q).map some := by
  have := idx_take q rs rs.length (Nat.le_refl _)
  rw [List.take_length] at this; exact this
theorem idx_len (q : Row → Bool) (rs : List Row) : ((List.range rs.length).filter (pI q rs)).length = (rs.filter q).length := by
  have := congrArg List.length (idx_filter q rs)
  rwa [List.length_map, List.length_map] at this
theorem idx_at {q : Row → Bool} {rs : List Row} {j : Nat} {r : Row} (h : (rs.filter q)[j]? = some r) : ∃ i, ((List.range rs.length).filter (pI q rs))[j]? = some i ∧ rs[i]? = some r := by
  have e := congrArg (fun l => l[j]?) (idx_filter q rs)
  simp only [List.getElem?_map, h, Option.map_some] at e
  cases hj : ((List.range rs.length).filter (pI q rs))[j]? with
  | none => rw [hj] at e; cases e
  | some i =>
    rw [hj] at e
    exact ⟨i, rfl, Option.some.inj e⟩
def isTell (r : Row) : Bool := decide (r.d = .tell)
def pairL (M : Md) (qs : List Row) : Ls := qs.map fun r => (r.name, M r.name)
theorem pr_rows {S : Addr → Prop} {H : Hp} {A : Str → Addr} {zs : List Str} {M : Md} {qs : List Row} {us : List V} {md : Addr} (hl : us.length = qs.length) (hM : MadeAt H md A zs M) (hz : ∀ r ∈ qs, r.name ∈ zs) (hS : ∀ r ∈ qs, S (A r.name))
    (h : ∀ (j : Nat) u r, us[j]? = some u → qs[j]? = some r → ∃ t, u = .ref t ∧ H t = some (.tup [.str r.name, .ref (A r.name)])) : PrAt S H (pairL M qs) us := by
  refine ⟨by unfold pairL; rw [List.length_map]; omega, fun i a u e1 e2 => ?_⟩
  unfold pairL at e1
  rw [List.getElem?_map] at e1
  cases hr : qs[i]? with
  | none => rw [hr] at e1; cases e1
  | some r =>
    rw [hr] at e1
    have e : (r.name, M r.name) = a := Option.some.inj e1
    subst e
    obtain ⟨t, e3, e4⟩ := h i u r e2 hr
    have hm : r ∈ qs := List.mem_of_getElem? hr
    exact ⟨t, A r.name, e3, e4, hM.at_ _ (hz r hm), hS r hm⟩
theorem row_zs {zs : List Str} {rs : List Row} (h : RowsOk zs rs) : ∀ r ∈ rs, r.name ∈ zs := fun r hr => by
  obtain ⟨i, hi⟩ := List.mem_iff_getElem?.mp hr
  exact zs_mem h hi
def spTable (CL : Addr) : Sp := fun vs H Q _ => ∃ (lx k fd bd : Addr) (m : Int) (rs : List Row) (zs : List Str) (fl bl : Ls) (n : Nat), vs = [.ref lx, .int (n : Int), .ref fd, .ref bd] ∧ Asks CL H lx k fd bd m rs zs fl bl n ∧
  ∀ p us H2, Same H H2 → H p = none → H2 p = some (.lst us) → PrAt (fun b => H b = none ∧ b ≠ p) H2 (pairL (runR m fl bl rs n) rs) us → Q (.ref p) H2
theorem d_table (T : Txt K mg C CE) (Kb : K.In base) (G : base.Ns mainGlobals mg) : Df P w K mg base 6 "table" ["loop", "turns", "feeds", "begin"] (spTable (CE .Loop)) := by
  have Ddone_run : Df P w K mg base 5 "done_run" ["loop", "turns", "feeds", "begin"] (spRun (CE .Loop) (CE .Run)) := d_run T Kb G
  have Mrows : MethI P w K mg base 1 "rows" ["self"] (fun _ : Unit => CE .Loop) (fun _ => spLRows (CE .Loop)) := m_rows T
  refine T.f_table.df Kb G sc_table (fun _ _ _ _ _ _ us hl => match us, hl with | [_, _, _, _], _ => rfl) (by rintro vs H Q E ⟨lx, k, fd, bd, m, rs, zs, fl, bl, n, rfl, _⟩; rfl) (fun f cdv A outer s H vs Q E hr h => ?_)
  obtain ⟨lx, k, fd, bd, m, rs, zs, fl, bl, n, rfl, h, q⟩ := h
  obtain ⟨dxl, fsl, hlx, gm, gr, gd⟩ := loop_fs h.loop
  have lb := line_big
  have l2 := h.ok.len
  have l12 := h.ok.names.1
  refine ⟨_, (pss_cons (ps_set (i := 4) sc_table.nd rfl (by first | exact Or.inl rfl | exact Or.inr rfl) (pe_callD Ddone_run (hr.mono (by decide)) rfl (pa_cons (pv 0) (pa_cons (pv 1) (pa_cons (pv 2) (pa_cons (pv 3) pa_nil (se rfl)) (se rfl)) (se rfl)) (se rfl)) (he := se rfl) (hpl := nst rfl)))
    (pss_one (ps_ret (pe_lc (Blk.of (caps := ["done"]) (ix := [4]) rfl) rfl (pi_list (pe_methI0 Mrows (pv 0) (hr.mono (by decide)))) (fun _ _ _ _ => pf_nil) (fun _ _ _ _ => (pe_tupA (pa_cons (pe_ix (ix_seqK (K := K) rfl) (pv 0) pe_int (fun _ _ => rfl)) (pa_cons (pe_dget (hu_of hr) (pe_fldK (K := K) rfl (pv 1) rfl) (pe_ix (ix_seqK (K := K) rfl) (pv 0) pe_int (fun _ _ => rfl)) (fun _ _ => rfl)) pa_nil (se rfl)) (se rfl)))))))), ?_⟩
  walk_at "rd"
  refine ⟨lx, k, fd, bd, m, rs, zs, fl, bl, n, rfl, h, fun x A' H1 hR => ?_⟩
  obtain ⟨⟨lx', k', fd', bd', md, dx, fs, hL, hf, hb, hx, f1, f2, f3, f4, f5, hM⟩, hs, hfr⟩ := hR
  walk_at "rd"
  refine i_lc (i_list ?_)
  refine i_methI ?_
  walk_at "rd"
  refine ⟨(), lx, dxl, fsl, rfl, hs _ _ hlx, gr, ?_⟩
  walk_at "rd"
  refine ⟨lx, k, m, rs, rfl, h.loop.same hs, fun rp us H2 hN2 hu => ?_⟩
  have l1 := hu.len
  refine lcNL us (fun D i y H' => ∃ r t, rs[i]? = some r ∧ y = .ref t ∧ t ≠ D ∧ H' t = some (.tup [.str r.name, .ref (A' r.name)])) hN2.lst (by omega) (fun D i y H' H'' s' hh => ?_) (fun D i v H' R hv hD hy s' rr => ?_) (fun D ys H3 hD s3 hHD hyl hP => ?_)
  · obtain ⟨r, t, e1, e2, e3, e4⟩ := hh
    exact ⟨r, t, e1, e2, e3, s' t _ e3 e4⟩
  · have hir : i < rs.length := by rw [l1]; exact (List.getElem?_eq_some_iff.mp hv).1
    have hri := List.getElem?_eq_getElem hir
    have hzm := zs_mem h.ok hri
    have r1 := (hu.at_ i rs[i] v hri hv).same s'
    generalize rs[i] = rw at *
    obtain ⟨p1, p2, vs, rfl, h1, h2, h3⟩ := r1
    have t2 := hN2.same.trans s'
    walk_at "rd"
    refine i_ixT (.inl (.inl h1)) (show atI _ 0 = some (.str rw.name) from rfl) ?_
    walk_at "rd"
    refine i_dix ?_
    refine i_fld ?_
    walk_at "rd"
    refine ⟨x, _, dx, fs, .ref md, rfl, t2 _ _ hx, T.i_Run.cl, T.nRM, f4, ?_⟩
    walk_at "rd"
    refine i_ixT (.inl (.inl h1)) (show atI _ 0 = some (.str rw.name) from rfl) ?_
    refine ⟨md, _, rfl, (hM.same t2).get hzm, ?_⟩
    walk_at "rd"
    refine ⟨by show 2 ≤ sizeLine; omega, fun t H4 hN4 => ?_⟩
    obtain ⟨ys, hy⟩ := hy
    exact rr _ _ hN4.same ⟨rw, t, hri, rfl, fun z => (by have := hN4.free; rw [z, hy] at this; cases this), hN4.at⟩
  · have t3 := hN2.same.trans s3
    refine q D ys H3 (hs.trans t3) (hs.free (hN2.same.free hD)) hHD ?_
    refine pr_rows (by omega) (hM.same t3) (row_zs h.ok) (fun r hr => ⟨hfr _ (row_zs h.ok r hr), fun z => ?_⟩) (fun j u r e1 e2 => ?_)
    · have := hN2.same _ _ (hM.at_ _ (row_zs h.ok r hr))
      rw [z, hD] at this; cases this
    · obtain ⟨r', t, e3, e4, _, e5⟩ := hP j u e1
      rw [e2] at e3
      cases e3
      exact ⟨t, e4, e5⟩
def spOutcome (CL : Addr) : Sp := fun vs H Q _ => ∃ (lx k fd bd : Addr) (m : Int) (rs : List Row) (zs : List Str) (fl bl : Ls) (n : Nat), vs = [.ref lx, .int (n : Int), .ref fd, .ref bd] ∧ Asks CL H lx k fd bd m rs zs fl bl n ∧
  ∀ t p1 p2 u1 u2 H2, Same H H2 → H2 t = some (.tup [.ref p1, .ref p2]) → H2 p1 = some (.lst u1) → H2 p2 = some (.lst u2) → PrAt (fun _ => True) H2 (pairL (runR m fl bl rs n) (rs.filter isTell)) u1 → PrAt (fun _ => True) H2 (endsL m bl rs (runR m fl bl rs n) n rs) u2 → Q (.ref t) H2
theorem d_outcome (T : Txt K mg C CE) (Kb : K.In base) (G : base.Ns mainGlobals mg) : Df P w K mg base 6 "outcome" ["loop", "turns", "feeds", "begin"] (spOutcome (CE .Loop)) := by
  have Ddone_run : Df P w K mg base 5 "done_run" ["loop", "turns", "feeds", "begin"] (spRun (CE .Loop) (CE .Run)) := d_run T Kb G
  have Mrows : MethI P w K mg base 1 "rows" ["self"] (fun _ : Unit => CE .Loop) (fun _ => spLRows (CE .Loop)) := m_rows T
  have Mdeepest : MethI P w K mg base 1 "deepest" ["self", "name"] (fun _ : Unit => CE .Loop) (fun _ => spLDeep (CE .Loop)) := m_deepest T
  have Mlast_made : MethI P w K mg base 2 "last_made" ["self", "name", "turns"] (fun _ : Unit => CE .Run) (fun _ => spRLast (CE .Loop) (CE .Run)) := m_last T
  refine T.f_outcome.df Kb G sc_outcome (fun _ _ _ _ _ _ us hl => match us, hl with | [_, _, _, _], _ => rfl) (by rintro vs H Q E ⟨lx, k, fd, bd, m, rs, zs, fl, bl, n, rfl, _⟩; rfl) (fun f cdv A outer s H vs Q E hr h => ?_)
  obtain ⟨lx, k, fd, bd, m, rs, zs, fl, bl, n, rfl, h, q⟩ := h
  obtain ⟨dxl, fsl, hlx, gm, gr, gd⟩ := loop_fs h.loop
  have lb := line_big
  have l2 := h.ok.len
  have l12 := h.ok.names.1
  have m2 := h.m2
  have hg := Going.run fl bl h.ok (show 0 < m by omega) n
  refine ⟨_, (pss_cons (ps_set (i := 4) sc_outcome.nd rfl (by first | exact Or.inl rfl | exact Or.inr rfl) (pe_callD Ddone_run (hr.mono (by decide)) rfl (pa_cons (pv 0) (pa_cons (pv 1) (pa_cons (pv 2) (pa_cons (pv 3) pa_nil (se rfl)) (se rfl)) (se rfl)) (se rfl)) (he := se rfl) (hpl := nst rfl)))
    (pss_cons (ps_lc (i := 5) sc_outcome.nd rfl rfl (by with_unfolding_all rfl) (Blk.of (caps := ["done"]) (ix := [4]) rfl) rfl (pi_list (pe_methI0 Mrows (pv 0) (hr.mono (by decide)))) (fun _ _ _ _ => (pf_one (pt_cmpR op_eq (pe_ix (ix_seqK (K := K) rfl) (pv 0) pe_int (fun _ _ => rfl)) pe_str (nomark _)))) (fun _ _ _ _ => (pe_tupA (pa_cons (pe_ix (ix_seqK (K := K) rfl) (pv 0) pe_int (fun _ _ => rfl)) (pa_cons (pe_dget (hu_of hr) (pe_fldK (K := K) rfl (pv 1) rfl) (pe_ix (ix_seqK (K := K) rfl) (pv 0) pe_int (fun _ _ => rfl)) (fun _ _ => rfl)) pa_nil (se rfl)) (se rfl)))))
    (pss_cons (ps_lc (i := 6) sc_outcome.nd rfl rfl (by with_unfolding_all rfl) (Blk.of (caps := ["loop"]) (ix := [0]) rfl) rfl (pi_list (pe_methI0 Mrows (pv 0) (hr.mono (by decide)))) (fun _ _ _ _ => (pf_one (pt_cmpR op_gt (pe_methI Mdeepest (pv 1) (hr.mono (by decide)) (pa_cons (pe_ix (ix_seqK (K := K) rfl) (pv 0) pe_int (fun _ _ => rfl)) pa_nil (se rfl)) (hst := se rfl) (hpl := nst rfl)) pe_int (nomark _)))) (fun _ _ _ _ => (pe_ix (ix_seqK (K := K) rfl) (pv 0) pe_int (fun _ _ => rfl))))
    (pss_one (ps_ret (pe_tupA (pa_cons (pv 5) (pa_cons (pe_lc (Blk.of (caps := ["turns", "done"]) (ix := [1, 4]) rfl) rfl (pi_list (pv 6)) (fun _ _ _ _ => pf_nil) (fun _ _ _ _ => (pe_tupA (pa_cons (pv 0) (pa_cons (pe_methI Mlast_made (pv 2) (hr.mono (by decide)) (pa_cons (pv 0) (pa_cons (pv 1) pa_nil (se rfl)) (se rfl)) (hst := se rfl) (hpl := nst rfl)) pa_nil (se rfl)) (se rfl))))) pa_nil (se rfl)) (se rfl)))))))), ?_⟩
  walk_at "rd"
  refine ⟨lx, k, fd, bd, m, rs, zs, fl, bl, n, rfl, h, fun x A' H1 hR => ?_⟩
  have hR0 := hR
  obtain ⟨⟨lx', k', fd', bd', md, dx, fs, hL, hf, hb, hx, f1, f2, f3, f4, ⟨f5, f6, f7, f8, f9⟩, hM⟩, hs, hfr⟩ := hR
  walk_at "rd"
  refine i_setLc (i_lc (i_list ?_))
  refine i_methI ?_
  walk_at "rd"
  refine ⟨(), lx, dxl, fsl, rfl, hs _ _ hlx, gr, ?_⟩
  walk_at "rd"
  refine ⟨lx, k, m, rs, rfl, h.loop.same hs, fun rp us H2 hN2 hu => ?_⟩
  have l1 := hu.len
  refine ⟨rp, rfl, ⟨us, hN2.lst⟩, ?_⟩
  have ev : ∀ i, i < us.length → ∃ r v, rs[i]? = some r ∧ us[i]? = some v ∧ us.getD i V.non = v := fun i hi => by
    have hir : i < rs.length := by omega
    exact ⟨rs[i], us[i], List.getElem?_eq_getElem hir, List.getElem?_eq_getElem hi, by rw [List.getD, List.getElem?_eq_getElem hi]; rfl⟩
  refine lcFN (LcIt.lst hN2.lst) (pI isTell rs) (fun D i y H' => ∃ r t, rs[i]? = some r ∧ y = .ref t ∧ t ≠ D ∧ H' t = some (.tup [.str r.name, .ref (A' r.name)])) (by omega) (fun D i y H' H'' s' hh => ?_) (fun i H' R hi s' rr => ?_) (fun D i H' R hi hpi hD hy s' rr => ?_) (fun D ys H3 hD s3 hHD hyl hP => ?_)
  · obtain ⟨r, t, e1, e2, e3, e4⟩ := hh
    exact ⟨r, t, e1, e2, e3, s' t _ e3 e4⟩
  · obtain ⟨r, v, e1, e2, e3⟩ := ev i hi
    rw [e3]
    have ep : pI isTell rs i = isTell r := by unfold pI; rw [e1]
    rw [ep] at rr
    obtain ⟨p1, p2, vs, rfl, h1, h2, h3⟩ := (hu.at_ i r v e1 e2).same s'
    walk_at "rd"
    refine i_ixT (.inl (.inl h1)) (show atI _ 1 = some (.str r.d.word) from rfl) ?_
    walk_at "rd"
    have ed : decide (V.str r.d.word = V.str (Str.ofString "tell")) = isTell r := by
      unfold isTell
      by_cases ht : r.d = .tell
      · rw [decide_eq_true ht, decide_eq_true (by rw [ht]; rfl)]
      · rw [decide_eq_false ht, decide_eq_false (show ¬ V.str r.d.word = V.str (Str.ofString "tell") from fun z => word_ne (e := .tell) ht (V.str.inj z))]
    rw [ed]; exact rr
  · obtain ⟨r, v, e1, e2, e3⟩ := ev i hi
    rw [e3]
    have hzm := zs_mem h.ok e1
    obtain ⟨p1, p2, vs, rfl, h1, h2, h3⟩ := (hu.at_ i r v e1 e2).same s'
    have t2 := hN2.same.trans s'
    walk_at "rd"
    refine i_ixT (.inl (.inl h1)) (show atI _ 0 = some (.str r.name) from rfl) ?_
    walk_at "rd"
    refine i_dix ?_
    refine i_fld ?_
    walk_at "rd"
    refine ⟨x, _, dx, fs, .ref md, rfl, t2 _ _ hx, T.i_Run.cl, T.nRM, f4, ?_⟩
    walk_at "rd"
    refine i_ixT (.inl (.inl h1)) (show atI _ 0 = some (.str r.name) from rfl) ?_
    refine ⟨md, _, rfl, (hM.same t2).get hzm, ?_⟩
    walk_at "rd"
    refine ⟨by show 2 ≤ sizeLine; omega, fun t H4 hN4 => ?_⟩
    obtain ⟨ys, hy⟩ := hy
    exact rr _ _ hN4.same ⟨r, t, e1, rfl, fun z => (by have := hN4.free; rw [z, hy] at this; cases this), hN4.at⟩
  have t3 := hN2.same.trans s3
  have hT3 : PrAt (fun _ => True) H3 (pairL (runR m fl bl rs n) (rs.filter isTell)) ys := by
    refine pr_rows (by rw [hyl, ← l1, idx_len]) (hM.same t3) (fun r hr => row_zs h.ok r (List.mem_filter.mp hr).1) (fun _ _ => trivial) (fun j u r e1 e2 => ?_)
    obtain ⟨i, e3, e4⟩ := idx_at e2
    rw [l1] at e3
    obtain ⟨r', t, e5, e6, _, e7⟩ := hP j u i e1 e3
    rw [e4] at e5
    cases e5
    exact ⟨t, e6, e7⟩
  clear hP ev hyl
  have hs3 := hs.trans t3
  dsimp only
  refine i_setLc (i_lc (i_list ?_))
  refine i_methI ?_
  walk_at "rd"
  refine ⟨(), lx, dxl, fsl, rfl, hs3 _ _ hlx, gr, ?_⟩
  walk_at "rd"
  refine ⟨lx, k, m, rs, rfl, h.loop.same hs3, fun rp2 ws H4 hN4 hw => ?_⟩
  have l4 := hw.len
  refine ⟨rp2, rfl, ⟨ws, hN4.lst⟩, ?_⟩
  have ev : ∀ i, i < ws.length → ∃ r v, rs[i]? = some r ∧ ws[i]? = some v ∧ ws.getD i V.non = v := fun i hi => by
    have hir : i < rs.length := by omega
    exact ⟨rs[i], ws[i], List.getElem?_eq_getElem hir, List.getElem?_eq_getElem hi, by rw [List.getD, List.getElem?_eq_getElem hi]; rfl⟩
  refine lcF (LcIt.lst hN4.lst) (pI (isDeep rs) rs) (fun i => match rs[i]? with | some r => .str r.name | none => .non) (by omega) (fun i H' R hi s' rr => ?_) (fun i H' R hi hpi s' rr => ?_) (fun DD H5 hN5 => ?_)
  · obtain ⟨r, v, e1, e2, e3⟩ := ev i hi
    rw [e3]
    have ep : pI (isDeep rs) rs i = isDeep rs r := by unfold pI; rw [e1]
    rw [ep] at rr
    obtain ⟨p1, p2, vs, rfl, h1, h2, h3⟩ := (hw.at_ i r v e1 e2).same s'
    have t5 := (hs3.trans hN4.same).trans s'
    walk_at "rd"
    refine i_methI ?_
    walk_at "rd"
    refine ⟨(), lx, dxl, fsl, rfl, t5 _ _ hlx, gd, ?_⟩
    walk_at "rd"
    refine i_ixT (.inl (.inl h1)) (show atI _ 0 = some (.str r.name) from rfl) ?_
    walk_at "rd"
    refine ⟨lx, k, m, rs, r.name, rfl, h.loop.same t5, ?_⟩
    walk_at "rd"
    exact rr
  · obtain ⟨r, v, e1, e2, e3⟩ := ev i hi
    rw [e3]
    simp only [e1] at rr
    obtain ⟨p1, p2, vs, rfl, h1, h2, h3⟩ := (hw.at_ i r v e1 e2).same s'
    walk_at "rd"
    refine i_ixT (.inl (.inl h1)) (show atI _ 0 = some (.str r.name) from rfl) ?_
    exact rr
  have hN5' : New H4 DD (.lst ((rs.filter (isDeep rs)).map fun r => V.str r.name)) H5 := by
    have e : ((List.range ws.length).filter (pI (isDeep rs) rs)).map (fun i => match rs[i]? with | some r => V.str r.name | none => V.non) = (rs.filter (isDeep rs)).map fun r => V.str r.name := by
      have e1 := congrArg (List.map fun o : Option Row => match o with | some r => V.str r.name | none => V.non) (idx_filter (isDeep rs) rs)
      rw [List.map_map, List.map_map] at e1
      rw [← l4]; exact e1
    rw [← e]; exact hN5
  clear hN5 ev
  have t5 := (t3.trans hN4.same).trans hN5'.same
  have hfl : (rs.filter (isDeep rs)).length ≤ 12 := by have := List.length_filter_le (isDeep rs) rs; omega
  walk_at "rd"
  refine i_lc (i_list ?_)
  walk_at "rd"
  refine lcNL ((rs.filter (isDeep rs)).map fun r => V.str r.name) (fun D i y H' => ∃ r t L, (rs.filter (isDeep rs))[i]? = some r ∧ y = .ref t ∧ t ≠ D ∧ L ≠ D ∧ H' t = some (.tup [.str r.name, .ref L]) ∧ H' L = some (.lst (List.map V.int (endsOf m bl rs (runR m fl bl rs n) n r.name)))) hN5'.lst (by rw [List.length_map]; omega) (fun D i y H' H'' s' hh => ?_) (fun D i v H' R hv hD hy s' rr => ?_) (fun D ys2 H6 hD s6 hHD2 hyl hP => ?_)
  · obtain ⟨r, t, L, e1, e2, e3, e4, e5, e6⟩ := hh
    exact ⟨r, t, L, e1, e2, e3, e4, s' t _ e3 e5, s' L _ e4 e6⟩
  · rw [List.getElem?_map] at hv
    cases hri : (rs.filter (isDeep rs))[i]? with
    | none => rw [hri] at hv; cases hv
    | some r =>
      rw [hri] at hv
      cases hv
      have hrm := List.mem_filter.mp (List.mem_of_getElem? hri)
      have hzm := row_zs h.ok r hrm.1
      have t7 := t5.trans s'
      obtain ⟨zj, hzj⟩ := List.mem_iff_getElem?.mp hzm
      have hln := hg.len zj r.name hzj
      rw [if_neg (by omega)] at hln
      walk_at "rd"
      refine i_methI ?_
      walk_at "rd"
      refine ⟨(), x, dx, fs, rfl, t7 _ _ hx, f9, ?_⟩
      walk_at "rd"
      refine ⟨H, x, m, rs, zs, fl, bl, A', runR m fl bl rs n, r.name, n, rfl, hR0.to t7, h.ok, hzm, h.beo r hrm.1, hln, by omega, fun L H8 hN8 => ?_⟩
      walk_at "rd"
      refine ⟨by show 2 ≤ sizeLine; omega, fun t H9 hN9 => ?_⟩
      obtain ⟨ys', hy⟩ := hy
      have hy8 := hN8.same _ _ hy
      refine rr _ _ (hN8.same.trans hN9.same) ⟨r, t, L, hri, rfl, fun z => ?_, fun z => ?_, hN9.at, hN9.same _ _ hN8.at⟩
      · have := hN9.free; rw [z, hy8] at this; cases this
      · have := hN8.free; rw [z, hy] at this; cases this
  walk_at "rd"
  refine ⟨by show 2 ≤ sizeLine; omega, fun t H7 hN7 => ?_⟩
  have t6 := (hN4.same.trans hN5'.same).trans (s6.trans hN7.same)
  refine q t _ D ys ys2 H7 (hs.trans (t5.trans (s6.trans hN7.same))) hN7.at (t6 _ _ hHD) (hN7.same _ _ hHD2) (hT3.same t6) ?_
  rw [List.length_map] at hyl
  refine ⟨by unfold endsL; rw [List.length_map]; omega, fun i a u e1 e2 => ?_⟩
  unfold endsL at e1
  rw [List.getElem?_map] at e1
  obtain ⟨r, tt, L, g1, g2, g3, g4, g5, g6⟩ := hP i u e2
  rw [g1] at e1
  have e : (r.name, endsOf m bl rs (runR m fl bl rs n) n r.name) = a := Option.some.inj e1
  subst e
  exact ⟨tt, L, g2, hN7.same _ _ g5, hN7.same _ _ g6, trivial⟩
theorem FedAt.feo {H : Hp} {d : Addr} {rs : List Row} {n : Nat} {ls : Ls} (h : FedAt H d rs isTake (fun _ => (n : Int)) ls) : FeOk rs ls n := fun r hr ht _ => by
  obtain ⟨l, e1, e2⟩ := h.look hr (show isTake r = true from decide_eq_true ht)
  exact ⟨l, e1, Int.ofNat_le.mp e2⟩
theorem FedAt.beo {H : Hp} {d : Addr} {rs : List Row} {ls : Ls} (h : FedAt H d rs (isDeep rs) (deep rs) ls) : BeOk rs ls := fun r hr ht => h.look hr (show isDeep rs r = true from decide_eq_true ht)
def MeasOk (m : Int) : Prop := 2 ≤ m ∧ m ≤ 10 ^ 60
theorem st_eq {t : TS} {D : Ends} {σ σ' : St} {H : Hp} (e : σ = σ') (q : t D σ' H) : t D σ H := e ▸ q
def putL (ls : Ls) (z : Str) (l : List Int) : Ls := ls.map fun a => if a.1 = z then (z, l) else a
def outL (ls : Ls) (z : Str) : Ls := ls.filter fun a => decide (a.1 ≠ z)
theorem keys_putL (z : Str) (l : List Int) : ∀ ls : Ls, (putL ls z l).map (·.1) = ls.map (·.1)
  | [] => rfl
  | a :: ls => by
    have ih := keys_putL z l ls
    show (if a.1 = z then (z, l) else a).1 :: (putL ls z l).map (·.1) = a.1 :: ls.map (·.1)
    rw [ih]
    by_cases h : a.1 = z
    · rw [if_pos h, h]
    · rw [if_neg h]
theorem put_map {κ : Type} [DecidableEq κ] {kvs : List (κ × V)} {k : κ} {y v : V} (h : valV kvs k = some v) : putK kvs k y = kvs.map fun kv => if kv.1 = k then (kv.1, y) else kv := by
  unfold putK
  rw [valV_any, h]; rfl
theorem pr_put {H : Hp} {d p : Addr} {z : Str} {l : List Int} {o : HO} (hne : ∀ q xs, H q = some (.lst xs) → q ≠ d) (hp : H p = some (.lst (List.map V.int l))) {ls : Ls} {kvs : List (Key × V)} (pr : Paired (LiAt H) ls kvs) :
    Paired (LiAt (upd H d o)) (putL ls z l) (kvs.map fun kv => if kv.1 = Sum.inr z then (kv.1, V.ref p) else kv) := by
  induction pr with
  | nil => exact .nil
  | @cons a b ls' kvs' hab _ ih =>
    refine .cons ?_ ih
    obtain ⟨h1, q, h2, h3⟩ := hab
    dsimp only
    by_cases hz : a.1 = z
    · rw [if_pos hz, if_pos (by rw [h1, hz])]
      exact ⟨by show b.1 = _; rw [h1, hz], p, rfl, by rw [upd_ne (hne _ _ hp)]; exact hp⟩
    · rw [if_neg hz, if_neg (by rw [h1]; intro e; exact hz (Sum.inr.inj e))]
      exact ⟨h1, q, h2, by rw [upd_ne (hne _ _ h3)]; exact h3⟩
theorem pr_out {H : Hp} {d : Addr} {z : Str} {o : HO} (hne : ∀ q xs, H q = some (.lst xs) → q ≠ d) {ls : Ls} {kvs : List (Key × V)} (pr : Paired (LiAt H) ls kvs) : Paired (LiAt (upd H d o)) (outL ls z) (dropK kvs (Sum.inr z)) := by
  unfold dropK outL
  induction pr with
  | nil => exact .nil
  | @cons a b ls' kvs' hab _ ih =>
    obtain ⟨h1, q, h2, h3⟩ := hab
    by_cases hz : a.1 = z
    · rw [List.filter_cons_of_neg (by simpa using hz), List.filter_cons_of_neg (by rw [h1, hz]; simp)]
      exact ih
    · rw [List.filter_cons_of_pos (by simpa using hz), List.filter_cons_of_pos (by rw [h1]; simpa using hz)]
      exact .cons ⟨h1, q, h2, by rw [upd_ne (hne _ _ h3)]; exact h3⟩ ih
theorem LsAt.put {H : Hp} {d p : Addr} {ls : Ls} {z : Str} {l : List Int} (h : LsAt H d ls) (hz : z ∈ ls.map (·.1)) (hp : H p = some (.lst (List.map V.int l))) (hl : ls.length < 1000) :
    ∃ H', DPut H d (.str z) (.ref p) H' ∧ SameB d H H' ∧ LsAt H' d (putL ls z l) := by
  obtain ⟨kvs, hd, nd, pr⟩ := h
  obtain ⟨l0, e0, _⟩ := look_mem hz
  obtain ⟨p0, v0, _⟩ := paired_some pr e0
  have hlen := Paired.len' pr
  have lb := line_big
  have hne : ∀ q xs, H q = some (.lst xs) → q ≠ d := fun q xs e => ne_of e hd (by intro z; cases z)
  refine ⟨_, DPut.k (k := Sum.inr z) hd (by omega), SameB.upd d H _, _, upd_same, by rw [keys_putL]; exact nd, ?_⟩
  rw [put_map v0]
  exact pr_put hne hp pr
theorem LsAt.out {H : Hp} {d : Addr} {ls : Ls} {z : Str} (h : LsAt H d ls) (hz : z ∈ ls.map (·.1)) : ∃ kvs v, H d = some (.dK kvs) ∧ valV kvs (Sum.inr z) = some v ∧ LsAt (L2.upd H d (.dK (dropK kvs (Sum.inr z)))) d (outL ls z) := by
  obtain ⟨kvs, hd, nd, pr⟩ := h
  obtain ⟨l0, e0, _⟩ := look_mem hz
  obtain ⟨p0, v0, _⟩ := paired_some pr e0
  have hne : ∀ q xs, H q = some (.lst xs) → q ≠ d := fun q xs e => ne_of e hd (by intro z; cases z)
  exact ⟨kvs, _, hd, v0, _, upd_same, nd.sublist (List.Sublist.map _ List.filter_sublist), pr_out hne pr⟩
def spShort (CE : Xk → Addr) : Sp := fun vs H Q _ => ∃ (e : Addr) (z : Str), vs = [.ref e, .str z] ∧ H e = some (excN e (CE .Short) none) ∧ Sm z ∧ ∀ d, H d = none → d ≠ e → Q .non (upd (upd H e (excN e (CE .Short) (some d))) d (.xd [(Str.ofString "name", .str z)]))
theorem mk_short (T : Txt K mg C CE) : MkE P w K mg base 1 (CE .Short) ["self", "name"] (spShort CE) := by
  obtain ⟨f0, fd0, xi, _⟩ := T.e_Short.ex
  refine T.e_Short.mke sc_Short___init__ (fun _ _ _ _ _ _ us hl => match us, hl with | [_, _], _ => rfl) (by rintro vs H Q E ⟨e, z, rfl, _⟩; rfl) (fun f cdv A outer s H vs Q E hr h => ?_)
  obtain ⟨e, z, rfl, he, hz, q⟩ := h
  refine ⟨_, (pss_cons (ps_expr (pe_binit rfl T.mg_LapError T.lapR T.lapS T.lapI (pa_cons (pv 0) (pa_cons (pe_fstr (pj_str (by decide) (pj_repr (pv 1) pj_nil))) pa_nil (se rfl)) (se rfl)) (he := se rfl) (hpl := nst rfl)))
    (pss_one (ps_fldX (pv 0) (pv 1) (by with_unfolding_all rfl)))), ?_⟩
  walk_at "rd"
  refine i_binit ?_
  walk_at "rd"
  refine ⟨⟨z, rfl, hz⟩, ?_⟩
  walk_at "rd"
  intro z'
  walk_at "rd"
  refine ⟨e, _, _, _, none, .str z', rfl, he, xi, ?_⟩
  walk_at "rd"
  dsimp only
  refine i_sFldX ?_
  walk_at "rd"
  exact ⟨e, _, _, _, rfl, he, xi, T.nSn, fun d hd hne => q d hd hne⟩
def isShort (rs : List Row) (bl : Ls) (r : Row) : Prop := ((look bl r.name).length : Int) < deep rs r.name
structure Short1 (rs : List Row) (bl : Ls) (i : Nat) (r : Row) : Prop where
  at_ : rs[i]? = some r
  sh : isShort rs bl r
  fst : ∀ (j : Nat) r', j < i → rs[j]? = some r' → ¬ isShort rs bl r'
theorem lo_sm {z : Str} (hl : z.length ≤ 12) (h : Lo z) : Sm z := ⟨by omega, fun c hc => by have := h c hc; omega⟩
theorem row_sm {zs : List Str} {rs : List Row} (hok : RowsOk zs rs) {i : Nat} {r : Row} (hr : rs[i]? = some r) : Sm r.name := by
  obtain ⟨_, pl, nu, hn⟩ := hok.names
  have := hn i r.name (hok.at_ i r hr).name
  exact lo_sm this.2.1 this.2.2.1
def spCBeginX (CE : Xk → Addr) : Sp := fun vs H Q E => ∃ (lx k bd : Addr) (m : Int) (rs : List Row) (bl : Ls) (i : Nat) (r : Row), vs = [.ref lx, .ref bd] ∧ LoopAt (CE .Loop) H lx k m rs ∧ LsAt H bd bl ∧ Short1 rs bl i r ∧ Sm r.name ∧
  ∀ d H2, Same H H2 → H2 d = some (.xd [(Str.ofString "name", .str r.name)]) → E (.ref (CE .Short)) (some d) H2
theorem d_cbeginX (T : Txt K mg C CE) (Kb : K.In base) (G : base.Ns mainGlobals mg) : DfX P w K mg base 3 "check_begin" ["loop", "begin"] (spCBeginX CE) := by
  have Mrows : MethI P w K mg base 1 "rows" ["self"] (fun _ : Unit => CE .Loop) (fun _ => spLRows (CE .Loop)) := m_rows T
  have Mdeepest : MethI P w K mg base 1 "deepest" ["self", "name"] (fun _ : Unit => CE .Loop) (fun _ => spLDeep (CE .Loop)) := m_deepest T
  have MShort : MkE P w K mg base 1 (CE .Short) ["self", "name"] (spShort CE) := mk_short T
  refine T.f_cbegin.dfX Kb G sc_check_begin (fun _ _ _ _ _ _ us hl => match us, hl with | [_, _], _ => rfl) (by rintro vs H Q E ⟨lx, k, bd, m, rs, bl, i, r, rfl, _⟩; rfl) (fun f cdv A outer s H vs Q E hr h => ?_)
  obtain ⟨lx, k, bd, m, rs, bl, i0, r0, rfl, hL, hb, h1s, hsm, q⟩ := h
  obtain ⟨dxl, fsl, hlx, gm, gr, gd⟩ := loop_fs hL
  refine ⟨_, (pss_one (ps_for (passes_own own_cxX) rfl (pi_list (pe_methI0 Mrows (pv 0) (hr.mono (by decide)))) (pg_name (i := 2) sc_check_begin.nd rfl (by first | exact Or.inl rfl | exact Or.inr rfl))
      (pss_one (ps_if (pt_cmpR op_lt (pe_callB call_len_seq rfl T.nlen PySem.boot_len (pa_cons (pe_dget2 (hu_of hr) (pv 1) (pe_ix ix_seq (pv 2) pe_int (fun _ _ => rfl)) (pe_lstA pa_nil) ⟨rfl, rfl, rfl, rfl⟩) pa_nil (se rfl)) (he := se rfl) (hpl := nst rfl)) (pe_methI Mdeepest (pv 0) (hr.mono (by decide)) (pa_cons (pe_ix ix_seq (pv 2) pe_int (fun _ _ => rfl)) pa_nil (se rfl)) (hst := se rfl) (hpl := nst rfl)) (nomark _)) (pss_one (ps_raiseE (ES := fun _ c d H' => E c d H') MShort (hr.mono (by decide)) rfl (fun _ _ z => z) rfl T.mg_Short (pa_cons (pe_ix ix_seq (pv 2) pe_int (fun _ _ => rfl)) pa_nil (se rfl)) (he := se rfl) (hpl := nst rfl))) pss_nil)))), ?_⟩
  walk_at "rd"
  refine i_for (i_list ?_)
  refine i_methI ?_
  walk_at "rd"
  refine ⟨(), lx, dxl, fsl, rfl, hlx, gr, ?_⟩
  walk_at "rd"
  refine ⟨lx, k, m, rs, rfl, hL, fun p us H1 hN1 hu => ?_⟩
  have l1 := hu.len
  refine ⟨p, rfl, ⟨us, hN1.lst⟩, ?_⟩
  refine for_list (xs := us) (fun i σ H' => i ≤ i0 ∧ Same H1 H' ∧ ∃ x2, σ = [some (.ref lx), some (.ref bd), x2]) ⟨Nat.zero_le _, Same.refl _, none, rfl⟩ (fun i σ H' _ h => sqL_inj_of (h.2.1 _ _ hN1.at)) ?_ ?_
  · rintro i u σ H2 hui ⟨hi0, s2, x2, rfl⟩
    have hir : i < rs.length := by rw [l1]; exact (List.getElem?_eq_some_iff.mp hui).1
    have hri := List.getElem?_eq_getElem hir
    have r1 := (hu.at_ i rs[i] u hri hui).same s2
    generalize rs[i] = rw at *
    obtain ⟨p1, p2, vs, rfl, h1, h2, h3⟩ := r1
    have t2 := hN1.same.trans s2
    have hb2 := hb.same t2
    walk_at "rd"
    refine i_dget2 ?_
    walk_at "rd"
    refine ⟨bd, rfl, hb2.isD, ?_⟩
    walk_at "rd"
    refine i_ixT (.inl (.inl h1)) (show atI _ 0 = some (.str rw.name) from rfl) ?_
    walk_at "rd"
    refine ⟨by show 0 ≤ sizeLine; exact Nat.zero_le _, fun e H3 hN3 => ?_⟩
    obtain ⟨o, lp, g1, g2, g3⟩ := get_len (z := rw.name) (hb2.same hN3.same) hN3.at
    have t3 := t2.trans hN3.same
    have h1' := hN3.same _ _ h1
    refine ⟨o, g1, ?_⟩
    rw [g2]
    refine ⟨_, _, rfl, .inl (sqL_inj_of g3), ?_⟩
    rw [List.length_map]
    walk_at "rd"
    refine i_methI ?_
    walk_at "rd"
    refine ⟨(), lx, dxl, fsl, rfl, t3 _ _ hlx, gd, ?_⟩
    walk_at "rd"
    refine i_ixT (.inl (.inl h1')) (show atI _ 0 = some (.str rw.name) from rfl) ?_
    walk_at "rd"
    refine ⟨lx, k, m, rs, rw.name, rfl, hL.same t3, ?_⟩
    walk_at "rd"
    refine i_iteD (fun hlt => ?_) (fun hlt => ?_)
    · have hi : i = i0 := by
        by_cases hj : i < i0
        · exact absurd hlt (h1s.fst i rw hj hri)
        · omega
      subst hi
      have er := h1s.at_
      rw [hri] at er
      have er' := Option.some.inj er
      subst er'
      walk_at "rd"
      refine i_raiseI ?_
      walk_at "rd"
      refine i_ixT (.inl (.inl h1')) (show atI _ 0 = some (.str rw.name) from rfl) ?_
      walk_at "rd"
      refine ⟨by show 1 ≤ sizeLine; decide, fun e' he' => ⟨e', _, rfl, upd_same, hsm, fun d hd hne => ?_⟩⟩
      obtain ⟨a1, a2, a3⟩ := same_exc (o2 := excN e' (CE .Short) (some d)) (x := .xd [(Str.ofString "name", .str rw.name)]) t3 he' hd hne
      exact ⟨rfl, d, a3, q d _ a1 a2⟩
    · walk_at "rd"
      refine ⟨?_, s2.trans hN3.same, _, rfl⟩
      by_cases hi : i = i0
      · subst hi
        have er := h1s.at_
        rw [hri] at er
        have er' := Option.some.inj er
        subst er'
        exact absurd h1s.sh hlt
      · omega
  · rintro σ H2 ⟨hi0, s2, x2, rfl⟩
    have := (List.getElem?_eq_some_iff.mp h1s.at_).1
    omega
def shF (fl : Ls) (n : Int) (r : Row) : Prop := r.d = .take ∧ ((look fl r.name).length : Int) < n
structure ShortF (rs : List Row) (fl : Ls) (n : Int) (i : Nat) (r : Row) : Prop where
  at_ : rs[i]? = some r
  sh : shF fl n r
  fst : ∀ (j : Nat) r', j < i → rs[j]? = some r' → ¬ shF fl n r'
theorem look_some {ls : Ls} {z : Str} (h : 0 < (look ls z).length) : ls.lookup z = some (look ls z) := by
  unfold look at h ⊢
  cases e : ls.lookup z with
  | none => rw [e] at h; simp at h
  | some l => rfl
theorem feo_of {rs : List Row} {fl : Ls} {n : Nat} (h : ∀ r ∈ rs, ¬ shF fl n r) : FeOk rs fl n := fun r hr ht hn => by
  have hl : ¬ ((look fl r.name).length : Int) < n := fun z => h r hr ⟨ht, z⟩
  exact ⟨_, look_some (by omega), by omega⟩
theorem beo_of {rs : List Row} {bl : Ls} (h : ∀ r ∈ rs, ¬ isShort rs bl r) : BeOk rs bl := fun r hr hd => by
  have hl : ¬ ((look bl r.name).length : Int) < deep rs r.name := h r hr
  exact ⟨_, look_some (by omega), by omega⟩
def spCTurnsX (CE : Xk → Addr) : Sp := fun vs H Q E => ∃ n : Int, vs = [.int n] ∧ (n < 0 ∨ 300 < n) ∧ E (.ref (CE .BadTurns)) none H
theorem d_cturnsX (T : Txt K mg C CE) (Kb : K.In base) (G : base.Ns mainGlobals mg) : DfX P w K mg base 1 "check_turns" ["turns"] (spCTurnsX CE) := by
  refine T.f_cturns.dfX Kb G sc_check_turns (fun _ _ _ _ _ _ us hl => match us, hl with | [_], _ => rfl) (by rintro vs H Q E ⟨m, rfl, _⟩; rfl) (fun f cdv A outer s H vs Q E hr h => ?_)
  obtain ⟨n, rfl, hn, q⟩ := h
  refine ⟨_, (pss_one (ps_if (pt_not (pt_chain op_le op_le pe_int (pv 0) (pe_val T.v_MOST_TURNS rfl))) (pss_one (ps_raise (ES := fun _ c d H' => E c d H') T.x_BadTurns rfl (fun _ _ z => z) rfl (pa_cons pe_str pa_nil (se rfl)) (he := se rfl) (hpl := nst rfl))) pss_nil)), ?_⟩
  walk_at "rd"
  refine i_iteD (fun h0 => ?_) (fun h0 => ?_)
  · walk_at "rd"
    rw [decide_eq_false (show ¬ n ≤ 300 by omega)]
    walk_at "rd"
    exact ⟨by show 1 ≤ sizeLine; decide, q⟩
  · walk_at "rd"
    exact ⟨by show 1 ≤ sizeLine; decide, q⟩
def spCFeedsX (CE : Xk → Addr) : Sp := fun vs H Q E => ∃ (lx k fd : Addr) (m : Int) (rs : List Row) (fl : Ls) (n : Int) (i : Nat) (r : Row), vs = [.ref lx, .int n, .ref fd] ∧ LoopAt (CE .Loop) H lx k m rs ∧ LsAt H fd fl ∧ ShortF rs fl n i r ∧ Sm r.name ∧
  ∀ d H2, Same H H2 → H2 d = some (.xd [(Str.ofString "name", .str r.name)]) → E (.ref (CE .Short)) (some d) H2
theorem d_cfeedsX (T : Txt K mg C CE) (Kb : K.In base) (G : base.Ns mainGlobals mg) : DfX P w K mg base 3 "check_feeds" ["loop", "turns", "feeds"] (spCFeedsX CE) := by
  have Mrows : MethI P w K mg base 1 "rows" ["self"] (fun _ : Unit => CE .Loop) (fun _ => spLRows (CE .Loop)) := m_rows T
  have MShort : MkE P w K mg base 1 (CE .Short) ["self", "name"] (spShort CE) := mk_short T
  refine T.f_cfeeds.dfX Kb G sc_check_feeds (fun _ _ _ _ _ _ us hl => match us, hl with | [_, _, _], _ => rfl) (by rintro vs H Q E ⟨lx, k, fd, m, rs, fl, n, i, r, rfl, _⟩; rfl) (fun f cdv A outer s H vs Q E hr h => ?_)
  obtain ⟨lx, k, fd, m, rs, fl, n, i0, r0, rfl, hL, hf, h1s, hsm, q⟩ := h
  obtain ⟨dxl, fsl, hlx, gm, gr, gd⟩ := loop_fs hL
  refine ⟨_, (pss_one (ps_for (passes_own own_cxX) rfl (pi_list (pe_methI0 Mrows (pv 0) (hr.mono (by decide)))) (pg_name (i := 3) sc_check_feeds.nd rfl (by first | exact Or.inl rfl | exact Or.inr rfl))
      (pss_one (ps_if (PW.pt (pw_and (pt_cmpR op_eq (pe_ix ix_seq (pv 3) pe_int (fun _ _ => rfl)) pe_str (nomark _)) (pw_and1 (pt_cmpR op_lt (pe_callB call_len_seq rfl T.nlen PySem.boot_len (pa_cons (pe_dget2 (hu_of hr) (pv 2) (pe_ix ix_seq (pv 3) pe_int (fun _ _ => rfl)) (pe_lstA pa_nil) ⟨rfl, rfl, rfl, rfl⟩) pa_nil (se rfl)) (he := se rfl) (hpl := nst rfl)) (pv 1) (nomark _))))) (pss_one (ps_raiseE (ES := fun _ c d H' => E c d H') MShort (hr.mono (by decide)) rfl (fun _ _ z => z) rfl T.mg_Short (pa_cons (pe_ix ix_seq (pv 3) pe_int (fun _ _ => rfl)) pa_nil (se rfl)) (he := se rfl) (hpl := nst rfl))) pss_nil)))), ?_⟩
  walk_at "rd"
  refine i_for (i_list ?_)
  refine i_methI ?_
  walk_at "rd"
  refine ⟨(), lx, dxl, fsl, rfl, hlx, gr, ?_⟩
  walk_at "rd"
  refine ⟨lx, k, m, rs, rfl, hL, fun p us H1 hN1 hu => ?_⟩
  have l1 := hu.len
  refine ⟨p, rfl, ⟨us, hN1.lst⟩, ?_⟩
  refine for_list (xs := us) (fun i σ H' => i ≤ i0 ∧ Same H1 H' ∧ ∃ x3, σ = [some (.ref lx), some (.int n), some (.ref fd), x3]) ⟨Nat.zero_le _, Same.refl _, none, rfl⟩ (fun i σ H' _ h => sqL_inj_of (h.2.1 _ _ hN1.at)) ?_ ?_
  · rintro i u σ H2 hui ⟨hi0, s2, x3, rfl⟩
    have hir : i < rs.length := by rw [l1]; exact (List.getElem?_eq_some_iff.mp hui).1
    have hri := List.getElem?_eq_getElem hir
    have r1 := (hu.at_ i rs[i] u hri hui).same s2
    generalize rs[i] = rw at *
    obtain ⟨p1, p2, vs, rfl, h1, h2, h3⟩ := r1
    have t2 := hN1.same.trans s2
    have hf2 := hf.same t2
    have step : ¬ shF fl n rw → i + 1 ≤ i0 := fun hn => by
      by_cases hi : i = i0
      · subst hi
        have er := h1s.at_
        rw [hri] at er
        have er' := Option.some.inj er
        subst er'
        exact absurd h1s.sh hn
      · omega
    walk_at "rd"
    refine i_ixT (.inl (.inl h1)) (show atI _ 1 = some (.str rw.d.word) from rfl) ?_
    walk_at "rd"
    by_cases ht : rw.d = .take
    · refine i_iteSe (by rw [ht]; rfl) ?_
      walk_at "rd"
      refine i_dget2 ?_
      walk_at "rd"
      refine ⟨fd, rfl, hf2.isD, ?_⟩
      walk_at "rd"
      refine i_ixT (.inl (.inl h1)) (show atI _ 0 = some (.str rw.name) from rfl) ?_
      walk_at "rd"
      refine ⟨by show 0 ≤ sizeLine; exact Nat.zero_le _, fun e H3 hN3 => ?_⟩
      obtain ⟨o, lp, g1, g2, g3⟩ := get_len (z := rw.name) (hf2.same hN3.same) hN3.at
      have t3 := t2.trans hN3.same
      have h1' := hN3.same _ _ h1
      refine ⟨o, g1, ?_⟩
      rw [g2]
      walk_at "rd"
      refine ⟨_, _, rfl, .inl (sqL_inj_of g3), ?_⟩
      rw [List.length_map]
      walk_at "rd"
      refine i_iteD (fun hlt => ?_) (fun hlt => ?_)
      · have hi : i = i0 := by
          by_cases hj : i < i0
          · exact absurd ⟨ht, hlt⟩ (h1s.fst i rw hj hri)
          · omega
        subst hi
        have er := h1s.at_
        rw [hri] at er
        have er' := Option.some.inj er
        subst er'
        walk_at "rd"
        refine i_raiseI ?_
        walk_at "rd"
        refine i_ixT (.inl (.inl h1')) (show atI _ 0 = some (.str rw.name) from rfl) ?_
        walk_at "rd"
        refine ⟨by show 1 ≤ sizeLine; decide, fun e' he' => ⟨e', _, rfl, upd_same, hsm, fun d hd hne => ?_⟩⟩
        obtain ⟨a1, a2, a3⟩ := same_exc (o2 := excN e' (CE .Short) (some d)) (x := .xd [(Str.ofString "name", .str rw.name)]) t3 he' hd hne
        exact ⟨rfl, d, a3, q d _ a1 a2⟩
      · walk_at "rd"
        exact ⟨step fun z => hlt z.2, s2.trans hN3.same, _, rfl⟩
    · refine i_iteSf (word_ne (e := .take) ht) ?_
      walk_at "rd"
      exact ⟨step fun z => ht z.1, s2, _, rfl⟩
  · rintro σ H2 ⟨hi0, s2, x3, rfl⟩
    have := (List.getElem?_eq_some_iff.mp h1s.at_).1
    omega
inductive Bad (rs : List Row) (fl bl : Ls) (n : Int) : Option Str → Prop
  | turns : n < 0 ∨ 300 < n → Bad rs fl bl n none
  | feed {i : Nat} {r : Row} : 0 ≤ n → n ≤ 300 → ShortF rs fl n i r → Bad rs fl bl n (some r.name)
  | beg {i : Nat} {r : Row} : 0 ≤ n → n ≤ 300 → (∀ r ∈ rs, ¬ shF fl n r) → Short1 rs bl i r → Bad rs fl bl n (some r.name)
def EBad (CE : Xk → Addr) (E : XK) (H : Hp) : Option Str → Prop
  | none => ∀ H2, Same H H2 → E (.ref (CE .BadTurns)) none H2
  | some z => ∀ d H2, Same H H2 → H2 d = some (.xd [(Str.ofString "name", .str z)]) → E (.ref (CE .Short)) (some d) H2
structure Runs (CE : Xk → Addr) (H : Hp) (lx k fd bd : Addr) (m : Int) (rs : List Row) (zs : List Str) (fl bl : Ls) : Prop where
  loop : LoopAt (CE .Loop) H lx k m rs
  ok : RowsOk zs rs
  fe : LsAt H fd fl
  be : LsAt H bd bl
theorem Runs.same {CE : Xk → Addr} {H H' : Hp} {lx k fd bd : Addr} {m : Int} {rs : List Row} {zs : List Str} {fl bl : Ls} (s : Same H H') (h : Runs CE H lx k fd bd m rs zs fl bl) : Runs CE H' lx k fd bd m rs zs fl bl := ⟨h.loop.same s, h.ok, h.fe.same s, h.be.same s⟩
def spRunX (CE : Xk → Addr) : Sp := fun vs H Q E => ∃ (lx k fd bd : Addr) (m : Int) (rs : List Row) (zs : List Str) (fl bl : Ls) (n : Int) (o : Option Str), vs = [.ref lx, .int n, .ref fd, .ref bd] ∧ Runs CE H lx k fd bd m rs zs fl bl ∧ Bad rs fl bl n o ∧ EBad CE E H o
theorem d_crunX (T : Txt K mg C CE) (Kb : K.In base) (G : base.Ns mainGlobals mg) : DfX P w K mg base 4 "check_run" ["loop", "turns", "feeds", "begin"] (spRunX CE) := by
  have Dcheck_turns : Df P w K mg base 1 "check_turns" ["turns"] spCTurns := d_cturns T Kb G
  have Dcheck_feeds : Df P w K mg base 2 "check_feeds" ["loop", "turns", "feeds"] (spCFeeds (CE .Loop)) := d_cfeeds T Kb G
  have Dcheck_begin : Df P w K mg base 2 "check_begin" ["loop", "begin"] (spCBegin (CE .Loop)) := d_cbegin T Kb G
  have Dcheck_turnsX : DfX P w K mg base 1 "check_turns" ["turns"] (spCTurnsX CE) := d_cturnsX T Kb G
  have Dcheck_feedsX : DfX P w K mg base 3 "check_feeds" ["loop", "turns", "feeds"] (spCFeedsX CE) := d_cfeedsX T Kb G
  have Dcheck_beginX : DfX P w K mg base 3 "check_begin" ["loop", "begin"] (spCBeginX CE) := d_cbeginX T Kb G
  refine T.f_crun.dfX Kb G sc_check_run (fun _ _ _ _ _ _ us hl => match us, hl with | [_, _, _, _], _ => rfl) (by rintro vs H Q E ⟨lx, k, fd, bd, m, rs, zs, fl, bl, n, o, rfl, _⟩; rfl) (fun f cdv A outer s H vs Q E hr h => ?_)
  obtain ⟨lx, k, fd, bd, m, rs, zs, fl, bl, n, o, rfl, h, hbad, q⟩ := h
  refine ⟨_, (pss_cons (ps_expr (pe_callOr (ES := fun _ c d H' => E c d H') Dcheck_turns Dcheck_turnsX (hr.mono (by decide)) (hr.mono (by decide)) (fun _ _ z => z) rfl (pa_cons (pv 1) pa_nil (se rfl)) (he := se rfl) (hpl := nst rfl)))
    (pss_cons (ps_expr (pe_callOr (ES := fun _ c d H' => E c d H') Dcheck_feeds Dcheck_feedsX (hr.mono (by decide)) (hr.mono (by decide)) (fun _ _ z => z) rfl (pa_cons (pv 0) (pa_cons (pv 1) (pa_cons (pv 2) pa_nil (se rfl)) (se rfl)) (se rfl)) (he := se rfl) (hpl := nst rfl)))
    (pss_one (ps_expr (pe_callOr (ES := fun _ c d H' => E c d H') Dcheck_begin Dcheck_beginX (hr.mono (by decide)) (hr.mono (by decide)) (fun _ _ z => z) rfl (pa_cons (pv 0) (pa_cons (pv 3) pa_nil (se rfl)) (se rfl)) (he := se rfl) (hpl := nst rfl)))))), ?_⟩
  cases hbad with
  | turns hn =>
    walk_at "rd"
    refine i_callOr ?_
    walk_at "rd"
    exact .inr ⟨n, rfl, hn, q H (Same.refl _)⟩
  | @feed i r n0 n300 hs =>
    obtain ⟨nn, rfl⟩ := Int.eq_ofNat_of_zero_le n0
    walk_at "rd"
    refine i_callOr ?_
    walk_at "rd"
    refine .inl ⟨nn, rfl, by omega, ?_⟩
    walk_at "rd"
    dsimp only
    refine i_callOr ?_
    walk_at "rd"
    exact .inr ⟨lx, k, fd, m, rs, fl, _, i, r, rfl, h.loop, h.fe, hs, row_sm h.ok hs.at_, q⟩
  | @beg i r n0 n300 hf hs =>
    obtain ⟨nn, rfl⟩ := Int.eq_ofNat_of_zero_le n0
    walk_at "rd"
    refine i_callOr ?_
    walk_at "rd"
    refine .inl ⟨nn, rfl, by omega, ?_⟩
    walk_at "rd"
    dsimp only
    refine i_callOr ?_
    walk_at "rd"
    refine .inl ⟨lx, k, fd, m, rs, fl, nn, rfl, h.loop, h.fe, feo_of hf, fun H1 s1 => ?_⟩
    walk_at "rd"
    dsimp only
    refine i_callOr ?_
    walk_at "rd"
    exact .inr ⟨lx, k, bd, m, rs, bl, i, r, rfl, h.loop.same s1, h.be.same s1, hs, row_sm h.ok hs.at_, fun d H2 s2 e => q d H2 (s1.trans s2) e⟩
theorem d_runX (T : Txt K mg C CE) (Kb : K.In base) (G : base.Ns mainGlobals mg) : DfX P w K mg base 5 "done_run" ["loop", "turns", "feeds", "begin"] (spRunX CE) := by
  have Dcheck_runX : DfX P w K mg base 4 "check_run" ["loop", "turns", "feeds", "begin"] (spRunX CE) := d_crunX T Kb G
  have MRun : MkI P w K mg base 2 (CE .Run) ["self", "loop", "feeds", "begin"] (spRunInit (CE .Loop) (CE .Run)) := mk_run T
  have Mdo_turn : MethI P w K mg base 4 "do_turn" ["self", "turn"] (fun _ : Unit => CE .Run) (fun _ => spRTurn (CE .Loop) (CE .Run)) := m_turn T Kb G
  refine T.f_run.dfX Kb G sc_done_run (fun _ _ _ _ _ _ us hl => match us, hl with | [_, _, _, _], _ => rfl) (by rintro vs H Q E ⟨lx, k, fd, bd, m, rs, zs, fl, bl, n, o, rfl, _⟩; rfl) (fun f cdv A outer s H vs Q E hr h => ?_)
  obtain ⟨lx, k, fd, bd, m, rs, zs, fl, bl, n, o, rfl, h, hbad, q⟩ := h
  refine ⟨_, (pss_cons (ps_expr (pe_callX (ES := fun _ c d H' => E c d H') Dcheck_runX (hr.mono (by decide)) (fun _ _ z => z) rfl (pa_cons (pv 0) (pa_cons (pv 1) (pa_cons (pv 2) (pa_cons (pv 3) pa_nil (se rfl)) (se rfl)) (se rfl)) (se rfl)) (he := se rfl) (hpl := nst rfl)))
    (pss_cons (ps_set (i := 4) sc_done_run.nd rfl (by first | exact Or.inl rfl | exact Or.inr rfl) (pe_makeI MRun (hr.mono (by decide)) rfl T.mg_Run (pa_cons (pv 0) (pa_cons (pv 2) (pa_cons (pv 3) pa_nil (se rfl)) (se rfl)) (se rfl)) (he := se rfl) (hpl := nst rfl)))
    (pss_cons (ps_for (passes_own own_cxX) rfl (pi_range1 rfl T.nrange (pa_cons (pv 1) pa_nil (se rfl))) (pg_name (i := 5) sc_done_run.nd rfl (by first | exact Or.inl rfl | exact Or.inr rfl))
      (pss_one (ps_expr (pe_methI Mdo_turn (pv 4) (hr.mono (by decide)) (pa_cons (pv 5) pa_nil (se rfl)) (hst := se rfl) (hpl := nst rfl)))))
    (pss_one (ps_ret (pv 4)))))), ?_⟩
  walk_at "rd"
  exact ⟨lx, k, fd, bd, m, rs, zs, fl, bl, n, o, rfl, h, hbad, q⟩
theorem d_tableX (T : Txt K mg C CE) (Kb : K.In base) (G : base.Ns mainGlobals mg) : DfX P w K mg base 6 "table" ["loop", "turns", "feeds", "begin"] (spRunX CE) := by
  have Ddone_runX : DfX P w K mg base 5 "done_run" ["loop", "turns", "feeds", "begin"] (spRunX CE) := d_runX T Kb G
  have Mrows : MethI P w K mg base 1 "rows" ["self"] (fun _ : Unit => CE .Loop) (fun _ => spLRows (CE .Loop)) := m_rows T
  refine T.f_table.dfX Kb G sc_table (fun _ _ _ _ _ _ us hl => match us, hl with | [_, _, _, _], _ => rfl) (by rintro vs H Q E ⟨lx, k, fd, bd, m, rs, zs, fl, bl, n, o, rfl, _⟩; rfl) (fun f cdv A outer s H vs Q E hr h => ?_)
  obtain ⟨lx, k, fd, bd, m, rs, zs, fl, bl, n, o, rfl, h, hbad, q⟩ := h
  refine ⟨_, (pss_cons (ps_set (i := 4) sc_table.nd rfl (by first | exact Or.inl rfl | exact Or.inr rfl) (pe_callX (ES := fun _ c d H' => E c d H') Ddone_runX (hr.mono (by decide)) (fun _ _ z => z) rfl (pa_cons (pv 0) (pa_cons (pv 1) (pa_cons (pv 2) (pa_cons (pv 3) pa_nil (se rfl)) (se rfl)) (se rfl)) (se rfl)) (he := se rfl) (hpl := nst rfl)))
    (pss_one (ps_ret (pe_lc (Blk.of (caps := ["done"]) (ix := [4]) rfl) rfl (pi_list (pe_methI0 Mrows (pv 0) (hr.mono (by decide)))) (fun _ _ _ _ => pf_nil) (fun _ _ _ _ => (pe_tupA (pa_cons (pe_ix (ix_seqK (K := K) rfl) (pv 0) pe_int (fun _ _ => rfl)) (pa_cons (pe_dget (hu_of hr) (pe_fldK (K := K) rfl (pv 1) rfl) (pe_ix (ix_seqK (K := K) rfl) (pv 0) pe_int (fun _ _ => rfl)) (fun _ _ => rfl)) pa_nil (se rfl)) (se rfl)))))))), ?_⟩
  walk_at "rd"
  exact ⟨lx, k, fd, bd, m, rs, zs, fl, bl, n, o, rfl, h, hbad, q⟩
theorem d_outcomeX (T : Txt K mg C CE) (Kb : K.In base) (G : base.Ns mainGlobals mg) : DfX P w K mg base 6 "outcome" ["loop", "turns", "feeds", "begin"] (spRunX CE) := by
  have Ddone_runX : DfX P w K mg base 5 "done_run" ["loop", "turns", "feeds", "begin"] (spRunX CE) := d_runX T Kb G
  have Mrows : MethI P w K mg base 1 "rows" ["self"] (fun _ : Unit => CE .Loop) (fun _ => spLRows (CE .Loop)) := m_rows T
  have Mdeepest : MethI P w K mg base 1 "deepest" ["self", "name"] (fun _ : Unit => CE .Loop) (fun _ => spLDeep (CE .Loop)) := m_deepest T
  have Mlast_made : MethI P w K mg base 2 "last_made" ["self", "name", "turns"] (fun _ : Unit => CE .Run) (fun _ => spRLast (CE .Loop) (CE .Run)) := m_last T
  refine T.f_outcome.dfX Kb G sc_outcome (fun _ _ _ _ _ _ us hl => match us, hl with | [_, _, _, _], _ => rfl) (by rintro vs H Q E ⟨lx, k, fd, bd, m, rs, zs, fl, bl, n, o, rfl, _⟩; rfl) (fun f cdv A outer s H vs Q E hr h => ?_)
  obtain ⟨lx, k, fd, bd, m, rs, zs, fl, bl, n, o, rfl, h, hbad, q⟩ := h
  refine ⟨_, (pss_cons (ps_set (i := 4) sc_outcome.nd rfl (by first | exact Or.inl rfl | exact Or.inr rfl) (pe_callX (ES := fun _ c d H' => E c d H') Ddone_runX (hr.mono (by decide)) (fun _ _ z => z) rfl (pa_cons (pv 0) (pa_cons (pv 1) (pa_cons (pv 2) (pa_cons (pv 3) pa_nil (se rfl)) (se rfl)) (se rfl)) (se rfl)) (he := se rfl) (hpl := nst rfl)))
    (pss_cons (ps_lc (i := 5) sc_outcome.nd rfl rfl (by with_unfolding_all rfl) (Blk.of (caps := ["done"]) (ix := [4]) rfl) rfl (pi_list (pe_methI0 Mrows (pv 0) (hr.mono (by decide)))) (fun _ _ _ _ => (pf_one (pt_cmpR op_eq (pe_ix (ix_seqK (K := K) rfl) (pv 0) pe_int (fun _ _ => rfl)) pe_str (nomark _)))) (fun _ _ _ _ => (pe_tupA (pa_cons (pe_ix (ix_seqK (K := K) rfl) (pv 0) pe_int (fun _ _ => rfl)) (pa_cons (pe_dget (hu_of hr) (pe_fldK (K := K) rfl (pv 1) rfl) (pe_ix (ix_seqK (K := K) rfl) (pv 0) pe_int (fun _ _ => rfl)) (fun _ _ => rfl)) pa_nil (se rfl)) (se rfl)))))
    (pss_cons (ps_lc (i := 6) sc_outcome.nd rfl rfl (by with_unfolding_all rfl) (Blk.of (caps := ["loop"]) (ix := [0]) rfl) rfl (pi_list (pe_methI0 Mrows (pv 0) (hr.mono (by decide)))) (fun _ _ _ _ => (pf_one (pt_cmpR op_gt (pe_methI Mdeepest (pv 1) (hr.mono (by decide)) (pa_cons (pe_ix (ix_seqK (K := K) rfl) (pv 0) pe_int (fun _ _ => rfl)) pa_nil (se rfl)) (hst := se rfl) (hpl := nst rfl)) pe_int (nomark _)))) (fun _ _ _ _ => (pe_ix (ix_seqK (K := K) rfl) (pv 0) pe_int (fun _ _ => rfl))))
    (pss_one (ps_ret (pe_tupA (pa_cons (pv 5) (pa_cons (pe_lc (Blk.of (caps := ["turns", "done"]) (ix := [1, 4]) rfl) rfl (pi_list (pv 6)) (fun _ _ _ _ => pf_nil) (fun _ _ _ _ => (pe_tupA (pa_cons (pv 0) (pa_cons (pe_methI Mlast_made (pv 2) (hr.mono (by decide)) (pa_cons (pv 0) (pa_cons (pv 1) pa_nil (se rfl)) (se rfl)) (hst := se rfl) (hpl := nst rfl)) pa_nil (se rfl)) (se rfl))))) pa_nil (se rfl)) (se rfl)))))))), ?_⟩
  walk_at "rd"
  exact ⟨lx, k, fd, bd, m, rs, zs, fl, bl, n, o, rfl, h, hbad, q⟩
theorem find_hit {α : Type} {p : α → Bool} {l : List α} {i : Nat} {x : α} (h0 : (l.take i).find? p = none) (hx : l[i]? = some x) (hp : p x = true) : l.find? p = some x := by
  obtain ⟨hi, e⟩ := List.getElem?_eq_some_iff.mp hx
  rw [← List.take_append_drop i l, List.find?_append, h0, List.drop_eq_getElem_cons hi, e]
  simp [hp]
theorem find_miss {α : Type} {p : α → Bool} {l : List α} {i : Nat} {x : α} (h0 : (l.take i).find? p = none) (hx : l[i]? = some x) (hp : p x = false) : (l.take (i + 1)).find? p = none := by
  rw [List.take_add_one, hx, List.find?_append, h0]
  simp [hp]
theorem find_at {α : Type} {p : α → Bool} {x : α} : ∀ {l : List α}, l.find? p = some x → ∃ i : Nat, l[i]? = some x ∧ p x = true ∧ ∀ (j : Nat) y, j < i → l[j]? = some y → p y = false
  | [], h => by simp at h
  | a :: l, h => by
    by_cases ha : p a = true
    · rw [List.find?_cons_of_pos ha] at h
      cases h
      exact ⟨0, rfl, ha, fun j y hj => absurd hj (Nat.not_lt_zero _)⟩
    · rw [List.find?_cons_of_neg ha] at h
      obtain ⟨i, h1, h2, h3⟩ := find_at h
      refine ⟨i + 1, h1, h2, fun j y hj hy => ?_⟩
      cases j with
      | zero =>
        have e : a = y := by simpa using hy
        subst e
        exact Bool.eq_false_iff.mpr ha
      | succ j => exact h3 j y (by omega) hy
def shFb (fl : Ls) (n : Int) (r : Row) : Bool := decide (r.d = .take) && decide (((look fl r.name).length : Int) < n)
def shBb (rs : List Row) (bl : Ls) (r : Row) : Bool := decide (((look bl r.name).length : Int) < deep rs r.name)
theorem shFb_iff {fl : Ls} {n : Int} {r : Row} : shFb fl n r = true ↔ shF fl n r := by
  unfold shFb shF
  rw [Bool.and_eq_true, decide_eq_true_iff, decide_eq_true_iff]
theorem shBb_iff {rs : List Row} {bl : Ls} {r : Row} : shBb rs bl r = true ↔ isShort rs bl r := by
  unfold shBb isShort
  rw [decide_eq_true_iff]
def shortO (rs : List Row) (fl bl : Ls) (n : Int) : Option Str := match rs.find? (shFb fl n) with
  | some r => some r.name
  | none => (rs.find? (shBb rs bl)).map (·.name)
theorem short_bad {rs : List Row} {fl bl : Ls} {n : Nat} (hn : n ≤ 300) {z : Str} (h : shortO rs fl bl n = some z) : Bad rs fl bl n (some z) := by
  unfold shortO at h
  cases e : rs.find? (shFb fl n) with
  | some r =>
    rw [e] at h
    have ez : r.name = z := Option.some.inj h
    obtain ⟨i, h1, h2, h3⟩ := find_at e
    rw [← ez]
    exact .feed (by omega) (by omega) ⟨h1, shFb_iff.mp h2, fun j r' hj hr' z => absurd (shFb_iff.mpr z) (by rw [h3 j r' hj hr']; decide)⟩
  | none =>
    rw [e] at h
    dsimp only at h
    cases e2 : rs.find? (shBb rs bl) with
    | none => rw [e2] at h; cases h
    | some r =>
      rw [e2] at h
      have ez : r.name = z := Option.some.inj h
      obtain ⟨i, h1, h2, h3⟩ := find_at e2
      rw [← ez]
      refine .beg (by omega) (by omega) (fun r hr z => ?_) ⟨h1, shBb_iff.mp h2, fun j r' hj hr' z => absurd (shBb_iff.mpr z) (by rw [h3 j r' hj hr']; decide)⟩
      exact absurd (shFb_iff.mpr z) (List.find?_eq_none.mp e r hr)
theorem short_none {rs : List Row} {fl bl : Ls} {n : Nat} (h : shortO rs fl bl n = none) : FeOk rs fl n ∧ BeOk rs bl := by
  unfold shortO at h
  cases e : rs.find? (shFb fl n) with
  | some r => rw [e] at h; cases h
  | none =>
    rw [e] at h
    dsimp only at h
    cases e2 : rs.find? (shBb rs bl) with
    | some r => rw [e2] at h; cases h
    | none => exact ⟨feo_of fun r hr z => absurd (shFb_iff.mpr z) (List.find?_eq_none.mp e r hr), beo_of fun r hr z => absurd (shBb_iff.mpr z) (List.find?_eq_none.mp e2 r hr)⟩
theorem short_mem {rs : List Row} {fl bl : Ls} {n : Int} {z : Str} (h : shortO rs fl bl n = some z) : ∃ r ∈ rs, r.name = z := by
  unfold shortO at h
  cases e : rs.find? (shFb fl n) with
  | some r => rw [e] at h; exact ⟨r, List.mem_of_find?_eq_some e, Option.some.inj h⟩
  | none =>
    rw [e] at h
    dsimp only at h
    cases e2 : rs.find? (shBb rs bl) with
    | none => rw [e2] at h; cases h
    | some r => rw [e2] at h; exact ⟨r, List.mem_of_find?_eq_some e2, Option.some.inj h⟩
def spShortL : Sp := fun vs H Q _ => ∃ (p fd bd : Addr) (us : List V) (rs : List Row) (fl bl : Ls) (n : Int), vs = [.ref p, .int n, .ref fd, .ref bd] ∧ H p = some (.lst us) ∧ RowsAt H rs us ∧ LsAt H fd fl ∧ LsAt H bd bl ∧ ∀ H2, Same H H2 → Q (.str ((shortO rs fl bl n).getD (Str.ofString ""))) H2
theorem d_shortL (T : Txt K mg C CE) (Kb : K.In base) (G : base.Ns mainGlobals mg) : Df P w K mg base 2 "_law_short" ["_law_rows_here", "_law_turns", "_law_feeds_here", "_law_begin_here"] spShortL := by
  have D_law_deepest : Df P w K mg base 1 "_law_deepest" ["_law_rows_here", "_law_name"] spDeepest := d_deepest T Kb G
  refine T.f_shortl.df Kb G sc_law_short (fun _ _ _ _ _ _ us hl => match us, hl with | [_, _, _, _], _ => rfl) (by rintro vs H Q E ⟨p, fd, bd, us, rs, fl, bl, n, rfl, _⟩; rfl) (fun f cdv A outer s H vs Q E hr h => ?_)
  obtain ⟨p, fd, bd, us, rs, fl, bl, n, rfl, hp, hu, hf, hb, q⟩ := h
  have l1 := hu.len
  refine ⟨_, (pss_cons (ps_for PassesOwn.never rfl (pi_list (pv 0)) (pg_name (i := 4) sc_law_short.nd rfl (by first | exact Or.inl rfl | exact Or.inr rfl))
      (pss_one (ps_if (PW.pt (pw_and (pt_cmpR op_eq (pe_ix ix_seq (pv 4) pe_int (fun _ _ => rfl)) pe_str (nomark _)) (pw_and1 (pt_cmpR op_lt (pe_callB call_len_seq rfl T.nlen PySem.boot_len (pa_cons (pe_dget2 (hu_of hr) (pv 2) (pe_ix ix_seq (pv 4) pe_int (fun _ _ => rfl)) (pe_lstA pa_nil) ⟨rfl, rfl, rfl, rfl⟩) pa_nil (se rfl)) (he := se rfl) (hpl := nst rfl)) (pv 1) (nomark _))))) (pss_one (ps_ret (pe_ix ix_seq (pv 4) pe_int (fun _ _ => rfl)))) pss_nil)))
    (pss_cons (ps_for PassesOwn.never rfl (pi_list (pv 0)) (pg_name (i := 4) sc_law_short.nd rfl (by first | exact Or.inl rfl | exact Or.inr rfl))
      (pss_cons (ps_set (i := 5) sc_law_short.nd rfl (by first | exact Or.inl rfl | exact Or.inr rfl) (pe_callD D_law_deepest (hr.mono (by decide)) rfl (pa_cons (pv 0) (pa_cons (pe_ix ix_seq (pv 4) pe_int (fun _ _ => rfl)) pa_nil (se rfl)) (se rfl)) (he := se rfl) (hpl := nst rfl)))
    (pss_one (ps_if (pt_cmpR op_lt (pe_callB call_len_seq rfl T.nlen PySem.boot_len (pa_cons (pe_dget2 (hu_of hr) (pv 3) (pe_ix ix_seq (pv 4) pe_int (fun _ _ => rfl)) (pe_lstA pa_nil) ⟨rfl, rfl, rfl, rfl⟩) pa_nil (se rfl)) (he := se rfl) (hpl := nst rfl)) (pv 5) (nomark _)) (pss_one (ps_ret (pe_ix ix_seq (pv 4) pe_int (fun _ _ => rfl)))) pss_nil))))
    (pss_one (ps_ret pe_str)))), ?_⟩
  walk_at "rd"
  refine i_for (i_list ?_)
  walk_at "rd"
  refine ⟨p, rfl, ⟨us, sqL_inj_of hp⟩, ?_⟩
  refine for_list (xs := us) (fun i σ H' => Same H H' ∧ (rs.take i).find? (shFb fl n) = none ∧ ∃ x4, σ = [some (.ref p), some (.int n), some (.ref fd), some (.ref bd), x4, none]) ⟨Same.refl _, rfl, none, rfl⟩ (fun i σ H' _ h => sqL_inj_of (h.1 _ _ hp)) ?_ ?_
  · rintro i u σ H2 hui ⟨s2, hnf, x4, rfl⟩
    have hir : i < rs.length := by rw [l1]; exact (List.getElem?_eq_some_iff.mp hui).1
    have hri := List.getElem?_eq_getElem hir
    have r1 := (hu.at_ i rs[i] u hri hui).same s2
    generalize rs[i] = rw at *
    obtain ⟨p1, p2, vs, rfl, h1, h2, h3⟩ := r1
    walk_at "rd"
    refine i_ixT (.inl (.inl h1)) (show atI _ 1 = some (.str rw.d.word) from rfl) ?_
    walk_at "rd"
    by_cases ht : rw.d = .take
    · refine i_iteSe (by rw [ht]; rfl) ?_
      have hf2 := hf.same s2
      walk_at "rd"
      refine i_dget2 ?_
      walk_at "rd"
      refine ⟨fd, rfl, hf2.isD, ?_⟩
      walk_at "rd"
      refine i_ixT (.inl (.inl h1)) (show atI _ 0 = some (.str rw.name) from rfl) ?_
      walk_at "rd"
      refine ⟨by show 0 ≤ sizeLine; exact Nat.zero_le _, fun e H3 hN3 => ?_⟩
      obtain ⟨o, lp, g1, g2, g3⟩ := get_len (z := rw.name) (hf2.same hN3.same) hN3.at
      have h1' := hN3.same _ _ h1
      refine ⟨o, g1, ?_⟩
      rw [g2]
      walk_at "rd"
      refine ⟨_, _, rfl, .inl (sqL_inj_of g3), ?_⟩
      rw [List.length_map]
      walk_at "rd"
      refine i_iteD (fun hlt => ?_) (fun hlt => ?_)
      · walk_at "rd"
        refine i_ixT (.inl (.inl h1')) (show atI _ 0 = some (.str rw.name) from rfl) ?_
        have e1 := find_hit hnf hri (shFb_iff.mpr ⟨ht, hlt⟩)
        have e2 : (shortO rs fl bl n).getD (Str.ofString "") = rw.name := by unfold shortO; rw [e1]; rfl
        have := q H3 (s2.trans hN3.same)
        rw [e2] at this
        exact this
      · walk_at "rd"
        exact ⟨s2.trans hN3.same, find_miss hnf hri (Bool.eq_false_iff.mpr fun z => hlt (shFb_iff.mp z).2), _, rfl⟩
    · refine i_iteSf (word_ne (e := .take) ht) ?_
      walk_at "rd"
      exact ⟨s2, find_miss hnf hri (Bool.eq_false_iff.mpr fun z => ht (shFb_iff.mp z).1), _, rfl⟩
  rintro σ H2 ⟨s2, hnf, x4, rfl⟩
  rw [← l1, List.take_length] at hnf
  have hp2 := s2 _ _ hp
  have hu2 := hu.same s2
  have hb2 := hb.same s2
  have eO : ∀ o, rs.find? (shBb rs bl) = o → shortO rs fl bl n = o.map (·.name) := fun o e => by unfold shortO; rw [hnf]; dsimp only; rw [e]
  dsimp only
  refine i_for (i_list ?_)
  walk_at "rd"
  refine ⟨p, rfl, ⟨us, sqL_inj_of hp2⟩, ?_⟩
  refine for_list (xs := us) (fun i σ H' => Same H2 H' ∧ (rs.take i).find? (shBb rs bl) = none ∧ ∃ x4 x5, σ = [some (.ref p), some (.int n), some (.ref fd), some (.ref bd), x4, x5]) ⟨Same.refl _, rfl, _, none, rfl⟩ (fun i σ H' _ h => sqL_inj_of (h.1 _ _ hp2)) ?_ ?_
  · rintro i u σ H3 hui ⟨s3, hnb, x4, x5, rfl⟩
    have hir : i < rs.length := by rw [l1]; exact (List.getElem?_eq_some_iff.mp hui).1
    have hri := List.getElem?_eq_getElem hir
    have r1 := (hu2.at_ i rs[i] u hri hui).same s3
    generalize rs[i] = rw at *
    obtain ⟨p1, p2, vs, rfl, h1, h2, h3⟩ := r1
    have hb3 := hb2.same s3
    walk_at "rd"
    refine i_ixT (.inl (.inl h1)) (show atI _ 0 = some (.str rw.name) from rfl) ?_
    walk_at "rd"
    refine ⟨p, us, rs, rw.name, rfl, s3 _ _ hp2, hu2.same s3, ?_⟩
    walk_at "rd"
    refine i_dget2 ?_
    walk_at "rd"
    refine ⟨bd, rfl, hb3.isD, ?_⟩
    walk_at "rd"
    refine i_ixT (.inl (.inl h1)) (show atI _ 0 = some (.str rw.name) from rfl) ?_
    walk_at "rd"
    refine ⟨by show 0 ≤ sizeLine; exact Nat.zero_le _, fun e H4 hN4 => ?_⟩
    obtain ⟨o, lp, g1, g2, g3⟩ := get_len (z := rw.name) (hb3.same hN4.same) hN4.at
    have h1' := hN4.same _ _ h1
    refine ⟨o, g1, ?_⟩
    rw [g2]
    walk_at "rd"
    refine ⟨_, _, rfl, .inl (sqL_inj_of g3), ?_⟩
    rw [List.length_map]
    walk_at "rd"
    refine i_iteD (fun hlt => ?_) (fun hlt => ?_)
    · walk_at "rd"
      refine i_ixT (.inl (.inl h1')) (show atI _ 0 = some (.str rw.name) from rfl) ?_
      have e1 := eO _ (find_hit hnb hri (shBb_iff.mpr hlt))
      have := q H4 ((s2.trans s3).trans hN4.same)
      rw [e1] at this
      exact this
    · walk_at "rd"
      exact ⟨s3.trans hN4.same, find_miss hnb hri (Bool.eq_false_iff.mpr fun z => hlt (shBb_iff.mp z)), _, _, rfl⟩
  · rintro σ H3 ⟨s3, hnb, x4, x5, rfl⟩
    rw [← l1, List.take_length] at hnb
    walk_at "rd"
    have := q H3 (s2.trans s3)
    rw [eO _ hnb] at this
    exact this
theorem LsAt.kvs {H : Hp} {d : Addr} {ls : Ls} (h : LsAt H d ls) : ∃ kvs, H d = some (.dK kvs) ∧ kvs.map (·.1) = (ls.map (·.1)).map Sum.inr ∧ kvs.length = ls.length := by
  obtain ⟨kvs, hd, nd, pr⟩ := h
  refine ⟨kvs, hd, ?_, (Paired.len' pr).symm⟩
  clear hd nd
  induction pr with
  | nil => rfl
  | @cons a b ls' kvs' hab _ ih =>
    show b.1 :: _ = Sum.inr a.1 :: _
    rw [hab.1, ih]
def spShorter : Sp := fun vs H Q _ => ∃ (d p : Addr) (us : List V) (ls : Ls) (zs : List Str) (rs : List Row) (n : Nat) (num : Int), vs = [.ref d, .ref p, .int (n : Int), .int num] ∧ LsAt H d ls ∧ ls.length ≤ 60 ∧ H p = some (.lst us) ∧ RowsAt H rs us ∧ RowsOk zs rs ∧ n ≤ 300 ∧
  ∀ d' ls' H2, Same H H2 → H d' = none → LsAt H2 d' ls' → ls'.length ≤ 60 → Q (.ref d') H2
theorem d_shorter (T : Txt K mg C CE) (Kb : K.In base) (G : base.Ns mainGlobals mg) : Df P w K mg base 2 "_law_shorter" ["_law_lists", "_law_rows_here", "_law_turns", "_law_number"] spShorter := by
  have D_law_deepest : Df P w K mg base 1 "_law_deepest" ["_law_rows_here", "_law_name"] spDeepest := d_deepest T Kb G
  have D_law_copy : Df P w K mg base 1 "_law_copy" ["_law_lists"] spCopyL := d_copyL T Kb G
  refine T.f_shorter.df Kb G sc_law_shorter (fun _ _ _ _ _ _ us hl => match us, hl with | [_, _, _, _], _ => rfl) (by rintro vs H Q E ⟨d, p, us, ls, zs, rs, n, num, rfl, _⟩; rfl) (fun f cdv A outer s H vs Q E hr h => ?_)
  obtain ⟨d, p, us, ls, zs, rs, n, num, rfl, hls, hl60, hp, hu, hok, hn, q⟩ := h
  have lb := line_big
  have l1 := hu.len
  refine ⟨_, (pss_cons (ps_set (i := 4) sc_law_shorter.nd rfl (by first | exact Or.inl rfl | exact Or.inr rfl) (pe_callD D_law_copy (hr.mono (by decide)) rfl (pa_cons (pv 0) pa_nil (se rfl)) (he := se rfl) (hpl := nst rfl)))
    (pss_cons (ps_join (ps_if (pt_cmpR op_gt (pe_callB call_lenD rfl T.nlen PySem.boot_len (pa_cons (pv 4) pa_nil (se rfl)) (he := se rfl) (hpl := nst rfl)) pe_int (nomark _)) (pss_cons (ps_set (i := 5) sc_law_shorter.nd rfl (by first | exact Or.inl rfl | exact Or.inr rfl) (pe_ix ix_seq (pe_callB (call_sortD rfl) rfl T.nsorted PyProof.Rows.boot_sorted (pa_cons (pv 4) pa_nil (se rfl)) (he := se rfl) (hpl := nst rfl)) (pe_op op_mod (pv 3) (pe_callB call_lenD rfl T.nlen PySem.boot_len (pa_cons (pv 4) pa_nil (se rfl)) (he := se rfl) (hpl := nst rfl))) (fun _ _ => rfl)))
    (pss_cons (ps_set (i := 6) sc_law_shorter.nd rfl (by first | exact Or.inl rfl | exact Or.inr rfl) (pe_callD D_law_deepest (hr.mono (by decide)) rfl (pa_cons (pv 1) (pa_cons (pv 5) pa_nil (se rfl)) (se rfl)) (he := se rfl) (hpl := nst rfl)))
    (pss_cons (ps_for PassesOwn.never rfl (pi_list (pv 1)) (pg_name (i := 7) sc_law_shorter.nd rfl (by first | exact Or.inl rfl | exact Or.inr rfl))
      (pss_one (ps_if (PW.pt (pw_and (pt_cmpR op_eq (pe_ix ix_seq (pv 7) pe_int (fun _ _ => rfl)) (pv 5) (nomark _)) (pw_and (pt_cmpR op_eq (pe_ix ix_seq (pv 7) pe_int (fun _ _ => rfl)) pe_str (nomark _)) (pw_and1 (pt_cmpR op_eq (pe_op op_mod (pe_op op_fdiv (pv 3) pe_int) pe_int) pe_int (nomark _)))))) (pss_one (ps_set (i := 6) sc_law_shorter.nd rfl (by first | exact Or.inl rfl | exact Or.inr rfl) (pv 2))) pss_nil)))
    (pss_one (ps_if (pt_cmpR op_eq (pe_op op_mod (pe_op op_fdiv (pv 3) pe_int) pe_int) pe_int (nomark _)) (pss_one (ps_expr (pe_dpop1 (pv 4) (pv 5) ⟨rfl, rfl, rfl, rfl⟩))) (pss_one (ps_dput (hu_of hr) (pv 4) (pv 5) (pe_slice sl_listA (pe_dget (hu_of hr) (pv 4) (pv 5) (fun _ _ => rfl)) po_none (po_some (pe_callB (call_max2 rfl) rfl T.nmax PyProof.Rows.boot_max (pa_cons pe_int (pa_cons (pe_op op_sub (pv 6) pe_int) pa_nil (se rfl)) (se rfl)) (he := se rfl) (hpl := nst rfl)))) rfl))))))) pss_nil))
    (pss_one (ps_ret (pv 4))))), ?_⟩
  walk_at "rd"
  refine ⟨d, ls, rfl, hls, by omega, fun D H1 s1 hD0 hD => ?_⟩
  walk_at "rd"
  refine i_join (fun σ' H' => ∃ ls' x5 x6 x7, σ' = [some (.ref d), some (.ref p), some (.int (n : Int)), some (.int num), some (.ref D), x5, x6, x7] ∧ Same H H' ∧ LsAt H' D ls' ∧ ls'.length ≤ 60) ?_ ?_
  · obtain ⟨kvs, hk1, hk2, hk3⟩ := hD.kvs
    walk_at "rd"
    refine ⟨D, kvs, rfl, hk1, ?_⟩
    walk_at "rd"
    refine i_iteD (fun h0 => ?_) (fun h0 => ?_)
    · walk_at "rd"
      refine i_sortD hk1 hk2 (by omega) fun so ys H2 hperm hN2 => ?_
      walk_at "rd"
      have hk12 := hN2.same _ _ hk1
      refine ⟨D, kvs, rfl, hk12, ?_⟩
      walk_at "rd"
      have bn := mod_b num (show (0 : Int) < (kvs.length : Int) by omega)
      first | (refine i_mod (by omega) ?_) | skip
      obtain ⟨j, hj⟩ := Int.eq_ofNat_of_zero_le bn.1
      rw [hj] at bn ⊢
      have hyl : ys.length = kvs.length := by rw [hperm.length_eq, List.length_map, hk3]
      have hjl : j < ys.length := by omega
      have hzm : ys[j] ∈ ls.map (·.1) := hperm.mem_iff.mp (List.getElem_mem hjl)
      refine i_ixL hN2.lst (show atI _ (j : Int) = some (.str ys[j]) from atI_nat (by rw [List.getElem?_map, List.getElem?_eq_getElem hjl]; rfl)) ?_
      generalize ys[j] = z at *
      have t2 := s1.trans hN2.same
      have hD2 := hD.same hN2.same
      have hp2 := t2 _ _ hp
      have hu2 := hu.same t2
      clear hk1 hk2 hk12 hD
      walk_at "rd"
      refine ⟨p, us, rs, z, rfl, hp2, hu2, ?_⟩
      walk_at "rd"
      refine i_for (i_list ?_)
      walk_at "rd"
      refine ⟨p, rfl, ⟨us, sqL_inj_of hp2⟩, ?_⟩
      have hd6 := deep_6 hok z
      have hd0 := deep_nn rs z
      refine for_list (xs := us) (fun i σ H' => H' = H2 ∧ ∃ (lg : Int) (x7 : Option V), σ = [some (.ref d), some (.ref p), some (.int (n : Int)), some (.int num), some (.ref D), some (.str z), some (.int lg), x7] ∧ 0 ≤ lg ∧ lg ≤ 300) ⟨rfl, deep rs z, none, rfl, hd0, by omega⟩ (fun i σ H' _ h => by rw [h.1]; exact sqL_inj_of hp2) ?_ ?_
      · rintro i u σ H' hui ⟨rfl, lg, x7, rfl, g0, g300⟩
        have hir : i < rs.length := by rw [l1]; exact (List.getElem?_eq_some_iff.mp hui).1
        have r1 := hu2.at_ i rs[i] u (List.getElem?_eq_getElem hir) hui
        generalize rs[i] = rw at *
        obtain ⟨p1, p2, vs, rfl, h1, h2, h3⟩ := r1
        walk_at "rd"
        refine i_ixT (.inl (.inl h1)) (show atI _ 0 = some (.str rw.name) from rfl) ?_
        walk_at "rd"
        by_cases hz : rw.name = z
        · rw [decide_eq_true (show V.str rw.name = V.str z by rw [hz])]
          walk_at "rd"
          refine i_ixT (.inl (.inl h1)) (show atI _ 1 = some (.str rw.d.word) from rfl) ?_
          walk_at "rd"
          by_cases ht : rw.d = .take
          · rw [decide_eq_true (show V.str rw.d.word = V.str (Str.ofString "take") by rw [ht]; rfl)]
            walk_at "rd"
            refine i_iteI (fun _ => ?_) (fun _ => ?_)
            · walk_at "rd"
              exact ⟨rfl, _, _, rfl, by omega, by omega⟩
            · walk_at "rd"
              exact ⟨rfl, _, _, rfl, g0, g300⟩
          · rw [decide_eq_false (show ¬ V.str rw.d.word = V.str (Str.ofString "take") from fun z => word_ne (e := .take) ht (V.str.inj z))]
            walk_at "rd"
            exact ⟨rfl, _, _, rfl, g0, g300⟩
        · rw [decide_eq_false (show ¬ V.str rw.name = V.str z from fun e => hz (V.str.inj e))]
          walk_at "rd"
          exact ⟨rfl, _, _, rfl, g0, g300⟩
      rintro σ H' ⟨rfl, lg, x7, rfl, g0, g300⟩
      walk_at "rd"
      refine i_iteI (fun _ => ?_) (fun _ => ?_)
      · obtain ⟨kvs', v, e1, e2, e3⟩ := hD2.out hzm
        walk_at "rd"
        refine i_dpop1 ?_
        walk_at "rd"
        refine ⟨D, rfl, hD2.isD, ?_⟩
        walk_at "rd"
        refine ⟨kvs', Sum.inr z, v, e1, rfl, e2, ?_⟩
        walk_at "rd"
        refine ⟨_, _, _, _, rfl, fun b u e => by rw [upd_ne (ne_of_none e hD0)]; exact t2 _ _ e, e3, ?_⟩
        exact Nat.le_trans (List.length_filter_le _ _) hl60
      · obtain ⟨l, hl, _⟩ := look_mem hzm
        obtain ⟨lp, g1, g2⟩ := hD2.get hl
        walk_at "rd"
        refine i_dput ?_
        walk_at "rd"
        refine i_dix ?_
        walk_at "rd"
        refine ⟨D, _, rfl, g1, ?_⟩
        walk_at "rd"
        refine ⟨_, _, rfl, _, rfl, ?_⟩
        generalize (if lg - 1 > 0 then lg - 1 else 0) = mx
        refine i_slLA (sqL_inj_of g2) fun sp H3 hN3 => ?_
        obtain ⟨ks, hks⟩ := cut_ints l none (some mx)
        rw [hks] at hN3
        walk_at "rd"
        obtain ⟨H4, hput, sb4, hD4⟩ := (hD2.same hN3.same).put (z := z) (p := sp) (l := ks) hzm hN3.at (by omega)
        refine ⟨D, H4, rfl, hput, ?_⟩
        walk_at "rd"
        refine ⟨_, _, _, _, rfl, fun b u e => sb4 b u (ne_of_none e hD0) (hN3.same _ _ (t2 _ _ e)), hD4, ?_⟩
        show (List.map _ _).length ≤ 60
        rw [List.length_map]; exact hl60
    · walk_at "rd"
      exact ⟨ls, _, _, _, rfl, s1, hD, hl60⟩
  · rintro σ' H2 ⟨ls', x5, x6, x7, rfl, s2, hD2, hl2⟩
    walk_at "rd"
    exact q D ls' H2 s2 hD0 hD2 hl2
def KBad (CE : Xk → Addr) (H : Hp) (Q : VK) : Option Str → Prop
  | none => ∀ e H2, Same H H2 → H2 e = some (excO e (CE .BadTurns) none) → Q (.ref e) H2
  | some z => ∀ e d H2, Same H H2 → H2 e = some (excO e (CE .Short) (some d)) → H2 d = some (.xd [(Str.ofString "name", .str z)]) → Q (.ref e) H2
def spCaught (CE : Xk → Addr) : Sp := fun vs H Q _ => ∃ (lx k fd bd : Addr) (m : Int) (rs : List Row) (zs : List Str) (fl bl : Ls) (n way : Int), vs = [.ref lx, .int n, .ref fd, .ref bd, .int way] ∧ Runs CE H lx k fd bd m rs zs fl bl ∧ 2 ≤ m ∧ m ≤ 10 ^ 60 ∧
  ((∃ nn : Nat, n = (nn : Int) ∧ nn ≤ 300 ∧ FeOk rs fl nn ∧ BeOk rs bl ∧ ∀ H2, Same H H2 → Q .non H2) ∨ ∃ o, Bad rs fl bl n o ∧ KBad CE H Q o)
theorem d_caught (T : Txt K mg C CE) (Kb : K.In base) (G : base.Ns mainGlobals mg) : Df P w K mg base 7 "_law_caught" ["_law_loop", "_law_turns", "_law_feeds_here", "_law_begin_here", "_law_way"] (spCaught CE) := by
  have Dtable : Df P w K mg base 6 "table" ["loop", "turns", "feeds", "begin"] (spTable (CE .Loop)) := d_table T Kb G
  have Doutcome : Df P w K mg base 6 "outcome" ["loop", "turns", "feeds", "begin"] (spOutcome (CE .Loop)) := d_outcome T Kb G
  have DtableX : DfX P w K mg base 6 "table" ["loop", "turns", "feeds", "begin"] (spRunX CE) := d_tableX T Kb G
  have DoutcomeX : DfX P w K mg base 6 "outcome" ["loop", "turns", "feeds", "begin"] (spRunX CE) := d_outcomeX T Kb G
  obtain ⟨f0, fd0, xi, _⟩ := T.e_Short.ex
  refine T.f_caught.df Kb G sc_law_caught (fun _ _ _ _ _ _ us hl => match us, hl with | [_, _, _, _, _], _ => rfl) (by rintro vs H Q E ⟨lx, k, fd, bd, m, rs, zs, fl, bl, n, way, rfl, _⟩; rfl) (fun f cdv A outer s H vs Q E hr h => ?_)
  obtain ⟨lx, k, fd, bd, m, rs, zs, fl, bl, n, way, rfl, h, m2, m60, hc⟩ := h
  refine ⟨_, (pss_cons (ps_set (i := 5) sc_law_caught.nd rfl (by first | exact Or.inl rfl | exact Or.inr rfl) pe_non)
    (pss_cons (ps_try (i := 6) ⟨rfl, rfl⟩ rfl sc_law_caught.nd rfl rfl T.lapB T.lapT rfl T.mg_LapError (fun _ ES => (pss_one (ps_if (pt_cmpR op_eq (pv 4) pe_int (nomark _)) (pss_one (ps_expr (pe_callOr (ES := ES) Dtable DtableX (hr.mono (by decide)) (hr.mono (by decide)) (fun _ _ z => z) rfl (pa_cons (pv 0) (pa_cons (pv 1) (pa_cons (pv 2) (pa_cons (pv 3) pa_nil (se rfl)) (se rfl)) (se rfl)) (se rfl)) (he := se rfl) (hpl := nst rfl)))) (pss_one (ps_expr (pe_callOr (ES := ES) Doutcome DoutcomeX (hr.mono (by decide)) (hr.mono (by decide)) (fun _ _ z => z) rfl (pa_cons (pv 0) (pa_cons (pv 1) (pa_cons (pv 2) (pa_cons (pv 3) pa_nil (se rfl)) (se rfl)) (se rfl)) (se rfl)) (he := se rfl) (hpl := nst rfl))))))) (fun _ _ => (pss_one (ps_set (i := 5) sc_law_caught.nd rfl (by first | exact Or.inl rfl | exact Or.inr rfl) (pv 6)))))
    (pss_one (ps_ret (pv 5))))), ?_⟩
  have key : ∀ (ES : XS) (o : Option Str), (∀ C d H2, Same H H2 → (o = none → C = CE .BadTurns ∧ d = none) → (∀ z, o = some z → C = CE .Short ∧ ∃ dx, d = some dx ∧ H2 dx = some (.xd [(Str.ofString "name", .str z)])) → ES [some (.ref lx), some (.int n), some (.ref fd), some (.ref bd), some (.int way), some .non, none] (.ref C) d H2) →
      EBad CE (ES [some (.ref lx), some (.int n), some (.ref fd), some (.ref bd), some (.int way), some .non, none]) H o := fun ES o hh => by
    cases o with
    | none => exact fun H2 s2 => hh _ _ H2 s2 (fun _ => ⟨rfl, rfl⟩) (fun z e => by cases e)
    | some z => exact fun d H2 s2 e => hh _ _ H2 s2 (fun e => by cases e) (fun z' e' => by cases e'; exact ⟨rfl, d, rfl, e⟩)
  walk_at "rd"
  refine i_try ?_
  walk_at "rd"
  refine i_iteI (fun hw => ?_) (fun hw => ?_)
  · walk_at "rd"
    refine i_callOr ?_
    walk_at "rd"
    rcases hc with ⟨nn, rfl, hn, hf, hb, q⟩ | ⟨o, hbad, q⟩
    · refine .inl ⟨lx, k, fd, bd, m, rs, zs, fl, bl, nn, rfl, ⟨h.loop, h.ok, h.fe, h.be, hf, hb, hn, m2, m60⟩, fun p us H2 s2 _ _ _ => ?_⟩
      walk_at "rd"
      exact q _ s2
    · refine .inr ⟨lx, k, fd, bd, m, rs, zs, fl, bl, n, o, rfl, h, hbad, key _ o fun C d H2 s2 h1 h2 => ?_⟩
      cases o with
      | none =>
        obtain ⟨rfl, rfl⟩ := h1 rfl
        refine ⟨_, rfl, T.x_BadTurns.xc, T.m_BadTurns, fun e H3 hN3 => ?_⟩
        walk_at "rd"
        refine ⟨⟨_, rfl⟩, ?_⟩
        walk_at "rd"
        exact q e _ (s2.trans hN3.same) hN3.at
      | some z =>
        obtain ⟨rfl, dx, rfl, hdx⟩ := h2 z rfl
        refine ⟨_, rfl, xi.xc, T.m_Short, fun e H3 hN3 => ?_⟩
        walk_at "rd"
        refine ⟨⟨_, rfl⟩, ?_⟩
        walk_at "rd"
        exact q e dx _ (s2.trans hN3.same) hN3.at (hN3.same _ _ hdx)
  · walk_at "rd"
    refine i_callOr ?_
    walk_at "rd"
    rcases hc with ⟨nn, rfl, hn, hf, hb, q⟩ | ⟨o, hbad, q⟩
    · refine .inl ⟨lx, k, fd, bd, m, rs, zs, fl, bl, nn, rfl, ⟨h.loop, h.ok, h.fe, h.be, hf, hb, hn, m2, m60⟩, fun t p1 p2 u1 u2 H2 s2 _ _ _ _ _ => ?_⟩
      walk_at "rd"
      exact q _ s2
    · refine .inr ⟨lx, k, fd, bd, m, rs, zs, fl, bl, n, o, rfl, h, hbad, key _ o fun C d H2 s2 h1 h2 => ?_⟩
      cases o with
      | none =>
        obtain ⟨rfl, rfl⟩ := h1 rfl
        refine ⟨_, rfl, T.x_BadTurns.xc, T.m_BadTurns, fun e H3 hN3 => ?_⟩
        walk_at "rd"
        refine ⟨⟨_, rfl⟩, ?_⟩
        walk_at "rd"
        exact q e _ (s2.trans hN3.same) hN3.at
      | some z =>
        obtain ⟨rfl, dx, rfl, hdx⟩ := h2 z rfl
        refine ⟨_, rfl, xi.xc, T.m_Short, fun e H3 hN3 => ?_⟩
        walk_at "rd"
        refine ⟨⟨_, rfl⟩, ?_⟩
        walk_at "rd"
        exact q e dx _ (s2.trans hN3.same) hN3.at (hN3.same _ _ hdx)
def DOk (H : Hp) (d : Option Addr) : Prop := d = none ∨ ∃ dx fs, d = some dx ∧ H dx = some (.xd fs)
theorem DOk.same {H H' : Hp} {d : Option Addr} (s : Same H H') (h : DOk H d) : DOk H' d := by
  rcases h with h | ⟨dx, fs, h1, h2⟩
  · exact .inl h
  · exact .inr ⟨dx, fs, h1, s _ _ h2⟩
def codeX : Xk → Int
  | .Short => 16
  | _ => 10
theorem kX (T : Txt K mg C CE) {e : Xk} (he : e = .Short ∨ e = .BadTurns) (f : Xk) (h1 : f ≠ .LapError) (h2 : f ≠ .Loop) (h3 : f ≠ .Run) : PySem.W.kitOne K (.ref (CE e)) (.ref (CE f)) = some (decide (f = e)) := by
  rcases he with z | z <;> subst z
  · exact T.kX_Short f h1 h2 h3
  · exact T.kX_BadTurns f h1 h2 h3
def alpha : List Xk := [.BadArms, .BadBack, .BadCount, .BadDelay, .BadHold, .BadName, .BadNumber, .BadPlan, .BadRows, .BadText, .BadTurns, .BadWidth, .NoArm, .NoDeed, .NoMeasure, .NoRow, .Short, .TooEarly, .Twice, .Unfit]
def spClasses (CE : Xk → Addr) : Sp := fun vs H Q _ => ∃ (e : Addr) (x : Xk) (d : Option Addr), vs = [.ref e] ∧ (x = .Short ∨ x = .BadTurns) ∧ H e = some (excO e (CE x) d) ∧ DOk H d ∧ ∀ H2, Same H H2 → Q (.int (codeX x)) H2
theorem d_classes (T : Txt K mg C CE) (Kb : K.In base) (G : base.Ns mainGlobals mg) : Df P w K mg base 1 "_law_classes" ["_law_kept"] (spClasses CE) := by
  refine T.f_classes.df Kb G sc_law_classes (fun _ _ _ _ _ _ us hl => match us, hl with | [_], _ => rfl) (by rintro vs H Q E ⟨e, x, d, rfl, _⟩; rfl) (fun f cdv A outer s H vs Q E hr h => ?_)
  obtain ⟨e, x, d, rfl, hx, he, hdx, q⟩ := h
  obtain ⟨f0, fd0, xi, _⟩ := T.e_Short.ex
  have xc : XCls K (CE x) := by
    rcases hx with z | z <;> subst z
    · exact xi.xc
    · exact T.x_BadTurns.xc
  have kv : PySem.W.kitOne K (.ref (CE x)) (.type "ValueError") = some true := by
    rcases hx with z | z <;> subst z
    · exact T.kV_Short
    · exact T.kV_BadTurns
  have kl : PySem.W.kitOne K (.ref (CE x)) (.ref (CE .LapError)) = some true := by
    rcases hx with z | z <;> subst z
    · exact T.kL_Short
    · exact T.kL_BadTurns
  refine ⟨_, (pss_cons (ps_set (i := 1) sc_law_classes.nd rfl (by first | exact Or.inl rfl | exact Or.inr rfl) (pe_lstA (pa_cons (pe_callB call_isiX rfl T.nisi PyProof.Rows.boot_isinstance (pa_cons (pv 0) (pa_cons (pe_glob (v := .ref _) rfl (T.mg_BadArms) rfl) pa_nil (se rfl)) (se rfl)) (he := se rfl) (hpl := nst rfl)) (pa_cons (pe_callB call_isiX rfl T.nisi PyProof.Rows.boot_isinstance (pa_cons (pv 0) (pa_cons (pe_glob (v := .ref _) rfl (T.mg_BadBack) rfl) pa_nil (se rfl)) (se rfl)) (he := se rfl) (hpl := nst rfl)) (pa_cons (pe_callB call_isiX rfl T.nisi PyProof.Rows.boot_isinstance (pa_cons (pv 0) (pa_cons (pe_glob (v := .ref _) rfl (T.mg_BadCount) rfl) pa_nil (se rfl)) (se rfl)) (he := se rfl) (hpl := nst rfl)) pa_nil (se rfl)) (se rfl)) (se rfl))))
    (pss_cons (ps_set (i := 1) sc_law_classes.nd rfl (by first | exact Or.inl rfl | exact Or.inr rfl) (pe_op op_catA (pv 1) (pe_lstA (pa_cons (pe_callB call_isiX rfl T.nisi PyProof.Rows.boot_isinstance (pa_cons (pv 0) (pa_cons (pe_glob (v := .ref _) rfl (T.mg_BadDelay) rfl) pa_nil (se rfl)) (se rfl)) (he := se rfl) (hpl := nst rfl)) (pa_cons (pe_callB call_isiX rfl T.nisi PyProof.Rows.boot_isinstance (pa_cons (pv 0) (pa_cons (pe_glob (v := .ref _) rfl (T.mg_BadHold) rfl) pa_nil (se rfl)) (se rfl)) (he := se rfl) (hpl := nst rfl)) pa_nil (se rfl)) (se rfl)))))
    (pss_cons (ps_set (i := 1) sc_law_classes.nd rfl (by first | exact Or.inl rfl | exact Or.inr rfl) (pe_op op_catA (pv 1) (pe_lstA (pa_cons (pe_callB call_isiX rfl T.nisi PyProof.Rows.boot_isinstance (pa_cons (pv 0) (pa_cons (pe_glob (v := .ref _) rfl (T.mg_BadName) rfl) pa_nil (se rfl)) (se rfl)) (he := se rfl) (hpl := nst rfl)) (pa_cons (pe_callB call_isiX rfl T.nisi PyProof.Rows.boot_isinstance (pa_cons (pv 0) (pa_cons (pe_glob (v := .ref _) rfl (T.mg_BadNumber) rfl) pa_nil (se rfl)) (se rfl)) (he := se rfl) (hpl := nst rfl)) pa_nil (se rfl)) (se rfl)))))
    (pss_cons (ps_set (i := 1) sc_law_classes.nd rfl (by first | exact Or.inl rfl | exact Or.inr rfl) (pe_op op_catA (pv 1) (pe_lstA (pa_cons (pe_callB call_isiX rfl T.nisi PyProof.Rows.boot_isinstance (pa_cons (pv 0) (pa_cons (pe_glob (v := .ref _) rfl (T.mg_BadPlan) rfl) pa_nil (se rfl)) (se rfl)) (he := se rfl) (hpl := nst rfl)) (pa_cons (pe_callB call_isiX rfl T.nisi PyProof.Rows.boot_isinstance (pa_cons (pv 0) (pa_cons (pe_glob (v := .ref _) rfl (T.mg_BadRows) rfl) pa_nil (se rfl)) (se rfl)) (he := se rfl) (hpl := nst rfl)) (pa_cons (pe_callB call_isiX rfl T.nisi PyProof.Rows.boot_isinstance (pa_cons (pv 0) (pa_cons (pe_glob (v := .ref _) rfl (T.mg_BadText) rfl) pa_nil (se rfl)) (se rfl)) (he := se rfl) (hpl := nst rfl)) pa_nil (se rfl)) (se rfl)) (se rfl)))))
    (pss_cons (ps_set (i := 1) sc_law_classes.nd rfl (by first | exact Or.inl rfl | exact Or.inr rfl) (pe_op op_catA (pv 1) (pe_lstA (pa_cons (pe_callB call_isiX rfl T.nisi PyProof.Rows.boot_isinstance (pa_cons (pv 0) (pa_cons (pe_glob (v := .ref _) rfl (T.mg_BadTurns) rfl) pa_nil (se rfl)) (se rfl)) (he := se rfl) (hpl := nst rfl)) (pa_cons (pe_callB call_isiX rfl T.nisi PyProof.Rows.boot_isinstance (pa_cons (pv 0) (pa_cons (pe_glob (v := .ref _) rfl (T.mg_BadWidth) rfl) pa_nil (se rfl)) (se rfl)) (he := se rfl) (hpl := nst rfl)) (pa_cons (pe_callB call_isiX rfl T.nisi PyProof.Rows.boot_isinstance (pa_cons (pv 0) (pa_cons (pe_glob (v := .ref _) rfl (T.mg_NoArm) rfl) pa_nil (se rfl)) (se rfl)) (he := se rfl) (hpl := nst rfl)) pa_nil (se rfl)) (se rfl)) (se rfl)))))
    (pss_cons (ps_set (i := 1) sc_law_classes.nd rfl (by first | exact Or.inl rfl | exact Or.inr rfl) (pe_op op_catA (pv 1) (pe_lstA (pa_cons (pe_callB call_isiX rfl T.nisi PyProof.Rows.boot_isinstance (pa_cons (pv 0) (pa_cons (pe_glob (v := .ref _) rfl (T.mg_NoDeed) rfl) pa_nil (se rfl)) (se rfl)) (he := se rfl) (hpl := nst rfl)) (pa_cons (pe_callB call_isiX rfl T.nisi PyProof.Rows.boot_isinstance (pa_cons (pv 0) (pa_cons (pe_glob (v := .ref _) rfl (T.mg_NoMeasure) rfl) pa_nil (se rfl)) (se rfl)) (he := se rfl) (hpl := nst rfl)) (pa_cons (pe_callB call_isiX rfl T.nisi PyProof.Rows.boot_isinstance (pa_cons (pv 0) (pa_cons (pe_glob (v := .ref _) rfl (T.mg_NoRow) rfl) pa_nil (se rfl)) (se rfl)) (he := se rfl) (hpl := nst rfl)) pa_nil (se rfl)) (se rfl)) (se rfl)))))
    (pss_cons (ps_set (i := 1) sc_law_classes.nd rfl (by first | exact Or.inl rfl | exact Or.inr rfl) (pe_op op_catA (pv 1) (pe_lstA (pa_cons (pe_callB call_isiX rfl T.nisi PyProof.Rows.boot_isinstance (pa_cons (pv 0) (pa_cons (pe_glob (v := .ref _) rfl (T.mg_Short) rfl) pa_nil (se rfl)) (se rfl)) (he := se rfl) (hpl := nst rfl)) (pa_cons (pe_callB call_isiX rfl T.nisi PyProof.Rows.boot_isinstance (pa_cons (pv 0) (pa_cons (pe_glob (v := .ref _) rfl (T.mg_TooEarly) rfl) pa_nil (se rfl)) (se rfl)) (he := se rfl) (hpl := nst rfl)) (pa_cons (pe_callB call_isiX rfl T.nisi PyProof.Rows.boot_isinstance (pa_cons (pv 0) (pa_cons (pe_glob (v := .ref _) rfl (T.mg_Twice) rfl) pa_nil (se rfl)) (se rfl)) (he := se rfl) (hpl := nst rfl)) pa_nil (se rfl)) (se rfl)) (se rfl)))))
    (pss_cons (ps_set (i := 1) sc_law_classes.nd rfl (by first | exact Or.inl rfl | exact Or.inr rfl) (pe_op op_catA (pv 1) (pe_lstA (pa_cons (pe_callB call_isiX rfl T.nisi PyProof.Rows.boot_isinstance (pa_cons (pv 0) (pa_cons (pe_glob (v := .ref _) rfl (T.mg_Unfit) rfl) pa_nil (se rfl)) (se rfl)) (he := se rfl) (hpl := nst rfl)) pa_nil (se rfl)))))
    (pss_cons (ps_if (PW.pt (pw_or (pt_not (pt_val (pe_callB call_isiX rfl T.nisi PyProof.Rows.boot_isinstance (pa_cons (pv 0) (pa_cons (pe_glob (v := .ref _) rfl (T.mg_LapError) rfl) pa_nil (se rfl)) (se rfl)) (he := se rfl) (hpl := nst rfl)))) (pw_or1 (pt_not (pt_val (pe_callB call_isiX rfl T.nisi PyProof.Rows.boot_isinstance (pa_cons (pv 0) (pa_cons (pe_bltn (v := .ty "ValueError") rfl T.nVE boot_ValueError rfl) pa_nil (se rfl)) (se rfl)) (he := se rfl) (hpl := nst rfl))))))) (pss_one (ps_ret (pe_un un_neg pe_int))) pss_nil)
    (pss_cons (ps_if (pt_cmpR op_ne (pe_callB (call_sum rfl) rfl T.nsum boot_sum0 (pa_cons (pe_lc (Blk.of (caps := []) (ix := []) rfl) rfl (pi_list (pv 1)) (fun _ _ _ _ => pf_nil) (fun _ _ _ _ => (pe_callTy call_int1 rfl T.nint PyProof.Rows.boot_int (pa_cons (pv 0) pa_nil (se rfl)) (he := se rfl) (hpl := nst rfl)))) pa_nil (se rfl)) (he := se rfl) (hpl := nst rfl)) pe_int (nomark _)) (pss_one (ps_ret (pe_un un_neg pe_int))) pss_nil)
    (pss_one (ps_ret (pe_bm PySem.F.plainAttrs_list PySem.F.slot_list_index PySem.F.type_list_index mt_indexV (pv 1) (pa_cons pe_bl pa_nil (se rfl)) (hs := se rfl) (hplain := nst rfl)))))))))))))), ?_⟩
  walk_at "rd"
  refine ⟨_, _, d, _, _, rfl, rfl, he, hdx, xc, kX T hx .BadArms (by decide) (by decide) (by decide), ?_⟩
  walk_at "rd"
  refine ⟨_, _, d, _, _, rfl, rfl, he, hdx, xc, kX T hx .BadBack (by decide) (by decide) (by decide), ?_⟩
  walk_at "rd"
  refine ⟨_, _, d, _, _, rfl, rfl, he, hdx, xc, kX T hx .BadCount (by decide) (by decide) (by decide), ?_⟩
  walk_at "rd"
  refine ⟨by show 3 ≤ sizeLine; decide, fun r0 H0 hM0 => ?_⟩
  have s0 : Same H H0 := hM0.same
  walk_at "rd"
  have he0 := s0 _ _ he
  have hdx0 := hdx.same s0
  refine ⟨_, _, d, _, _, rfl, rfl, he0, hdx0, xc, kX T hx .BadDelay (by decide) (by decide) (by decide), ?_⟩
  walk_at "rd"
  refine ⟨_, _, d, _, _, rfl, rfl, he0, hdx0, xc, kX T hx .BadHold (by decide) (by decide) (by decide), ?_⟩
  walk_at "rd"
  refine ⟨by show 2 ≤ sizeLine; decide, fun q0 G0 hL0 => ?_⟩
  refine i_catA (hL0.same _ _ hM0.at) hL0.at (by show 5 ≤ sizeLine; decide) fun r1 H1 hM1 => ?_
  have s1 : Same H H1 := (s0.trans hL0.same).trans hM1.same
  walk_at "rd"
  have he1 := s1 _ _ he
  have hdx1 := hdx.same s1
  refine ⟨_, _, d, _, _, rfl, rfl, he1, hdx1, xc, kX T hx .BadName (by decide) (by decide) (by decide), ?_⟩
  walk_at "rd"
  refine ⟨_, _, d, _, _, rfl, rfl, he1, hdx1, xc, kX T hx .BadNumber (by decide) (by decide) (by decide), ?_⟩
  walk_at "rd"
  refine ⟨by show 2 ≤ sizeLine; decide, fun q1 G1 hL1 => ?_⟩
  refine i_catA (hL1.same _ _ hM1.at) hL1.at (by show 7 ≤ sizeLine; decide) fun r2 H2 hM2 => ?_
  have s2 : Same H H2 := (s1.trans hL1.same).trans hM2.same
  walk_at "rd"
  have he2 := s2 _ _ he
  have hdx2 := hdx.same s2
  refine ⟨_, _, d, _, _, rfl, rfl, he2, hdx2, xc, kX T hx .BadPlan (by decide) (by decide) (by decide), ?_⟩
  walk_at "rd"
  refine ⟨_, _, d, _, _, rfl, rfl, he2, hdx2, xc, kX T hx .BadRows (by decide) (by decide) (by decide), ?_⟩
  walk_at "rd"
  refine ⟨_, _, d, _, _, rfl, rfl, he2, hdx2, xc, kX T hx .BadText (by decide) (by decide) (by decide), ?_⟩
  walk_at "rd"
  refine ⟨by show 3 ≤ sizeLine; decide, fun q2 G2 hL2 => ?_⟩
  refine i_catA (hL2.same _ _ hM2.at) hL2.at (by show 10 ≤ sizeLine; decide) fun r3 H3 hM3 => ?_
  have s3 : Same H H3 := (s2.trans hL2.same).trans hM3.same
  walk_at "rd"
  have he3 := s3 _ _ he
  have hdx3 := hdx.same s3
  refine ⟨_, _, d, _, _, rfl, rfl, he3, hdx3, xc, kX T hx .BadTurns (by decide) (by decide) (by decide), ?_⟩
  walk_at "rd"
  refine ⟨_, _, d, _, _, rfl, rfl, he3, hdx3, xc, kX T hx .BadWidth (by decide) (by decide) (by decide), ?_⟩
  walk_at "rd"
  refine ⟨_, _, d, _, _, rfl, rfl, he3, hdx3, xc, kX T hx .NoArm (by decide) (by decide) (by decide), ?_⟩
  walk_at "rd"
  refine ⟨by show 3 ≤ sizeLine; decide, fun q3 G3 hL3 => ?_⟩
  refine i_catA (hL3.same _ _ hM3.at) hL3.at (by show 13 ≤ sizeLine; decide) fun r4 H4 hM4 => ?_
  have s4 : Same H H4 := (s3.trans hL3.same).trans hM4.same
  walk_at "rd"
  have he4 := s4 _ _ he
  have hdx4 := hdx.same s4
  refine ⟨_, _, d, _, _, rfl, rfl, he4, hdx4, xc, kX T hx .NoDeed (by decide) (by decide) (by decide), ?_⟩
  walk_at "rd"
  refine ⟨_, _, d, _, _, rfl, rfl, he4, hdx4, xc, kX T hx .NoMeasure (by decide) (by decide) (by decide), ?_⟩
  walk_at "rd"
  refine ⟨_, _, d, _, _, rfl, rfl, he4, hdx4, xc, kX T hx .NoRow (by decide) (by decide) (by decide), ?_⟩
  walk_at "rd"
  refine ⟨by show 3 ≤ sizeLine; decide, fun q4 G4 hL4 => ?_⟩
  refine i_catA (hL4.same _ _ hM4.at) hL4.at (by show 16 ≤ sizeLine; decide) fun r5 H5 hM5 => ?_
  have s5 : Same H H5 := (s4.trans hL4.same).trans hM5.same
  walk_at "rd"
  have he5 := s5 _ _ he
  have hdx5 := hdx.same s5
  refine ⟨_, _, d, _, _, rfl, rfl, he5, hdx5, xc, kX T hx .Short (by decide) (by decide) (by decide), ?_⟩
  walk_at "rd"
  refine ⟨_, _, d, _, _, rfl, rfl, he5, hdx5, xc, kX T hx .TooEarly (by decide) (by decide) (by decide), ?_⟩
  walk_at "rd"
  refine ⟨_, _, d, _, _, rfl, rfl, he5, hdx5, xc, kX T hx .Twice (by decide) (by decide) (by decide), ?_⟩
  walk_at "rd"
  refine ⟨by show 3 ≤ sizeLine; decide, fun q5 G5 hL5 => ?_⟩
  refine i_catA (hL5.same _ _ hM5.at) hL5.at (by show 19 ≤ sizeLine; decide) fun r6 H6 hM6 => ?_
  have s6 : Same H H6 := (s5.trans hL5.same).trans hM6.same
  walk_at "rd"
  have he6 := s6 _ _ he
  have hdx6 := hdx.same s6
  refine ⟨_, _, d, _, _, rfl, rfl, he6, hdx6, xc, kX T hx .Unfit (by decide) (by decide) (by decide), ?_⟩
  walk_at "rd"
  refine ⟨by show 1 ≤ sizeLine; decide, fun q6 G6 hL6 => ?_⟩
  refine i_catA (hL6.same _ _ hM6.at) hL6.at (by show 20 ≤ sizeLine; decide) fun r7 H7 hM7 => ?_
  have s7 : Same H H7 := (s6.trans hL6.same).trans hM7.same
  walk_at "rd"
  have heL := s7 _ _ he
  have hdxL := hdx.same s7
  have hf : H7 r7 = some (.lst (List.map V.bl (alpha.map fun f => decide (f = x)))) := hM7.at
  refine ⟨_, _, d, _, _, rfl, rfl, heL, hdxL, xc, kl, ?_⟩
  walk_at "rd"
  refine ⟨_, _, d, _, _, rfl, rfl, heL, hdxL, xc, kv, ?_⟩
  walk_at "rd"
  refine i_lc (i_list ?_)
  walk_at "rd"
  refine lcL (List.map V.bl (alpha.map fun f => decide (f = x))) (fun v => match v with | .bl b => .int (if b then 1 else 0) | v => v) (sqL_inj_of hf) (by rw [List.length_map, List.length_map]; show 20 ≤ sizeLine; decide) (fun i v H' R hv s r => ?_) (fun D HD hND => ?_)
  · rw [List.getElem?_map] at hv
    cases hb : (alpha.map fun f => decide (f = x))[i]? with
    | none => rw [hb] at hv; cases hv
    | some b =>
      rw [hb] at hv
      have ev : V.bl b = v := Option.some.inj hv
      subst ev
      walk_at "rd"
      refine .inr ⟨b, rfl, ?_⟩
      exact r
  have eint : (List.map V.bl (alpha.map fun f => decide (f = x))).map (fun v => match v with | .bl b => V.int (if b then 1 else 0) | v => v) = List.map V.int (alpha.map fun f => if decide (f = x) then (1 : Int) else 0) := by
    rw [List.map_map, List.map_map, List.map_map]; rfl
  rw [eint] at hND
  walk_at "rd"
  refine i_sum hND.lst ?_
  have esum : (alpha.map fun f => if decide (f = x) then (1 : Int) else 0).sum = 1 := by
    rcases hx with z | z <;> subst z <;> decide
  rw [esum]
  walk_at "rd"
  rw [decide_eq_true (rfl : V.int 1 = V.int 1)]
  walk_at "rd"
  refine ⟨.inl ⟨rfl, _, sqL_inj_of (hND.same _ _ hf)⟩, ?_⟩
  walk_at "rd"
  have hix : ∃ j : Nat, (j : Int) = codeX x ∧ j < 20 ∧ (∀ y, (List.map V.bl (alpha.map fun f => decide (f = x)))[j]? = some y → eqV y (.bl true) = true) ∧ (∀ i y, i < j → (List.map V.bl (alpha.map fun f => decide (f = x)))[i]? = some y → eqV y (.bl true) = false) := by
    have key : ∀ (bs : List Bool) (j : Nat), bs[j]? = some true → (∀ i, i < j → bs[i]? = some false) → (∀ y, (List.map V.bl bs)[j]? = some y → eqV y (.bl true) = true) ∧ (∀ i y, i < j → (List.map V.bl bs)[i]? = some y → eqV y (.bl true) = false) := by
      intro bs j h1 h2
      constructor
      · intro y hy
        rw [List.getElem?_map, h1] at hy
        cases hy; rfl
      · intro i y hi hy
        rw [List.getElem?_map, h2 i hi] at hy
        cases hy; rfl
    rcases hx with z | z <;> subst z
    · exact ⟨16, rfl, by decide, key _ 16 (by decide) (by decide)⟩
    · exact ⟨10, rfl, by decide, key _ 10 (by decide) (by decide)⟩
  obtain ⟨j, hj, hj20, ja, jb⟩ := hix
  refine ⟨_, _, .bl true, j, rfl, rfl, rfl, by rw [List.all_map]; exact List.all_eq_true.mpr fun _ _ => rfl, sqL_inj_of (hND.same _ _ hf), by rw [List.length_map, List.length_map]; exact hj20, ja, jb, by rw [List.length_map, List.length_map]; show 20 ≤ 1000; decide, ?_⟩
  rw [hj]
  exact q _ (s7.trans hND.same)
theorem LsAt.updR {H : Hp} {d b x : Addr} {ls : Ls} {ys : List V} {o : HO} (h : LsAt H d ls) (hb : H b = some (.lst (.ref x :: ys))) : LsAt (L2.upd H b o) d ls := by
  obtain ⟨kvs, hd, nd, pr⟩ := h
  refine ⟨kvs, by rw [upd_ne (ne_of hd hb (by intro z; cases z))]; exact hd, nd, Paired.mapP pr fun a c z => ?_⟩
  obtain ⟨z1, w, z2, z3⟩ := z
  refine ⟨z1, w, z2, ?_⟩
  rw [upd_ne (fun e => ?_)]
  · exact z3
  · rw [e, hb] at z3
    cases hl : a.2 with
    | nil => rw [hl] at z3; cases z3
    | cons y l => rw [hl] at z3; cases z3
theorem at_many {c : Int} {n : Nat} {b : Int} (hb : 0 ≤ b) : ∃ m : Int, atI [V.int (-1), V.int 301, V.int (-(n : Int) - 2), V.int (301 + b)] (c % 4) = some (.int m) ∧ (m < 0 ∨ 300 < m) := by
  have h4 := mod_b c (show (0 : Int) < 4 by decide)
  rcases (by omega : c % 4 = 0 ∨ c % 4 = 1 ∨ c % 4 = 2 ∨ c % 4 = 3) with z | z | z | z <;> rw [z]
  · exact ⟨-1, rfl, by omega⟩
  · exact ⟨301, rfl, by omega⟩
  · exact ⟨-(n : Int) - 2, rfl, by omega⟩
  · exact ⟨301 + b, rfl, by omega⟩
theorem name_ne {zs : List Str} {rs : List Row} (hok : RowsOk zs rs) {fl bl : Ls} {n : Int} {z : Str} (h : shortO rs fl bl n = some z) : ¬ z = Str.ofString "" := fun e => by
  obtain ⟨r, hr, hz⟩ := short_mem h
  obtain ⟨i, hi⟩ := List.mem_iff_getElem?.mp hr
  obtain ⟨_, pl, nu, hn⟩ := hok.names
  have := (hn i r.name (hok.at_ i r hi).name).1
  rw [hz, e] at this
  exact absurd this (by decide +kernel)
def spLaw (K : PySem.W.Frag) (ns : List Int) : Sp := fun vs H Q _ => ∃ a : Addr, vs = [.ref a] ∧ SqL K H a (ns.map V.int) ∧ ∀ H', Q (.bl true) H'
theorem ok_law {f : Addr} {fd : FuncData} (T : Txt K mg C CE) (F : Fun K "law" "law" st_law f fd) (Kb : K.In base) (G : base.Ns mainGlobals mg) {ns : List Int} (hl : ns.length ≤ 63) (hb : ∀ i ∈ ns, Builtin.Int.intBits i ≤ 1048576) : FnOk P w K mg base CX0 9 f fd ["_law_script"] (spLaw K ns) := by
  have D_law_cell_at : Df P w K mg base 1 "_law_cell_at" ["_law_script", "_law_k"] (spCell K) := d_cell T Kb G
  have D_law_mix : Df P w K mg base 1 "_law_mix" ["_law_cell", "_law_k"] spMix := d_mix T Kb G
  have D_law_rows : Df P w K mg base 3 "_law_rows" ["_law_script", "_law_many"] (spRows K) := d_rows T Kb G
  have D_law_measure : Df P w K mg base 2 "_law_measure" ["_law_script"] (spMeasure K) := d_measure T Kb G
  have D_law_feeds : Df P w K mg base 2 "_law_feeds" ["_law_script", "_law_rows_here", "_law_turns"] (spFeeds K) := d_feeds T Kb G
  have D_law_begin : Df P w K mg base 2 "_law_begin" ["_law_script", "_law_rows_here"] (spBegin K) := d_begin T Kb G
  have D_law_copy : Df P w K mg base 1 "_law_copy" ["_law_lists"] spCopyL := d_copyL T Kb G
  have D_law_classes : Df P w K mg base 1 "_law_classes" ["_law_kept"] (spClasses CE) := d_classes T Kb G
  have D_law_short : Df P w K mg base 2 "_law_short" ["_law_rows_here", "_law_turns", "_law_feeds_here", "_law_begin_here"] spShortL := d_shortL T Kb G
  have D_law_shorter : Df P w K mg base 2 "_law_shorter" ["_law_lists", "_law_rows_here", "_law_turns", "_law_number"] spShorter := d_shorter T Kb G
  have D_law_caught : Df P w K mg base 7 "_law_caught" ["_law_loop", "_law_turns", "_law_feeds_here", "_law_begin_here", "_law_way"] (spCaught CE) := d_caught T Kb G
  have MLoop : MkI P w K mg base 5 (CE .Loop) ["self", "measure", "rows"] (spInit (CE .Loop)) := mk_loop T Kb G
  obtain ⟨f0, fd0, xi, _⟩ := T.e_Short.ex
  refine (F.ok sc_law (k := 8) (by rintro vs H Q E ⟨a, rfl, _⟩; rfl) (fun cdv A outer s H vs Q E hr h => ?_)).mono (by decide)
  obtain ⟨a, rfl, hS, q⟩ := h
  refine ⟨_, (pss_cons (ps_set (i := 1) sc_law.nd rfl (by first | exact Or.inl rfl | exact Or.inr rfl) (pe_callD D_law_mix (hr.mono (by decide)) rfl (pa_cons (pe_callD D_law_cell_at (hr.mono (by decide)) rfl (pa_cons (pv 0) (pa_cons pe_int pa_nil (se rfl)) (se rfl)) (he := se rfl) (hpl := nst rfl)) (pa_cons pe_int pa_nil (se rfl)) (se rfl)) (he := se rfl) (hpl := nst rfl)))
    (pss_cons (ps_set (i := 2) sc_law.nd rfl (by first | exact Or.inl rfl | exact Or.inr rfl) (pe_callD D_law_rows (hr.mono (by decide)) rfl (pa_cons (pv 0) (pa_cons (pe_op op_add pe_int (pe_op op_mod (pv 1) pe_int)) pa_nil (se rfl)) (se rfl)) (he := se rfl) (hpl := nst rfl)))
    (pss_cons (ps_set (i := 3) sc_law.nd rfl (by first | exact Or.inl rfl | exact Or.inr rfl) (pe_op op_mod (pe_op op_fdiv (pv 1) pe_int) pe_int))
    (pss_cons (ps_join (ps_if (pt_cmpR op_eq (pe_op op_mod (pe_op op_fdivB (pv 1) (pe_op op_pow pe_int pe_int)) pe_int) pe_int (nomark _)) (pss_cons (ps_set (i := 2) sc_law.nd rfl (by first | exact Or.inl rfl | exact Or.inr rfl) (pe_callD D_law_rows (hr.mono (by decide)) rfl (pa_cons (pv 0) (pa_cons (pe_op op_add pe_int (pe_op op_mod (pv 1) pe_int)) pa_nil (se rfl)) (se rfl)) (he := se rfl) (hpl := nst rfl)))
    (pss_one (ps_set (i := 3) sc_law.nd rfl (by first | exact Or.inl rfl | exact Or.inr rfl) pe_int))) pss_nil))
    (pss_cons (ps_set (i := 4) sc_law.nd rfl (by first | exact Or.inl rfl | exact Or.inr rfl) (pe_lstA (pa_cons (pe_callD D_law_feeds (hr.mono (by decide)) rfl (pa_cons (pv 0) (pa_cons (pv 2) (pa_cons (pv 3) pa_nil (se rfl)) (se rfl)) (se rfl)) (he := se rfl) (hpl := nst rfl)) (pa_cons (pe_callD D_law_begin (hr.mono (by decide)) rfl (pa_cons (pv 0) (pa_cons (pv 2) pa_nil (se rfl)) (se rfl)) (he := se rfl) (hpl := nst rfl)) pa_nil (se rfl)) (se rfl))))
    (pss_cons (ps_set (i := 5) sc_law.nd rfl (by first | exact Or.inl rfl | exact Or.inr rfl) (pe_lstA (pa_cons (pe_callD D_law_copy (hr.mono (by decide)) rfl (pa_cons (pe_ix ix_seq (pv 4) pe_int (fun _ _ => rfl)) pa_nil (se rfl)) (he := se rfl) (hpl := nst rfl)) (pa_cons (pe_callD D_law_copy (hr.mono (by decide)) rfl (pa_cons (pe_ix ix_seq (pv 4) pe_int (fun _ _ => rfl)) pa_nil (se rfl)) (he := se rfl) (hpl := nst rfl)) pa_nil (se rfl)) (se rfl))))
    (pss_cons (ps_set (i := 6) sc_law.nd rfl (by first | exact Or.inl rfl | exact Or.inr rfl) (pv 3))
    (pss_cons (ps_join (ps_if (pt_cmpR op_eq (pe_op op_mod (pe_op op_fdiv (pv 1) pe_int) pe_int) pe_int (nomark _)) (pss_one (ps_set (i := 6) sc_law.nd rfl (by first | exact Or.inl rfl | exact Or.inr rfl) (pe_ix ix_seq (pe_lstA (pa_cons (pe_un un_neg pe_int) (pa_cons pe_int (pa_cons (pe_op op_sub (pe_un un_neg (pv 3)) pe_int) (pa_cons (pe_op op_add pe_int (pe_op op_mod (pe_callD D_law_cell_at (hr.mono (by decide)) rfl (pa_cons (pv 0) (pa_cons pe_int pa_nil (se rfl)) (se rfl)) (he := se rfl) (hpl := nst rfl)) (pe_op op_pow pe_int pe_int))) pa_nil (se rfl)) (se rfl)) (se rfl)) (se rfl))) (pe_op op_mod (pe_op op_fdiv (pv 1) pe_int) pe_int) (fun _ _ => rfl)))) pss_nil))
    (pss_cons (ps_join (ps_if (pt_cmpR op_eq (pe_op op_mod (pe_op op_fdiv (pv 1) pe_int) pe_int) pe_int (nomark _)) (pss_one (ps_asg (pe_callD D_law_shorter (hr.mono (by decide)) rfl (pa_cons (pe_ix ix_seq (pv 5) pe_int (fun _ _ => rfl)) (pa_cons (pv 2) (pa_cons (pv 3) (pa_cons (pe_op op_fdivB (pv 1) (pe_op op_pow pe_int pe_int)) pa_nil (se rfl)) (se rfl)) (se rfl)) (se rfl)) (he := se rfl) (hpl := nst rfl)) (pg_sub (pv 5) pe_int set_list))) pss_nil))
    (pss_cons (ps_join (ps_if (pt_cmpR op_eq (pe_op op_mod (pe_op op_fdiv (pv 1) pe_int) pe_int) pe_int (nomark _)) (pss_one (ps_asg (pe_callD D_law_shorter (hr.mono (by decide)) rfl (pa_cons (pe_ix ix_seq (pv 5) pe_int (fun _ _ => rfl)) (pa_cons (pv 2) (pa_cons (pv 3) (pa_cons (pe_op op_fdivB (pv 1) (pe_op op_pow pe_int pe_int)) pa_nil (se rfl)) (se rfl)) (se rfl)) (se rfl)) (he := se rfl) (hpl := nst rfl)) (pg_sub (pv 5) pe_int set_list))) pss_nil))
    (pss_cons (ps_set (i := 7) sc_law.nd rfl (by first | exact Or.inl rfl | exact Or.inr rfl) (pe_makeI MLoop (hr.mono (by decide)) rfl T.mg_Loop (pa_cons (pe_callD D_law_measure (hr.mono (by decide)) rfl (pa_cons (pv 0) pa_nil (se rfl)) (he := se rfl) (hpl := nst rfl)) (pa_cons (pe_callTy call_listA rfl T.nlist PyProof.Rows.boot_list (pa_cons (pv 2) pa_nil (se rfl)) (he := se rfl) (hpl := nst rfl)) pa_nil (se rfl)) (se rfl)) (he := se rfl) (hpl := nst rfl)))
    (pss_cons (ps_set (i := 8) sc_law.nd rfl (by first | exact Or.inl rfl | exact Or.inr rfl) (pe_callD D_law_short (hr.mono (by decide)) rfl (pa_cons (pv 2) (pa_cons (pv 3) (pa_cons (pe_ix ix_seq (pv 5) pe_int (fun _ _ => rfl)) (pa_cons (pe_ix ix_seq (pv 5) pe_int (fun _ _ => rfl)) pa_nil (se rfl)) (se rfl)) (se rfl)) (se rfl)) (he := se rfl) (hpl := nst rfl)))
    (pss_cons (ps_for PassesOwn.never rfl (pi_list (pe_lstA (pa_cons pe_int (pa_cons pe_int pa_nil (se rfl)) (se rfl)))) (pg_name (i := 9) sc_law.nd rfl (by first | exact Or.inl rfl | exact Or.inr rfl))
      (pss_cons (ps_set (i := 10) sc_law.nd rfl (by first | exact Or.inl rfl | exact Or.inr rfl) (pe_callD D_law_caught (hr.mono (by decide)) rfl (pa_cons (pv 7) (pa_cons (pv 6) (pa_cons (pe_ix ix_seq (pv 5) pe_int (fun _ _ => rfl)) (pa_cons (pe_ix ix_seq (pv 5) pe_int (fun _ _ => rfl)) (pa_cons (pv 9) pa_nil (se rfl)) (se rfl)) (se rfl)) (se rfl)) (se rfl)) (he := se rfl) (hpl := nst rfl)))
    (pss_one (ps_if (pt_cmpR op_ne (pv 6) (pv 3) (nomark _)) (pss_one (ps_if (pt_cmpR op_ne (pe_callD D_law_classes (hr.mono (by decide)) rfl (pa_cons (pv 10) pa_nil (se rfl)) (he := se rfl) (hpl := nst rfl)) pe_int (nomark _)) (pss_one (ps_ret pe_bl)) pss_nil)) (pss_one (ps_if (pt_cmpR op_eq (pv 8) pe_str (nomark _)) (pss_one (ps_if (pt_cmpR op_notN (pv 10) pe_non (nomark _)) (pss_one (ps_ret pe_bl)) pss_nil)) (pss_one (ps_if (PW.pt (pw_or (pt_cmpR op_ne (pe_callD D_law_classes (hr.mono (by decide)) rfl (pa_cons (pv 10) pa_nil (se rfl)) (he := se rfl) (hpl := nst rfl)) pe_int (nomark _)) (pw_or (pt_not (pt_val (pe_callB call_isi rfl T.nisi PyProof.Rows.boot_isinstance (pa_cons (pe_fldX (pv 10) rfl) (pa_cons (pe_bltn (v := .ty "str") rfl T.nstr PyProof.Rows.boot_str rfl) pa_nil (se rfl)) (se rfl)) (he := se rfl) (hpl := nst rfl)))) (pw_or1 (pt_cmpR op_ne (pe_fldX (pv 10) rfl) (pv 8) (nomark _)))))) (pss_one (ps_ret pe_bl)) pss_nil))))))))
    (pss_one (ps_ret (pe_cmpR op_isN (pe_callD D_law_caught (hr.mono (by decide)) rfl (pa_cons (pv 7) (pa_cons (pv 3) (pa_cons (pe_ix ix_seq (pv 4) pe_int (fun _ _ => rfl)) (pa_cons (pe_ix ix_seq (pv 4) pe_int (fun _ _ => rfl)) (pa_cons (pe_op op_mod (pv 1) pe_int) pa_nil (se rfl)) (se rfl)) (se rfl)) (se rfl)) (se rfl)) (he := se rfl) (hpl := nst rfl)) pe_non (nomark _))))))))))))))))), ?_⟩
  refine st_eq (σ' := [some (.ref a), none, none, none, none, none, none, none, none, none, none]) rfl ?_
  have lb := line_big
  clear hl hb
  walk_at "rd"
  refine ⟨a, ns, 0, rfl, hS, fun c => ?_⟩
  walk_at "rd"
  refine ⟨c, 0, rfl, by decide, fun hd => ?_⟩
  walk_at "rd"
  have b12 := mod_b (hd : Int) (show (0 : Int) < 12 by decide)
  obtain ⟨mn, hmn⟩ := Int.eq_ofNat_of_zero_le b12.1
  rw [hmn] at b12 ⊢
  refine ⟨a, ns, 1 + mn, rfl, hS, by omega, fun p0 H0 zs0 rs0 us0 s0 hp0 hu0 hok0 hrl0 => ?_⟩
  walk_at "rd"
  have b25 := mod_b ((hd : Int) / 12) (show (0 : Int) < 25 by decide)
  obtain ⟨tn, htn⟩ := Int.eq_ofNat_of_zero_le b25.1
  rw [htn] at b25 ⊢
  refine i_join (fun σ' H' => ∃ (p : Addr) (zs : List Str) (rs : List Row) (us : List V) (n : Nat), σ' = [some (.ref a), some (.int (hd : Int)), some (.ref p), some (.int (n : Int)), none, none, none, none, none, none, none] ∧ Same H H' ∧ H' p = some (.lst us) ∧ RowsAt H' rs us ∧ RowsOk zs rs ∧ 1 ≤ rs.length ∧ n ≤ 300) ?_ ?_
  · walk_at "rd"
    refine i_divB (by decide +kernel) ?_
    walk_at "rd"
    refine i_iteI (fun _ => ?_) (fun _ => ?_)
    · walk_at "rd"
      have b2 := mod_b (hd : Int) (show (0 : Int) < 2 by decide)
      obtain ⟨mn2, hmn2⟩ := Int.eq_ofNat_of_zero_le b2.1
      rw [hmn2] at b2 ⊢
      refine ⟨a, ns, 1 + mn2, rfl, s0.seq hS, by omega, fun p1 H1 zs1 rs1 us1 s1 hp1 hu1 hok1 hrl1 => ?_⟩
      walk_at "rd"
      exact ⟨p1, zs1, rs1, us1, 300, rfl, s0.trans s1, hp1, hu1, hok1, by omega, by omega⟩
    · walk_at "rd"
      exact ⟨p0, zs0, rs0, us0, tn, rfl, s0, hp0, hu0, hok0, by omega, by omega⟩
  clear hp0 hu0 hok0 hrl0 s0 htn b25 b12 hmn
  rintro σ1 H1 ⟨p, zs, rs, us, n, rfl, s1, hp, hu, hok, hrs1, hn⟩
  have l1 := hu.len
  have l2 := hok.len
  have l12 := hok.names.1
  walk_at "rd"
  refine ⟨a, p, ns, us, zs, rs, n, rfl, s1.seq hS, hp, hu, hok, hn, fun fd H2 fl s2 hfd0 hF => ?_⟩
  walk_at "rd"
  refine ⟨a, p, ns, us, zs, rs, rfl, (s1.trans s2).seq hS, s2 _ _ hp, hu.same s2, hok, fun bd H3 bl s3 hbd0 hB => ?_⟩
  walk_at "rd"
  refine ⟨by show 2 ≤ sizeLine; decide, fun gl H4 hN4 => ?_⟩
  have hfl := hF.len
  have hbl := hB.len
  have hfe := hF.feo
  have hbe := hB.beo
  have hf4 := (hF.at_.same s3).same hN4.same
  have hb4 := hB.at_.same hN4.same
  have s14 := (s2.trans s3).trans hN4.same
  clear hF hB s2 s3 hfd0 hbd0
  walk_at "rd"
  refine i_ixL hN4.lst (show atI _ 0 = some (.ref fd) from rfl) ?_
  walk_at "rd"
  refine ⟨fd, fl, rfl, hf4, by omega, fun cf H5 s5 hcf0 hcf => ?_⟩
  walk_at "rd"
  refine i_ixL (sqL_inj_of (s5 _ _ hN4.at)) (show atI _ 1 = some (.ref bd) from rfl) ?_
  walk_at "rd"
  refine ⟨bd, bl, rfl, hb4.same s5, by omega, fun cb H6 s6 hcb0 hcb => ?_⟩
  walk_at "rd"
  refine ⟨by show 2 ≤ sizeLine; decide, fun hl H7 hN7 => ?_⟩
  have s46 := s5.trans s6
  have s16 := s14.trans s46
  have hcf6 := hcf.same s6
  have hgl6 := s46 _ _ hN4.at
  have hf6 := hf4.same s46
  have hb6 := hb4.same s46
  have hp6 := s16 _ _ hp
  have hu6 := hu.same s16
  have hS6 := (s1.trans s16).seq hS
  have hl0 := hN7.free
  have hl7 := hN7.at
  have s67 : SameB hl H6 H7 := fun b u _ e => hN7.same _ _ e
  clear hcf hf4 hb4 hp hu hN4 s5 s6 s46 s14 hcf0 hcb0
  walk_at "rd"
  refine i_join (fun σ' H' => ∃ mv : Int, σ' = [some (.ref a), some (.int (hd : Int)), some (.ref p), some (.int (n : Int)), some (.ref gl), some (.ref hl), some (.int mv), none, none, none, none] ∧ Same H7 H' ∧ (mv = (n : Int) ∨ (mv < 0 ∨ 300 < mv))) ?_ ?_
  · walk_at "rd"
    refine i_iteI (fun _ => ?_) (fun _ => ?_)
    · walk_at "rd"
      refine ⟨a, ns, 3, rfl, hN7.same.seq hS6, fun c3 => ?_⟩
      walk_at "rd"
      have b20 := mod_b c3 (show (0 : Int) < 10 ^ (20 : Int).toNat by decide +kernel)
      refine ⟨by show 4 ≤ sizeLine; decide, fun ml H8 hN8 => ?_⟩
      walk_at "rd"
      obtain ⟨mv, hmv, hbad⟩ := at_many (c := (hd : Int) / 1200) (n := n) b20.1
      refine i_ixL hN8.lst hmv ?_
      walk_at "rd"
      exact ⟨mv, rfl, hN8.same, .inr hbad⟩
    · walk_at "rd"
      exact ⟨_, rfl, Same.refl _, .inl rfl⟩
  rintro σ8 H8 ⟨mv, rfl, s78, hmv⟩
  have s68 : SameB hl H6 H8 := fun b u n e => s78 _ _ (s67 b u n e)
  have hl8 := s78 _ _ hl7
  clear s67 s78 hN7 hl7
  have to8 : Same H6 H8 := fun b u e => s68 b u (ne_of_none e hl0) e
  walk_at "rd"
  refine i_join (fun σ' H' => ∃ (cf' : Addr) (fl' : Ls), σ' = [some (.ref a), some (.int (hd : Int)), some (.ref p), some (.int (n : Int)), some (.ref gl), some (.ref hl), some (.int mv), none, none, none, none] ∧ Same H6 H' ∧ H' hl = some (.lst [.ref cf', .ref cb]) ∧ LsAt H' cf' fl') ?_ ?_
  · walk_at "rd"
    refine i_iteI (fun _ => ?_) (fun _ => ?_)
    · walk_at "rd"
      refine i_ixL (sqL_inj_of hl8) (show atI _ 0 = some (.ref cf) from rfl) ?_
      walk_at "rd"
      refine i_divB (by decide +kernel) ?_
      refine ⟨cf, p, us, fl, zs, rs, n, _, rfl, hcf6.same to8, by omega, to8 _ _ hp6, hu6.same to8, hok, hn, fun d' ls' H9 s9 hd0 hd' _ => ?_⟩
      walk_at "rd"
      refine i_gsub ?_
      walk_at "rd"
      have hl9 := s9 _ _ hl8
      refine ⟨hl, _, _, 0, rfl, rfl, hl9, rfl, ?_⟩
      walk_at "rd"
      refine ⟨d', ls', rfl, fun b u e => ?_, upd_same, hd'.updR hl9⟩
      rw [upd_ne (ne_of_none e hl0)]; exact s9 _ _ (to8 _ _ e)
    · walk_at "rd"
      exact ⟨cf, fl, rfl, to8, hl8, hcf6.same to8⟩
  clear hl8 to8 s68
  rintro σ9 H9 ⟨cf', fl', rfl, s69, hl9, hcf9⟩
  walk_at "rd"
  refine i_join (fun σ' H' => ∃ (cb' : Addr) (bl' : Ls), σ' = [some (.ref a), some (.int (hd : Int)), some (.ref p), some (.int (n : Int)), some (.ref gl), some (.ref hl), some (.int mv), none, none, none, none] ∧ Same H6 H' ∧ H' hl = some (.lst [.ref cf', .ref cb']) ∧ LsAt H' cf' fl' ∧ LsAt H' cb' bl') ?_ ?_
  · walk_at "rd"
    refine i_iteI (fun _ => ?_) (fun _ => ?_)
    · walk_at "rd"
      refine i_ixL (sqL_inj_of hl9) (show atI _ 1 = some (.ref cb) from rfl) ?_
      walk_at "rd"
      refine i_divB (by decide +kernel) ?_
      refine ⟨cb, p, us, bl, zs, rs, n, _, rfl, hcb.same s69, by omega, s69 _ _ hp6, hu6.same s69, hok, hn, fun d' ls' H10 s10 hd0 hd' _ => ?_⟩
      walk_at "rd"
      refine i_gsub ?_
      walk_at "rd"
      have hl10 := s10 _ _ hl9
      refine ⟨hl, _, _, 1, rfl, rfl, hl10, rfl, ?_⟩
      walk_at "rd"
      refine ⟨d', ls', rfl, fun b u e => ?_, upd_same, (hcf9.same s10).updR hl10, hd'.updR hl10⟩
      rw [upd_ne (ne_of_none e hl0)]; exact s10 _ _ (s69 _ _ e)
    · walk_at "rd"
      exact ⟨cb, bl, rfl, s69, hl9, hcf9, hcb.same s69⟩
  clear hl9 hcf9 s69 hcb hcf6
  rintro σ10 H10 ⟨cb', bl', rfl, s610, hlA, hcfA, hcbA⟩
  have hpA := s610 _ _ hp6
  have huA := hu6.same s610
  have hSA := s610.seq hS6
  have hglA := s610 _ _ hgl6
  have hfA := hf6.same s610
  have hbA := hb6.same s610
  clear hp6 hu6 hS6 hgl6 hf6 hb6 s610 hl0
  walk_at "rd"
  refine i_makeI ?_
  walk_at "rd"
  refine ⟨a, ns, rfl, hSA, fun m m2 m60 => ?_⟩
  walk_at "rd"
  refine i_listAL (sqL_inj_of hpA) fun rp H11 hN11 => ?_
  walk_at "rd"
  intro x dx hx hdx hne
  have sA : Same H11 (upd (upd H11 dx (.own x)) x (.ins (CE .Loop) dx [])) := Same.upd (Same.new hdx) (by rw [upd_ne hne.symm]; exact hx)
  have xA : upd (upd H11 dx (.own x)) x (.ins (CE .Loop) dx []) x = some (.ins (CE .Loop) dx []) := upd_same
  generalize upd (upd H11 dx (.own x)) x (.ins (CE .Loop) dx []) = HA at *
  refine ⟨x, dx, rp, m, us, zs, rs, rfl, xA, m2, m60, sA _ _ hN11.at, (huA.same hN11.same).same sA, hok, hrs1, fun k H12 hk b12 hL => ⟨rfl, ?_⟩⟩
  have s12 : Same H10 H12 := fun b u e => b12 b u (ne_of_none (hN11.same _ _ e) hx) (sA _ _ (hN11.same _ _ e))
  have hMk : MeasOk m := ⟨m2, m60⟩
  clear m60 m2 xA sA hk b12 hx hdx hne hN11
  walk_at "rd"
  refine i_ixL (sqL_inj_of (s12 _ _ hlA)) (show atI _ 0 = some (.ref cf') from rfl) ?_
  walk_at "rd"
  refine i_ixL (sqL_inj_of (s12 _ _ hlA)) (show atI _ 1 = some (.ref cb') from rfl) ?_
  walk_at "rd"
  refine ⟨p, cf', cb', us, rs, fl', bl', (n : Int), rfl, s12 _ _ hpA, huA.same s12, hcfA.same s12, hcbA.same s12, fun H13 s13 => ?_⟩
  have s1013 := s12.trans s13
  have hlB := s1013 _ _ hlA
  have hglB := s1013 _ _ hglA
  have hR : Runs CE H13 x k cf' cb' m rs zs fl' bl' := ⟨hL.same s13, hok, hcfA.same s1013, hcbA.same s1013⟩
  have hG : Runs CE H13 x k fd bd m rs zs fl bl := ⟨hL.same s13, hok, hfA.same s1013, hbA.same s1013⟩
  clear hL hcfA hcbA hfA hbA hlA hglA hpA huA hSA s12 s13 s1013
  walk_at "rd"
  refine i_for (i_list ?_)
  walk_at "rd"
  refine ⟨by show 2 ≤ sizeLine; decide, fun wl H14 hN14 => ?_⟩
  refine ⟨wl, rfl, ⟨_, hN14.lst⟩, ?_⟩
  refine for_list (xs := [V.int 0, V.int 1]) (fun i σ H' => Same H14 H' ∧ ∃ x9 x10, σ = [some (.ref a), some (.int (hd : Int)), some (.ref p), some (.int (n : Int)), some (.ref gl), some (.ref hl), some (.int mv), some (.ref x), some (.str ((shortO rs fl' bl' (n : Int)).getD (Str.ofString ""))), x9, x10]) ⟨Same.refl _, none, none, rfl⟩ (fun i σ H' _ h => sqL_inj_of (h.1 _ _ hN14.at)) ?_ ?_
  · rintro i u σ H15 hui ⟨s15, x9, x10, rfl⟩
    obtain ⟨wv, rfl⟩ : ∃ wv : Int, u = .int wv := by
      match i, hui with
      | 0, e => exact ⟨0, by simpa using e.symm⟩
      | 1, e => exact ⟨1, by simpa using e.symm⟩
      | n + 2, e => simp at e
    have t15 := hN14.same.trans s15
    have hlC := t15 _ _ hlB
    walk_at "rd"
    refine i_ixL (sqL_inj_of hlC) (show atI _ 0 = some (.ref cf') from rfl) ?_
    walk_at "rd"
    refine i_ixL (sqL_inj_of hlC) (show atI _ 1 = some (.ref cb') from rfl) ?_
    walk_at "rd"
    rcases hmv with hmv | hmv
    · subst hmv
      cases hsO : shortO rs fl' bl' (n : Int) with
      | none =>
        obtain ⟨hfeO, hbeO⟩ := short_none hsO
        refine ⟨x, k, cf', cb', m, rs, zs, fl', bl', _, wv, rfl, hR.same t15, hMk.1, hMk.2, .inl ⟨n, rfl, hn, hfeO, hbeO, fun H16 s16 => ?_⟩⟩
        walk_at "rd"
        rw [decide_eq_true (rfl : V.int (n : Int) = V.int (n : Int))]
        walk_at "rd"
        rw [decide_eq_true (show V.str ((none : Option Str).getD (Str.ofString "")) = V.str (Str.ofString "") from rfl)]
        walk_at "rd"
        refine ⟨rfl, ?_⟩
        rw [decide_eq_true (rfl : V.non = V.non)]
        walk_at "rd"
        exact ⟨s15.trans s16, _, _, rfl⟩
      | some z =>
        refine ⟨x, k, cf', cb', m, rs, zs, fl', bl', _, wv, rfl, hR.same t15, hMk.1, hMk.2, .inr ⟨_, short_bad hn hsO, fun e d H16 s16 he hd16 => ?_⟩⟩
        walk_at "rd"
        rw [decide_eq_true (rfl : V.int (n : Int) = V.int (n : Int))]
        walk_at "rd"
        rw [decide_eq_false (show ¬ V.str ((some z).getD (Str.ofString "")) = V.str (Str.ofString "") from fun e => name_ne hok hsO (V.str.inj e))]
        walk_at "rd"
        refine ⟨e, .Short, some d, rfl, .inl rfl, he, .inr ⟨d, _, rfl, hd16⟩, fun H17 s17 => ?_⟩
        walk_at "rd"
        rw [decide_eq_true (show V.int (codeX .Short) = V.int 16 from rfl)]
        walk_at "rd"
        refine i_fldX ?_
        walk_at "rd"
        refine ⟨e, _, d, _, .str z, rfl, s17 _ _ he, s17 _ _ hd16, xi.xc, xi.hd, T.nSn, rfl, ?_⟩
        walk_at "rd"
        refine ⟨_, _, _, _, rfl, rfl, .str _, T.kSS, ?_⟩
        walk_at "rd"
        refine i_fldX ?_
        walk_at "rd"
        refine ⟨e, _, d, _, .str z, rfl, s17 _ _ he, s17 _ _ hd16, xi.xc, xi.hd, T.nSn, rfl, ?_⟩
        walk_at "rd"
        rw [decide_eq_true (show V.str z = V.str ((some z).getD (Str.ofString "")) from rfl)]
        walk_at "rd"
        exact ⟨(s15.trans s16).trans s17, _, _, rfl⟩
    · refine ⟨x, k, cf', cb', m, rs, zs, fl', bl', _, wv, rfl, hR.same t15, hMk.1, hMk.2, .inr ⟨_, .turns hmv, fun e H16 s16 he => ?_⟩⟩
      walk_at "rd"
      rw [decide_eq_false (show ¬ V.int mv = V.int (n : Int) from fun e => by have := V.int.inj e; omega)]
      walk_at "rd"
      refine ⟨e, .BadTurns, none, rfl, .inr rfl, he, .inl rfl, fun H17 s17 => ?_⟩
      walk_at "rd"
      rw [decide_eq_true (show V.int (codeX .BadTurns) = V.int 10 from rfl)]
      walk_at "rd"
      exact ⟨(s15.trans s16).trans s17, _, _, rfl⟩
  · rintro σ H15 ⟨s15, x9, x10, rfl⟩
    have t15 := hN14.same.trans s15
    walk_at "rd"
    refine i_ixL (sqL_inj_of (t15 _ _ hglB)) (show atI _ 0 = some (.ref fd) from rfl) ?_
    walk_at "rd"
    refine i_ixL (sqL_inj_of (t15 _ _ hglB)) (show atI _ 1 = some (.ref bd) from rfl) ?_
    walk_at "rd"
    refine ⟨x, k, fd, bd, m, rs, zs, fl, bl, _, _, rfl, hG.same t15, hMk.1, hMk.2, .inl ⟨n, rfl, hn, hfe, hbe, fun H16 s16 => ?_⟩⟩
    walk_at "rd"
    refine ⟨rfl, ?_⟩
    rw [decide_eq_true (rfl : V.non = V.non)]
    exact q _
def Cof (a1 a2 a3 a4 a5 a6 a7 a8 a9 : Addr) : Dk → Addr
  | .sum => a1
  | .less => a2
  | .times => a3
  | .least => a4
  | .most => a5
  | .pick => a6
  | .same => a7
  | .tell => a8
  | .take => a9
def Eof (b1 b2 b3 b4 b5 b6 b7 b8 b9 b10 b11 b12 b13 b14 b15 b16 b17 b18 b19 b20 b21 b22 b23 : Addr) : Xk → Addr
  | .LapError => b1
  | .NoDeed => b2
  | .NoMeasure => b3
  | .BadRows => b4
  | .BadName => b5
  | .Twice => b6
  | .BadCount => b7
  | .BadNumber => b8
  | .NoRow => b9
  | .BadBack => b10
  | .TooEarly => b11
  | .BadTurns => b12
  | .Short => b13
  | .BadWidth => b14
  | .BadArms => b15
  | .NoArm => b16
  | .BadDelay => b17
  | .BadHold => b18
  | .BadPlan => b19
  | .Unfit => b20
  | .BadText => b21
  | .Loop => b22
  | .Run => b23
theorem tp0_mk {K : PySem.W.Frag} {a1 a2 a3 a4 a5 a6 a7 a8 a9 b1 b2 b3 b4 b5 b6 b7 b8 b9 b10 b11 b12 b13 b14 b15 b16 b17 b18 b19 b20 b21 b22 b23 : Addr}
    (c_Sum : HasC K "Sum" a1)
    (c_Less : HasC K "Less" a2)
    (c_Times : HasC K "Times" a3)
    (c_Least : HasC K "Least" a4)
    (c_Most : HasC K "Most" a5)
    (c_Pick : HasC K "Pick" a6)
    (c_Same : HasC K "Same" a7)
    (c_Tell : HasC K "Tell" a8)
    (c_Take : HasC K "Take" a9)
    (g_LapError : PySem.W.nsIn K mainGlobals "LapError" = some (some (.ref b1)))
    (g_NoDeed : PySem.W.nsIn K mainGlobals "NoDeed" = some (some (.ref b2)))
    (g_NoMeasure : PySem.W.nsIn K mainGlobals "NoMeasure" = some (some (.ref b3)))
    (g_BadRows : PySem.W.nsIn K mainGlobals "BadRows" = some (some (.ref b4)))
    (g_BadName : PySem.W.nsIn K mainGlobals "BadName" = some (some (.ref b5)))
    (g_Twice : PySem.W.nsIn K mainGlobals "Twice" = some (some (.ref b6)))
    (g_BadCount : PySem.W.nsIn K mainGlobals "BadCount" = some (some (.ref b7)))
    (g_BadNumber : PySem.W.nsIn K mainGlobals "BadNumber" = some (some (.ref b8)))
    (g_NoRow : PySem.W.nsIn K mainGlobals "NoRow" = some (some (.ref b9)))
    (g_BadBack : PySem.W.nsIn K mainGlobals "BadBack" = some (some (.ref b10)))
    (g_TooEarly : PySem.W.nsIn K mainGlobals "TooEarly" = some (some (.ref b11)))
    (g_BadTurns : PySem.W.nsIn K mainGlobals "BadTurns" = some (some (.ref b12)))
    (g_Short : PySem.W.nsIn K mainGlobals "Short" = some (some (.ref b13)))
    (g_BadWidth : PySem.W.nsIn K mainGlobals "BadWidth" = some (some (.ref b14)))
    (g_BadArms : PySem.W.nsIn K mainGlobals "BadArms" = some (some (.ref b15)))
    (g_NoArm : PySem.W.nsIn K mainGlobals "NoArm" = some (some (.ref b16)))
    (g_BadDelay : PySem.W.nsIn K mainGlobals "BadDelay" = some (some (.ref b17)))
    (g_BadHold : PySem.W.nsIn K mainGlobals "BadHold" = some (some (.ref b18)))
    (g_BadPlan : PySem.W.nsIn K mainGlobals "BadPlan" = some (some (.ref b19)))
    (g_Unfit : PySem.W.nsIn K mainGlobals "Unfit" = some (some (.ref b20)))
    (g_BadText : PySem.W.nsIn K mainGlobals "BadText" = some (some (.ref b21)))
    (g_Loop : PySem.W.nsIn K mainGlobals "Loop" = some (some (.ref b22)))
    (g_Run : PySem.W.nsIn K mainGlobals "Run" = some (some (.ref b23))) : Tp0 K (Cof a1 a2 a3 a4 a5 a6 a7 a8 a9) (Eof b1 b2 b3 b4 b5 b6 b7 b8 b9 b10 b11 b12 b13 b14 b15 b16 b17 b18 b19 b20 b21 b22 b23) :=
  ⟨c_Sum, c_Less, c_Times, c_Least, c_Most, c_Pick, c_Same, c_Tell, c_Take, g_LapError, g_NoDeed, g_NoMeasure, g_BadRows, g_BadName, g_Twice, g_BadCount, g_BadNumber, g_NoRow, g_BadBack, g_TooEarly, g_BadTurns, g_Short, g_BadWidth, g_BadArms, g_NoArm, g_BadDelay, g_BadHold, g_BadPlan, g_Unfit, g_BadText, g_Loop, g_Run⟩
theorem tp1_mk {K : PySem.W.Frag} {a1 a2 a3 a4 a5 a6 a7 a8 a9 b1 b2 b3 b4 b5 b6 b7 b8 b9 b10 b11 b12 b13 b14 b15 b16 b17 b18 b19 b20 b21 b22 b23 : Addr}
    (f_of_sum : HasM K a1 "of" "Sum.of" st_Sum_of)
    (f_of_less : HasM K a2 "of" "Less.of" st_Less_of)
    (f_of_times : HasM K a3 "of" "Times.of" st_Times_of)
    (f_of_least : HasM K a4 "of" "Least.of" st_Least_of)
    (f_of_most : HasM K a5 "of" "Most.of" st_Most_of)
    (f_of_pick : HasM K a6 "of" "Pick.of" st_Pick_of)
    (f_of_same : HasM K a7 "of" "Deed.of" st_Deed_of)
    (f_of_tell : HasM K a8 "of" "Deed.of" st_Deed_of)
    (f_of_take : HasM K a9 "of" "Deed.of" st_Deed_of)
    (f_wa_sum : HasM K a1 "wants" "Sum.wants" st_Sum_wants)
    (f_wa_less : HasM K a2 "wants" "Less.wants" st_Less_wants)
    (f_wa_times : HasM K a3 "wants" "Times.wants" st_Times_wants)
    (f_wa_least : HasM K a4 "wants" "Least.wants" st_Least_wants)
    (f_wa_most : HasM K a5 "wants" "Most.wants" st_Most_wants)
    (f_wa_pick : HasM K a6 "wants" "Pick.wants" st_Pick_wants)
    (f_wa_same : HasM K a7 "wants" "Deed.wants" st_Deed_wants)
    (f_wa_tell : HasM K a8 "wants" "Deed.wants" st_Deed_wants)
    (f_wa_take : HasM K a9 "wants" "Take.wants" st_Take_wants)
    (x_BadTurns : HasX K "BadTurns" b12)
    (m_BadTurns : PySem.W.mroIn K b12 (.ref b1) = some true)
    (lapB : PySem.W.mroIn K b1 (.type "BaseException") = some true)
    (lapT : PySem.W.typeIn K (.ref b1) = some (.type "type"))
    (e_Short : HasXI K "Short" b13 b1 "Short.__init__" st_Short___init__)
    (lapR : PySem.W.readsIn K b1 (.type "type") = true)
    (lapS : PySem.W.specialIn K (.ref b1) "__getattribute__" = some (some (.builtin "type.__getattribute__")))
    (lapI : PySem.W.findCls K (.ref b1) (.type "type") "__init__" = some (.val (.builtin "ValueError.__init__")))
    (i_Loop : HasCI K "Loop" b22 "Loop.__init__" st_Loop___init__)
    (f_Loop_rows : HasM K b22 "rows" "Loop.rows" st_Loop_rows)
    (f_Loop_deepest : HasM K b22 "deepest" "Loop.deepest" st_Loop_deepest)
    (i_Run : HasCI K "Run" b23 "Run.__init__" st_Run___init__)
    (f_Run_made_at : HasM K b23 "made_at" "Run.made_at" st_Run_made_at)
    (f_Run_number_read : HasM K b23 "number_read" "Run.number_read" st_Run_number_read)
    (f_Run_numbers_for : HasM K b23 "numbers_for" "Run.numbers_for" st_Run_numbers_for)
    (f_Run_do_turn : HasM K b23 "do_turn" "Run.do_turn" st_Run_do_turn)
    (f_Run_last_made : HasM K b23 "last_made" "Run.last_made" st_Run_last_made)
    (w_LETTERS : HasV K "LETTERS" (.str (Str.ofString "abcdefghijklmnopqrstuvwxyz"))) : Tp1 K (Cof a1 a2 a3 a4 a5 a6 a7 a8 a9) (Eof b1 b2 b3 b4 b5 b6 b7 b8 b9 b10 b11 b12 b13 b14 b15 b16 b17 b18 b19 b20 b21 b22 b23) :=
  ⟨f_of_sum, f_of_less, f_of_times, f_of_least, f_of_most, f_of_pick, f_of_same, f_of_tell, f_of_take, f_wa_sum, f_wa_less, f_wa_times, f_wa_least, f_wa_most, f_wa_pick, f_wa_same, f_wa_tell, f_wa_take, x_BadTurns, m_BadTurns, lapB, lapT, e_Short, lapR, lapS, lapI, i_Loop, f_Loop_rows, f_Loop_deepest, i_Run, f_Run_made_at, f_Run_number_read, f_Run_numbers_for, f_Run_do_turn, f_Run_last_made, w_LETTERS⟩
theorem tp2_mk {K : PySem.W.Frag} {a1 a2 a3 a4 a5 a6 a7 a8 a9 b1 b2 b3 b4 b5 b6 b7 b8 b9 b10 b11 b12 b13 b14 b15 b16 b17 b18 b19 b20 b21 b22 b23 : Addr}
    (w_MOST_LETTERS : HasV K "MOST_LETTERS" (.int 12))
    (w_MOST_ROWS : HasV K "MOST_ROWS" (.int 12))
    (w_MOST_BACK : HasV K "MOST_BACK" (.int 6))
    (w_MOST_TURNS : HasV K "MOST_TURNS" (.int 300))
    (f_table : HasF K "table" st_table)
    (f_outcome : HasF K "outcome" st_outcome)
    (f_run : HasF K "done_run" st_done_run)
    (f_crun : HasF K "check_run" st_check_run)
    (f_cturns : HasF K "check_turns" st_check_turns)
    (f_cfeeds : HasF K "check_feeds" st_check_feeds)
    (f_cbegin : HasF K "check_begin" st_check_begin)
    (f_deed : HasF K "deed_of" st_deed_of)
    (f_islet : HasF K "is_lettered" st_is_lettered)
    (f_isname : HasF K "is_name" st_is_name)
    (f_cmeas : HasF K "check_measure" st_check_measure)
    (f_crows : HasF K "check_rows" st_check_rows)
    (f_chead : HasF K "check_head" st_check_head)
    (f_cread : HasF K "check_read" st_check_read)
    (f_cnum : HasF K "check_number" st_check_number)
    (f_clook : HasF K "check_look_back" st_check_look_back)
    (f_copy : HasF K "copy_of_row" st_copy_of_row)
    (f_depths : HasF K "depths_of" st_depths_of)
    (f_cell : HasF K "_law_cell_at" st_law_cell_at)
    (f_mix : HasF K "_law_mix" st_law_mix)
    (f_letters : HasF K "_law_letters" st_law_letters)
    (f_names : HasF K "_law_names" st_law_names)
    (f_wants : HasF K "_law_wants" st_law_wants)
    (f_row : HasF K "_law_row" st_law_row)
    (f_rows : HasF K "_law_rows" st_law_rows)
    (f_measure : HasF K "_law_measure" st_law_measure)
    (f_deepest : HasF K "_law_deepest" st_law_deepest)
    (f_given : HasF K "_law_given" st_law_given)
    (f_feeds : HasF K "_law_feeds" st_law_feeds)
    (f_begin : HasF K "_law_begin" st_law_begin)
    (f_copyL : HasF K "_law_copy" st_law_copy)
    (f_classes : HasF K "_law_classes" st_law_classes) : Tp2 K (Cof a1 a2 a3 a4 a5 a6 a7 a8 a9) (Eof b1 b2 b3 b4 b5 b6 b7 b8 b9 b10 b11 b12 b13 b14 b15 b16 b17 b18 b19 b20 b21 b22 b23) :=
  ⟨w_MOST_LETTERS, w_MOST_ROWS, w_MOST_BACK, w_MOST_TURNS, f_table, f_outcome, f_run, f_crun, f_cturns, f_cfeeds, f_cbegin, f_deed, f_islet, f_isname, f_cmeas, f_crows, f_chead, f_cread, f_cnum, f_clook, f_copy, f_depths, f_cell, f_mix, f_letters, f_names, f_wants, f_row, f_rows, f_measure, f_deepest, f_given, f_feeds, f_begin, f_copyL, f_classes⟩
theorem tp3_mk {K : PySem.W.Frag} {a1 a2 a3 a4 a5 a6 a7 a8 a9 b1 b2 b3 b4 b5 b6 b7 b8 b9 b10 b11 b12 b13 b14 b15 b16 b17 b18 b19 b20 b21 b22 b23 : Addr}
    (f_shortl : HasF K "_law_short" st_law_short)
    (f_shorter : HasF K "_law_shorter" st_law_shorter)
    (f_caught : HasF K "_law_caught" st_law_caught)
    (z_ValueError : PySem.W.nsIn K mainGlobals "ValueError" = some none)
    (z_all : PySem.W.nsIn K mainGlobals "all" = some none)
    (z_bool : PySem.W.nsIn K mainGlobals "bool" = some none)
    (z_enumerate : PySem.W.nsIn K mainGlobals "enumerate" = some none)
    (z_int : PySem.W.nsIn K mainGlobals "int" = some none)
    (z_isinstance : PySem.W.nsIn K mainGlobals "isinstance" = some none)
    (z_len : PySem.W.nsIn K mainGlobals "len" = some none)
    (z_list : PySem.W.nsIn K mainGlobals "list" = some none)
    (z_max : PySem.W.nsIn K mainGlobals "max" = some none)
    (z_min : PySem.W.nsIn K mainGlobals "min" = some none)
    (z_range : PySem.W.nsIn K mainGlobals "range" = some none)
    (z_sorted : PySem.W.nsIn K mainGlobals "sorted" = some none)
    (z_str : PySem.W.nsIn K mainGlobals "str" = some none)
    (z_sum : PySem.W.nsIn K mainGlobals "sum" = some none)
    (z_tuple : PySem.W.nsIn K mainGlobals "tuple" = some none)
    (kII : PySem.W.kitOne K (.type "int") (.type "int") = some true)
    (kIB : PySem.W.kitOne K (.type "int") (.type "bool") = some false)
    (kTT : PySem.W.kitOne K (.type "tuple") (.type "tuple") = some true)
    (kTI : PySem.W.kitOne K (.type "tuple") (.type "int") = some false)
    (kIT : PySem.W.kitOne K (.type "int") (.type "tuple") = some false)
    (kLL : PySem.W.kitOne K (.type "list") (.type "list") = some true)
    (kSS : PySem.W.kitOne K (.type "str") (.type "str") = some true)
    (nM : NoAttr K b22 "measure")
    (nK : NoAttr K b22 "kept")
    (nD : NoAttr K b22 "depths")
    (nRL : NoAttr K b23 "loop")
    (nRF : NoAttr K b23 "feeds")
    (nRB : NoAttr K b23 "begin")
    (nRM : NoAttr K b23 "made")
    (kX_Short : ∀ f, f ≠ .LapError → f ≠ .Loop → f ≠ .Run → PySem.W.kitOne K (.ref b13) (.ref (Eof b1 b2 b3 b4 b5 b6 b7 b8 b9 b10 b11 b12 b13 b14 b15 b16 b17 b18 b19 b20 b21 b22 b23 f)) = some (decide (f = .Short)))
    (kV_Short : PySem.W.kitOne K (.ref b13) (.type "ValueError") = some true)
    (kL_Short : PySem.W.kitOne K (.ref b13) (.ref b1) = some true)
    (kX_BadTurns : ∀ f, f ≠ .LapError → f ≠ .Loop → f ≠ .Run → PySem.W.kitOne K (.ref b12) (.ref (Eof b1 b2 b3 b4 b5 b6 b7 b8 b9 b10 b11 b12 b13 b14 b15 b16 b17 b18 b19 b20 b21 b22 b23 f)) = some (decide (f = .BadTurns))) : Tp3 K (Cof a1 a2 a3 a4 a5 a6 a7 a8 a9) (Eof b1 b2 b3 b4 b5 b6 b7 b8 b9 b10 b11 b12 b13 b14 b15 b16 b17 b18 b19 b20 b21 b22 b23) :=
  ⟨f_shortl, f_shorter, f_caught, z_ValueError, z_all, z_bool, z_enumerate, z_int, z_isinstance, z_len, z_list, z_max, z_min, z_range, z_sorted, z_str, z_sum, z_tuple, kII, kIB, kTT, kTI, kIT, kLL, kSS, nM, nK, nD, nRL, nRF, nRB, nRM, kX_Short, kV_Short, kL_Short, kX_BadTurns⟩
theorem tp4_mk {K : PySem.W.Frag} {a1 a2 a3 a4 a5 a6 a7 a8 a9 b1 b2 b3 b4 b5 b6 b7 b8 b9 b10 b11 b12 b13 b14 b15 b16 b17 b18 b19 b20 b21 b22 b23 : Addr}
    (kV_BadTurns : PySem.W.kitOne K (.ref b12) (.type "ValueError") = some true)
    (kL_BadTurns : PySem.W.kitOne K (.ref b12) (.ref b1) = some true)
    (m_Short : PySem.W.mroIn K b13 (.ref b1) = some true)
    (nSn : NoAttr K b13 "name") : Tp4 K (Cof a1 a2 a3 a4 a5 a6 a7 a8 a9) (Eof b1 b2 b3 b4 b5 b6 b7 b8 b9 b10 b11 b12 b13 b14 b15 b16 b17 b18 b19 b20 b21 b22 b23) :=
  ⟨kV_BadTurns, kL_BadTurns, m_Short, nSn⟩
theorem all_mk {l : PySem.W.OpenLaw} {w : World} {K : PySem.W.Frag} {h : Heap} {mg : Str → Option Value} {fa : Addr} {a1 a2 a3 a4 a5 a6 a7 a8 a9 b1 b2 b3 b4 b5 b6 b7 b8 b9 b10 b11 b12 b13 b14 b15 b16 b17 b18 b19 b20 b21 b22 b23 : Addr} (X : K.In h) (G : h.Ns mainGlobals mg) (hfa : mg "law" = some (.ref fa)) (fl : HasF K "law" st_law)
    (t0 : Tp0 K (Cof a1 a2 a3 a4 a5 a6 a7 a8 a9) (Eof b1 b2 b3 b4 b5 b6 b7 b8 b9 b10 b11 b12 b13 b14 b15 b16 b17 b18 b19 b20 b21 b22 b23)) (t1 : Tp1 K (Cof a1 a2 a3 a4 a5 a6 a7 a8 a9) (Eof b1 b2 b3 b4 b5 b6 b7 b8 b9 b10 b11 b12 b13 b14 b15 b16 b17 b18 b19 b20 b21 b22 b23)) (t2 : Tp2 K (Cof a1 a2 a3 a4 a5 a6 a7 a8 a9) (Eof b1 b2 b3 b4 b5 b6 b7 b8 b9 b10 b11 b12 b13 b14 b15 b16 b17 b18 b19 b20 b21 b22 b23)) (t3 : Tp3 K (Cof a1 a2 a3 a4 a5 a6 a7 a8 a9) (Eof b1 b2 b3 b4 b5 b6 b7 b8 b9 b10 b11 b12 b13 b14 b15 b16 b17 b18 b19 b20 b21 b22 b23)) (t4 : Tp4 K (Cof a1 a2 a3 a4 a5 a6 a7 a8 a9) (Eof b1 b2 b3 b4 b5 b6 b7 b8 b9 b10 b11 b12 b13 b14 b15 b16 b17 b18 b19 b20 b21 b22 b23)) :
    ∃ fd : FuncData, (∀ (s : Shared) (v : Value), BindsTo s fd ⟨[v], []⟩ [("_law_script", v)]) ∧ ∀ (base : Heap) (ns : List Int), K.In base → base.Ns mainGlobals mg → ns.length ≤ 63 → (∀ i ∈ ns, Builtin.Int.intBits i ≤ 1048576) → FnOk l.prog w K mg base CX0 9 fa fd ["_law_script"] (spLaw K ns) := by
  obtain ⟨f, fdd, a, F⟩ := fl.ex
  have e := hfa.symm.trans (PySem.W.mg_of X G a)
  cases e
  have T := (Tp.mk t0 t1 t2 t3 t4).txt X G
  refine ⟨fdd, fun s v => ?_, fun base ns kb nb hl hb => ok_law T F kb nb hl hb⟩
  obtain ⟨oc, od, kV, doc, pm, an, cdv, ct, osl, rfl, lk, hcd⟩ := F.ex
  exact .of_eq rfl
theorem walk {l : PySem.W.OpenLaw} {q : Program} {loose : List Str} {XP : (Str → Option Value) → Heap → Prop} {YP : World → Heap → Prop} {d : DefRec} {K : Params → PySem.W.Frag} (hn : l.most = some 63) (hdf : d.params.defaults = [])
    (hY : ∀ (w : World) (h : Heap), YP w h → (K w.params).In h)
    (F : ∀ (w : World) (mg : Str → Option Value) (fa : Addr) (h : Heap), (K w.params).In h → h.Ns mainGlobals mg → mg d.name = some (.ref fa) →
      ∃ fd : FuncData, (∀ (s : Shared) (u : Value), BindsTo s fd ⟨[u], []⟩ [("_law_script", u)]) ∧ ∀ (base : Heap) (ns : List Int), (K w.params).In base → base.Ns mainGlobals mg → ns.length ≤ 63 → (∀ i ∈ ns, Builtin.Int.intBits i ≤ 1048576) → FnOk l.prog w (K w.params) mg base CX0 9 fa fd ["_law_script"] (spLaw (K w.params) ns)) :
    PySem.W.WalkO q loose XP YP l.row.toRowW d [] (fun f vs => PySem.call f vs) :=
  L2.walk_bits (n := 63) (k := 9) (x := "_law_script") (CX := fun _ => CX0) (sp := fun w ns => spLaw (K w.params) ns) hn (by decide) hdf ⟨rfl, by decide, by decide⟩ hY F (fun _ _ a ns hl hb _ hS => ⟨a, rfl, hS, fun _ => rfl⟩) fun _ _ _ _ _ z => z
end
end Lap
local macro_rules | `(tactic| walk_at "lapC") => `(tactic| (refine' L2.hasC_mk ?a ?pg ?hd ?po ?sa ?mk ?i ?kc; (case a => k_is); (case pg => k_is); (case hd => k_is); (case po => k_is); (case sa => k_is); (case mk => k_is); (case i => k_is); (case kc => k_is)))
local macro_rules | `(tactic| walk_at "lapM") => `(tactic| (refine' L2.hasM_mk ?a ?i ?l ?c ?k; (case a => k_is); (case i => k_is); (case l => k_is); (case c => k_is); (case k => k_is)))
local macro_rules | `(tactic| walk_at "lapF") => `(tactic| (refine' L2.hasF_mk ?a ?l ?c ?k; (case a => k_is); (case l => k_is); (case c => k_is); (case k => k_is)))
local macro_rules | `(tactic| walk_at "lapX") => `(tactic| (refine' L2.HasX.mk ?a ?e (L2.XCls.mk ?x1 ?x2 ?x3 ?x4 ?x5 ?x6 ?x7); (case a => k_is); (case e => k_exc); (case x1 => k_is); (case x2 => k_is); (case x3 => k_is); (case x4 => k_is); (case x5 => k_is); (case x6 => k_is); (case x7 => k_is)))
local macro_rules | `(tactic| walk_at "lapI") => `(tactic| (refine' L2.hasCI_mk ?a ?pg ?hd ?po ?sa ?mk ?i ?fn ?kc ?l ?c ?k; (case a => k_is); (case pg => k_is); (case hd => k_is); (case po => k_is); (case sa => k_is); (case mk => k_is); (case i => k_is); (case fn => k_is); (case kc => k_is); (case l => k_is); (case c => k_is); (case k => k_is)))
local macro_rules | `(tactic| walk_at "lapV") => `(tactic| first | (refine' L2.hasV_int ?a; (case a => k_is)) | (refine' L2.hasV_str ?a; (case a => k_is)))
local macro_rules | `(tactic| walk_at "lapE") => `(tactic| (refine' L2.hasXI_mk ?a ?lk ?lp ?i ?fn (L2.XCls.mk ?x1 ?x2 ?x3 ?x4 ?x5 ?x6 ?x7) ?sa ?hd ?l ?c ?k; (case a => k_is); (case lk => k_is); (case lp => k_exc); (case i => k_is); (case fn => k_is); (case x1 => k_is); (case x2 => k_is); (case x3 => k_is); (case x4 => k_is); (case x5 => k_is); (case x6 => k_is); (case x7 => k_is); (case sa => k_is); (case hd => k_is); (case l => k_is); (case c => k_is); (case k => k_is)))
namespace PySem.W.Fast
def tw17961779474715751870:=()
def tw14610520060049828887:=()
def tw15689268597371265277:=()
def tw2011391907688290270:=()
def tw13570729007709227183:=()
def tw16394959650859490317:=()
def tw10462399652483067066:=()
def tw7861169848677247681:=()
def tw3404981835773726393:=()
def tw12393587840722064571:=()
def tw12156521717729576787:=()
def tw5971597182058838429:=()
def tw5246174792498664448:=()
def tw15611528188112805920:=()
def tw10351183641040008224:=()
def tw1909207999301441568:=()
def tw8322046486156654688:=()
def tw4495551642640285824:=()
def tw17516941814101001344:=()
def tw5684337555310035104:=()
def tw628066373617111200:=()
def tw9453323868378456256:=()
def tw1937052825618542784:=()
def tw4274880821538492640:=()
def tw183982273592990944:=()
def tw3563899780588000544:=()
def tw6601752728015662368:=()
def tw4690261770860683616:=()
def tw12737648290511523200:=()
def tw15201591508805511552:=()
def tw14005313814066603520:=()
def tw7042615780746143264:=()
def tw12894452935886015072:=()
def tw1107874711676015264:=()
def tw8185185586629243552:=()
def tw8951630768632490688:=()
def tw9009922861238563552:=()
def tw8249796534367602400:=()
def tw15757831250232217344:=()
def tw17180217258414341920:=()
def tw8563380053004349344:=()
def tw10850185718786269120:=()
def tw6612312324964496320:=()
def tw7435803537951535072:=()
def tw6724976188554990560:=()
def tw10024020584066093057:=()
def tw420679552573941761:=()
def tw11159695062957735937:=()
def tw6262457623038555137:=()
def tw12317385167645406305:=()
def tw12620875141622101089:=()
def tw3123179699022342305:=()
def tw17289989020635566433:=()
def tw9564286356809423201:=()
def tw18063875842854559073:=()
def tw9102957469476192641:=()
def tw2529993573173306753:=()
def tw5578368392122253697:=()
def tw2194899879289478529:=()
def tw15468065207234684321:=()
def tw2902256832388178369:=()
def tw14238817365718546881:=()
def tw7240024826449258945:=()
def tw13898012745410118113:=()
def tw14567175440157884897:=()
def tw13125102890610324961:=()
def tw10419826406714594849:=()
def tw5168620979196182145:=()
def tw6656141686891719329:=()
def tw17924765723563995873:=()
def tw13846985878286787297:=()
def tw13705666415204591329:=()
def tw18169724245883542369:=()
def tw4989006761672930145:=()
def tw6687695319197183873:=()
def tw7113280308134212481:=()
def tw5842964006783162273:=()
def tw12611635680942195649:=()
def tw14019933744014698465:=()
def tw2167311738041631746:=()
def tw14783281692133605410:=()
def tw10698587468774625346:=()
def tw4082331535711490146:=()
def tw7888924112394722434:=()
def tw11866927165074878594:=()
def tw5864759620465424578:=()
def tw3150880582517155042:=()
def tw17274759296056721858:=()
def tw10644878974150900226:=()
def tw14853030381155539522:=()
def tw10886424530752514658:=()
def tw17160126234601907874:=()
def tw8430031194189559490:=()
def tw4559640840958673634:=()
def tw6357057494599614178:=()
def tw9413115158343331586:=()
def tw7152629405576589058:=()
def tw2622154749802622850:=()
def tw7792584596543064962:=()
def tw10161569268971404162:=()
def tw5499099445688729635:=()
def tw2231734541422448675:=()
def tw12605653133742205987:=()
def tw15677236707494555683:=()
def tw1310977920224919619:=()
def tw11101850031740018755:=()
def tw10195091017127239779:=()
def tw18277831449792406627:=()
def tw4722911639769859235:=()
def tw2979068400713893059:=()
def tw9212333770073554147:=()
def tw16690792438072399107:=()
def tw10310132770856790275:=()
def tw6844501577224865155:=()
def tw12800589586576696707:=()
def tw4301968742151702947:=()
def tw1017878638895512003:=()
def tw8813948042963475939:=()
def tw3017151157468058115:=()
def tw10599271304502149667:=()
def tw5234431532269848099:=()
def tw12324953187703074371:=()
def tw17802015420685659715:=()
def tw228550230949544515:=()
def tw9794379997180141155:=()
def tw4829468620682677859:=()
def tw4754633173221876355:=()
def tw15252892222927795843:=()
def tw749184351876584131:=()
def tw8062851560991561411:=()
def tw12571169742021931715:=()
def tw16505337379838702275:=()
def tw8304117251121693379:=()
def tw285685536951453411:=()
def tw920059697351099267:=()
def tw15581654130113695651:=()
def tw3972575554527460259:=()
def tw15064939274894572483:=()
def tw6819816050132759523:=()
def tw831359220176931811:=()
def tw8747085784081967172:=()
def tw4791303030885727364:=()
def tw9417548595184071812:=()
def tw10511739969116869796:=()
def tw13222935081809002660:=()
def tw12908914517967164580:=()
def tw14312990391843473604:=()
def tw15915606233240570084:=()
def tw16538320273626123492:=()
def tw4015457388343735588:=()
def tw10310973439808692516:=()
def tw13153247175023719748:=()
def tw1877341183461766500:=()
def tw550335734683320676:=()
def tw1454662723492144484:=()
def tw9822554928981380644:=()
def tw8935710661830582820:=()
def tw15635690775133291076:=()
def tw13264959010089644612:=()
def tw6337947374863031908:=()
def tw10977019253840141924:=()
def tw15991359745660707460:=()
def tw9235163837416741572:=()
def tw13752701876343803620:=()
def tw1171883891168896740:=()
def tw13592678753705791236:=()
def tw5485734678387223300:=()
def tw10020312825016592164:=()
def tw13935868605422839620:=()
def tw14272383869881961348:=()
def tw2585273656484895652:=()
def tw7962007033032874948:=()
def tw2891167558501244900:=()
def tw18045781732203906020:=()
def tw16760067964078134277:=()
def tw17643340776252389413:=()
def tw6884302772733360229:=()
def tw5011481438716285093:=()
def tw15073206103896734917:=()
def tw6961595456270911685:=()
def tw8335411536982678757:=()
def tw7219639602156038373:=()
def tw17634483572896781637:=()
def tw9948516435052135781:=()
def tw2225098435169008997:=()
def tw2995960966792156549:=()
def tw18046904775759088005:=()
def tw2015092871080302981:=()
def tw6676605974931048933:=()
def tw16902959161348811269:=()
def tw9887046007966478853:=()
def tw165640501436000837:=()
def tw6059221625134673477:=()
def tw9911623114204456549:=()
def tw8409014041197718149:=()
def tw15713348465258615493:=()
def tw1240305913133056805:=()
def tw5475948945764257605:=()
def tw1355776842974882661:=()
def tw12828241371650653061:=()
def tw6319808841884783525:=()
def tw7590209737141978085:=()
def tw10824678549494074374:=()
def tw12565838103886445574:=()
def tw1432644677001729094:=()
def tw13670869462904538246:=()
def tw17893132965212046470:=()
def tw2866816609980154086:=()
def tw10501014522497448166:=()
def tw10928685609999080710:=()
def tw10984759368029037830:=()
def tw12196517063634833702:=()
def tw4441438252980288870:=()
def tw17558149021655205286:=()
def tw7810327968168035750:=()
def tw7543530205893356966:=()
def tw2292288679138016710:=()
def tw13684638254102068678:=()
def tw904820386134023686:=()
def tw6218172632203866758:=()
def tw7481610294634413766:=()
def tw16238417275128174278:=()
def tw14182977528142796518:=()
def tw2538384319624546054:=()
def tw14237375528493195046:=()
def tw8405354335598989094:=()
def tw17593714663654479686:=()
def tw17392112891240361830:=()
def tw3654253500123265926:=()
def tw10681912014299904902:=()
def tw11399961190760402854:=()
def tw4097532733768150055:=()
def tw1141976459557386279:=()
def tw7475733117277467751:=()
def tw12174052240123111559:=()
def tw3296197997275684007:=()
def tw15910311417384021191:=()
def tw3703318674339679431:=()
def tw3210823433759511751:=()
def tw10776985038007205063:=()
def tw13700204269359385831:=()
def tw5759075527850308903:=()
def tw14014523443619936551:=()
def tw11014846778092289319:=()
def tw6997323391574707623:=()
def tw11186468782052318631:=()
def tw4980076320773399975:=()
def tw9317499790100254151:=()
def tw9394307854022795719:=()
def tw12822575441850812103:=()
def tw1892504624008840935:=()
def tw9925626730057794311:=()
def tw8342655913025703687:=()
def tw11513062678993337095:=()
def tw13413605771237859111:=()
def tw13941283656154371879:=()
def tw13359715406012315463:=()
def tw5811187754943393639:=()
def tw17206179507469051783:=()
def tw13756267223377036199:=()
def tw12805449103478879336:=()
def tw2118351930889995400:=()
def tw16653305417355703432:=()
def tw2336170295871474856:=()
def tw9706128669991708872:=()
def tw5903764928772627656:=()
def tw17076885941321913608:=()
def tw14254018976435789064:=()
def tw6247139996757135656:=()
def tw3531482421422269768:=()
def tw16577234877904707912:=()
def tw2535232822226779496:=()
def tw3230604480526187016:=()
def tw6774234541619697256:=()
def tw1276436658449107592:=()
def tw4126029705395631752:=()
def tw12398034882711869096:=()
def tw7829349138438551208:=()
def tw7759649141756891848:=()
def tw11313732041022477032:=()
def tw2131585659591039752:=()
def tw15492011882201434888:=()
def tw576538025445487368:=()
def tw9420778234795438920:=()
def tw18187814213210961736:=()
def tw10161708268887039848:=()
def tw16802469339733212072:=()
def tw307419077546260424:=()
def tw2917143669425569736:=()
def tw14483409219799063593:=()
def tw10637865717458233417:=()
def tw12430838522072543337:=()
def tw1074488148743608425:=()
def tw12070955238380471433:=()
def tw3490491386915926153:=()
def tw13244315941930980521:=()
def tw14900646453927156105:=()
def tw1739835937425971593:=()
def tw13063978736203429257:=()
def tw14045983400979234217:=()
def tw16697865040730770889:=()
def tw6245849583012633033:=()
def tw9043415157459895817:=()
def tw5023459972461663849:=()
def tw11564957132209647209:=()
def tw13534217359924453001:=()
def tw1031661667953378985:=()
def tw635576296343716521:=()
def tw441802088759586473:=()
def tw6970211583306593961:=()
def tw7293841736086625993:=()
def tw14167720067673357001:=()
def tw9212602106498130665:=()
def tw15071359202600034057:=()
def tw11614117335251049257:=()
def tw4126223255952777001:=()
def tw11424160668875168585:=()
def tw17950561919630721865:=()
def tw5892530199338051401:=()
def tw5858096477106661225:=()
def tw12677728755948890057:=()
def tw661170635751284681:=()
def tw4846472596525883466:=()
def tw4595238021141771338:=()
def tw15088526418585307338:=()
def tw8951655812770061578:=()
def tw4586337403007984906:=()
def tw12798314393579549994:=()
def tw12797214086417354058:=()
def tw5833679274764480842:=()
def tw16008138120641021290:=()
def tw15658604860052739466:=()
def tw7075102804955986314:=()
def tw18019563913355789738:=()
def tw16425241734020489706:=()
def tw822589701558694410:=()
def tw5703885344086594154:=()
def tw17892215022380038922:=()
def tw9710858712614004490:=()
def tw4158696035214224266:=()
def tw2791917115733030923:=()
def tw3871407887420136491:=()
def tw16782557807220837419:=()
def tw9949723865961706571:=()
def tw16361300476148044875:=()
def tw10966910379498867851:=()
def tw6155892264972988587:=()
def tw12983718779873678507:=()
def tw198928171275299019:=()
def tw9556628537906515243:=()
def tw1465636131718844747:=()
def tw1366531193639064907:=()
def tw5371713590867041739:=()
def tw4705471918217540043:=()
def tw8398922881059591691:=()
def tw4148140046127830603:=()
def tw587562012155289163:=()
def tw2280624676380236395:=()
def tw14098690622597420715:=()
def tw12166430985234090699:=()
def tw15890902362043300587:=()
def tw14246688268873806635:=()
def tw5052573374848360235:=()
def tw10820508115045511083:=()
def tw3444927740133704651:=()
def tw7642199189331044299:=()
def tw16075136519609904107:=()
def tw12387685742156895276:=()
def tw17507428263287281708:=()
def tw3087536113624940620:=()
def tw18143004182957633676:=()
def tw3701004775718731948:=()
def tw13416598909772056780:=()
def tw9026557358264868044:=()
def tw4599869924406785228:=()
def tw5814132107396033772:=()
def tw4126753236194368812:=()
def tw8917159545294772524:=()
def tw17474432059823253804:=()
def tw13793216054997462348:=()
def tw18028222819473185100:=()
def tw12027512995294479852:=()
def tw6801519923192495596:=()
def tw9600897365701512748:=()
def tw10375669613822550668:=()
def tw6372227939897889452:=()
def tw15891729110667400972:=()
def tw9903543662043217740:=()
def tw14544970956424441772:=()
def tw16184938892841298892:=()
def tw153842890727936972:=()
def tw16023821383939307500:=()
def tw14353420322402134061:=()
def tw12020657498873179245:=()
def tw10488232372552903021:=()
def tw11855929392748048877:=()
def tw2782736177743114829:=()
def tw109194150322388589:=()
def tw15285376758654223981:=()
def tw16848872251709744749:=()
def tw3822521082669377165:=()
def tw2391062180146123533:=()
def tw15587996364936952621:=()
def tw1933223512123403053:=()
def tw3133633740723728205:=()
def tw13309892491553602381:=()
def tw7025053822426355565:=()
def tw7800976887786218349:=()
def tw2746487910185840525:=()
def tw8174971988349559725:=()
def tw1979576007644656589:=()
def tw10560004930550069294:=()
def tw12192957379345661006:=()
def tw16099361687637838926:=()
def tw1306578207116968046:=()
def tw3539418561964480654:=()
def tw2503616050913963150:=()
def tw11535615264493242542:=()
def tw6390117138025057454:=()
def tw3551222040505039022:=()
def tw12434887347780568238:=()
def tw16256451047287325902:=()
def tw9517050915026928846:=()
def tw8523213303389801678:=()
def tw7362969593897410766:=()
def tw9037814868575068398:=()
def tw4283938603429670126:=()
def tw9643839408414671086:=()
def tw12953082297097975022:=()
def tw10426862973808616718:=()
def tw7963002981384918318:=()
def tw1866899360456747310:=()
def tw17495405473393355054:=()
def tw8090691487653901614:=()
def tw8139365420027710798:=()
def tw3509222134263915854:=()
def tw15564292898675890574:=()
def tw5540356540910607790:=()
def tw17868666405756871086:=()
def tw5575579306918815182:=()
def tw1513874042319158734:=()
def tw10269057177032601070:=()
def tw12178909789609889294:=()
def tw7259194965794467342:=()
def tw10137620957884526126:=()
def tw13474592603604144686:=()
def tw13012393515082663566:=()
def tw4153843443774303918:=()
def tw6067617472614468302:=()
def tw5323477164681021134:=()
def tw15937632262580507406:=()
def tw5713020745446152974:=()
def tw10192197775767171886:=()
def tw14100475913975081838:=()
def tw12285130471198473070:=()
def tw2316732255385299886:=()
def tw18143028444238176174:=()
def tw7409911064285116334:=()
def tw5850509183962661838:=()
def tw8175915379118564367:=()
def tw12367414531753328751:=()
def tw8183122125372705903:=()
def tw5532696847965030543:=()
def tw9147062120799243407:=()
def tw13354914991100570767:=()
def tw3782960065932995727:=()
def tw5716183772940906639:=()
def tw1497652264129354959:=()
def tw1742171300377033999:=()
def tw13123880270131399983:=()
def tw7550616452663762255:=()
def tw4343130826459677039:=()
def tw10209318801355581807:=()
def tw11832021832682489199:=()
def tw18250816847542157711:=()
def tw1583039927205335439:=()
def tw16529349815838966191:=()
def tw11107376895515530703:=()
def tw5487230337672268239:=()
def tw10433220733525349871:=()
def tw17572969967134594703:=()
def tw11218264475949129359:=()
def tw688487401749884719:=()
def tw9689822352757739311:=()
def tw5323932621099554671:=()
def tw3626731067817383823:=()
def tw7831659893267022767:=()
def tw17008715514637644751:=()
def tw11778774287654414319:=()
def tw11797756436946578415:=()
def tw4361209309998780496:=()
def tw5519133697355765840:=()
def tw6122259205835809872:=()
def tw17120581716122804336:=()
def tw17944330123464417392:=()
def tw2089762798347541616:=()
def tw7299396710245664912:=()
def tw5818250122414956688:=()
def tw15229333609896298640:=()
def tw10204471860887952560:=()
def tw14332316155952473264:=()
def tw15559939529189052592:=()
def tw6515099397827065008:=()
def tw17666954778381009136:=()
def tw4992153767920169200:=()
def tw13794103774243203344:=()
def tw929684758967867696:=()
def tw590754560880697680:=()
def tw14632708397393743248:=()
def tw1029539661605990800:=()
def tw3247982939576408528:=()
def tw7269098086723009040:=()
def tw4307711165191854640:=()
def tw13928447383842794032:=()
def tw4119857733274858032:=()
def tw7238462244762983088:=()
def tw8063739679012044464:=()
def tw11215410859328406256:=()
def tw12845257611127745360:=()
def tw4957173630866506608:=()
def tw59430054119969680:=()
def tw944208526909082544:=()
def tw10132097218464058288:=()
def tw16617523069348108240:=()
def tw8057059416930956272:=()
def tw13380093340602290193:=()
def tw7622534822421613617:=()
def tw14505777237028032561:=()
def tw11407055250774883377:=()
def tw12107051617568643153:=()
def tw11646805008596178129:=()
def tw16449720424580659409:=()
def tw6210058264265140465:=()
def tw3000747639520768241:=()
def tw17520037555631100177:=()
def tw5366555964121920785:=()
def tw8998458182903289105:=()
def tw9798867245096628529:=()
def tw16636720134314930513:=()
def tw3299359693710847345:=()
def tw2978011390715243953:=()
def tw12445103010494439921:=()
def tw3774075047647667697:=()
def tw10537334928737483281:=()
def tw6884497212844967473:=()
def tw18311551600717045297:=()
def tw10950941533478215281:=()
def tw2947597923847231121:=()
def tw8711555990471318193:=()
def tw801147995352667857:=()
def tw8705671898180133585:=()
def tw9024178865298942673:=()
def tw17573798447044774641:=()
def tw1960353605919786769:=()
def tw11776816527673850641:=()
def tw3411653788131802961:=()
def tw4374528185395792817:=()
def tw1889023344962627505:=()
def tw16282847269049641937:=()
def tw6033690746575313873:=()
def tw17455290554825942098:=()
def tw2939603122607925330:=()
def tw9369964320524082290:=()
def tw4856703770726818930:=()
def tw14167103773220630674:=()
def tw10093463773114141938:=()
def tw4516277461920357618:=()
def tw7662159808965952754:=()
def tw14484240492633101586:=()
def tw11406993204920000786:=()
def tw1128152758258604338:=()
def tw403569379455606130:=()
def tw11395024972070426130:=()
def tw14870490556339171890:=()
def tw8112469750806104626:=()
def tw6933347664163394098:=()
def tw10035452408232145458:=()
def tw17384181602738317970:=()
def tw15870590339986631346:=()
def tw17671552795031398098:=()
def tw10172749966938706738:=()
def tw17907430605934632786:=()
def tw9225580236670672722:=()
def tw15459450105092866930:=()
def tw9013960178730897298:=()
def tw4027950328949512114:=()
def tw5757510700666611634:=()
def tw6727410847988833234:=()
def tw738394559358894099:=()
def tw18307205552743316499:=()
def tw900253317077564435:=()
def tw3514752938452807763:=()
def tw276038903360517235:=()
def tw3236786269637566675:=()
def tw5991572593516221683:=()
def tw1075075232774817075:=()
def tw11510578505615589715:=()
def tw13049171828052982099:=()
def tw3666950001068224883:=()
def tw8051142830185897331:=()
def tw13962425428963102195:=()
def tw17390859322226787923:=()
def tw11523091880165155443:=()
def tw17045770043610087027:=()
def tw15881548066748520051:=()
def tw5668991000144212595:=()
def tw15337233871401364115:=()
def tw265995308014622387:=()
def tw1392797678006803155:=()
def tw988350151165320915:=()
def tw16810716332815337171:=()
def tw16919312672468095699:=()
def tw712376804212206291:=()
def tw12346701900728720179:=()
def tw14211135138103161651:=()
def tw15527118926010452883:=()
def tw15008288536562684851:=()
def tw17615648525730869171:=()
def tw12125164064784691155:=()
def tw13422525063841923027:=()
def tw8558270074751445971:=()
def tw5256543288442775539:=()
def tw16821018412705777780:=()
def tw17624477851631286388:=()
def tw6908408313787069652:=()
def tw9708790860516255028:=()
def tw8355198550784354708:=()
def tw12181391169949063700:=()
def tw8905864292450724372:=()
def tw15868715113668959796:=()
def tw5986658199953200724:=()
def tw18334539121726002804:=()
def tw3155793261772359380:=()
def tw17639608562726686420:=()
def tw8829286552997507860:=()
def tw9744527069789378324:=()
def tw11870248983947290420:=()
def tw12910982890930719572:=()
def tw8750418400934970260:=()
def tw18423150254359990196:=()
def tw9365239975568825300:=()
def tw11925266491067373556:=()
def tw16594713422552581141:=()
def tw7042739153490214965:=()
def tw1253744235173268533:=()
def tw601595305486190677:=()
def tw17698285148121499733:=()
def tw8157078704275497045:=()
def tw11872034705051689109:=()
def tw9747532613120962741:=()
def tw3187507833784816821:=()
def tw15846014765804103893:=()
def tw17617409723071744245:=()
def tw11987348426308493589:=()
def tw14101659339948294421:=()
def tw409831180845208885:=()
def tw1048574159548896661:=()
def tw6921256607106582965:=()
def tw15815622080211307989:=()
def tw11753838748514720245:=()
def tw14482214860165470741:=()
def tw13746904575817346581:=()
def tw3579107790362589749:=()
def tw3958978305631864373:=()
def tw5903107591509161557:=()
def tw7146334955440455285:=()
def tw6412834046120728309:=()
def tw13907366260167909141:=()
def tw7235779289178189589:=()
def tw9513249966479131413:=()
def tw12952897477694975797:=()
def tw1786692298656710453:=()
def tw4345179499527412565:=()
def tw8346247316446830517:=()
def tw17520213530807889845:=()
def tw10261832782236378069:=()
def tw5674763027831112758:=()
def tw14720771657614299222:=()
def tw18210724059693977718:=()
def tw16855630680259445878:=()
def tw7080323132223082614:=()
def tw7243377529117199510:=()
def tw3160807329980990646:=()
def tw14720752261813336246:=()
def tw12206589601659729142:=()
def tw16855352358495290646:=()
def tw7905996494900586774:=()
def tw14843605898559787414:=()
def tw9894632589458688438:=()
def tw8281728788210454998:=()
def tw4411439229869749718:=()
def tw8180711723597201910:=()
def tw12906373442610402838:=()
def tw16727417733099628086:=()
def tw11190698748118580822:=()
def tw9661855670637319798:=()
def tw13477468042021484182:=()
def tw11434345965063153366:=()
def tw16049082626535592662:=()
def tw2934622289399194358:=()
def tw3501173522619797270:=()
def tw11481537612245976854:=()
def tw2333232059453116278:=()
def tw8379732168699218838:=()
def tw16683343595796192150:=()
def tw15187657898758591446:=()
def tw11202202297404479446:=()
def tw7720696991977437174:=()
def tw4224789559865392151:=()
def tw17209957334387245207:=()
def tw16253663730253026455:=()
def tw10719258894980080855:=()
def tw6333794398306314519:=()
def tw14229110747461639447:=()
def tw4056219662895388983:=()
def tw2054075732881475927:=()
def tw10662517551420237175:=()
def tw4348427464396613015:=()
def tw8553546054709407191:=()
def tw3765068726495142391:=()
def tw884004746665558583:=()
def tw16598521883965557335:=()
def tw5271071703103706743:=()
def tw7109684128028384887:=()
def tw10644622629440543415:=()
def tw11244073805206743767:=()
def tw643796303186654967:=()
def tw3997874285969721111:=()
def tw11821641992402036503:=()
def tw9222568325335859063:=()
def tw18360347606124296087:=()
def tw1820924480750794679:=()
def tw4452553982810765271:=()
def tw16693495508306447319:=()
def tw6249388788273110007:=()
def tw10464555862802229239:=()
def tw4568307454964363255:=()
def tw12015697388745213016:=()
def tw18295338051063637112:=()
def tw1775870810784401560:=()
def tw14430823617819202712:=()
def tw16668705079937790136:=()
def tw1838770537647112664:=()
def tw4763797026401331672:=()
def tw10079011252275390936:=()
def tw10298940081532593688:=()
def tw18396246989099334168:=()
def tw2355973328720148056:=()
def tw5410047812610706008:=()
def tw2437750722999812728:=()
def tw10211603035804793464:=()
def tw14354259264039911032:=()
def tw12095311687716966040:=()
def tw641268229280389784:=()
def tw10858331647640530584:=()
def tw7193995176785347256:=()
def tw7628196395279337144:=()
def tw16387257537576224440:=()
def tw11163833024701819640:=()
def tw14647099763995687704:=()
def tw9696912581185305464:=()
def tw5436302121954763672:=()
def tw6469994412725318584:=()
def tw17422015858406147000:=()
def tw3760225479591140312:=()
def tw15720518455708969944:=()
def tw6942808389900296281:=()
def tw3757465750648050841:=()
def tw15814538773104848057:=()
def tw12714944055166756057:=()
def tw15778087856300197113:=()
def tw4162741750635211001:=()
def tw2556856773360404761:=()
def tw22062962256433433:=()
def tw10739651474811447641:=()
def tw13916846970683541945:=()
def tw7269229563874006489:=()
def tw6744790854877767129:=()
def tw5067563790984253945:=()
def tw10815046521288912377:=()
def tw5441998574203190809:=()
def tw4896807602265677465:=()
def tw2316138595858878201:=()
def tw8290100163034683129:=()
def tw6553063586536268537:=()
def tw7503518145400973145:=()
def tw14584102732229372793:=()
def tw9366722466109369273:=()
def tw4177209992091809721:=()
def tw7727189922274442169:=()
def tw6697152511538532378:=()
def tw2695912033480732698:=()
def tw17287216341053879418:=()
def tw8100274732351737978:=()
def tw8538120511634015386:=()
def tw7733973504233485466:=()
def tw14434353185361508506:=()
def tw7042115297469370554:=()
def tw11002132980641966266:=()
def tw12825752636219239610:=()
def tw14999420440859118810:=()
def tw4225143113552879834:=()
def tw2211981922041635066:=()
def tw17207378743095830778:=()
def tw3048030273554330874:=()
def tw10821034777670256922:=()
def tw7785786182792758586:=()
def tw17855691864681935162:=()
def tw4003581798610530650:=()
def tw5820519089923976570:=()
def tw13413791964071845370:=()
def tw11384832245815543322:=()
def tw12182529270780661274:=()
def tw748410608052781594:=()
def tw2574155442377018906:=()
def tw17272683456864188954:=()
def tw4432260198553345626:=()
def tw12648140479022706298:=()
def tw15772517337796657850:=()
def tw8481487379119556282:=()
def tw12529474345686971098:=()
def tw9083970420568749786:=()
def tw2193848987266878234:=()
def tw16202508652941524890:=()
def tw7936047820421010362:=()
def tw7392090323033112570:=()
def tw2608159354410239003:=()
def tw17706475696825006107:=()
def tw5685060125785651227:=()
def tw4233391782784441435:=()
def tw16798252710626474107:=()
def tw1769629179978137723:=()
def tw1953504369783743675:=()
def tw15338243269439710427:=()
def tw9751617935081064731:=()
def tw6030155481127316763:=()
def tw16351180500021879163:=()
def tw2542418708463019387:=()
def tw18304666550493728187:=()
def tw6786839513227263451:=()
def tw10583907372678711803:=()
def tw15454731028439920155:=()
def tw1309401381257345595:=()
def tw4197136057112303323:=()
def tw15347583668255266523:=()
def tw15493895827936443099:=()
def tw11882221401484051227:=()
def tw8047483722673776411:=()
def tw15003545877579535163:=()
def tw15191403208074186683:=()
def tw3239642679705510875:=()
def tw2992619281092646940:=()
def tw14091571702088754204:=()
def tw2994483786474879036:=()
def tw1181957063765960796:=()
def tw7518696979805301884:=()
def tw10657819787328255100:=()
def tw15553019838890995964:=()
def tw4309069669361023324:=()
def tw1827212224413284732:=()
def tw2597401292284296636:=()
def tw9303298046797390300:=()
def tw16261037898874445276:=()
def tw10981325733344420348:=()
def tw980031653319044604:=()
def tw11979496335915764252:=()
def tw2021855170553876028:=()
def tw17616534664181595740:=()
def tw13334124651750361724:=()
def tw10221548296230741628:=()
def tw1721453307268160124:=()
def tw13084002803452347036:=()
def tw4326876996428116636:=()
def tw17460206555440000700:=()
def tw371063739266904764:=()
def tw15243915317856503516:=()
def tw10845804714565246716:=()
def tw10437462488423115516:=()
def tw10579875619211874076:=()
def tw14234957619061811996:=()
def tw17356016556799946556:=()
def tw826258007050671964:=()
def tw17817383380835488668:=()
def tw3961569033284047772:=()
def tw3470593844738256860:=()
def tw9342927729160743932:=()
def tw3847383811324933245:=()
def tw15255799583585219901:=()
def tw9232176562465969501:=()
def tw9657250776657671549:=()
def tw15814171308780966269:=()
def tw3231660359063728541:=()
def tw13482891128802708957:=()
def tw2570368042549069277:=()
def tw9279273943126431197:=()
def tw11130679699694878205:=()
def tw18210800173637779997:=()
def tw15169896935653099037:=()
def tw5522592185343143453:=()
def tw862806000191390269:=()
def tw2266653759479310941:=()
def tw17207715095495713405:=()
def tw3786434915823135389:=()
def tw3035651110377492157:=()
def tw15812819767054808797:=()
def tw809813212544041725:=()
def tw11796737946551459613:=()
def tw17786264907424899869:=()
def tw18240185376754875261:=()
def tw1261906588123877277:=()
def tw15741544934498479037:=()
def tw9952805194274584509:=()
def tw7094320859505484765:=()
def tw17290748692828631037:=()
def tw12779765502591863870:=()
def tw11107000458611996734:=()
def tw13429838370163079230:=()
def tw6042563214606099518:=()
def tw10834988970998577246:=()
def tw3941683189360794782:=()
def tw3258033240304462014:=()
def tw8537865401851631806:=()
def tw18078865622070063358:=()
def tw13590291789711833342:=()
def tw4563119535154333022:=()
def tw12262119100091174238:=()
def tw7846803085664149886:=()
def tw1009821273190834590:=()
def tw9561606811199189406:=()
def tw7140378486056335806:=()
def tw12660246821488966078:=()
def tw13813517804345623006:=()
def tw5086110550910403102:=()
def tw13715650451349064286:=()
def tw7683517323664600734:=()
def tw8151380960532938398:=()
def tw7397034910417048414:=()
def tw17499749186882154398:=()
def tw12523888483407999934:=()
def tw12118248384134186974:=()
def tw3980518534760852446:=()
def tw10759284702494275582:=()
def tw3350703037811268639:=()
def tw14031694129789518943:=()
def tw16997909983513069695:=()
def tw11749092502657471615:=()
def tw11659811538879885503:=()
def tw5227147752205881631:=()
def tw7158267581411837215:=()
def tw7475806793671777599:=()
def tw2136823236467414335:=()
def tw7046449898755659167:=()
def tw16632433569535613343:=()
def tw17840301139830222303:=()
def tw1718388236242544095:=()
def tw5642354668321612319:=()
def tw2102579345329390143:=()
def tw15742932901421926975:=()
def tw3350698689914123871:=()
def tw6982692300567200383:=()
def tw6401959732656480927:=()
def tw67670354879511199:=()
def tw9675487626190129887:=()
def tw4596120773690763999:=()
def tw413731662793674527:=()
def tw4259849410043639615:=()
def tw15649177354724375359:=()
def tw14850945023979102047:=()
def tw12610520009298425727:=()
def tw15120926671298073503:=()
def tw7646477534263784351:=()
def tw2394000597552593823:=()
def tw17473378703494233023:=()
def tw17516212453537451007:=()
end PySem.W.Fast
open PySem PySem.W PyProof.Rows
set_option maxRecDepth 100000 in
set_option maxHeartbeats 0 in
theorem PySem.Challenge.cw_lapwork_k14_runs_refused_holds : PySem.Challenge.rw_lapwork_k14_runs_refused.Holds := by
  w_on; o_law; k_head; (case hw => w_witness2)
  k_fill
  refine Lap.walk (l := PySem.Challenge.rw_lapwork_k14_runs_refused) rfl rfl (fun w h Y => PySem.W.kIn_of Y) ?F
  case F =>
    intro w mg fa h KX G hmg
    refine' Lap.all_mk KX G hmg ?fl ?t0 ?t1 ?t2 ?t3 ?t4
    (case fl => walk_at "lapF")
    (case t0 =>
      refine' Lap.tp0_mk ?c_Sum ?c_Less ?c_Times ?c_Least ?c_Most ?c_Pick ?c_Same ?c_Tell ?c_Take ?g_LapError ?g_NoDeed ?g_NoMeasure ?g_BadRows ?g_BadName ?g_Twice ?g_BadCount ?g_BadNumber ?g_NoRow ?g_BadBack ?g_TooEarly ?g_BadTurns ?g_Short ?g_BadWidth ?g_BadArms ?g_NoArm ?g_BadDelay ?g_BadHold ?g_BadPlan ?g_Unfit ?g_BadText ?g_Loop ?g_Run
      (case c_Sum => walk_at "lapC")
      (case c_Less => walk_at "lapC")
      (case c_Times => walk_at "lapC")
      (case c_Least => walk_at "lapC")
      (case c_Most => walk_at "lapC")
      (case c_Pick => walk_at "lapC")
      (case c_Same => walk_at "lapC")
      (case c_Tell => walk_at "lapC")
      (case c_Take => walk_at "lapC")
      (case g_LapError => k_is)
      (case g_NoDeed => k_is)
      (case g_NoMeasure => k_is)
      (case g_BadRows => k_is)
      (case g_BadName => k_is)
      (case g_Twice => k_is)
      (case g_BadCount => k_is)
      (case g_BadNumber => k_is)
      (case g_NoRow => k_is)
      (case g_BadBack => k_is)
      (case g_TooEarly => k_is)
      (case g_BadTurns => k_is)
      (case g_Short => k_is)
      (case g_BadWidth => k_is)
      (case g_BadArms => k_is)
      (case g_NoArm => k_is)
      (case g_BadDelay => k_is)
      (case g_BadHold => k_is)
      (case g_BadPlan => k_is)
      (case g_Unfit => k_is)
      (case g_BadText => k_is)
      (case g_Loop => k_is)
      (case g_Run => k_is))
    (case t1 =>
      refine' Lap.tp1_mk ?f_of_sum ?f_of_less ?f_of_times ?f_of_least ?f_of_most ?f_of_pick ?f_of_same ?f_of_tell ?f_of_take ?f_wa_sum ?f_wa_less ?f_wa_times ?f_wa_least ?f_wa_most ?f_wa_pick ?f_wa_same ?f_wa_tell ?f_wa_take ?x_BadTurns ?m_BadTurns ?lapB ?lapT ?e_Short ?lapR ?lapS ?lapI ?i_Loop ?f_Loop_rows ?f_Loop_deepest ?i_Run ?f_Run_made_at ?f_Run_number_read ?f_Run_numbers_for ?f_Run_do_turn ?f_Run_last_made ?w_LETTERS
      (case f_of_sum => walk_at "lapM")
      (case f_of_less => walk_at "lapM")
      (case f_of_times => walk_at "lapM")
      (case f_of_least => walk_at "lapM")
      (case f_of_most => walk_at "lapM")
      (case f_of_pick => walk_at "lapM")
      (case f_of_same => walk_at "lapM")
      (case f_of_tell => walk_at "lapM")
      (case f_of_take => walk_at "lapM")
      (case f_wa_sum => walk_at "lapM")
      (case f_wa_less => walk_at "lapM")
      (case f_wa_times => walk_at "lapM")
      (case f_wa_least => walk_at "lapM")
      (case f_wa_most => walk_at "lapM")
      (case f_wa_pick => walk_at "lapM")
      (case f_wa_same => walk_at "lapM")
      (case f_wa_tell => walk_at "lapM")
      (case f_wa_take => walk_at "lapM")
      (case x_BadTurns => walk_at "lapX")
      (case m_BadTurns => k_is)
      (case lapB => k_is)
      (case lapT => k_is)
      (case e_Short => walk_at "lapE")
      (case lapR => k_is)
      (case lapS => k_is)
      (case lapI => k_is)
      (case i_Loop => walk_at "lapI")
      (case f_Loop_rows => walk_at "lapM")
      (case f_Loop_deepest => walk_at "lapM")
      (case i_Run => walk_at "lapI")
      (case f_Run_made_at => walk_at "lapM")
      (case f_Run_number_read => walk_at "lapM")
      (case f_Run_numbers_for => walk_at "lapM")
      (case f_Run_do_turn => walk_at "lapM")
      (case f_Run_last_made => walk_at "lapM")
      (case w_LETTERS => walk_at "lapV"))
    (case t2 =>
      refine' Lap.tp2_mk ?w_MOST_LETTERS ?w_MOST_ROWS ?w_MOST_BACK ?w_MOST_TURNS ?f_table ?f_outcome ?f_run ?f_crun ?f_cturns ?f_cfeeds ?f_cbegin ?f_deed ?f_islet ?f_isname ?f_cmeas ?f_crows ?f_chead ?f_cread ?f_cnum ?f_clook ?f_copy ?f_depths ?f_cell ?f_mix ?f_letters ?f_names ?f_wants ?f_row ?f_rows ?f_measure ?f_deepest ?f_given ?f_feeds ?f_begin ?f_copyL ?f_classes
      (case w_MOST_LETTERS => walk_at "lapV")
      (case w_MOST_ROWS => walk_at "lapV")
      (case w_MOST_BACK => walk_at "lapV")
      (case w_MOST_TURNS => walk_at "lapV")
      (case f_table => walk_at "lapF")
      (case f_outcome => walk_at "lapF")
      (case f_run => walk_at "lapF")
      (case f_crun => walk_at "lapF")
      (case f_cturns => walk_at "lapF")
      (case f_cfeeds => walk_at "lapF")
      (case f_cbegin => walk_at "lapF")
      (case f_deed => walk_at "lapF")
      (case f_islet => walk_at "lapF")
      (case f_isname => walk_at "lapF")
      (case f_cmeas => walk_at "lapF")
      (case f_crows => walk_at "lapF")
      (case f_chead => walk_at "lapF")
      (case f_cread => walk_at "lapF")
      (case f_cnum => walk_at "lapF")
      (case f_clook => walk_at "lapF")
      (case f_copy => walk_at "lapF")
      (case f_depths => walk_at "lapF")
      (case f_cell => walk_at "lapF")
      (case f_mix => walk_at "lapF")
      (case f_letters => walk_at "lapF")
      (case f_names => walk_at "lapF")
      (case f_wants => walk_at "lapF")
      (case f_row => walk_at "lapF")
      (case f_rows => walk_at "lapF")
      (case f_measure => walk_at "lapF")
      (case f_deepest => walk_at "lapF")
      (case f_given => walk_at "lapF")
      (case f_feeds => walk_at "lapF")
      (case f_begin => walk_at "lapF")
      (case f_copyL => walk_at "lapF")
      (case f_classes => walk_at "lapF"))
    (case t3 =>
      refine' Lap.tp3_mk ?f_shortl ?f_shorter ?f_caught ?z_ValueError ?z_all ?z_bool ?z_enumerate ?z_int ?z_isinstance ?z_len ?z_list ?z_max ?z_min ?z_range ?z_sorted ?z_str ?z_sum ?z_tuple ?kII ?kIB ?kTT ?kTI ?kIT ?kLL ?kSS ?nM ?nK ?nD ?nRL ?nRF ?nRB ?nRM ?kX_Short ?kV_Short ?kL_Short ?kX_BadTurns
      (case f_shortl => walk_at "lapF")
      (case f_shorter => walk_at "lapF")
      (case f_caught => walk_at "lapF")
      (case z_ValueError => k_is)
      (case z_all => k_is)
      (case z_bool => k_is)
      (case z_enumerate => k_is)
      (case z_int => k_is)
      (case z_isinstance => k_is)
      (case z_len => k_is)
      (case z_list => k_is)
      (case z_max => k_is)
      (case z_min => k_is)
      (case z_range => k_is)
      (case z_sorted => k_is)
      (case z_str => k_is)
      (case z_sum => k_is)
      (case z_tuple => k_is)
      (case kII => kit_is)
      (case kIB => kit_is)
      (case kTT => kit_is)
      (case kTI => kit_is)
      (case kIT => kit_is)
      (case kLL => kit_is)
      (case kSS => kit_is)
      (case nM => (unfold L2.NoAttr; k_is))
      (case nK => (unfold L2.NoAttr; k_is))
      (case nD => (unfold L2.NoAttr; k_is))
      (case nRL => (unfold L2.NoAttr; k_is))
      (case nRF => (unfold L2.NoAttr; k_is))
      (case nRB => (unfold L2.NoAttr; k_is))
      (case nRM => (unfold L2.NoAttr; k_is))
      (case kX_Short => (intro e h1 h2 h3; cases e <;> first | exact absurd rfl h1 | exact absurd rfl h2 | exact absurd rfl h3 | kit_is))
      (case kV_Short => kit_is)
      (case kL_Short => kit_is)
      (case kX_BadTurns => (intro e h1 h2 h3; cases e <;> first | exact absurd rfl h1 | exact absurd rfl h2 | exact absurd rfl h3 | kit_is)))
    (case t4 =>
      refine' Lap.tp4_mk ?kV_BadTurns ?kL_BadTurns ?m_Short ?nSn
      (case kV_BadTurns => kit_is)
      (case kL_BadTurns => kit_is)
      (case m_Short => k_is)
      (case nSn => (unfold L2.NoAttr; k_is)))
