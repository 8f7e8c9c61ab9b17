import PyProof.Rows.All
import Wide.All
import OpenK.AllK
import Wide.FinOn
import Lean
import PyProof.EqAt
import PyProof.EqKinds
import PyProof.TupleCall
import PySem.Challenge.RW_lapwork_k62_run_of_any_sheet
-- CHANGE: your row's module here, as the last of these rows
set_option Elab.async false
set_option linter.all false
set_option maxRecDepth 100000
namespace L2
open PySem PySem.Spec PyProof.Rows
abbrev Key := Sum Int Str
def keyIs : Key → Value → Bool
  | .inl k, v => Value.isInt k v
  | .inr x, v => Value.isStrOf x v
def keyH (w : World) : Key → Int
  | .inl k => hashInt k
  | .inr x => hashStr w x
theorem keyIs_shape : ∀ {k : Key} {v : Value}, keyIs k v = true → (∃ i t, k = Sum.inl i ∧ v = Value.int i t) ∨ (∃ x t, k = Sum.inr x ∧ v = Value.str x t)
  | .inl i, v, h => by
    obtain ⟨t, e⟩ := Value.isInt_shape (k := i) (v := v) h
    exact .inl ⟨i, t, rfl, e⟩
  | .inr x, v, h => by
    obtain ⟨t, e⟩ := Value.isStrOf_shape (x := x) (v := v) h
    exact .inr ⟨x, t, rfl, e⟩
theorem keyIs_int (i : Int) (t : Tok) : keyIs (.inl i) (.int i t) = true := by simp [keyIs, Value.isInt]
theorem keyIs_str (x : Str) (t : Tok) : keyIs (.inr x) (.str x t) = true := by simp [keyIs, Value.isStrOf]
theorem key_ll (a b : Int) : decide ((Sum.inl a : Key) = Sum.inl b) = (a == b) := by
  by_cases e : a = b
  · subst e; simp
  · have h : ¬ (Sum.inl a : Key) = Sum.inl b := fun q => e (Sum.inl.inj q)
    rw [decide_eq_false h]
    exact (beq_eq_false_iff_ne.mpr e).symm
theorem key_rr (a b : Str) : decide ((Sum.inr a : Key) = Sum.inr b) = decide (a = b) := by
  by_cases e : a = b
  · subst e; simp
  · have h : ¬ (Sum.inr a : Key) = Sum.inr b := fun q => e (Sum.inr.inj q)
    rw [decide_eq_false h, decide_eq_false e]
theorem key_lr (a : Int) (b : Str) : decide ((Sum.inl a : Key) = Sum.inr b) = false := decide_eq_false (fun q => nomatch q)
theorem key_rl (a : Str) (b : Int) : decide ((Sum.inr a : Key) = Sum.inl b) = false := decide_eq_false (fun q => nomatch q)
def mixKind (prog : Program) (w : World) : PySem.KeyKind prog w Key where
  is := keyIs
  hash := keyH w
  inj := fun v a b ha hb => by
    rcases keyIs_shape ha with ⟨i, t, rfl, rfl⟩ | ⟨x, t, rfl, rfl⟩
    · rcases keyIs_shape hb with ⟨j, u, rfl, e⟩ | ⟨y, u, rfl, e⟩
      · injection e with e1 _; rw [e1]
      · exact nomatch e
    · rcases keyIs_shape hb with ⟨j, u, rfl, e⟩ | ⟨y, u, rfl, e⟩
      · exact nomatch e
      · injection e with e1 _; rw [e1]
  byValue := fun k v h => by
    rcases keyIs_shape h with ⟨i, t, rfl, rfl⟩ | ⟨x, t, rfl, rfl⟩ <;> rfl
  pyHash := fun hv h => by
    rcases keyIs_shape hv with ⟨i, t, rfl, rfl⟩ | ⟨x, t, rfl, rfl⟩
    · exact wpAny_pyHash_int h
    · exact wpAny_pyHash_str h
  eqBool := fun hu hv h => by
    rcases keyIs_shape hu with ⟨i, t, rfl, rfl⟩ | ⟨x, t, rfl, rfl⟩
    · rcases keyIs_shape hv with ⟨j, u, rfl, rfl⟩ | ⟨y, u, rfl, rfl⟩
      · rw [key_ll] at h; exact wpAny_eqBool_int h
      · rw [key_lr] at h; exact SeqAt.EqAt.int_str i t y u _ _ _ _ h
    · rcases keyIs_shape hv with ⟨j, u, rfl, rfl⟩ | ⟨y, u, rfl, rfl⟩
      · rw [key_rl] at h; exact SeqAt.EqAt.str_int x t j u _ _ _ _ h
      · rw [key_rr] at h; exact wpAny_eqBool_str h
  «strs» := fun k x t v h => by
    rcases keyIs_shape h with ⟨i, u, rfl, e⟩ | ⟨y, u, rfl, e⟩
    · exact nomatch e
    · injection e with e1 _
      subst e1
      cases v <;> rfl
theorem mixKind_int (prog : Program) (w : World) (i : Int) (t : Tok) : (mixKind prog w).is (.inl i) (.int i t) = true := keyIs_int i t
theorem mixKind_str (prog : Program) (w : World) (x : Str) (t : Tok) : (mixKind prog w).is (.inr x) (.str x t) = true := keyIs_str x t
end L2
namespace L2
open PySem PySem.Spec PyProof.Rows
inductive V where
  | non | bl (b : Bool) | int (i : Int) | str (x : Str) | byt (b : Array UInt8) | flt (b : UInt64) | ref (a : Addr) | ty (n : String)
  deriving DecidableEq
def RelV : V → Value → Prop
  | .non, u => u = Value.none
  | .bl b, u => u = Value.bool b
  | .int i, u => ∃ t, u = Value.int i t
  | .str x, u => ∃ t, u = Value.str x t
  | .byt b, u => ∃ t, u = Value.bytes b t
  | .flt b, u => ∃ t, u = Value.float b t
  | .ref a, u => u = Value.ref a
  | .ty n, u => u = Value.type n
abbrev Vals : List V → List Value → Prop := Paired RelV
theorem Vals.length {xs : List V} {us : List Value} (r : Vals xs us) : xs.length = us.length := Paired.length r
theorem Vals.get : ∀ {xs : List V} {us : List Value} {i : Nat} {x : V}, Vals xs us → xs[i]? = some x → ∃ u, us[i]? = some u ∧ RelV x u
  | _, _, _, _, .nil, e => by simp at e
  | _, _, 0, _, .cons r _, e => by simp at e; subst e; exact ⟨_, rfl, r⟩
  | _, _, i + 1, x, .cons _ t, e => by
    obtain ⟨u, h1, h2⟩ := Vals.get (i := i) (x := x) t (by simpa using e)
    exact ⟨u, by simpa using h1, h2⟩
theorem Vals.set {x : V} {u : Value} (r : RelV x u) : ∀ {xs : List V} {us : List Value} (i : Nat), Vals xs us → Vals (xs.set i x) (us.set i u)
  | _, _, _, .nil => .nil
  | _, _, 0, .cons _ t => .cons r t
  | _, _, i + 1, .cons q t => .cons q (Vals.set r i t)
theorem Vals.append : ∀ {xs ys : List V} {us ws : List Value}, Vals xs us → Vals ys ws → Vals (xs ++ ys) (us ++ ws)
  | _, _, _, _, .nil, s => s
  | _, _, _, _, .cons r t, s => .cons r (Vals.append t s)
theorem Vals.take : ∀ {xs : List V} {us : List Value} (n : Nat), Vals xs us → Vals (xs.take n) (us.take n)
  | _, _, 0, _ => .nil
  | _, _, _ + 1, .nil => .nil
  | _, _, n + 1, .cons r t => .cons r (Vals.take n t)
theorem Vals.drop : ∀ {xs : List V} {us : List Value} (n : Nat), Vals xs us → Vals (xs.drop n) (us.drop n)
  | _, _, 0, r => r
  | _, _, _ + 1, .nil => .nil
  | _, _, n + 1, .cons _ t => Vals.drop n t
def RelO : Option V → Option Value → Prop
  | some v, some u => RelV v u
  | none, none => True
  | _, _ => False
def KV {κ : Type} : List (κ × V) → List (κ × Value) → Prop := Paired fun (p : κ × V) (q : κ × Value) => p.1 = q.1 ∧ RelV p.2 q.2
def kV : Key → V
  | .inl i => .int i
  | .inr x => .str x
inductive HO where
  | lst (xs : List V)
  | tup (xs : List V)
  | dK (kvs : List (Key × V)) | dT (kvs : List (List Key × V))
  | set (S : Int → Bool) (n : Nat)
  | ins (C dx : Addr) (fs : List (Str × V))
  | own (x : Addr)
  | xd (fs : List (Str × V))
  | met (f x : Addr)
  | rng (lo hi : Int)
  | frz (o : Obj) (u : HO)
  | tbl (ps : Array Value)
  | ext (φ : Heap → Prop)
abbrev Hp := Addr → Option HO
def upd (H : Hp) (a : Addr) (o : HO) : Hp := fun b => if b = a then some o else H b
theorem upd_same {H : Hp} {a : Addr} {o : HO} : upd H a o a = some o := by unfold upd; rw [if_pos rfl]
theorem upd_ne {H : Hp} {a b : Addr} {o : HO} (h : b ≠ a) : upd H a o b = H b := by unfold upd; rw [if_neg h]
theorem upd_upd {H : Hp} {a : Addr} {o u : HO} : upd (upd H a o) a u = upd H a u := by
  funext b; unfold upd; split <;> rfl
theorem ne_of {H : Hp} {a b : Addr} {o u : HO} (h : H a = some o) (h' : H b = some u) (d : o ≠ u) : a ≠ b := by
  intro e; subst e; rw [h] at h'; exact d (Option.some.inj h')
theorem ne_of_none {H : Hp} {a b : Addr} {o : HO} (h : H a = some o) (h' : H b = none) : a ≠ b := by
  intro e; subst e; rw [h] at h'; cases h'
section
variable (P : Program) (w : World)
def ObjOk (H : Hp) (h : Heap) (a : Addr) : HO → Prop
  | .lst xs => xs.length ≤ sizeLine ∧ ∃ (its : List Value) (n : Nat), Vals xs its ∧ h.get? a = some { cls := .type "list", data := .seq its.toArray n }
  | .tup xs => xs.length ≤ sizeLine ∧ ∃ its : List Value, Vals xs its ∧ IsTup h a its.toArray
  | .dK kvs => kvs.length ≤ sizeLine ∧ (a == sysModules) = false ∧ ∃ vs, KV kvs vs ∧ h.DictOf (mixKind P w) a vs
  | .dT kvs => kvs.length ≤ sizeLine ∧ (a == sysModules) = false ∧ ∃ xs : List (List Key × Addr × Value),
      Paired (fun (p : List Key × V) (q : List Key × Addr × Value) => p.1 = q.1 ∧ H q.2.1 = some (.tup (p.1.map kV)) ∧ RelV p.2 q.2.2) kvs xs ∧
      ∃ o es ep, h.get? a = some o ∧ o.ExactDict ∧ o.data = .dict es ep ∧ es.toList = xs.map (entryOfKey (tupleKind (mixKind P w))) ∧ (xs.map (·.1)).Nodup
  | .set S n => h.SetOf (intKind P w) a S n
  | .ins C dx fs => H dx = some (.own a) ∧ fs.length ≤ 1000 ∧ dx ≠ a ∧ h.get? a = some (PySem.W.instObj C dx) ∧
      ∃ mA, h.Ns1 dx mA ∧ (∀ f, RelO (fs.lookup f) (mA f)) ∧ PySem.Within mA (fs.map (·.1))
  | .own _ => ∃ o, h.get? a = some o
  | .xd fs => ∃ mA, h.Ns1 a mA ∧ ∀ f, RelO (fs.lookup f) (mA f)
  | .rng lo hi => ∃ t u v, h.get? a = some { cls := .type "range", data := .fields #[.int lo t, .int hi u, .int 1 v] }
  | .frz o u => h.get? a = some o ∧ ObjOk H h a u
  | .tbl ps => h.get? a = some { cls := .none, data := .fields ps }
  | .met f x => h.get? a = some (PySem.W.methodObj (.ref f) (.ref x))
  | .ext φ => φ h ∧ (∃ o, h.get? a = some o) ∧ ∀ h1 h2 : Heap, φ h1 → (∀ o, h1.get? a = some o → h2.get? a = some o) → φ h2
def HOk (H : Hp) (h : Heap) : Prop := ∀ a o, H a = some o → ObjOk P w H h a o
end
section
variable {P : Program} {w : World} {H H' : Hp} {h h' : Heap} {a : Addr} {o : HO}
theorem ObjOk.lt (x : ObjOk P w H h a o) : a < h.objs.size := by
  cases o with
  | lst xs => obtain ⟨_, _, _, _, e⟩ := x; exact Heap.lt_size e
  | tup xs => obtain ⟨_, _, _, p⟩ := x; exact p.lt
  | dK kvs => obtain ⟨_, _, _, _, o, _, _, e, _⟩ := x; exact Heap.lt_size e
  | dT kvs => obtain ⟨_, _, _, _, o, _, _, e, _⟩ := x; exact Heap.lt_size e
  | set S n => obtain ⟨o, _, _, _, e, _⟩ := x; exact Heap.lt_size e
  | ins C dx fs => obtain ⟨_, _, _, e, _⟩ := x; exact Heap.lt_size e
  | own y => obtain ⟨_, e⟩ := x; exact Heap.lt_size e
  | xd fs => obtain ⟨_, ⟨_, _, _, e, _⟩, _⟩ := x; exact Heap.lt_size e
  | rng lo hi => obtain ⟨_, _, _, e⟩ := x; exact Heap.lt_size e
  | frz ob u => obtain ⟨e, _⟩ := x; exact Heap.lt_size e
  | tbl ps => exact Heap.lt_size (show h.get? a = some _ from x)
  | met f y => exact Heap.lt_size (show h.get? a = some _ from x)
  | ext φ => obtain ⟨_, ⟨_, e⟩, _⟩ := x; exact Heap.lt_size e
theorem Paired.mapP {α β : Type} {F G : α → β → Prop} : ∀ {l₁ : List α} {l₂ : List β}, Paired F l₁ l₂ → (∀ a b, F a b → G a b) → Paired G l₁ l₂
  | _, _, .nil, _ => .nil
  | _, _, .cons r t, f => .cons (f _ _ r) (Paired.mapP t f)
theorem ObjOk.stay (x : ObjOk P w H h a o) (k : ∀ b u, (b = a ∨ H b = some (.own a)) → h.get? b = some u → h'.get? b = some u)
    (ho : ∀ b, H b = some (.own a) → H' b = some (.own a)) (ht : ∀ b xs, H b = some (.tup xs) → H' b = some (.tup xs)) : ObjOk P w H' h' a o := by
  induction o with
  | lst xs => obtain ⟨z, its, n, r, e⟩ := x; exact ⟨z, its, n, r, k _ _ (.inl rfl) e⟩
  | tup xs => obtain ⟨z, its, r, ob, e, c⟩ := x; exact ⟨z, its, r, ob, k _ _ (.inl rfl) e, c⟩
  | dK kvs => obtain ⟨z, y, vs, r, ob, es, ep, e, c⟩ := x; exact ⟨z, y, vs, r, ob, es, ep, k _ _ (.inl rfl) e, c⟩
  | dT kvs =>
    obtain ⟨z, y, xs, r, ob, es, ep, e, c⟩ := x
    exact ⟨z, y, xs, Paired.mapP r fun p q z => ⟨z.1, ht _ _ z.2.1, z.2.2⟩, ob, es, ep, k _ _ (.inl rfl) e, c⟩
  | set S n => obtain ⟨ob, es, ep, t, e, c⟩ := x; exact ⟨ob, es, ep, t, k _ _ (.inl rfl) e, c⟩
  | ins C dx fs =>
    obtain ⟨d, z, ne, e, mA, ⟨od, es, ep, e2, c⟩, r⟩ := x
    exact ⟨ho _ d, z, ne, k _ _ (.inl rfl) e, mA, ⟨od, es, ep, k _ _ (.inr d) e2, c⟩, r⟩
  | own y => obtain ⟨ob, e⟩ := x; exact ⟨ob, k _ _ (.inl rfl) e⟩
  | xd fs => obtain ⟨mA, ⟨od, es, ep, e, c⟩, r⟩ := x; exact ⟨mA, ⟨od, es, ep, k _ _ (.inl rfl) e, c⟩, r⟩
  | rng lo hi => obtain ⟨t, u, v, e⟩ := x; exact ⟨t, u, v, k _ _ (.inl rfl) e⟩
  | frz ob u ih => obtain ⟨e, q⟩ := x; exact ⟨k _ _ (.inl rfl) e, ih q⟩
  | tbl ps =>
    have e : h.get? a = some { cls := .none, data := .fields ps } := x
    show h'.get? a = some { cls := .none, data := .fields ps }
    exact k a _ (.inl rfl) e
  | met f y =>
    have e : h.get? a = some (PySem.W.methodObj (.ref f) (.ref y)) := x
    show h'.get? a = some (PySem.W.methodObj (.ref f) (.ref y))
    exact k a _ (.inl rfl) e
  | ext φ => obtain ⟨p, ⟨o, e⟩, st⟩ := x; exact ⟨st _ _ p fun o q => k _ _ (.inl rfl) q, ⟨o, k _ _ (.inl rfl) e⟩, st⟩
theorem HOk.lt (x : HOk P w H h) (e : H a = some o) : a < h.objs.size := (x a o e).lt
theorem HOk.fresh (x : HOk P w H h) (e : h.objs.size ≤ a) : H a = none := by
  cases q : H a with
  | none => rfl
  | some u => exact absurd (Nat.lt_of_lt_of_le (x.lt q) e) (Nat.lt_irrefl _)
theorem HOk.kept (x : HOk P w H h) (k : ∀ b u, h.get? b = some u → h'.get? b = some u) : HOk P w H h' := fun a o e =>
  (x a o e).stay (fun b u _ q => k b u q) (fun _ q => q) fun _ _ q => q
theorem HOk.laid (x : HOk P w H h) (k : ∀ b u, h.get? b = some u → h'.get? b = some u) (hp : h.objs.size ≤ a) (new : ObjOk P w (upd H a o) h' a o) : HOk P w (upd H a o) h' := fun b u e => by
  have hn := x.fresh hp
  by_cases hb : b = a
  · subst hb; rw [upd_same] at e; cases e; exact new
  · rw [upd_ne hb] at e
    exact (x b u e).stay (fun c v _ q => k c v q) (fun c q => by rw [upd_ne (ne_of_none q hn)]; exact q) fun c xs q => by rw [upd_ne (ne_of_none q hn)]; exact q
end
def Rd (H : Hp) (a : Addr) (u : HO) : Prop := H a = some u ∨ ∃ o, H a = some (.frz o u)
theorem Rd.ok {P : Program} {w : World} {H : Hp} {h : Heap} {a : Addr} {u : HO} (r : Rd H a u) (x : HOk P w H h) : ObjOk P w H h a u := by
  rcases r with r | ⟨o, r⟩
  · exact x a u r
  · obtain ⟨_, q⟩ := x a _ r
    exact q
def Mut : Option HO → Prop
  | some (.lst _) => True
  | some (.dK _) => True
  | some (.dT _) => True
  | some (.set _ _) => True
  | some (.ins _ _ _) => True
  | some (.ext _) => True
  | _ => False
section
variable {P : Program} {w : World} {H : Hp} {h h' : Heap} {x e : Addr} {o' : HO}
theorem HOk.write (ok : HOk P w H h) (mu : Mut (H x)) (he : e = x ∨ H e = some (.own x)) (k : ∀ b u, b ≠ e → h.get? b = some u → h'.get? b = some u) (heo : ∃ u, h'.get? e = some u)
    (new : ObjOk P w (upd H x o') h' x o') : HOk P w (upd H x o') h' := fun b u q => by
  have nown : ∀ c y, H c = some (.own y) → c ≠ x := fun c y r z => by subst z; rw [r] at mu; exact mu
  have ntup : ∀ c xs, H c = some (.tup xs) → c ≠ x := fun c xs r z => by subst z; rw [r] at mu; exact mu
  by_cases hb : b = x
  · subst hb; rw [upd_same] at q; cases q; exact new
  · rw [upd_ne hb] at q
    by_cases hbe : b = e
    · have q' : H b = some (.own x) := by
        rcases he with z | z
        · exact absurd (hbe.trans z) hb
        · rw [hbe]; exact z
      rw [q] at q'; cases q'
      obtain ⟨v, hv⟩ := heo
      exact ⟨v, by rw [hbe]; exact hv⟩
    · refine (ok b u q).stay (fun c v hc r => k c v ?_ r) (fun c r => by rw [upd_ne (nown c b r)]; exact r) fun c xs r => by rw [upd_ne (ntup c xs r)]; exact r
      rcases hc with rfl | hc
      · exact hbe
      · rintro rfl
        rcases he with z | z
        · exact nown c b hc z
        · rw [hc] at z; cases z; exact hb rfl
end
structure Un (fs ex : List Addr) (H H' : Hp) (h h' : Heap) : Prop where
  keep : ∀ b o, h.get? b = some o → H b = none → b ∉ fs → b ∉ ex → h'.get? b = some o
  slot : ∀ b o, h.get? b = some o → H b = none → b ∈ fs → b ∉ ex → ∃ sl, h'.get? b = some { o with slots := sl }
  free : ∀ b o, h.get? b = some o → H b = none → b ∉ ex → H' b = none
  there : ∀ b o, h.get? b = some o → b ∉ ex → ∃ o', h'.get? b = some o'
  tups : ∀ b xs, H b = some (.tup xs) → H' b = some (.tup xs)
  frzs : ∀ b o u, H b = some (.frz o u) → H' b = some (.frz o u)
  tbls : ∀ b ps, H b = some (.tbl ps) → ∃ more, H' b = some (.tbl (ps ++ more))
section
variable {fs fs' ex ex' : List Addr} {H H1 H2 : Hp} {h h1 h2 h' : Heap} {a x e : Addr} {o : HO}
theorem Un.any (u : Un fs ex H H1 h h1) {b : Addr} {ob : Obj} (q : h.get? b = some ob) (n : H b = none) (hx : b ∉ ex) : ∃ sl, h1.get? b = some { ob with slots := sl } := by
  by_cases hb : b ∈ fs
  · exact u.slot b ob q n hb hx
  · exact ⟨ob.slots, u.keep b ob q n hb hx⟩
theorem Un.kept (k : ∀ b u, h.get? b = some u → h'.get? b = some u) : Un fs ex H H h h' :=
  ⟨fun b ob q _ _ _ => k b ob q, fun b ob q _ _ _ => ⟨ob.slots, k b ob q⟩, fun _ _ _ n _ => n, fun b ob q _ => ⟨ob, k b ob q⟩, fun _ _ q => q, fun _ _ _ q => q, fun _ ps q => ⟨#[], by rw [q]; simp⟩⟩
theorem Un.refl : Un fs ex H H h h := Un.kept fun _ _ q => q
theorem Un.laid (k : ∀ b u, h.get? b = some u → h'.get? b = some u) (hp : h.objs.size ≤ a) (hn : H a = none) : Un fs ex H (upd H a o) h h' where
  keep := fun b u q _ _ _ => k b u q
  slot := fun b u q _ _ _ => ⟨u.slots, k b u q⟩
  free := fun b u q n _ => by rw [upd_ne (Nat.ne_of_lt (Nat.lt_of_lt_of_le (Heap.lt_size q) hp))]; exact n
  there := fun b u q _ => ⟨u, k b u q⟩
  tups := fun b xs q => by rw [upd_ne (ne_of_none q hn)]; exact q
  frzs := fun b u xs q => by rw [upd_ne (ne_of_none q hn)]; exact q
  tbls := fun b ps q => ⟨#[], by rw [upd_ne (ne_of_none q hn), q]; simp⟩
theorem Un.write (mu : Mut (H x)) (he : e = x ∨ H e = some (.own x)) (k : ∀ b u, b ≠ e → h.get? b = some u → h'.get? b = some u) (heo : ∃ u, h'.get? e = some u) : Un fs ex H (upd H x o) h h' := by
  have hx : ∀ b, H b = none → b ≠ x := fun b n z => by subst z; rw [n] at mu; exact mu
  have hb : ∀ b, H b = none → b ≠ e := fun b n z => by
    subst z
    rcases he with r | r
    · exact hx b n r
    · rw [n] at r; cases r
  have hm : ∀ b u, H b = some u → ¬ Mut (some u) → b ≠ x := fun b u q nm z => by subst z; rw [q] at mu; exact nm mu
  refine ⟨fun b u q n _ _ => k b u (hb b n) q, fun b u q n _ _ => ⟨u.slots, k b u (hb b n) q⟩, fun b u q n _ => by rw [upd_ne (hx b n)]; exact n, fun b u q _ => ?_,
    fun b xs q => by rw [upd_ne (hm b _ q fun z => z)]; exact q, fun b u xs q => by rw [upd_ne (hm b _ q fun z => z)]; exact q, fun b ps q => ⟨#[], by rw [upd_ne (hm b _ q fun z => z), q]; simp⟩⟩
  by_cases hbe : b = e
  · subst hbe; exact heo
  · exact ⟨u, k b u hbe q⟩
end
def trk (h : Heap) (H : Hp) : List Addr := (List.range h.objs.size).filter fun a => (H a).isSome
def hidT (h : Heap) (H : Hp) : Heap := PySem.W.hideAll h (trk h H)
theorem hidT_size (h : Heap) (H : Hp) : (hidT h H).objs.size = h.objs.size := PySem.W.hideAll_size _ _
theorem hidT_get {h : Heap} {H : Hp} {b : Addr} {o : Obj} (e : h.get? b = some o) (n : H b = none) : (hidT h H).get? b = some o :=
  PySem.W.hideAll_get _ e fun hm => by
    have q : (H b).isSome = true := (List.mem_filter.mp hm).2
    rw [n] at q; simp at q
theorem of_hidT {h : Heap} {H : Hp} {b : Addr} {o : Obj} (e : (hidT h H).get? b = some o) : h.get? b = some o ∧ H b = none := by
  have e' : h.get? b = some o := PySem.W.of_hideAll (trk h H) e
  refine ⟨e', ?_⟩
  cases q : H b with
  | none => rfl
  | some x =>
    have hm : b ∈ trk h H := List.mem_filter.mpr ⟨List.mem_range.mpr (Heap.lt_size e'), by simp [q]⟩
    have z : (hidT h H).get? b = none := PySem.W.hideAll_none (trk h H) hm
    rw [z] at e; cases e
end L2
namespace L2
open PySem PySem.Spec PyProof.Rows
structure Mod (K : PySem.W.Frag) (mg : Str → Option Value) (base : Heap) : Prop where
  kin : K.In base
  glob : base.Ns mainGlobals mg
  blt : ∃ mb, base.Ns builtinsNs mb ∧ ∀ x : Str, x ≠ "__name__" → mb x = bootBuiltins x
  nolimit : base.NoLimit
structure Cx where
  prog : Program
  w : World
  K : PySem.W.Frag
  mg : Str → Option Value
  base : Heap
  A : Around
  N : List Str
  s₀ : Shared
  H₀ : Hp
  env : Env
  outer : List Env
  stack : List Env
  ex : List Addr
  fn : Str → Bool
  calm : Bool
  pn : List (Addr × Obj)
  xe : Value → Shared → Prop
def frs (l : List Env) : List Addr := l.filterMap (·.frame)
abbrev Cx.fs (X : Cx) : List Addr := frs X.outer
def Vis (sc : Scope) (x : Str) : Prop := sc.names.lookup x = some .local ∨ sc.names.lookup x = some .cell ∨ sc.names.lookup x = some .free
def Loc (sc : Scope) (x : Str) : Prop := sc.names.lookup x = some .local ∨ sc.names.lookup x = some .cell
def Look (env : Env) (h : Heap) (m : Str → Option Value) (x : Str) (u : Value) : Prop :=
  (env.kindOf x = some .local ∧ m x = some u) ∨ ((env.kindOf x = some .cell ∨ env.kindOf x = some .free) ∧ ∃ c, env.cells.lookup x = some c ∧ h.IsCell c (some u))
structure Cx.Ok (X : Cx) : Prop where
  mod : Mod X.K X.mg X.base
  kind : X.env.scope.kind = .function
  glob : X.env.globals = mainGlobals
  blt : X.env.builtins = builtinsNs
  above : X.s₀.heap.objs.size ≤ X.env.locals
  inj : ∀ x y c, X.env.cells.lookup x = some c → X.env.cells.lookup y = some c → x = y
  has : ∀ x, (X.env.kindOf x = some .cell ∨ X.env.kindOf x = some .free) → ∃ c, X.env.cells.lookup x = some c
  cab : ∀ x c, X.fn x = true → X.env.cells.lookup x = some c → X.s₀.heap.objs.size ≤ c
  hd : X.calm = true → X.A.handled = none
  frames : X.A.frames = some X.stack
  stk : X.stack = X.outer ∨ (X.stack = X.env :: X.outer ∧ X.env.frame = some X.env.locals)
  exf : ∀ b ∈ X.ex, b ≠ X.env.locals ∧ ∀ x c, X.env.cells.lookup x = some c → c ≠ b
  bs : ∀ b o, X.base.get? b = some o → X.s₀.heap.get? b = some o ∧ X.H₀ b = none
  bsz : X.base.objs.size ≤ X.s₀.heap.objs.size
  noex : ∀ b o, X.base.get? b = some o → b ∉ X.ex
  exfs : ∀ b ∈ X.ex, b ∉ X.fs
  funs : X.s₀.heap.FunFrames X.base X.outer
  frf : ∀ b ∈ X.fs, X.H₀ b = none
structure Inv (X : Cx) (pins : List (Addr × Obj)) (σ : List (Option V)) (H : Hp) (s : Shared) : Prop where
  ok : X.Ok
  os : s.os = X.s₀.os
  bare : AllBare s.gens
  base : Un X.fs X.ex X.H₀ H X.s₀.heap s.heap
  loc : ∃ m, s.heap.Ns X.env.locals m ∧ ∀ (i : Nat) (x : Str) (v : V), X.N[i]? = some x → σ[i]? = some (some v) → Vis X.env.scope x → ∃ u, RelV v u ∧ Look X.env s.heap m x u
  cell : ∀ x c, X.env.cells.lookup x = some c → ∃ v, s.heap.IsCell c v
  free : H X.env.locals = none
  freeC : ∀ x c, X.env.cells.lookup x = some c → H c = none
  pin : ∀ p ∈ X.pn ++ pins, s.heap.get? p.1 = some p.2 ∧ H p.1 = none ∧ p.1 ≠ X.env.locals ∧ p.1 ∉ X.fs ∧ ∀ v, p.2.data ≠ .cell v
  hok : HOk X.prog X.w H s.heap
  len : σ.length = X.N.length
section
variable {X : Cx} {pins : List (Addr × Obj)} {σ : List (Option V)} {H H' : Hp} {s : Shared} {h' : Heap}
theorem Cx.Ok.nofr (ok : X.Ok) {b : Addr} {o : Obj} (e : X.base.get? b = some o) : b ∉ X.fs := fun hb => by
  have := (ok.funs.mem hb).1
  rw [e] at this; cases this
theorem Inv.bs (I : Inv X pins σ H s) : ∀ b o, X.base.get? b = some o → s.heap.get? b = some o ∧ H b = none := fun b o e =>
  ⟨I.base.keep b o (I.ok.bs b o e).1 (I.ok.bs b o e).2 (I.ok.nofr e) (I.ok.noex b o e), I.base.free b o (I.ok.bs b o e).1 (I.ok.bs b o e).2 (I.ok.noex b o e)⟩
theorem Inv.bk (I : Inv X pins σ H s) : ∀ b o, X.base.get? b = some o → s.heap.get? b = some o := fun b o e => (I.bs b o e).1
theorem Inv.mod (I : Inv X pins σ H s) : Mod X.K X.mg X.base := I.ok.mod
theorem Inv.kIn (I : Inv X pins σ H s) : X.K.In s.heap := I.ok.mod.kin.keeps I.bk
theorem Inv.lt (I : Inv X pins σ H s) : X.env.locals < s.heap.objs.size := let ⟨_, hn, _⟩ := I.loc; hn.lt
theorem Inv.sz (I : Inv X pins σ H s) : X.s₀.heap.objs.size ≤ s.heap.objs.size := Nat.le_trans I.ok.above (Nat.le_of_lt I.lt)
theorem Inv.nofs (I : Inv X pins σ H s) {a : Addr} (h : s.heap.objs.size ≤ a) : a ∉ X.fs := fun hb => by
  obtain ⟨_, o, ho, _⟩ := I.ok.funs.mem hb
  exact absurd (Nat.lt_of_lt_of_le (Heap.lt_size ho) (Nat.le_trans I.sz h)) (Nat.lt_irrefl _)
theorem Inv.cne (I : Inv X pins σ H s) : ∀ x c, X.env.cells.lookup x = some c → c ≠ X.env.locals := fun x c e z => by
  obtain ⟨v, o, ho, hd⟩ := I.cell x c e
  obtain ⟨m, ⟨o', es, ep, ho', hd', _⟩, _⟩ := I.loc
  rw [z, ho'] at ho; cases ho; rw [hd'] at hd; cases hd
theorem Inv.funs (I : Inv X pins σ H s) : s.heap.FunFrames X.base X.outer := by
  have all : ∀ (l : List Env), (∀ b ∈ frs l, b ∈ X.fs) → X.s₀.heap.FunFrames X.base l → s.heap.FunFrames X.base l := by
    intro l
    induction l with
    | nil => intro _ _; trivial
    | cons env r ih =>
      intro hs hl
      obtain ⟨hk, ⟨L, o, hf, hn, ho, hd⟩, hr⟩ := hl
      have hL : L ∈ X.fs := hs L (by unfold frs; rw [List.filterMap_cons, hf]; exact List.mem_cons_self)
      obtain ⟨sl, e⟩ := I.base.slot L o ho (I.ok.frf L hL) hL fun z => I.ok.exfs L z hL
      exact ⟨hk, ⟨L, _, hf, hn, e, hd⟩, ih (fun b hb => hs b (by unfold frs; rw [List.filterMap_cons, hf]; exact List.mem_cons_of_mem _ hb)) hr⟩
  exact all X.outer (fun _ hb => hb) I.ok.funs
theorem Inv.stack (I : Inv X pins σ H s) : s.heap.FunFrames X.base X.stack := by
  rcases I.ok.stk with e | ⟨e, hf⟩
  · rw [e]; exact I.funs
  · rw [e]
    obtain ⟨m, hn, _⟩ := I.loc
    refine .cons (by rw [I.ok.kind]; decide) hf hn ?_ I.funs
    exact Heap.get?_none_of_le (Nat.le_trans I.ok.bsz I.ok.above)
theorem Inv.stkSub (I : Inv X pins σ H s) : ∀ b ∈ frs X.stack, b ∈ X.env.locals :: X.fs := fun b hb => by
  rcases I.ok.stk with e | ⟨e, hf⟩
  · rw [e] at hb; exact List.mem_cons_of_mem _ hb
  · rw [e] at hb
    unfold frs at hb
    rw [List.filterMap_cons, hf] at hb
    exact hb
theorem Inv.stkFree (I : Inv X pins σ H s) : ∀ b ∈ frs X.stack, H b = none := fun b hb => by
  rcases List.mem_cons.mp (I.stkSub b hb) with e | hb
  · rw [e]; exact I.free
  · obtain ⟨_, o, ho, _⟩ := I.ok.funs.mem hb
    exact I.base.free b o ho (I.ok.frf b hb) fun z => I.ok.exfs b z hb
theorem Inv.step {g' : Array GenState} {t' : Nat} {d' : Drawn} {ch : List Addr} (I : Inv X pins σ H s)
    (hch : ∀ b ∈ ch, (b ∈ X.ex ∨ X.s₀.heap.get? b = none) ∧ b ≠ X.env.locals ∧ (∀ x c, X.env.cells.lookup x = some c → c ≠ b) ∧ ∀ p ∈ X.pn ++ pins, p.1 ≠ b)
    (keep : ∀ b o, b ≠ X.env.locals → b ∉ X.fs → b ∉ ch → s.heap.get? b = some o → H b = none → h'.get? b = some o)
    (slot : ∀ b o, b ≠ X.env.locals → b ∈ X.fs → b ∉ ch → s.heap.get? b = some o → H b = none → ∃ sl, h'.get? b = some { o with slots := sl }) (free : ∀ b o, b ∉ ch → s.heap.get? b = some o → H b = none → H' b = none)
    (there : ∀ b o, b ∉ ch → s.heap.get? b = some o → ∃ o', h'.get? b = some o')
    (tups : ∀ b xs, H b = some (.tup xs) → H' b = some (.tup xs)) (frzs : ∀ b o u, H b = some (.frz o u) → H' b = some (.frz o u)) (tbls : ∀ b ps, H b = some (.tbl ps) → ∃ more, H' b = some (.tbl (ps ++ more)))
    (ns : ∀ m, s.heap.Ns X.env.locals m → h'.Ns X.env.locals m) (hok : HOk X.prog X.w H' h') (hg : AllBare g') :
    Inv X pins σ H' { s with heap := h', gens := g', drawn := d', toks := t' } := by
  have neL : ∀ b o, X.s₀.heap.get? b = some o → b ≠ X.env.locals := fun b o e => Nat.ne_of_lt (Nat.lt_of_lt_of_le (Heap.lt_size e) I.ok.above)
  have neC : ∀ b o, X.s₀.heap.get? b = some o → b ∉ X.ex → b ∉ ch := fun b o e hx hb => by
    rcases (hch b hb).1 with z | z
    · exact hx z
    · rw [z] at e; cases e
  have cellK : ∀ x c, X.env.cells.lookup x = some c → ∀ v, s.heap.IsCell c v → h'.IsCell c v := fun x c e v ⟨o, ho, hd⟩ => by
    have nch : c ∉ ch := fun z => (hch c z).2.2.1 x c e rfl
    by_cases hc : c ∈ X.fs
    · obtain ⟨sl, q⟩ := slot c o (I.cne x c e) hc nch ho (I.freeC x c e)
      exact ⟨_, q, hd⟩
    · exact ⟨o, keep c o (I.cne x c e) hc nch ho (I.freeC x c e), hd⟩
  refine ⟨I.ok, I.os, hg, ⟨fun b o e n hb hx => ?_, fun b o e n hb hx => ?_, fun b o e n hx => ?_, fun b o e hx => ?_, fun b xs e => tups b xs (I.base.tups b xs e), fun b o xs e => frzs b o xs (I.base.frzs b o xs e), fun b ps e => ?_⟩, ?_, fun x c e => ?_, ?_, fun x c e => ?_, fun p hp => ?_, hok, I.len⟩
  · exact keep b o (neL b o e) hb (neC b o e hx) (I.base.keep b o e n hb hx) (I.base.free b o e n hx)
  · obtain ⟨sl, e1⟩ := I.base.slot b o e n hb hx
    obtain ⟨sl', e2⟩ := slot b _ (neL b o e) hb (neC b o e hx) e1 (I.base.free b o e n hx)
    exact ⟨sl', e2⟩
  · obtain ⟨o', e1⟩ := I.base.there b o e hx
    exact free b o' (neC b o e hx) e1 (I.base.free b o e n hx)
  · obtain ⟨o', e1⟩ := I.base.there b o e hx
    exact there b o' (neC b o e hx) e1
  · obtain ⟨m1, e1⟩ := I.base.tbls b ps e
    obtain ⟨m2, e2⟩ := tbls b _ e1
    exact ⟨m1 ++ m2, by rw [e2, Array.append_assoc]⟩
  · obtain ⟨m, hn, hl⟩ := I.loc
    refine ⟨m, ns m hn, fun i x v e1 e2 e3 => ?_⟩
    obtain ⟨u, r, l⟩ := hl i x v e1 e2 e3
    refine ⟨u, r, ?_⟩
    rcases l with l | ⟨k, c, e, z⟩
    · exact .inl l
    · exact .inr ⟨k, c, e, cellK x c e _ z⟩
  · obtain ⟨v, z⟩ := I.cell x c e
    exact ⟨v, cellK x c e v z⟩
  · obtain ⟨m, ⟨o, _, _, ho, _⟩, _⟩ := I.loc
    exact free _ o (fun z => (hch _ z).2.1 rfl) ho I.free
  · obtain ⟨v, o, ho, hd⟩ := I.cell x c e
    exact free c o (fun z => (hch c z).2.2.1 x c e rfl) ho (I.freeC x c e)
  · obtain ⟨e, n, ne, nf, d⟩ := I.pin p hp
    have nch : p.1 ∉ ch := fun z => (hch p.1 z).2.2.2 p hp rfl
    exact ⟨keep p.1 p.2 ne nf nch e n, free p.1 p.2 nch e n, ne, nf, d⟩
theorem Inv.un {t' : Nat} (I : Inv X pins σ H s) (u : Un X.fs [] H H' s.heap h') (hok : HOk X.prog X.w H' h') : Inv X pins σ H' { s with heap := h', toks := t' } := by
  obtain ⟨m, ⟨o, es, ep, ho, r⟩, _⟩ := id I.loc
  obtain ⟨sl, hL⟩ := u.any ho I.free (by simp)
  exact I.step (g' := s.gens) (d' := s.drawn) (ch := []) (fun _ z => nomatch z) (fun b o _ hb _ e n => u.keep b o e n hb (by simp)) (fun b o _ hb _ e n => u.slot b o e n hb (by simp)) (fun b o _ e n => u.free b o e n (by simp)) (fun b o _ e => u.there b o e (by simp)) u.tups u.frzs u.tbls (fun m' hm => by
    obtain ⟨o', es', ep', ho', r'⟩ := hm
    rw [ho] at ho'; cases ho'
    exact ⟨_, es', ep', hL, r'⟩) hok I.bare
theorem Inv.call {g' : Array GenState} {t' : Nat} {d' : Drawn} {ch : List Addr} (I : Inv X pins σ H s) (u : Un (frs X.stack) ch H H' s.heap h') (hok : HOk X.prog X.w H' h') (hg : AllBare g')
    (hch : ∀ b ∈ ch, (b ∈ X.ex ∨ X.s₀.heap.get? b = none) ∧ b ≠ X.env.locals ∧ (∀ x c, X.env.cells.lookup x = some c → c ≠ b) ∧ ∀ p ∈ X.pn ++ pins, p.1 ≠ b) :
    Inv X pins σ H' { s with heap := h', gens := g', drawn := d', toks := t' } := by
  obtain ⟨m, ⟨o, es, ep, ho, r⟩, _⟩ := id I.loc
  obtain ⟨sl, hL⟩ := u.any ho I.free fun z => (hch _ z).2.1 rfl
  exact I.step (ch := ch) hch (fun b o hL hb hc e n => u.keep b o e n (fun z => (List.mem_cons.mp (I.stkSub b z)).elim hL hb) hc) (fun b o _ _ hc e n => u.any e n hc) (fun b o hc e n => u.free b o e n hc) (fun b o hc e => u.there b o e hc) u.tups u.frzs u.tbls (fun m' hm => by
    obtain ⟨o', es', ep', ho', r'⟩ := hm
    rw [ho] at ho'; cases ho'
    exact ⟨_, es', ep', hL, r'⟩) hok hg
theorem Inv.turned {t' : Nat} {it : Addr} (I : Inv X pins σ H s) (k : ∀ b o, b ≠ it → s.heap.get? b = some o → h'.get? b = some o) (hn : H it = none) (hL : it ≠ X.env.locals)
    (h1 : it ∈ X.ex ∨ X.s₀.heap.get? it = none) (h2 : ∀ x c, X.env.cells.lookup x = some c → c ≠ it) (h3 : ∀ p ∈ X.pn ++ pins, p.1 ≠ it) : Inv X pins σ H { s with heap := h', toks := t' } := by
  have nit : ∀ b u, H b = some u → b ≠ it := fun b u e z => by rw [z, hn] at e; cases e
  refine I.step (g' := s.gens) (d' := s.drawn) (ch := [it]) (fun b hb => ?_) (fun b o _ _ hc e _ => k b o (fun z => hc (by simp [z])) e) (fun b o _ _ hc e _ => ⟨o.slots, k b o (fun z => hc (by simp [z])) e⟩) (fun _ _ _ _ n => n)
    (fun b o hc e => ⟨o, k b o (fun z => hc (by simp [z])) e⟩) (fun _ _ e => e) (fun _ _ _ e => e) (fun b ps e => ⟨#[], by rw [e]; simp⟩) (fun m hm => ?_) (fun b u e => ?_) I.bare
  · have e : b = it := by simpa using hb
    subst e
    exact ⟨h1, hL, h2, h3⟩
  · obtain ⟨o, es, ep, ho, r⟩ := hm
    exact ⟨o, es, ep, k _ o (Ne.symm hL) ho, r⟩
  · refine (I.hok b u e).stay (fun c v hc q => k c v ?_ q) (fun _ q => q) fun _ _ q => q
    rcases hc with z | z
    · rw [z]; exact nit b u e
    · exact nit c _ z
theorem Inv.tok (I : Inv X pins σ H s) (t : Nat) : Inv X pins σ H { s with toks := t } := I.un (h' := s.heap) (t' := t) Un.refl I.hok
theorem Inv.kept {t' : Nat} (I : Inv X pins σ H s) (k : ∀ b u, s.heap.get? b = some u → h'.get? b = some u) : Inv X pins σ H { s with heap := h', toks := t' } := I.un (Un.kept k) (I.hok.kept k)
theorem Inv.laid {a : Addr} {o : HO} {t' : Nat} (I : Inv X pins σ H s) (k : ∀ b u, s.heap.get? b = some u → h'.get? b = some u) (hp : s.heap.objs.size ≤ a) (new : ObjOk X.prog X.w (upd H a o) h' a o) :
    Inv X pins σ (upd H a o) { s with heap := h', toks := t' } := I.un (Un.laid k hp (I.hok.fresh hp)) (I.hok.laid k hp new)
theorem Inv.write {x e : Addr} {o : HO} {t' : Nat} (I : Inv X pins σ H s) (mu : Mut (H x)) (he : e = x ∨ H e = some (.own x)) (k : ∀ b u, b ≠ e → s.heap.get? b = some u → h'.get? b = some u) (heo : ∃ u, h'.get? e = some u)
    (new : ObjOk X.prog X.w (upd H x o) h' x o) : Inv X pins σ (upd H x o) { s with heap := h', toks := t' } := I.un (Un.write mu he k heo) (I.hok.write mu he k heo new)
theorem Inv.pins_of {pins' : List (Addr × Obj)} (I : Inv X pins σ H s) (h : ∀ p ∈ pins', s.heap.get? p.1 = some p.2 ∧ H p.1 = none ∧ p.1 ≠ X.env.locals ∧ p.1 ∉ X.fs ∧ ∀ v, p.2.data ≠ .cell v) : Inv X pins' σ H s :=
  ⟨I.ok, I.os, I.bare, I.base, I.loc, I.cell, I.free, I.freeC, fun p hp => (List.mem_append.mp hp).elim (fun z => I.pin p (List.mem_append_left _ z)) (h p), I.hok, I.len⟩
theorem nodup_ix {N : List Str} (hN : N.Nodup) {i j : Nat} {x : Str} (a : N[i]? = some x) (b : N[j]? = some x) : i = j := by
  obtain ⟨h1, e1⟩ := List.getElem?_eq_some_iff.mp a
  obtain ⟨h2, e2⟩ := List.getElem?_eq_some_iff.mp b
  exact (List.getElem_inj hN).mp (e1.trans e2.symm)
theorem store_ok2 {M : Model} {A : Around} {E : Value → Shared → Prop} {i : Nat} {x : Str} {v : V} {u : Value} {Q : Unit → Shared → Prop} (I : Inv X pins σ H s) (hN : X.N.Nodup) (hi : X.N[i]? = some x) (hx : Loc X.env.scope x) (r : RelV v u)
    (h : ∀ s', Inv X pins (σ.set i (some v)) H s' → (∃ a, Heap.SameBut a s.heap s'.heap ∧ (a = X.env.locals ∨ X.env.cells.lookup x = some a)) → Q () s') (hf : X.fn x = true ∨ X.env.scope.names.lookup x = some .local := by first | exact .inl rfl | exact .inr rfl | assumption) : wpAny M A (storeName X.env x u) Q E s := by
  obtain ⟨m, hn, hl⟩ := id I.loc
  have hcls : (X.env.scope.kind == .class || (X.env.scope.kind == .module && X.env.locals != X.env.globals)) = false := by rw [I.ok.kind]; rfl
  have hiσ : i < σ.length := by rw [I.len]; exact (List.getElem?_eq_some_iff.mp hi).1
  have cne := I.cne
  have tracked : ∀ {a : Addr} {h' : Heap}, (∃ o, s.heap.get? a = some o ∧ H a = none) → Heap.SameBut a s.heap h' → HOk X.prog X.w H h' := fun {a h'} ha hs b ob e => by
    obtain ⟨_, _, hfree⟩ := ha
    refine (I.hok b ob e).stay (fun c w' hc q => (hs.2 c ?_).trans q) (fun _ q => q) fun _ _ q => q
    rintro rfl
    rcases hc with rfl | hc
    · rw [hfree] at e; cases e
    · rw [hfree] at hc; cases hc
  rcases hx with hk | hk
  · refine wpAny_storeName_local hk hn (fun h' hn' hs => ?_) hcls
    obtain ⟨oL, _, _, hoL, _⟩ := id hn
    refine h _ ⟨I.ok, I.os, I.bare, ⟨fun b o e n hb hx => ?_, fun b o e n hb hx => ?_, I.base.free, fun b o e hx => ?_, I.base.tups, I.base.frzs, I.base.tbls⟩, ⟨_, hn', fun j y v' e1 e2 e3 => ?_⟩, fun y c e => ?_, I.free, I.freeC, fun p hp => ?_, tracked ⟨oL, hoL, I.free⟩ hs, by simpa using I.len⟩ ⟨_, hs, .inl rfl⟩
    · exact (hs.2 b (Nat.ne_of_lt (Nat.lt_of_lt_of_le (Heap.lt_size e) I.ok.above))).trans (I.base.keep b o e n hb hx)
    · obtain ⟨sl, e1⟩ := I.base.slot b o e n hb hx
      exact ⟨sl, (hs.2 b (Nat.ne_of_lt (Nat.lt_of_lt_of_le (Heap.lt_size e) I.ok.above))).trans e1⟩
    · obtain ⟨o', e1⟩ := I.base.there b o e hx
      exact ⟨o', (hs.2 b (Nat.ne_of_lt (Nat.lt_of_lt_of_le (Heap.lt_size e) I.ok.above))).trans e1⟩
    · by_cases hj : j = i
      · subst hj
        rw [hi] at e1; cases e1
        rw [List.getElem?_set_self hiσ] at e2
        cases e2
        exact ⟨u, r, .inl ⟨hk, by simp⟩⟩
      · rw [List.getElem?_set_ne (Ne.symm hj)] at e2
        obtain ⟨u', r', q⟩ := hl j y v' e1 e2 e3
        refine ⟨u', r', ?_⟩
        rcases q with ⟨k, e⟩ | ⟨k, c, e, z⟩
        · refine .inl ⟨k, ?_⟩
          have : y ≠ x := fun e => hj (nodup_ix hN e1 (e ▸ hi))
          simp [this, e]
        · exact .inr ⟨k, c, e, z.sameBut hs (cne y c e)⟩
    · obtain ⟨w', z⟩ := I.cell y c e
      exact ⟨w', z.sameBut hs (cne y c e)⟩
    · obtain ⟨e, n, ne, nf, d⟩ := I.pin p hp
      exact ⟨(hs.2 p.1 ne).trans e, n, ne, nf, d⟩
  · have hfn : X.fn x = true := by
      rcases hf with z | z
      · exact z
      · rw [z] at hk; cases hk
    obtain ⟨c, hc⟩ := I.ok.has x (.inl hk)
    obtain ⟨w', z⟩ := I.cell x c hc
    refine wpAny_storeName_cell I.ok.kind hk hc z (fun h' hc' hs => ?_)
    obtain ⟨oc, hoc, hocd⟩ := id z
    refine h { s with heap := h' } ⟨I.ok, I.os, I.bare, ⟨fun b o e n hb hx => ?_, fun b o e n hb hx => ?_, I.base.free, fun b o e hx => ?_, I.base.tups, I.base.frzs, I.base.tbls⟩, ⟨m, hn.sameBut hs (Ne.symm (cne x c hc)), fun j y v' e1 e2 e3 => ?_⟩, fun y c' e => ?_, I.free, I.freeC, fun p hp => ?_, tracked ⟨oc, hoc, I.freeC x c hc⟩ hs, by simpa using I.len⟩ ⟨c, hs, .inr hc⟩
    · exact (hs.2 b (Nat.ne_of_lt (Nat.lt_of_lt_of_le (Heap.lt_size e) (I.ok.cab x c hfn hc)))).trans (I.base.keep b o e n hb hx)
    · obtain ⟨sl, e1⟩ := I.base.slot b o e n hb hx
      exact ⟨sl, (hs.2 b (Nat.ne_of_lt (Nat.lt_of_lt_of_le (Heap.lt_size e) (I.ok.cab x c hfn hc)))).trans e1⟩
    · obtain ⟨o', e1⟩ := I.base.there b o e hx
      exact ⟨o', (hs.2 b (Nat.ne_of_lt (Nat.lt_of_lt_of_le (Heap.lt_size e) (I.ok.cab x c hfn hc)))).trans e1⟩
    · by_cases hj : j = i
      · subst hj
        rw [hi] at e1; cases e1
        rw [List.getElem?_set_self hiσ] at e2
        cases e2
        exact ⟨u, r, .inr ⟨.inl hk, c, hc, hc'⟩⟩
      · rw [List.getElem?_set_ne (Ne.symm hj)] at e2
        obtain ⟨u', r', q⟩ := hl j y v' e1 e2 e3
        refine ⟨u', r', ?_⟩
        rcases q with q | ⟨k, c', e, z'⟩
        · exact .inl q
        · refine .inr ⟨k, c', e, z'.sameBut hs ?_⟩
          rintro rfl
          exact hj (nodup_ix hN e1 (I.ok.inj _ _ _ e hc ▸ hi))
    · by_cases hcc : c' = c
      · subst hcc; exact ⟨_, hc'⟩
      · obtain ⟨w2, z2⟩ := I.cell y c' e
        exact ⟨w2, z2.sameBut hs hcc⟩
    · obtain ⟨e, n, ne, nf, d⟩ := I.pin p hp
      refine ⟨(hs.2 p.1 ?_).trans e, n, ne, nf, d⟩
      intro q
      rw [q, hoc] at e
      have q' : oc = p.2 := Option.some.inj e
      exact d w' (by rw [← q']; exact hocd)
theorem store_ok {M : Model} {A : Around} {E : Value → Shared → Prop} {i : Nat} {x : Str} {v : V} {u : Value} {Q : Unit → Shared → Prop} (I : Inv X pins σ H s) (hN : X.N.Nodup) (hi : X.N[i]? = some x) (hx : Loc X.env.scope x) (r : RelV v u)
    (h : ∀ s', Inv X pins (σ.set i (some v)) H s' → Q () s') (hf : X.fn x = true ∨ X.env.scope.names.lookup x = some .local := by first | exact .inl rfl | exact .inr rfl | assumption) : wpAny M A (storeName X.env x u) Q E s :=
  store_ok2 I hN hi hx r (fun s' I' _ => h s' I') hf
theorem Inv.call' {s' : Shared} {ch : List Addr} (I : Inv X pins σ H s) (ho : s'.os = s.os) (u : Un (frs X.stack) ch H H' s.heap s'.heap) (hok : HOk X.prog X.w H' s'.heap) (hg : AllBare s'.gens)
    (hch : ∀ b ∈ ch, (b ∈ X.ex ∨ X.s₀.heap.get? b = none) ∧ b ≠ X.env.locals ∧ (∀ x c, X.env.cells.lookup x = some c → c ≠ b) ∧ ∀ p ∈ X.pn ++ pins, p.1 ≠ b) : Inv X pins σ H' s' := by
  obtain ⟨h', g', d', t', o'⟩ := s'
  have e : o' = s.os := ho
  subst e
  exact I.call (g' := g') (t' := t') (d' := d') u hok hg hch
end
abbrev XK := Value → Option Addr → Hp → Prop
abbrev St := List (Option V)
abbrev VK := V → Hp → Prop
abbrev TE := St → Hp → VK → Prop
abbrev TT := St → Hp → (Bool → Hp → Prop) → Prop
abbrev TA := St → Hp → (List V → Hp → Prop) → Prop
structure Ends where
  nx : St → Hp → Prop
  rt : VK
  bk : St → Hp → Prop := fun _ _ => False
  ct : St → Hp → Prop := fun _ _ => False
abbrev TS := Ends → St → Hp → Prop
def EP (X : Cx) (pins : List (Addr × Obj)) (σ : St) (Q : VK) (u : Value) (s' : Shared) : Prop := ∃ v H', Inv X pins σ H' s' ∧ RelV v u ∧ Q v H'
def TP (X : Cx) (pins : List (Addr × Obj)) (σ : St) (Q : Bool → Hp → Prop) (b : Bool) (s' : Shared) : Prop := ∃ H', Inv X pins σ H' s' ∧ Q b H'
def AP (X : Cx) (pins : List (Addr × Obj)) (σ : St) (Q : List V → Hp → Prop) (us : List Value) (s' : Shared) : Prop := ∃ vs H', Inv X pins σ H' s' ∧ Vals vs us ∧ Q vs H'
def SP (X : Cx) (pins : List (Addr × Obj)) (D : Ends) (f : Flow) (s' : Shared) : Prop :=
  match f with
  | .next => ∃ σ' H', Inv X pins σ' H' s' ∧ D.nx σ' H'
  | .brk => ∃ σ' H', Inv X pins σ' H' s' ∧ D.bk σ' H'
  | .cont => ∃ σ' H', Inv X pins σ' H' s' ∧ D.ct σ' H'
  | .ret u => ∃ v σ' H', Inv X pins σ' H' s' ∧ RelV v u ∧ D.rt v H'
def PE (X : Cx) (e : Expr) (t : TE) : Prop :=
  ∀ (pins : List (Addr × Obj)) (s : Shared) (σ : St) (H : Hp) (Q : VK), Inv X pins σ H s → t σ H Q → wpAny (model X.prog X.w) X.A (eval e X.env) (EP X pins σ Q) X.xe s
def PT (X : Cx) (e : Expr) (t : TT) : Prop :=
  ∀ (pins : List (Addr × Obj)) (s : Shared) (σ : St) (H : Hp) (Q : Bool → Hp → Prop), Inv X pins σ H s → t σ H Q → wpAny (model X.prog X.w) X.A (isTrue e X.env (eval e X.env)) (TP X pins σ Q) X.xe s
def PW (X : Cx) (e : Expr) (t : TT) : Prop :=
  ∀ (whole : Sem Value) (pins : List (Addr × Obj)) (s : Shared) (σ : St) (H : Hp) (Q : Bool → Hp → Prop), Inv X pins σ H s → t σ H Q → wpAny (model X.prog X.w) X.A (isTrue e X.env whole) (TP X pins σ Q) X.xe s
theorem PW.pt {X : Cx} {e : Expr} {t : TT} (h : PW X e t) : PT X e t := h _
def PA (X : Cx) (es : List Expr) (t : TA) : Prop :=
  ∀ (pos : Pos) (pins : List (Addr × Obj)) (s : Shared) (σ : St) (H : Hp) (Q : List V → Hp → Prop), Inv X pins σ H s → t σ H Q → wpAny (model X.prog X.w) X.A (spliced (backTo pos (starEach es X.env))) (AP X pins σ Q) X.xe s
def PS (X : Cx) (st : Stmt) (t : TS) : Prop :=
  ∀ (pins : List (Addr × Obj)) (s : Shared) (σ : St) (H : Hp) (D : Ends), Inv X pins σ H s → t D σ H → wpAny (model X.prog X.w) X.A (exec st X.env) (SP X pins D) X.xe s
def PSs (X : Cx) (st : List Stmt) (t : TS) : Prop :=
  ∀ (pins : List (Addr × Obj)) (s : Shared) (σ : St) (H : Hp) (D : Ends), Inv X pins σ H s → t D σ H → wpAny (model X.prog X.w) X.A (execs st X.env) (SP X pins D) X.xe s
theorem thn {α : Type} {t : Sem α} {Q Q' : α → Shared → Prop} {M : Model} {A : Around} {E : Value → Shared → Prop} {s : Shared} (h : wpAny M A t Q E s) (hQ : ∀ a s, Q a s → Q' a s) : wpAny M A t Q' E s := wpAny_mono h hQ fun _ _ x => x
end L2
namespace L2
open PySem PySem.Spec PyProof.Rows
section
variable {X : Cx}
theorem bin {a b : Expr} {ta tb : TE} (ha : PE X a ta) (hb : PE X b tb) {pins : List (Addr × Obj)} {s : Shared} {σ : St} {H : Hp} {R : V → V → Hp → Prop} (I : Inv X pins σ H s) (h : ta σ H fun x H1 => tb σ H1 fun y H2 => R x y H2)
    {α : Type} {Q : α → Shared → Prop} {f : Value → Value → Sem α}
    (hf : ∀ v u s2 x y H2, Inv X pins σ H2 s2 → RelV x v → RelV y u → R x y H2 → wpAny (model X.prog X.w) X.A (f v u) Q X.xe s2) :
    wpAny (model X.prog X.w) X.A (eval a X.env) (fun v s₁ => wpAny (model X.prog X.w) X.A (eval b X.env) (fun u s₂ => wpAny (model X.prog X.w) X.A (f v u) Q X.xe s₂) X.xe s₁) X.xe s := by
  refine thn (ha pins s σ H _ I h) fun v s1 ⟨x, H1, I1, r1, q1⟩ => ?_
  refine thn (hb pins s1 σ H1 _ I1 q1) fun u s2 ⟨y, H2, I2, r2, q2⟩ => ?_
  exact hf v u s2 x y H2 I2 r1 r2 q2
def tVar (i : Nat) : TE := fun σ H Q => ∃ v, σ[i]? = some (some v) ∧ Q v H
def tC (v : V) : TE := fun _ H Q => Q v H
theorem pe_var {i : Nat} {x : Str} {pos : Pos} (hN : X.N[i]? = some x) (hv : Vis X.env.scope x) (hd : (x == ("__debug__" : Str)) = false := by decide) (hcd : (x == ("__classdict__" : Str)) = false := by decide) : PE X (.Name x pos) (tVar i) := by
  intro pins s σ H Q I h
  obtain ⟨v, e, h⟩ := h
  obtain ⟨m, hn, hl⟩ := I.loc
  obtain ⟨u, r, l⟩ := hl i x v hN e hv
  have fin : EP X pins σ Q u s := ⟨v, H, I, r, h⟩
  rcases l with ⟨hk, hm⟩ | ⟨hk, c, hc, hcell⟩
  · exact wpAny_Name (wpAny_loadName_local I.ok.kind hk hn hm fin) hd
  · rcases hk with hk | hk
    · exact wpAny_Name (wpAny_loadName_cell I.ok.kind hk hc hcell fin) hd
    · exact wpAny_Name (wpAny_loadName_free I.ok.kind hk hc hcell fin hcd) hd
theorem pe_int {i j pos} : PE X (.Constant (.int i) j pos) (tC (.int i)) := fun _ _ _ H _ I h => wpAny_Constant_int ⟨.int i, H, I.tok _, ⟨_, rfl⟩, h⟩
theorem pe_bl {b j pos} : PE X (.Constant (.bool b) j pos) (tC (.bl b)) := fun _ _ _ H _ I h => Constant_bool ⟨.bl b, H, I, rfl, h⟩
theorem pe_non {j pos} : PE X (.Constant .none j pos) (tC .non) := fun _ _ _ H _ I h => Constant_none ⟨.non, H, I, rfl, h⟩
theorem pe_str {x j pos} : PE X (.Constant (.str x) j pos) (tC (.str x)) := fun _ _ _ H _ I h => Calls.Constant_str ⟨.str x, H, I.tok _, ⟨_, rfl⟩, h⟩
def Gl (X : Cx) (x : Str) : Prop := X.env.kindOf x = some .globalImplicit
theorem ld_glob {E : Value → Shared → Prop} {pins : List (Addr × Obj)} {s : Shared} {σ : St} {H : Hp} {x : Str} {u : Value} {pos : Pos} {Q : Value → Shared → Prop} (I : Inv X pins σ H s) (hg : Gl X x) (hm : X.mg x = some u) (h : Q u s)
    (hd : (x == ("__debug__" : Str)) = false := by decide) : wpAny (model X.prog X.w) X.A (eval (.Name x pos) X.env) Q E s :=
  Calls.Name_function_global I.ok.kind hg (Calls.loadGlobal_global (by rw [I.ok.glob]; exact I.mod.glob.keeps I.bk) hm h) hd
theorem ld_blt {E : Value → Shared → Prop} {pins : List (Addr × Obj)} {s : Shared} {σ : St} {H : Hp} {x : Str} {u : Value} {pos : Pos} {Q : Value → Shared → Prop} (I : Inv X pins σ H s) (hg : Gl X x) (hm : X.mg x = none) (hv : bootBuiltins x = some u) (h : Q u s)
    (hn : x ≠ "__name__" := by decide) (hd : (x == ("__debug__" : Str)) = false := by decide) : wpAny (model X.prog X.w) X.A (eval (.Name x pos) X.env) Q E s := by
  obtain ⟨mb, h1, h2⟩ := I.mod.blt
  exact Calls.Name_function_global I.ok.kind hg (Calls.loadGlobal_builtin (by rw [I.ok.glob]; exact I.mod.glob.keeps I.bk) hm (by rw [I.ok.blt]; exact h1.keeps I.bk) ((h2 x hn).trans hv) h) hd
theorem pe_glob {x : Str} {v : V} {u : Value} {pos : Pos} (hg : Gl X x) (hm : X.mg x = some u) (r : RelV v u) (hd : (x == ("__debug__" : Str)) = false := by decide) : PE X (.Name x pos) (tC v) :=
  fun _ _ _ H _ I h => ld_glob I hg hm ⟨v, H, I, r, h⟩ hd
theorem pe_bltn {x : Str} {v : V} {u : Value} {pos : Pos} (hg : Gl X x) (hm : X.mg x = none) (hv : bootBuiltins x = some u) (r : RelV v u) (hn : x ≠ "__name__" := by decide) (hd : (x == ("__debug__" : Str)) = false := by decide) : PE X (.Name x pos) (tC v) :=
  fun _ _ _ H _ I h => ld_blt I hg hm hv ⟨v, H, I, r, h⟩ hn hd
variable {a b : Expr} {ta tb : TE} {pos : Pos}
def PC (X : Cx) (op : CmpOp) (a b : Expr) (t : TE) : Prop :=
  ∀ (pins : List (Addr × Obj)) (s : Shared) (σ : St) (H : Hp) (Q : VK), Inv X pins σ H s → t σ H Q →
    wpAny (model X.prog X.w) X.A (eval a X.env) (fun v s₁ => wpAny (model X.prog X.w) X.A (eval b X.env) (fun u s₂ => wpAny (model X.prog X.w) X.A (compareOp op v u) (EP X pins σ Q) X.xe s₂) X.xe s₁) X.xe s
def tB (t : TE) : TT := fun σ H Q => t σ H fun x H1 => ∃ c, x = .bl c ∧ Q c H1
theorem pt_cmp {op : CmpOp} {t : TE} (h : PC X op a b t) (h1 : behindInMarks op b = false := by first | exact nobehind _ (by decide) (by decide) | rfl) : PT X (.Compare a [op] [b] pos) (tB t) := by
  intro pins s σ H Q I hw
  refine wpAny_isTrue_Compare1 (thn (h pins s σ H _ I hw) fun v s1 h1 => thn h1 fun u s2 h2 => thn h2 fun c s3 ⟨x, H1, I1, r1, q1⟩ => ?_) h1
  obtain ⟨d, rfl, q⟩ := q1
  cases r1
  exact wpAny_truthy_bool ⟨H1, I1, q⟩
theorem pt_val {e : Expr} {t : TE} (h : PE X e t) (he : ∀ whole, isTrue e X.env whole = (do let v ← whole; standAt e.pos; holding [v] (truthy v)) := by intro _; rfl) : PT X e (tB t) := by
  intro pins s σ H Q I hw
  refine isTrue_plain (thn (h pins s σ H _ I hw) fun v s1 ⟨x, H1, I1, r1, q1⟩ => ?_) (he _)
  obtain ⟨d, rfl, q⟩ := q1
  cases r1
  exact wpAny_truthy_bool ⟨H1, I1, q⟩
variable {tA tB' : TT} {rest : List Expr}
def tOr (t u : TT) : TT := fun σ H Q => t σ H fun c H1 => if c = true then Q true H1 else u σ H1 Q
def tNot (t : TT) : TT := fun σ H Q => t σ H fun c H1 => Q (!c) H1
theorem pw_or1 (ha : PT X a tA) : PW X (.BoolOp .Or [a] pos) tA := by
  intro wh pins s σ H Q I h
  refine isTrue_or (thn (ha pins s σ H Q I h) fun c s1 e => ?_)
  cases c with
  | false => exact isTrue_or_nil e
  | true => exact e
theorem pw_or (ha : PT X a tA) (hb : PW X (.BoolOp .Or (b :: rest) pos) tB') : PW X (.BoolOp .Or (a :: b :: rest) pos) (tOr tA tB') := by
  intro wh pins s σ H Q I h
  refine isTrue_or (thn (ha pins s σ H _ I h) fun c s1 ⟨H1, I1, q1⟩ => ?_)
  cases c with
  | true => exact ⟨H1, I1, q1⟩
  | false => exact hb wh pins s1 σ H1 Q I1 q1
theorem pt_not (ha : PT X a tA) : PT X (.UnaryOp .Not a pos) (tNot tA) := by
  intro pins s σ H Q I h
  exact isTrue_not (ha pins s σ H (fun c H1 => Q (!c) H1) I h)
def tAndV (ta tb : TE) : TE := fun σ H Q => ta σ H fun x H1 => ∃ c, x = .bl c ∧ if c = true then tb σ H1 Q else Q (.bl false) H1
def tNotV (ta : TE) : TE := fun σ H Q => ta σ H fun x H1 => ∃ c, x = .bl c ∧ Q (.bl (!c)) H1
theorem pe_one {op} {t : TE} (h : PE X a t) : PE X (.BoolOp op [a] pos) t := fun pins s σ H Q I hw => BoolOp_one (h pins s σ H Q I hw)
theorem pe_and (ha : PE X a ta) (hb : PE X (.BoolOp .And (b :: rest) pos) tb) : PE X (.BoolOp .And (a :: b :: rest) pos) (tAndV ta tb) := by
  intro pins s σ H Q I h
  refine BoolOp_and (thn (ha pins s σ H _ I h) fun v s1 ⟨x, H1, I1, r1, q1⟩ => ?_)
  obtain ⟨c, rfl, q1⟩ := q1
  cases r1
  refine wpAny_truthy_bool ?_
  cases c with
  | true => exact hb pins s1 σ H1 Q I1 q1
  | false => exact ⟨.bl false, H1, I1, rfl, q1⟩
theorem pe_not (ha : PE X a ta) : PE X (.UnaryOp .Not a pos) (tNotV ta) := by
  intro pins s σ H Q I h
  refine UnaryOp_ (thn (ha pins s σ H _ I h) fun v s1 ⟨x, H1, I1, r1, q1⟩ => ?_)
  obtain ⟨c, rfl, q1⟩ := q1
  cases r1
  exact not_of (wpAny_truthy_bool ⟨.bl (!c), H1, I1, rfl, q1⟩)
def tIf (t : TT) (ta tb : TE) : TE := fun σ H Q => t σ H fun c H1 => if c = true then ta σ H1 Q else tb σ H1 Q
theorem pe_ifExp {c : Expr} (hc : PT X c tA) (ha : PE X a ta) (hb : PE X b tb) : PE X (.IfExp c a b pos) (tIf tA ta tb) := by
  intro pins s σ H Q I h
  refine wpAny_IfExp (thn (hc pins s σ H _ I h) fun d s1 ⟨H1, I1, q1⟩ => ?_)
  cases d with
  | true => exact ha pins s1 σ H1 Q I1 q1
  | false => exact hb pins s1 σ H1 Q I1 q1
end
end L2
namespace L2
open PySem PySem.Spec PyProof.Rows
def SqL (K : PySem.W.Frag) (H : Hp) (a : Addr) (xs : List V) : Prop :=
  Rd H a (.lst xs) ∨
    ∃ (o : Obj) (its : Array Value) (n : Nat), K.lookup a = some o ∧ o.cls = .type "list" ∧ o.dict = none ∧ o.data = .seq its n ∧ its.size ≤ sizeLine ∧ Vals xs its.toList
def SqT (K : PySem.W.Frag) (H : Hp) (a : Addr) (xs : List V) : Prop :=
  Rd H a (.tup xs) ∨
    ∃ (o : Obj) (its : Array Value) (n : Nat), K.lookup a = some o ∧ o.cls = .type "tuple" ∧ o.data = .seq its n ∧ its.size ≤ sizeLine ∧ Vals xs its.toList
def absV : Value → Option V
  | .none => some .non
  | .bool b => some (.bl b)
  | .int i _ => some (.int i)
  | .str x _ => some (.str x)
  | .bytes b _ => some (.byt b)
  | .float b _ => some (.flt b)
  | .ref a => some (.ref a)
  | .type n => some (.ty n)
  | _ => none
theorem RelV.abs {x : V} {u : Value} (r : RelV x u) : absV u = some x := by
  cases x with
  | non => cases r; rfl
  | bl _ => cases r; rfl
  | int _ => obtain ⟨t, rfl⟩ := r; rfl
  | str _ => obtain ⟨t, rfl⟩ := r; rfl
  | byt _ => obtain ⟨t, rfl⟩ := r; rfl
  | flt _ => obtain ⟨t, rfl⟩ := r; rfl
  | ref _ => cases r; rfl
  | ty _ => cases r; rfl
theorem RelV.inj {x y : V} {u : Value} (r : RelV x u) (q : RelV y u) : x = y := Option.some.inj (r.abs.symm.trans q.abs)
theorem Vals.inj : ∀ {xs ys : List V} {us : List Value}, Vals xs us → Vals ys us → xs = ys
  | _, _, _, .nil, .nil => rfl
  | _, _, _, .cons r t, .cons r' t' => by rw [r.inj r', Vals.inj t t']
section
variable {X : Cx} {pins : List (Addr × Obj)} {σ : St} {H : Hp} {s : Shared} {a : Addr} {xs ys : List V}
theorem Inv.list (I : Inv X pins σ H s) (h : SqL X.K H a xs) : ∃ its : List Value, Vals xs its ∧ PlainL s.heap a its.toArray ∧ xs.length ≤ sizeLine := by
  rcases h with h | ⟨o, its, n, hk, hc, hd, hs, hz, r⟩
  · obtain ⟨z, its, n, r, e⟩ := h.ok I.hok
    exact ⟨its, r, ⟨_, n, e, rfl, rfl, rfl⟩, z⟩
  · refine ⟨its.toList, r, ⟨o, n, I.kIn a o hk, hc, hd, by simpa using hs⟩, ?_⟩
    have e := r.length
    simp only [Array.length_toList] at e
    omega
theorem Inv.tuple (I : Inv X pins σ H s) (h : SqT X.K H a xs) : ∃ its : List Value, Vals xs its ∧ IsTup s.heap a its.toArray ∧ xs.length ≤ sizeLine := by
  rcases h with h | ⟨o, its, n, hk, hc, hs, hz, r⟩
  · obtain ⟨z, its, r, p⟩ := h.ok I.hok
    exact ⟨its, r, p, z⟩
  · refine ⟨its.toList, r, ⟨o, I.kIn a o hk, hc, n, by simpa using hs⟩, ?_⟩
    have e := r.length
    simp only [Array.length_toList] at e
    omega
theorem Inv.list_inj (I : Inv X pins σ H s) (h : SqL X.K H a xs) (h' : SqL X.K H a ys) : xs = ys := by
  obtain ⟨its, r, ⟨o, n, e, _, _, d⟩, _⟩ := I.list h
  obtain ⟨its', r', ⟨o', n', e', _, _, d'⟩, _⟩ := I.list h'
  rw [e] at e'; cases e'
  rw [d] at d'
  injection d' with d1 _
  have : its = its' := by simpa using congrArg Array.toList d1
  subst this
  exact r.inj r'
theorem Inv.tuple_inj (I : Inv X pins σ H s) (h : SqT X.K H a xs) (h' : SqT X.K H a ys) : xs = ys := by
  obtain ⟨its, r, ⟨o, e, _, n, d⟩, _⟩ := I.tuple h
  obtain ⟨its', r', ⟨o', e', _, n', d'⟩, _⟩ := I.tuple h'
  rw [e] at e'; cases e'
  rw [d] at d'
  injection d' with d1 _
  have : its = its' := by simpa using congrArg Array.toList d1
  subst this
  exact r.inj r'
end
abbrev Cx.wish (X : Cx) (E : Value → Shared → Prop) : Cx := { X with xe := E }
abbrev Cx.nox (X : Cx) : Cx := X.wish fun _ _ => False
theorem Cx.Ok.wish {X : Cx} (ok : X.Ok) (E : Value → Shared → Prop) : (X.wish E).Ok :=
  ⟨ok.mod, ok.kind, ok.glob, ok.blt, ok.above, ok.inj, ok.has, ok.cab, ok.hd, ok.frames, ok.stk, ok.exf, ok.bs, ok.bsz, ok.noex, ok.exfs, ok.funs, ok.frf⟩
theorem Cx.Ok.unwish {X : Cx} {E : Value → Shared → Prop} (ok : (X.wish E).Ok) : X.Ok :=
  ⟨ok.mod, ok.kind, ok.glob, ok.blt, ok.above, ok.inj, ok.has, ok.cab, ok.hd, ok.frames, ok.stk, ok.exf, ok.bs, ok.bsz, ok.noex, ok.exfs, ok.funs, ok.frf⟩
section
variable {X : Cx} {pins : List (Addr × Obj)} {σ : St} {H : Hp} {s : Shared} {E : Value → Shared → Prop}
theorem Inv.wish (I : Inv X pins σ H s) (E : Value → Shared → Prop) : Inv (X.wish E) pins σ H s := ⟨I.ok.wish E, I.os, I.bare, I.base, I.loc, I.cell, I.free, I.freeC, I.pin, I.hok, I.len⟩
theorem Inv.unwish (I : Inv (X.wish E) pins σ H s) : Inv X pins σ H s := ⟨I.ok.unwish, I.os, I.bare, I.base, I.loc, I.cell, I.free, I.freeC, I.pin, I.hok, I.len⟩
theorem SP.unwish {D : Ends} {f : Flow} {s' : Shared} (h : SP (X.wish E) pins D f s') : SP X pins D f s' := by
  cases f with
  | next => obtain ⟨σ', H', I, q⟩ := h; exact ⟨σ', H', I.unwish, q⟩
  | brk => obtain ⟨σ', H', I, q⟩ := h; exact ⟨σ', H', I.unwish, q⟩
  | cont => obtain ⟨σ', H', I, q⟩ := h; exact ⟨σ', H', I.unwish, q⟩
  | ret u => obtain ⟨v, σ', H', I, r, q⟩ := h; exact ⟨v, σ', H', I.unwish, r, q⟩
theorem PSs.nox {st : List Stmt} {t : TS} (h : PSs X.nox st t) : PSs X st t := fun pins s σ H D I hw =>
  wpAny_mono (h pins s σ H D (I.wish _) hw) (fun _ _ q => q.unwish) fun _ _ z => False.elim z
end
section
variable {X : Cx} {st : Stmt} {rest : List Stmt} {t u : TS} {e : Expr} {te : TE} {pos : Pos}
def tNext : TS := fun D σ H => D.nx σ H
def tSeq (t u : TS) : TS := fun D σ H => t { D with nx := u D } σ H
theorem pss_nil : PSs X [] tNext := fun _ _ σ H _ I h => wpAny_execs_nil ⟨σ, H, I, h⟩
theorem pss_cons (h1 : PS X st t) (h2 : PSs X rest u) : PSs X (st :: rest) (tSeq t u) := by
  intro pins s σ H D I h
  refine wpAny_execs_cons (thn (h1 pins s σ H { D with nx := u D } I h) fun f s1 q => ?_)
  cases f with
  | next =>
    obtain ⟨σ', H', I', q⟩ := q
    exact h2 pins s1 σ' H' D I' q
  | ret v => exact q
  | brk => exact q
  | cont => exact q
theorem pss_one (h1 : PS X st t) : PSs X [st] t := by
  intro pins s σ H D I h
  refine wpAny_execs_cons (thn (h1 pins s σ H D I h) fun f s1 q => ?_)
  cases f with
  | next => exact wpAny_execs_nil q
  | ret v => exact q
  | brk => exact q
  | cont => exact q
theorem Inv.quiet {pins : List (Addr × Obj)} {σ : St} {H : Hp} {s : Shared} (I : Inv X pins σ H s) : interactive X.env = false := by simp [interactive, I.ok.kind]
def tDrop (te : TE) : TS := fun D σ H => te σ H fun _ H1 => D.nx σ H1
theorem ps_expr (he : PE X e te) (hs : swapsWith e none pos.line X.env = pure false := by rfl) : PS X (.Expr e pos) (tDrop te) := by
  intro pins s σ H D I h
  exact wpAny_Expr_any (thn (he pins s σ H _ I h) fun v s1 ⟨x, H1, I1, r1, q1⟩ => ⟨σ, H1, I1, q1⟩) I.quiet hs
def tRet (te : TE) : TS := fun D σ H => te σ H D.rt
theorem ps_ret (he : PE X e te) : PS X (.Return (some e) pos) (tRet te) := by
  intro pins s σ H D I h
  exact wpAny_Return_some (thn (he pins s σ H _ I h) fun v s1 ⟨x, H1, I1, r1, q1⟩ => ⟨x, σ, H1, I1, r1, q1⟩)
def tIfS (c : TT) (t u : TS) : TS := fun D σ H => c σ H fun b H1 => if b = true then t D σ H1 else u D σ H1
theorem ps_if {c : Expr} {a b : List Stmt} {tc : TT} (hc : PT X c tc) (ha : PSs X a t) (hb : PSs X b u) : PS X (.If c a b pos) (tIfS tc t u) := by
  intro pins s σ H D I h
  refine wpAny_If (thn (hc pins s σ H _ I h) fun d s1 ⟨H1, I1, q1⟩ => ?_)
  cases d with
  | true => exact ha pins s1 σ H1 D I1 q1
  | false => exact hb pins s1 σ H1 D I1 q1
def tNever : TS := fun _ _ _ => False
theorem ps_never : PS X st tNever := fun _ _ _ _ _ _ h => h.elim
end
abbrev TG := V → St → Hp → (St → Hp → Prop) → Prop
abbrev TGs := List V → St → Hp → (St → Hp → Prop) → Prop
def PG (X : Cx) (target : Expr) (t : TG) : Prop :=
  ∀ (pins : List (Addr × Obj)) (s : Shared) (σ : St) (H : Hp) (v : V) (u : Value) (Q : St → Hp → Prop), Inv X pins σ H s → RelV v u → t v σ H Q →
    wpAny (model X.prog X.w) X.A (assign target X.env u) (fun _ s' => ∃ σ' H', Inv X pins σ' H' s' ∧ Q σ' H') X.xe s
def PGs (X : Cx) (ts : List Expr) (t : TGs) : Prop :=
  ∀ (pins : List (Addr × Obj)) (s : Shared) (σ : St) (H : Hp) (vs : List V) (us : List Value) (Q : St → Hp → Prop), Inv X pins σ H s → Vals vs us → t vs σ H Q →
    wpAny (model X.prog X.w) X.A (assignInOrder ((assignEach ts X.env).map (·.2)) us) (fun _ s' => ∃ σ' H', Inv X pins σ' H' s' ∧ Q σ' H') X.xe s
abbrev TSet := V → V → V → Hp → (Hp → Prop) → Prop
def PSet (X : Cx) (t : TSet) : Prop :=
  ∀ (pins : List (Addr × Obj)) (s : Shared) (σ : St) (H : Hp) (o i v : V) (ov iv u : Value) (Q : Hp → Prop), Inv X pins σ H s → RelV o ov → RelV i iv → RelV v u → t o i v H Q →
    wpAny (model X.prog X.w) X.A (setItem ov iv u) (fun _ s' => ∃ H', Inv X pins σ H' s' ∧ Q H') X.xe s
section
variable {X : Cx} {pos : Pos}
def gName (i : Nat) : TG := fun v σ H Q => Q (σ.set i (some v)) H
theorem pg_name {i : Nat} {x : Str} (hN : X.N.Nodup) (hi : X.N[i]? = some x) (hx : Loc X.env.scope x) (hf : X.fn x = true ∨ X.env.scope.names.lookup x = some .local := by first | exact .inl rfl | exact .inr rfl | assumption) : PG X (.Name x pos) (gName i) := by
  intro pins s σ H v u Q I r h
  exact wpAny_assign_Name (store_ok I hN hi hx r (fun s' I' => ⟨_, H, I', h⟩) hf)
def gNil : TGs := fun vs σ H Q => vs = [] ∧ Q σ H
def gCons (t : TG) (u : TGs) : TGs := fun vs σ H Q => ∃ v r, vs = v :: r ∧ t v σ H fun σ' H' => u r σ' H' Q
theorem pgs_nil : PGs X [] gNil := by
  intro pins s σ H vs us Q I r h
  obtain ⟨e, h⟩ := h
  subst e
  cases r
  exact assignInOrder_nil ⟨σ, H, I, h⟩
theorem pgs_cons {e : Expr} {es : List Expr} {t : TG} {u : TGs} (h1 : PG X e t) (h2 : PGs X es u)
    (hs : (assignEach (e :: es) X.env).map (·.2) = assign e X.env :: (assignEach es X.env).map (·.2) := by rfl) : PGs X (e :: es) (gCons t u) := by
  intro pins s σ H vs us Q I r h
  obtain ⟨v, vr, e1, h⟩ := h
  subst e1
  cases r with
  | cons r rr =>
    rw [hs]
    refine assignInOrder_cons (thn (h1 pins s σ H _ _ _ I r h) fun _ s1 ⟨σ1, H1, I1, q1⟩ => ?_)
    exact h2 pins s1 σ1 H1 _ _ Q I1 rr q1
def gTup (K : PySem.W.Frag) (n : Nat) (t : TGs) : TG := fun v σ H Q => ∃ a xs, v = .ref a ∧ SqT K H a xs ∧ xs.length = n ∧ t xs σ H Q
theorem pg_tup {es : List Expr} {k : Nat} {t : TGs} {n : Nat} (hc : X.calm = true) (h : PGs X es t)
    (hn : (assignEach es X.env).length = n := by rfl) (hst : (assignEach es X.env).findIdx? (·.1) = none := by rfl) : PG X (.Tuple es k pos) (gTup X.K n t) := by
  intro pins s σ H v u Q I r hw
  obtain ⟨a, xs, e1, hq, hl, hw⟩ := hw
  subst e1
  cases r
  obtain ⟨its, rv, ht, hz⟩ := I.tuple hq
  refine assign_Tuple_tuple (I.ok.hd hc) ht (by simp [hn, ← hl, rv.length]) hst fun h' hx => ?_
  have I1 : Inv X pins σ H { s with heap := h' } := I.kept (t' := s.toks) fun b o e => hx b o (Nat.ne_of_lt (Heap.lt_size e)) e
  exact h pins _ σ H xs _ Q I1 (by simpa using rv) hw
def gSub (to ti : TE) (t : TSet) : TG := fun v σ H Q => to σ H fun o H1 => ti σ H1 fun i H2 => t o i v H2 fun H3 => Q σ H3
theorem pg_sub {o i : Expr} {to ti : TE} {t : TSet} (ho : PE X o to) (hi : PE X i ti) (hs : PSet X t)
    (ha : ∀ v, assign (.Subscript o i pos) X.env v = (do
      let ov ← holding [v] (eval o X.env)
      let iv ← holding [v, ov] (eval i X.env)
      standAt pos
      holding [v, ov, iv] (setItem ov iv v)
      release [v, ov, iv] []) := by intro _; rfl) : PG X (.Subscript o i pos) (gSub to ti t) := by
  intro pins s σ H v u Q I r h
  rw [ha]
  refine wpAny_bind (wpAny_holding (thn (ho pins s σ H _ I h) fun ov s1 ⟨x, H1, I1, r1, q1⟩ => ?_))
  refine wpAny_bind (wpAny_holding (thn (hi pins s1 σ H1 _ I1 q1) fun iv s2 ⟨y, H2, I2, r2, q2⟩ => ?_))
  refine wpAny_bind (wpAny_standAt (wpAny_bind (wpAny_holding (thn (hs pins s2 σ H2 x y v ov iv u _ I2 r1 r2 r q2) fun _ s3 ⟨H3, I3, q3⟩ => ?_))))
  exact wpAny_release ⟨σ, H3, I3, q3⟩
def tAsg (te : TE) (g : TG) : TS := fun D σ H => te σ H fun x H1 => g x σ H1 D.nx
theorem ps_asg {tg e : Expr} {te : TE} {g : TG} (he : PE X e te) (hg : PG X tg g) (hs : swapsWithSole [tg] e pos.line X.env = pure false := by rfl) (hw : swappedStores [tg] e X.env = pure none := by rfl)
    (h1 : (assignEach [tg] X.env).map (·.2) = [assign tg X.env] := by rfl) : PS X (.Assign [tg] e pos) (tAsg te g) := by
  intro pins s σ H D I h
  refine wpAny_Assign_stores (thn (he pins s σ H _ I h) fun v s1 ⟨x, H1, I1, r1, q1⟩ => ?_) hs hw
  rw [h1]
  exact thn (hg pins s1 σ H1 x v _ I1 r1 q1) fun _ s2 q => q
theorem ps_set {i : Nat} {x : Str} {e : Expr} {te : TE} {pos' : Pos} (hN : X.N.Nodup) (hi : X.N[i]? = some x) (hx : Loc X.env.scope x) (he : PE X e te) (hs : swapsWith e (some (.Name x pos')) pos.line X.env = pure false := by rfl) (hf : X.fn x = true ∨ X.env.scope.names.lookup x = some .local := by first | exact .inl rfl | exact .inr rfl | assumption) :
    PS X (.Assign [.Name x pos'] e pos) (tAsg te (gName i)) := by
  intro pins s σ H D I h
  refine wpAny_Assign_Name (thn (he pins s σ H _ I h) fun v s1 ⟨y, H1, I1, r1, q1⟩ => ?_) hs
  exact store_ok I1 hN hi hx r1 (fun s2 I2 => ⟨_, H1, I2, q1⟩) hf
end
section
variable {X : Cx} {pos : Pos}
end
structure It where
  go : Nat → Hp → Prop
  yld : Nat → Hp → V → Hp → Prop
  stop : Nat → Hp → Prop
def FpOk (X : Cx) (pins : List (Addr × Obj)) (H : Hp) (b : Addr) : Prop :=
  H b = none ∧ b ≠ X.env.locals ∧ b ∉ X.fs ∧ (b ∈ X.ex ∨ X.s₀.heap.get? b = none) ∧ (∀ x c, X.env.cells.lookup x = some c → c ≠ b) ∧ ∀ p ∈ X.pn ++ pins, p.1 ≠ b
theorem Inv.fpOk {X : Cx} {pins : List (Addr × Obj)} {σ : St} {H H' : Hp} {s : Shared} {b : Addr} (I : Inv X pins σ H s) (hb : s.heap.objs.size ≤ b) (hn : H' b = none) : FpOk X pins H' b := by
  refine ⟨hn, Nat.ne_of_gt (Nat.lt_of_lt_of_le I.lt hb), I.nofs hb, .inr (Heap.get?_none_of_le (Nat.le_trans I.sz hb)), fun x c e z => ?_, fun p hp z => ?_⟩
  · obtain ⟨v, q⟩ := I.cell x c e
    exact absurd (Nat.lt_of_lt_of_le q.lt (by rw [z]; exact hb)) (Nat.lt_irrefl _)
  · exact absurd (Nat.lt_of_lt_of_le (Heap.lt_size (I.pin p hp).1) (by rw [z]; exact hb)) (Nat.lt_irrefl _)
structure Turn (P : Program) (w : World) (K : PySem.W.Frag) (tg : Expr) (J : It) (fp : List Addr) (it : Addr) (tn : Nat → Heap → Prop) : Prop where
  mem : it ∈ fp
  obj : ∀ i h, tn i h → ∀ b ∈ fp, ∃ o, h.get? b = some o ∧ ∀ v, o.data ≠ .cell v
  keep : ∀ i h h', tn i h → (∀ b ∈ fp, ∀ o, h.get? b = some o → h'.get? b = some o) → tn i h'
  item : ∀ (X : Cx), X.prog = P → X.w = w → X.K = K → X.calm = true → ∀ (i : Nat) (pins : List (Addr × Obj)) (s : Shared) (σ : St) (H : Hp) (E : Value → Shared → Prop), Inv X pins σ H s → (∀ b ∈ fp, FpOk X pins H b) → tn i s.heap → J.go i H →
    wpAny (model P w) X.A (pyNext (.ref it)) (fun r s1 => ∃ u, r = some u ∧
      wpAny (model P w) X.A (letOwnedTupleGo tg (.ref it) u) (fun _ s2 => ∃ x H', Inv X pins σ H' s2 ∧ RelV x u ∧ J.yld i H x H' ∧ tn (i + 1) s2.heap ∧ ∀ b ∈ fp, H' b = none) E s1) E s
  done : ∀ (X : Cx), X.prog = P → X.w = w → X.K = K → X.calm = true → ∀ (i : Nat) (pins : List (Addr × Obj)) (s : Shared) (σ : St) (H : Hp) (E : Value → Shared → Prop), Inv X pins σ H s → (∀ b ∈ fp, FpOk X pins H b) → tn i s.heap → J.stop i H →
    wpAny (model P w) X.A (pyNext (.ref it)) (fun r s1 => r = none ∧ Inv X pins σ H s1) E s
  self : ∀ (A : Around) (i : Nat) (s : Shared) (Q : Value → Shared → Prop) (E : Value → Shared → Prop), tn i s.heap → Q (.ref it) s → wpAny (model P w) A (pyIter (.ref it)) Q E s
abbrev TI := St → Hp → (It → Hp → Prop) → Prop
def PIE (X : Cx) (pins : List (Addr × Obj)) (σ : St) (tg : Expr) (R : It → Hp → Prop) (itv : Value) (s2 : Shared) : Prop :=
  ∃ (it : Addr) (fp : List Addr) (tn : Nat → Heap → Prop) (J : It) (H' : Hp), itv = .ref it ∧ Inv X pins σ H' s2 ∧ Turn X.prog X.w X.K tg J fp it tn ∧ tn 0 s2.heap ∧ (∀ b ∈ fp, FpOk X pins H' b) ∧ R J H'
def PI (X : Cx) (tg iter : Expr) (wi : TI) : Prop :=
  ∀ (pins : List (Addr × Obj)) (s : Shared) (σ : St) (H : Hp) (R : It → Hp → Prop), Inv X pins σ H s → wi σ H R →
    wpAny (model X.prog X.w) X.A (eval iter X.env) (fun v s1 => wpAny (model X.prog X.w) X.A (pyIter v) (PIE X pins σ tg R) X.xe s1) X.xe s
theorem go_of {M : Model} {A : Around} {E : Value → Shared → Prop} {s : Shared} {tg : Expr} {it : Addr} {u : Value} {o : Obj} {n : String} {vs : Array Value} {Q : Unit → Shared → Prop} (ho : s.heap.get? it = some o) (hc : o.cls = .type n) (hd : o.data = .fields vs)
    (hn : ["enumerate", "zip", "dict_itemiterator", "dict_reverseitemiterator", "odict_iterator", "itertools.zip_longest", "itertools.pairwise"].contains n = false) (hQ : Q () s) : wpAny M A (letOwnedTupleGo tg (.ref it) u) Q E s := by
  unfold letOwnedTupleGo
  cases tg <;> first
    | exact wpAny_pure hQ
    | (cases u <;> first
        | exact wpAny_pure hQ
        | (refine wpAny_bind (wpAny_load ho ?_)
           rw [hc, hd]
           show wpAny M A (if (["enumerate", "zip", "dict_itemiterator", "dict_reverseitemiterator", "odict_iterator", "itertools.zip_longest", "itertools.pairwise"].contains n && vs[0]? == some (rawInt _)) = true then _ else _) Q E s
           rw [if_neg (by intro h; rw [hn, Bool.false_and] at h; cases h)]
           exact wpAny_pure hQ))
def Itl (K : PySem.W.Frag) (a : Addr) : It :=
  ⟨fun i H => ∃ xs x, SqL K H a xs ∧ xs[i]? = some x, fun i H x H' => H' = H ∧ ∀ xs, SqL K H a xs → xs[i]? = some x, fun i H => ∃ xs, SqL K H a xs ∧ xs.length ≤ i⟩
def Itr (lo : Int) (n : Nat) : It := ⟨fun i _ => i < n, fun i H x H' => H' = H ∧ x = .int (lo + i), fun i _ => n ≤ i⟩
theorem turn_list {P : Program} {w : World} {K : PySem.W.Frag} {tg : Expr} (a it : Addr) : Turn P w K tg (Itl K a) [it] it (fun i h => h.IsListIter it a i) where
  mem := by simp
  obj := fun i h st b hb => by
    have e : b = it := by simpa using hb
    subst e
    obtain ⟨o, e, c, d⟩ := st
    exact ⟨o, e, fun v z => by rw [d] at z; cases z⟩
  keep := fun i h h' st k => st.at fun o e => k it (by simp) o e
  item := by
    intro X hP hw hK hc i pins s σ H E I hf st hg
    subst hP hw hK
    obtain ⟨xs, x, hq, hx⟩ := hg
    obtain ⟨its, rv, p, hz⟩ := I.list hq
    obtain ⟨u, hu, ru⟩ := rv.get hx
    obtain ⟨f0, f1, f2, f3, f4, f5⟩ := hf it (by simp)
    refine wpAny_pyNext_list_item st p.isList (x := u) (by simpa using hu) fun h' st' sb => ?_
    have I1 : Inv X pins σ H { s with heap := h' } := I.turned (t' := s.toks) (fun b o hb e => (sb.2 b hb).trans e) f0 f1 f3 f4 f5
    obtain ⟨o, e, c, d⟩ := id st'
    exact ⟨u, rfl, go_of (s := { s with heap := h' }) e c d (by decide) ⟨x, H, I1, ru, ⟨rfl, fun ys hy => by rw [I.list_inj hy hq]; exact hx⟩, st', fun b hb => (hf b hb).1⟩⟩
  done := by
    intro X hP hw hK hc i pins s σ H E I hf st hg
    subst hP hw hK
    obtain ⟨xs, hq, hx⟩ := hg
    obtain ⟨its, rv, p, hz⟩ := I.list hq
    obtain ⟨f0, f1, f2, f3, f4, f5⟩ := hf it (by simp)
    have hl := rv.length
    exact wpAny_pyNext_list_end (I.ok.hd hc) st p.isList (by simp; omega) fun h' eb => ⟨rfl, I.turned (t' := s.toks) (fun b o hb e => eb b o hb e) f0 f1 f3 f4 f5⟩
  self := fun _ _ _ _ _ st h => wpAny_pyIter_listiter st h
theorem turn_range {P : Program} {w : World} {K : PySem.W.Frag} {tg : Expr} (it : Addr) (lo : Int) (n : Nat) : Turn P w K tg (Itr lo n) [it] it (fun i h => IsRangeIter h it (lo + (i : Nat) * 1) ((n : Int) - (i : Nat)) 1) where
  mem := by simp
  obj := fun i h st b hb => by
    have e : b = it := by simpa using hb
    subst e
    exact ⟨_, st, fun v z => by
      have z' : Data.fields _ = Data.cell v := z
      cases z'⟩
  keep := fun i h h' st k => k it (by simp) _ st
  item := by
    intro X hP hw hK hc i pins s σ H E I hf st hg
    subst hP hw hK
    obtain ⟨f0, f1, f2, f3, f4, f5⟩ := hf it (by simp)
    have W := Walks.range (prog := X.prog) (w := X.w) (I.ok.hd hc) it lo 1 n
    refine W.item i s _ _ hg st fun v h' tk hv st' kk => ?_
    obtain ⟨t, rfl⟩ := hv
    have I1 : Inv X pins σ H { s with heap := h', toks := tk } := I.turned (fun b o hb e => kk b o (by simpa using hb) e) f0 f1 f3 f4 f5
    refine ⟨_, rfl, go_of (s := { s with heap := h', toks := tk }) (n := "range_iterator") st' rfl rfl (by decide) ⟨.int (lo + i), H, I1, ⟨t, ?_⟩, ⟨rfl, rfl⟩, st', fun b hb => (hf b hb).1⟩⟩
    rw [Int.mul_one]
  done := by
    intro X hP hw hK hc i pins s σ H E I hf st hg
    subst hP hw hK
    obtain ⟨f0, f1, f2, f3, f4, f5⟩ := hf it (by simp)
    exact wpAny_pyNext_range_end (I.ok.hd hc) st (by have : n ≤ i := hg; omega) fun h' eb => ⟨rfl, I.turned (t' := s.toks) (fun b o hb e => eb b o hb e) f0 f1 f3 f4 f5⟩
  self := fun _ _ _ _ _ st h => wpAny_pyIter_rangeiter st h
end L2
namespace L2
open PySem PySem.Spec PyProof.Rows
section
variable {X : Cx} {tg : Expr}
def iList (K : PySem.W.Frag) (tl : TE) : TI := fun σ H R => tl σ H fun x H1 => ∃ a, x = .ref a ∧ (∃ xs, SqL K H1 a xs) ∧ R (Itl K a) H1
theorem pi_list {l : Expr} {tl : TE} (hl : PE X l tl) : PI X tg l (iList X.K tl) := by
  intro pins s σ H R I h
  refine thn (hl pins s σ H _ I h) fun v s1 ⟨x, H1, I1, r1, q1⟩ => ?_
  obtain ⟨a, e, ⟨xs, hq⟩, q⟩ := q1
  subst e
  cases r1
  obtain ⟨its, rv, p, hz⟩ := I1.list hq
  refine wpAny_pyIter_list p.isList ?_
  refine ⟨s1.heap.objs.size, [s1.heap.objs.size], _, _, H1, rfl, I1.kept (t' := s1.toks) fun b o e => Heap.get?_push_of_some _ e, turn_list a _, ⟨_, Heap.get?_push_size _ rfl, rfl, rfl⟩, fun b hb => ?_, q⟩
  have e : b = s1.heap.objs.size := by simpa using hb
  subst e
  exact I1.fpOk (Nat.le_refl _) (I1.hok.fresh (Nat.le_refl _))
theorem range_it {pins : List (Addr × Obj)} {σ : St} {H : Hp} {s : Shared} {R : It → Hp → Prop} {E : Value → Shared → Prop} {lo hi : Int} {t u v : Tok} {tk : Nat} (I : Inv X pins σ H s) (h1 : -(2 ^ 62) ≤ lo) (h2 : lo < 2 ^ 62) (h3 : -(2 ^ 62) ≤ hi) (h4 : hi < 2 ^ 62)
    (q : R (Itr lo (hi - lo).toNat) H) : wpAny (model X.prog X.w) X.A (pyIter (.ref s.heap.objs.size)) (PIE X pins σ tg R) E { s with heap := s.heap.push { cls := .type "range", data := .fields #[.int lo t, .int hi u, .int 1 v] }, toks := tk } := by
  refine wpAny_pyIter_range (IsRange.new ..) (small_one h1 h2 h3 h4) ?_
  have I1 : Inv X pins σ H { s with heap := s.heap.push { cls := .type "range", data := .fields #[.int lo t, .int hi u, .int 1 v] }, toks := tk } := I.kept fun b o e => Heap.get?_push_of_some _ e
  refine ⟨(s.heap.push { cls := .type "range", data := .fields #[.int lo t, .int hi u, .int 1 v] }).objs.size, [(s.heap.push { cls := .type "range", data := .fields #[.int lo t, .int hi u, .int 1 v] }).objs.size], _, _, H, rfl,
    I1.kept (t' := tk) fun b o e => Heap.get?_push_of_some _ e, turn_range _ lo (hi - lo).toNat, ?_, fun b hb => ?_, q⟩
  · have e1 : lo + ((0 : Nat) : Int) * 1 = lo := by simp
    have e2 : (((hi - lo).toNat : Nat) : Int) - ((0 : Nat) : Int) = Builtin.Range.rangeSize lo hi 1 := by rw [rangeSize_one]; split <;> omega
    show IsRangeIter _ _ (lo + ((0 : Nat) : Int) * 1) ((((hi - lo).toNat : Nat) : Int) - ((0 : Nat) : Int)) 1
    rw [e1, e2]
    exact Heap.get?_push_size _ rfl
  · have e : b = (s.heap.push { cls := .type "range", data := .fields #[.int lo t, .int hi u, .int 1 v] }).objs.size := by simpa using hb
    subst e
    exact I1.fpOk (Nat.le_refl _) (I1.hok.fresh (Nat.le_refl _))
def iRng1 (ta : TA) : TI := fun σ H R => ta σ H fun vs H1 => ∃ j : Int, vs = [.int j] ∧ -(2 ^ 62) ≤ j ∧ j < 2 ^ 62 ∧ R (Itr 0 j.toNat) H1
theorem pi_range1 {a : Expr} {ta : TA} {p pos : Pos} (hg : Gl X "range") (hm : X.mg "range" = none) (ha : PA X [a] ta) (hs : starEach [a] X.env = [(false, eval a X.env)] := by rfl) : PI X tg (.Call (.Name "range" p) [a] [] pos) (iRng1 ta) := by
  intro pins s σ H R I h
  refine Call_ (ld_blt I hg hm boot_range (PyProof.Rows.callWith_type1 (thn (ha pos pins s σ H _ I h) fun us s1 ⟨vs, H1, I1, r1, q1⟩ => ?_) hs rfl))
  obtain ⟨j, e, q1, q2, q⟩ := q1
  subst e
  cases r1 with
  | cons r rr =>
    cases rr
    obtain ⟨t, rfl⟩ := r
    exact call_range_1 (range_it I1 (by omega) (by omega) q1 q2 (by simpa using q))
def tFor (wi : TI) (g : TG) (tb : TS) : TS := fun D σ H => wi σ H fun J H1 => ∃ W : Nat → Nat → St → Hp → Prop, (∃ m, W 0 m σ H1) ∧ ∀ i m σ H, W i m σ H →
  (J.stop i H ∧ D.nx σ H) ∨ (J.go i H ∧ ∃ N : St → Hp → Prop, (∀ σ' H', N σ' H' → ∃ m', m' < m ∧ W (i + 1) m' σ' H') ∧ ∀ x H', J.yld i H x H' → g x σ H' fun σ2 H2 => tb { D with nx := N, ct := N, bk := D.nx } σ2 H2)
def pinsAt (fp : List Addr) (h : Heap) : List (Addr × Obj) := fp.filterMap fun b => (h.get? b).map fun o => (b, o)
theorem mem_pinsAt {fp : List Addr} {h : Heap} {b : Addr} {o : Obj} (hb : b ∈ fp) (e : h.get? b = some o) : (b, o) ∈ pinsAt fp h := List.mem_filterMap.mpr ⟨b, hb, by rw [e]; rfl⟩
theorem of_pinsAt {fp : List Addr} {h : Heap} {p : Addr × Obj} (hp : p ∈ pinsAt fp h) : p.1 ∈ fp ∧ h.get? p.1 = some p.2 := by
  obtain ⟨b, hb, e⟩ := List.mem_filterMap.mp hp
  cases q : h.get? b with
  | none => rw [q] at e; cases e
  | some o =>
    rw [q] at e
    have e' : (b, o) = p := Option.some.inj e
    subst e'
    exact ⟨hb, q⟩
theorem Inv.pinned {pins : List (Addr × Obj)} {σ : St} {H : Hp} {s : Shared} {fp : List Addr} (I : Inv X pins σ H s) (hf : ∀ b ∈ fp, FpOk X pins H b) (ho : ∀ b ∈ fp, ∃ o, s.heap.get? b = some o ∧ ∀ v, o.data ≠ .cell v) : Inv X (pins ++ pinsAt fp s.heap) σ H s :=
  I.pins_of fun p hp => (List.mem_append.mp hp).elim (fun z => I.pin p (List.mem_append_right _ z)) fun z => by
    obtain ⟨hb, e⟩ := of_pinsAt z
    obtain ⟨f0, f1, f2, _⟩ := hf p.1 hb
    obtain ⟨o, e', d⟩ := ho p.1 hb
    rw [e] at e'; cases e'
    exact ⟨e, f0, f1, f2, d⟩
theorem Inv.unpinned {pins pl : List (Addr × Obj)} {σ : St} {H : Hp} {s : Shared} (I : Inv X (pins ++ pl) σ H s) : Inv X pins σ H s := I.pins_of fun p hp => I.pin p (List.mem_append_right _ (List.mem_append_left _ hp))
theorem ps_for {iter : Expr} {body : List Stmt} {wi : TI} {g : TG} {tb : TS} {pos : Pos} (hp : PassesOwn (model X.prog X.w) X.A X.env X.xe) (hc : X.calm = true) (hi : PI X tg iter wi) (hg : PG X tg g) (hb : PSs X body tb)
    (hs : ∀ x, foldedSetIterable iter X.env x = pure x := by intro _; rfl) : PS X (.For tg iter body [] pos) (tFor wi g tb) := by
  intro pins s σ H D I h
  refine wpAny_For (thn (hi pins s σ H _ I h) fun v s1 h1 => thn h1 fun itv s2 h2 => ?_) hs
  obtain ⟨it, fp, tn, J, H2, e, I2, T, st2, f2, W, ⟨m0, w0⟩, turn⟩ := h2
  subst e
  -- what stays true of the iterator's objects through the loop
  have stat : ∀ {H' : Hp}, (∀ b ∈ fp, H' b = none) → ∀ b ∈ fp, FpOk X pins H' b := fun hn b hb => ⟨hn b hb, (f2 b hb).2⟩
  refine codeAny_forLoop_any (fun n s' => ∃ i σ' H', Inv X pins σ' H' s' ∧ tn i s'.heap ∧ (∀ b ∈ fp, H' b = none) ∧ W i n σ' H') ?_ m0 ⟨0, σ, H2, I2, st2, fun b hb => (f2 b hb).1, w0⟩
  rintro n s3 ⟨i, σ3, H3, I3, st3, fr3, w3⟩
  rcases turn i n σ3 H3 w3 with ⟨stop, qn⟩ | ⟨go, N, hN, step⟩
  · refine wpAny_passesOwn hp (thn (T.done X rfl rfl rfl hc i pins s3 σ3 H3 X.xe I3 (stat fr3) st3 stop) fun r s4 ⟨hr, I4⟩ => ?_)
    subst hr
    exact wpAny_execs_nil ⟨σ3, H3, I4, qn⟩
  · refine wpAny_passesOwn hp (thn (T.item X rfl rfl rfl hc i pins s3 σ3 H3 X.xe I3 (stat fr3) st3 go) fun r s4 ⟨u, hr, h4⟩ => ?_)
    subst hr
    refine wpAny_passesOwn hp (thn h4 fun _ s5 ⟨x, H5, I5, r5, y5, st5, fr5⟩ => ?_)
    have I5' := I5.pinned (stat fr5) (T.obj _ _ st5)
    refine wpAny_passesOwn hp (thn (hg _ s5 σ3 H5 x u _ I5' r5 (step x H5 y5)) fun _ s6 ⟨σ6, H6, I6, q6⟩ => ?_)
    refine wpAny_passesOwn hp (thn (hb _ s6 σ6 H6 _ I6 q6) fun f s7 q7 => ?_)
    have again : ∀ {σ7 : St} {H7 : Hp}, Inv X (pins ++ pinsAt fp s5.heap) σ7 H7 s7 → N σ7 H7 → ∃ m, m < n ∧ ∃ i σ' H', Inv X pins σ' H' s7 ∧ tn i s7.heap ∧ (∀ b ∈ fp, H' b = none) ∧ W i m σ' H' := fun {σ7 H7} I7 n7 => by
      obtain ⟨m', hm, w7⟩ := hN σ7 H7 n7
      refine ⟨m', hm, i + 1, σ7, H7, I7.unpinned, T.keep _ _ _ st5 fun b hb o e => (I7.pin (b, o) (List.mem_append_right _ (List.mem_append_right _ (mem_pinsAt hb e)))).1, fun b hb => ?_, w7⟩
      obtain ⟨o, e, d⟩ := T.obj _ _ st5 b hb
      exact (I7.pin (b, o) (List.mem_append_right _ (List.mem_append_right _ (mem_pinsAt hb e)))).2.1
    cases f with
    | next => obtain ⟨σ7, H7, I7, n7⟩ := q7; exact again I7 n7
    | cont => obtain ⟨σ7, H7, I7, n7⟩ := q7; exact again I7 n7
    | brk => obtain ⟨σ7, H7, I7, q7⟩ := q7; exact ⟨σ7, H7, I7.unpinned, q7⟩
    | ret v => obtain ⟨x7, σ7, H7, I7, r7, q7⟩ := q7; exact ⟨x7, σ7, H7, I7.unpinned, r7, q7⟩
end
theorem for_list {K : PySem.W.Frag} {a : Addr} {xs : List V} {g : TG} {tb : TS} {D : Ends} {σ : St} {H : Hp} (Pv : Nat → St → Hp → Prop) (h0 : Pv 0 σ H) (hl : ∀ i σ H, i ≤ xs.length → Pv i σ H → SqL K H a xs)
    (hs : ∀ i x σ H, xs[i]? = some x → Pv i σ H → g x σ H fun σ2 H2 => tb { D with nx := Pv (i + 1), ct := Pv (i + 1), bk := D.nx } σ2 H2) (hd : ∀ σ H, Pv xs.length σ H → D.nx σ H) :
    ∃ W : Nat → Nat → St → Hp → Prop, (∃ m, W 0 m σ H) ∧ ∀ i m σ H, W i m σ H →
      ((Itl K a).stop i H ∧ D.nx σ H) ∨ ((Itl K a).go i H ∧ ∃ N : St → Hp → Prop, (∀ σ' H', N σ' H' → ∃ m', m' < m ∧ W (i + 1) m' σ' H') ∧ ∀ x H', (Itl K a).yld i H x H' → g x σ H' fun σ2 H2 => tb { D with nx := N, ct := N, bk := D.nx } σ2 H2) := by
  refine ⟨fun i m σ H => m = xs.length - i ∧ i ≤ xs.length ∧ Pv i σ H, ⟨xs.length, by simp, Nat.zero_le _, h0⟩, ?_⟩
  rintro i m σ H ⟨rfl, hi, p⟩
  have q := hl i σ H hi p
  by_cases hlt : i < xs.length
  · refine .inr ⟨⟨xs, xs[i], q, by simp [hlt]⟩, Pv (i + 1), fun σ' H' p' => ⟨xs.length - (i + 1), by omega, rfl, hlt, p'⟩, fun x H' y => ?_⟩
    obtain ⟨e, y⟩ := y
    subst e
    exact hs i x σ _ (y xs q) p
  · have e : i = xs.length := by omega
    subst e
    exact .inl ⟨⟨xs, q, Nat.le_refl _⟩, hd σ H p⟩
theorem for_range {lo : Int} {n : Nat} {g : TG} {tb : TS} {D : Ends} {σ : St} {H : Hp} (Pv : Nat → St → Hp → Prop) (h0 : Pv 0 σ H)
    (hs : ∀ i σ H, i < n → Pv i σ H → g (.int (lo + i)) σ H fun σ2 H2 => tb { D with nx := Pv (i + 1), ct := Pv (i + 1), bk := D.nx } σ2 H2) (hd : ∀ σ H, Pv n σ H → D.nx σ H) :
    ∃ W : Nat → Nat → St → Hp → Prop, (∃ m, W 0 m σ H) ∧ ∀ i m σ H, W i m σ H →
      ((Itr lo n).stop i H ∧ D.nx σ H) ∨ ((Itr lo n).go i H ∧ ∃ N : St → Hp → Prop, (∀ σ' H', N σ' H' → ∃ m', m' < m ∧ W (i + 1) m' σ' H') ∧ ∀ x H', (Itr lo n).yld i H x H' → g x σ H' fun σ2 H2 => tb { D with nx := N, ct := N, bk := D.nx } σ2 H2) := by
  refine ⟨fun i m σ H => m = n - i ∧ i ≤ n ∧ Pv i σ H, ⟨n, by simp, Nat.zero_le _, h0⟩, ?_⟩
  rintro i m σ H ⟨rfl, hi, p⟩
  by_cases hlt : i < n
  · refine .inr ⟨hlt, Pv (i + 1), fun σ' H' p' => ⟨n - (i + 1), by omega, rfl, hlt, p'⟩, fun x H' y => ?_⟩
    obtain ⟨e, y⟩ := y
    subst e y
    exact hs i σ _ hlt p
  · have e : i = n := by omega
    subst e
    exact .inl ⟨Nat.le_refl _, hd σ H p⟩
end L2
namespace L2
open PySem PySem.Spec PyProof.Rows
abbrev R2 := V → V → Hp → VK → Prop
def OpR (X : Cx) (f : Value → Value → Sem Value) (r : R2) : Prop :=
  ∀ (pins : List (Addr × Obj)) (s : Shared) (σ : St) (H : Hp) (x y : V) (v u : Value) (Q : VK), Inv X pins σ H s → RelV x v → RelV y u → r x y H Q →
    wpAny (model X.prog X.w) X.A (f v u) (EP X pins σ Q) X.xe s
def UnR (X : Cx) (f : Value → Sem Value) (r : V → Hp → VK → Prop) : Prop :=
  ∀ (pins : List (Addr × Obj)) (s : Shared) (σ : St) (H : Hp) (x : V) (v : Value) (Q : VK), Inv X pins σ H s → RelV x v → r x H Q →
    wpAny (model X.prog X.w) X.A (f v) (EP X pins σ Q) X.xe s
def CallR (X : Cx) (f : Value) (r : List V → Hp → VK → Prop) : Prop :=
  ∀ (pins : List (Addr × Obj)) (s : Shared) (σ : St) (H : Hp) (xs : List V) (us : List Value) (Q : VK), Inv X pins σ H s → Vals xs us → r xs H Q →
    wpAny (model X.prog X.w) X.A (call f us) (EP X pins σ Q) X.xe s
def tOp (r : R2) (ta tb : TE) : TE := fun σ H Q => ta σ H fun x H1 => tb σ H1 fun y H2 => r x y H2 Q
def tUn (r : V → Hp → VK → Prop) (ta : TE) : TE := fun σ H Q => ta σ H fun x H1 => r x H1 Q
def rI (C : Int → Int → Prop) (g : Int → Int → V) : R2 := fun x y H Q => ∃ i j, x = .int i ∧ y = .int j ∧ C i j ∧ Q (g i j) H
def rI0 (g : Int → Int → V) : R2 := fun x y H Q => ∃ i j, x = .int i ∧ y = .int j ∧ Q (g i j) H
def rU (g : Int → V) : V → Hp → VK → Prop := fun x H Q => ∃ i, x = .int i ∧ Q (g i) H
section
variable {X : Cx} {a b c : Expr} {ta tb tc : TE} {pos : Pos}
theorem binT (ha : PE X a ta) (hb : PE X b tb) {pins : List (Addr × Obj)} {s : Shared} {σ : St} {H : Hp} {R : V → V → Hp → Prop} (I : Inv X pins σ H s)
    (h : ta σ H fun x H1 => tb σ H1 fun y H2 => R x y H2) {Q : Value → Shared → Prop} {f : Value → Value → Sem Value}
    (hf : ∀ v u s2 x y H2, Inv X pins σ H2 s2 → RelV x v → RelV y u → R x y H2 → wpAny (model X.prog X.w) X.A (f v u) Q X.xe s2) :
    wpAny (model X.prog X.w) X.A (eval a X.env) (fun v s₁ => wpAny (model X.prog X.w) X.A (eval b X.env) (fun u s₂ => wpAny (model X.prog X.w) X.A (f v u) Q X.xe s₂) X.xe s₁) X.xe s := by
  refine thn (ha pins s σ H _ I h) fun v s1 ⟨x, H1, I1, r1, q1⟩ => ?_
  refine thn (hb pins s1 σ H1 _ I1 q1) fun u s2 ⟨y, H2, I2, r2, q2⟩ => ?_
  exact hf v u s2 x y H2 I2 r1 r2 q2
theorem pe_op {op : Operator} {r : R2} (ho : OpR X (binaryOp op) r) (ha : PE X a ta) (hb : PE X b tb) : PE X (.BinOp a op b pos) (tOp r ta tb) := by
  intro pins s σ H Q I h
  exact wpAny_BinOp (binT ha hb I h fun v u s2 x y H2 I2 rx ry q => ho pins s2 σ H2 x y v u Q I2 rx ry q)
theorem pe_un {op : UnaryOp} {r : V → Hp → VK → Prop} (ho : UnR X (unaryOp op) r) (ha : PE X a ta) : PE X (.UnaryOp op a pos) (tUn r ta) := by
  intro pins s σ H Q I h
  exact UnaryOp_ (thn (ha pins s σ H _ I h) fun v s1 ⟨x, H1, I1, r1, q1⟩ => ho pins s1 σ H1 x v Q I1 r1 q1)
theorem opI {f : Value → Value → Sem Value} {C : Int → Int → Prop} {g : Int → Int → Int}
    (rule : ∀ (i j : Int) (t u : Tok) (s : Shared) (Q : Value → Shared → Prop) (E : Value → Shared → Prop), C i j → Q (.int (g i j) s.toks) { s with toks := s.toks + 1 } → wpAny (model X.prog X.w) X.A (f (.int i t) (.int j u)) Q E s) :
    OpR X f (rI C fun i j => .int (g i j)) := by
  intro pins s σ H x y v u Q I rx ry h
  obtain ⟨i, j, rfl, rfl, hc, q⟩ := h
  obtain ⟨t, rfl⟩ := rx
  obtain ⟨t', rfl⟩ := ry
  exact rule i j t t' s _ _ hc ⟨.int (g i j), H, I.tok _, ⟨_, rfl⟩, q⟩
theorem opI0 {f : Value → Value → Sem Value} {g : Int → Int → Int}
    (rule : ∀ (i j : Int) (t u : Tok) (s : Shared) (Q : Value → Shared → Prop) (E : Value → Shared → Prop), Q (.int (g i j) s.toks) { s with toks := s.toks + 1 } → wpAny (model X.prog X.w) X.A (f (.int i t) (.int j u)) Q E s) :
    OpR X f (rI0 fun i j => .int (g i j)) := by
  intro pins s σ H x y v u Q I rx ry h
  obtain ⟨i, j, rfl, rfl, q⟩ := h
  obtain ⟨t, rfl⟩ := rx
  obtain ⟨t', rfl⟩ := ry
  exact rule i j t t' s _ _ ⟨.int (g i j), H, I.tok _, ⟨_, rfl⟩, q⟩
theorem opB0 {f : Value → Value → Sem Value} {g : Int → Int → Bool}
    (rule : ∀ (i j : Int) (t u : Tok) (s : Shared) (Q : Value → Shared → Prop) (E : Value → Shared → Prop), Q (.bool (g i j)) s → wpAny (model X.prog X.w) X.A (f (.int i t) (.int j u)) Q E s) :
    OpR X f (rI0 fun i j => .bl (g i j)) := by
  intro pins s σ H x y v u Q I rx ry h
  obtain ⟨i, j, rfl, rfl, q⟩ := h
  obtain ⟨t, rfl⟩ := rx
  obtain ⟨t', rfl⟩ := ry
  exact rule i j t t' s _ _ ⟨.bl (g i j), H, I, rfl, q⟩
def CDiv (i j : Int) : Prop := 0 < j ∧ j < 1073741824
def CPow (i j : Int) : Prop := 0 ≤ j ∧ j ≤ 1000000 ∧ i.natAbs < 2 ^ 64
theorem op_add : OpR X (binaryOp .Add) (rI0 fun i j => .int (i + j)) := opI0 fun _ _ _ _ _ _ _ q => add_int q
theorem op_sub : OpR X (binaryOp .Sub) (rI0 fun i j => .int (i - j)) := opI0 fun _ _ _ _ _ _ _ q => sub_int q
theorem op_fdiv : OpR X (binaryOp .FloorDiv) (rI CDiv fun i j => .int (i / j)) := opI fun i j _ _ _ _ _ hc q => by
  have h1 : (0 : Int) < j := hc.1
  have h2 : j < 1073741824 := hc.2
  exact floordiv_int (by omega) (by rw [Int.fdiv_eq_ediv_of_nonneg i (by omega)]; exact q) (.inl (PyProof.noPylong_small (by omega)))
theorem op_mod : OpR X (binaryOp .Mod) (rI (fun _ j => 0 < j) fun i j => .int (i % j)) := opI fun i j _ _ _ _ _ hc q => by
  have h1 : (0 : Int) < j := hc
  exact mod_int' (by omega) (by rw [Int.fmod_eq_emod_of_nonneg i (by omega)]; exact q)
theorem op_pow : OpR X (binaryOp .Pow) (rI CPow fun i j => .int (i ^ j.toNat)) := opI fun _ _ _ _ _ _ _ hc q => pow_int_small hc.1 hc.2.1 hc.2.2 q
theorem unI {f : Value → Sem Value} {g : Int → Int}
    (rule : ∀ (i : Int) (t : Tok) (s : Shared) (Q : Value → Shared → Prop) (E : Value → Shared → Prop), Q (.int (g i) s.toks) { s with toks := s.toks + 1 } → wpAny (model X.prog X.w) X.A (f (.int i t)) Q E s) :
    UnR X f (rU fun i => .int (g i)) := by
  intro pins s σ H x v Q I rx h
  obtain ⟨i, rfl, q⟩ := h
  obtain ⟨t, rfl⟩ := rx
  exact rule i t s _ _ ⟨.int (g i), H, I.tok _, ⟨_, rfl⟩, q⟩
theorem un_neg : UnR X (unaryOp .USub) (rU fun i => .int (-i)) := unI fun _ _ _ _ _ q => neg_int q
end
def scal : V → V → Bool
  | .non, .non => true | .non, .int _ => true | .int _, .non => true | .non, .bl _ => true | .bl _, .non => true | .non, .str _ => true | .str _, .non => true
  | .int _, .int _ => true | .bl _, .bl _ => true | .str _, .str _ => true | .byt _, .byt _ => true
  | .int _, .str _ => true | .str _, .int _ => true | .bl _, .str _ => true | .str _, .bl _ => true
  | _, _ => false
def rEq : R2 := fun x y H Q => scal x y = true ∧ Q (.bl (decide (x = y))) H
def rNe : R2 := fun x y H Q => scal x y = true ∧ Q (.bl (!decide (x = y))) H
theorem dec_int {i j : Int} : decide (V.int i = V.int j) = (i == j) := by
  rw [Bool.eq_iff_iff]
  simp
theorem dec_bl {i j : Bool} : decide (V.bl i = V.bl j) = (i == j) := by
  rw [Bool.eq_iff_iff]
  simp
theorem dec_str {i j : Str} : decide (V.str i = V.str j) = (i == j) := by
  rw [Bool.eq_iff_iff]
  simp
theorem dec_byt {i j : Array UInt8} : decide (V.byt i = V.byt j) = (i.toList == j.toList) := by
  rw [Bool.eq_iff_iff]
  cases i
  cases j
  simp
section
variable {X : Cx} {a b c : Expr} {ta tb tc : TE} {pos : Pos}
theorem fin_bl {pins : List (Addr × Obj)} {σ : St} {H : Hp} {s : Shared} {Q : VK} {k k' : Bool} (I : Inv X pins σ H s) (q : Q (.bl k) H) (e : k = k') : EP X pins σ Q (.bool k') s := by
  subst e
  exact ⟨.bl k, H, I, rfl, q⟩
theorem op_eq : OpR X (compareOp .Eq) rEq := by
  intro pins s σ H x y v u Q I rx ry h
  obtain ⟨hs, q⟩ := h
  cases x with
  | non =>
    cases rx
    cases y with
    | non => cases ry; exact PySem.EqNone.eq_none_none (fin_bl I q (by simp))
    | bl j => cases ry; exact PySem.EqNone.eq_none_bool (fin_bl I q (by simp))
    | int j => obtain ⟨t', rfl⟩ := ry; exact PySem.EqNone.eq_none_int (fin_bl I q (by simp))
    | str j => obtain ⟨t', rfl⟩ := ry; exact PySem.EqNone.eq_none_str (fin_bl I q (by simp))
    | _ => exact absurd (show false = true from hs) Bool.false_ne_true
  | bl i =>
    cases rx
    cases y with
    | non => cases ry; exact PySem.EqNone.eq_bool_none (fin_bl I q (by simp))
    | bl j => cases ry; exact eq_bool (fin_bl I q dec_bl)
    | str j => obtain ⟨t', rfl⟩ := ry; exact PySem.EqMixed.eq_bool_str (fin_bl I q (by simp))
    | _ => exact absurd (show false = true from hs) Bool.false_ne_true
  | int i =>
    obtain ⟨t, rfl⟩ := rx
    cases y with
    | non => cases ry; exact PySem.EqNone.eq_int_none (fin_bl I q (by simp))
    | int j => obtain ⟨t', rfl⟩ := ry; exact eq_int (fin_bl I q dec_int)
    | str j => obtain ⟨t', rfl⟩ := ry; exact PySem.EqMixed.eq_int_str (fin_bl I q (by simp))
    | _ => exact absurd (show false = true from hs) Bool.false_ne_true
  | str i =>
    obtain ⟨t, rfl⟩ := rx
    cases y with
    | non => cases ry; exact PySem.EqNone.eq_str_none (fin_bl I q (by simp))
    | bl j => cases ry; exact PySem.EqMixed.eq_str_bool (fin_bl I q (by simp))
    | int j => obtain ⟨t', rfl⟩ := ry; exact PySem.EqMixed.eq_str_int (fin_bl I q (by simp))
    | str j => obtain ⟨t', rfl⟩ := ry; exact eq_str (fin_bl I q dec_str)
    | _ => exact absurd (show false = true from hs) Bool.false_ne_true
  | byt i =>
    obtain ⟨t, rfl⟩ := rx
    cases y with
    | byt j => obtain ⟨t', rfl⟩ := ry; exact PySem.W.eq_bytes (fin_bl I q dec_byt)
    | _ => exact absurd (show false = true from hs) Bool.false_ne_true
  | _ => cases y <;> exact absurd (show false = true from hs) Bool.false_ne_true
theorem op_ne : OpR X (compareOp .NotEq) rNe := by
  intro pins s σ H x y v u Q I rx ry h
  obtain ⟨hs, q⟩ := h
  cases x with
  | non =>
    cases rx
    cases y with
    | non => cases ry; exact PySem.EqNone.ne_none_none (fin_bl I q (by simp))
    | bl j => cases ry; exact PySem.EqNone.ne_none_bool (fin_bl I q (by simp))
    | int j => obtain ⟨t', rfl⟩ := ry; exact PySem.EqNone.ne_none_int (fin_bl I q (by simp))
    | str j => obtain ⟨t', rfl⟩ := ry; exact PySem.EqNone.ne_none_str (fin_bl I q (by simp))
    | _ => exact absurd (show false = true from hs) Bool.false_ne_true
  | bl i =>
    cases rx
    cases y with
    | non => cases ry; exact PySem.EqNone.ne_bool_none (fin_bl I q (by simp))
    | bl j => cases ry; exact ne_bool (fin_bl I q (congrArg not dec_bl))
    | str j => obtain ⟨t', rfl⟩ := ry; exact PySem.EqMixed.ne_bool_str (fin_bl I q (by simp))
    | _ => exact absurd (show false = true from hs) Bool.false_ne_true
  | int i =>
    obtain ⟨t, rfl⟩ := rx
    cases y with
    | non => cases ry; exact PySem.EqNone.ne_int_none (fin_bl I q (by simp))
    | int j => obtain ⟨t', rfl⟩ := ry; exact ne_int (fin_bl I q (congrArg not dec_int))
    | str j => obtain ⟨t', rfl⟩ := ry; exact PySem.EqMixed.ne_int_str (fin_bl I q (by simp))
    | _ => exact absurd (show false = true from hs) Bool.false_ne_true
  | str i =>
    obtain ⟨t, rfl⟩ := rx
    cases y with
    | non => cases ry; exact PySem.EqNone.ne_str_none (fin_bl I q (by simp))
    | bl j => cases ry; exact PySem.EqMixed.ne_str_bool (fin_bl I q (by simp))
    | int j => obtain ⟨t', rfl⟩ := ry; exact PySem.EqMixed.ne_str_int (fin_bl I q (by simp))
    | str j => obtain ⟨t', rfl⟩ := ry; exact ne_str (fin_bl I q (congrArg not dec_str))
    | _ => exact absurd (show false = true from hs) Bool.false_ne_true
  | byt i =>
    obtain ⟨t, rfl⟩ := rx
    cases y with
    | byt j => obtain ⟨t', rfl⟩ := ry; exact PySem.W.ne_bytes (fin_bl I q (congrArg not dec_byt))
    | _ => exact absurd (show false = true from hs) Bool.false_ne_true
  | _ => cases y <;> exact absurd (show false = true from hs) Bool.false_ne_true
theorem op_lt : OpR X (compareOp .Lt) (rI0 fun i j => .bl (decide (i < j))) := opB0 fun _ _ _ _ _ _ _ q => lt_int q
theorem op_le : OpR X (compareOp .LtE) (rI0 fun i j => .bl (decide (i ≤ j))) := opB0 fun _ _ _ _ _ _ _ q => le_int q
theorem op_gt : OpR X (compareOp .Gt) (rI0 fun i j => .bl (decide (j < i))) := opB0 fun _ _ _ _ _ _ _ q => gt_int q
theorem op_notN : OpR X (compareOp .IsNot) (fun x y H Q => y = .non ∧ Q (.bl (!decide (x = .non))) H) := by
  intro pins s σ H x y v u Q I rx ry h
  obtain ⟨rfl, q⟩ := h
  cases ry
  refine isnot_none_gen (fin_bl I q ?_)
  cases x <;> first
    | (cases rx; rfl)
    | (obtain ⟨t, rfl⟩ := rx; rfl)
theorem nomark (b : Expr) {op : CmpOp} (h : op ≠ .In := by decide) (h2 : op ≠ .NotIn := by decide) : behindInMarks op b = false := by
  have e1 : (op == CmpOp.In) = false := by cases op <;> first | rfl | exact absurd rfl h
  have e2 : (op == CmpOp.NotIn) = false := by cases op <;> first | rfl | exact absurd rfl h2
  cases b <;> simp [behindInMarks, e1, e2]
theorem pe_cmpR {op : CmpOp} {r : R2} (ho : OpR X (compareOp op) r) (ha : PE X a ta) (hb : PE X b tb) (hm : behindInMarks op b = false) : PE X (.Compare a [op] [b] pos) (tOp r ta tb) := by
  intro pins s σ H Q I h
  exact wpAny_Compare1 (binT ha hb I h fun v u s2 x y H2 I2 rx ry q => ho pins s2 σ H2 x y v u Q I2 rx ry q) hm
def tTest (t : TE) : TT := fun σ H Q => t σ H fun x H' => ∃ k, x = .bl k ∧ Q k H'
theorem pt_cmpR {op : CmpOp} {r : R2} (ho : OpR X (compareOp op) r) (ha : PE X a ta) (hb : PE X b tb) (hm : behindInMarks op b = false) : PT X (.Compare a [op] [b] pos) (tTest (tOp r ta tb)) := by
  intro pins s σ H Q I h
  refine wpAny_isTrue_Compare1 (thn (ha pins s σ H _ I h) fun v s1 ⟨x, H1, I1, r1, q1⟩ => thn (hb pins s1 σ H1 _ I1 q1) fun u s2 ⟨y, H2, I2, r2, q2⟩ =>
    thn (ho pins s2 σ H2 x y v u _ I2 r1 r2 q2) fun c s3 ⟨z, H3, I3, r3, k, e, q3⟩ => ?_) hm
  subst e
  cases r3
  exact wpAny_truthy_bool ⟨H3, I3, q3⟩
def tChain (r r' : R2) (ta tb tc : TE) : TE := fun σ H Q => ta σ H fun x H1 => tb σ H1 fun y H2 => r x y H2 fun z H3 => ∃ k, z = .bl k ∧
  (if k = true then tc σ H3 fun w' H4 => r' y w' H4 Q else Q (.bl false) H3)
theorem pt_chain {op op' : CmpOp} {r r' : R2} (ho : OpR X (compareOp op) r) (ho' : OpR X (compareOp op') r') (ha : PE X a ta) (hb : PE X b tb) (hc : PE X c tc)
    (hm : lastMarks [op, op'] [b, c] = false := by with_unfolding_all rfl) : PT X (.Compare a [op, op'] [b, c] pos) (tTest (tChain r r' ta tb tc)) := by
  intro pins s σ H Q I h
  refine isTrue_chain (thn (ha pins s σ H _ I h) fun v s1 ⟨x, H1, I1, r1, q1⟩ => test_link (thn (hb pins s1 σ H1 _ I1 q1) fun u s2 ⟨y, H2, I2, r2, q2⟩ =>
    thn (ho pins s2 σ H2 x y v u _ I2 r1 r2 q2) fun d s3 ⟨z, H3, I3, r3, k, e, q3⟩ => ?_)) hm
  subst e
  cases r3
  refine wpAny_truthy_bool ?_
  cases k with
  | false =>
    obtain ⟨k', e', q'⟩ := q3
    cases e'
    exact ite_ff ⟨H3, I3, q'⟩
  | true =>
    refine ite_tt (test_last (thn (hc pins s3 σ H3 _ I3 q3) fun w' s4 ⟨z', H4, I4, r4, q4⟩ => thn (ho' pins s4 σ H4 y z' u w' _ I4 r2 r4 q4) fun d' s5 ⟨z2, H5, I5, r5, k2, e2, q5⟩ => ?_))
    subst e2
    cases r5
    exact wpAny_truthy_bool ⟨H5, I5, q5⟩
theorem line63 : (sizeLine : Nat) < 2 ^ 63 := by rw [sizeLine_eq]; decide
theorem vals1 {x : V} {us : List Value} (r : Vals [x] us) : ∃ u, us = [u] ∧ RelV x u := by
  cases r with
  | cons r1 r2 => cases r2; exact ⟨_, rfl, r1⟩
theorem vals2 {x y : V} {us : List Value} (r : Vals [x, y] us) : ∃ u w', us = [u, w'] ∧ RelV x u ∧ RelV y w' := by
  cases r with
  | cons r1 r2 =>
    cases r2 with
    | cons r3 r4 => cases r4; exact ⟨_, _, rfl, r1, r3⟩
theorem call_max2 (hc : X.calm = true) : CallR X (.builtin "max") (fun xs H Q => ∃ i j, xs = [.int i, .int j] ∧ Q (.int (if j > i then j else i)) H) := by
  intro pins s σ H xs us Q I r h
  obtain ⟨i, j, rfl, q⟩ := h
  obtain ⟨u, w', rfl, ⟨t, rfl⟩, ⟨t', rfl⟩⟩ := vals2 r
  refine max_two_ints (I.ok.hd hc) fun h' tk k => ⟨_, H, I.kept k, ?_, q⟩
  by_cases hj : j > i
  · rw [if_pos hj, if_pos hj]; exact ⟨_, rfl⟩
  · rw [if_neg hj, if_neg hj]; exact ⟨_, rfl⟩
theorem call_min2 (hc : X.calm = true) : CallR X (.builtin "min") (fun xs H Q => ∃ i j, xs = [.int i, .int j] ∧ Q (.int (if j < i then j else i)) H) := by
  intro pins s σ H xs us Q I r h
  obtain ⟨i, j, rfl, q⟩ := h
  obtain ⟨u, w', rfl, ⟨t, rfl⟩, ⟨t', rfl⟩⟩ := vals2 r
  refine min_two_ints (I.ok.hd hc) fun h' tk k => ⟨_, H, I.kept k, ?_, q⟩
  by_cases hj : j < i
  · rw [if_pos hj, if_pos hj]; exact ⟨_, rfl⟩
  · rw [if_neg hj, if_neg hj]; exact ⟨_, rfl⟩
theorem call_int1 : CallR X (.type "int") (fun xs H Q => (∃ i, xs = [.int i] ∧ Q (.int i) H) ∨ ∃ k, xs = [.bl k] ∧ Q (.int (if k then 1 else 0)) H) := by
  intro pins s σ H xs us Q I r h
  rcases h with ⟨i, rfl, q⟩ | ⟨k, rfl, q⟩
  · obtain ⟨u, rfl, t, rfl⟩ := vals1 r
    exact call_int_int ⟨.int i, H, I, ⟨_, rfl⟩, q⟩
  · obtain ⟨u, rfl, r1⟩ := vals1 r
    cases r1
    exact call_int_bool ⟨.int (if k then 1 else 0), H, I.tok _, ⟨_, rfl⟩, q⟩
end
end L2
namespace L2
open PySem PySem.Spec PyProof.Rows
structure ObjM (h : Heap) (x dx C : Addr) (mA : Str → Option Value) : Prop where
  obj : h.get? x = some (PySem.W.instObj C dx)
  ns : h.Ns1 dx mA
  ne : dx ≠ x
theorem lookIn_ns {h : Heap} {dx : Addr} {mA : Str → Option Value} (n : h.Ns1 dx mA) : ∃ od, h.get? dx = some od ∧ ∀ name, PySem.W.lookIn name od = some (mA name) := by
  obtain ⟨o, es, ep, ho, hd, hk, _, hm⟩ := n
  refine ⟨o, ho, fun name => ?_⟩
  have e := hm name
  unfold nsFind findBy at e
  rw [← Array.find?_toList] at e
  unfold PySem.W.lookIn
  rw [hd]
  dsimp only
  split
  · rename_i y q
    rw [q] at e
    exact congrArg some e
  · rename_i q
    rw [q] at e
    have a : es.toList.any (·.refKey) = false := by
      rw [List.any_eq_false]
      intro y hy
      obtain ⟨z, t, hkey⟩ := hk y (Array.mem_toList_iff.mp hy)
      simp [DictEntry.refKey, hkey]
    have a' : ¬ es.toList.any (·.refKey) = true := by rw [a]; exact Bool.false_ne_true
    rw [if_neg a']
    exact congrArg some e
theorem ObjM.look {h : Heap} {x dx C : Addr} {mA : Str → Option Value} (I : ObjM h x dx C mA) : ∃ od, PySem.W.InstAt h x (PySem.W.instObj C dx) C (some od) ∧ ∀ name, PySem.W.lookIn name od = some (mA name) :=
  let ⟨od, ho, hl⟩ := lookIn_ns I.ns
  ⟨od, ⟨I.obj, rfl, rfl, ho⟩, hl⟩
section
variable {prog : Program} {w : World} {A : Around} {E : Value → Shared → Prop} {s : Shared} {K : PySem.W.Frag} {x dx C f : Addr} {mA : Str → Option Value} {name : Str} {v : Value}
theorem get_map {expr : Bool} {Q : Value → Shared → Prop} (X : K.In s.heap) (I : ObjM s.heap x dx C mA) (hg : PySem.W.plainGet K C name = true) (hh : PySem.W.hasDictIn K C = true)
    (ha : PySem.W.findIn K (.ref C) name = some none) (hv : mA name = some v) (hv' : PySem.W.handedIn v = true) (h : Q v { s with toks := s.toks + 1 }) :
    wpAny (model prog w) A (getAttr (.ref x) name expr) Q E s := by
  obtain ⟨od, J, hl⟩ := I.look
  exact PySem.W.get_value X J (PySem.W.plainGet_of hg).1 (PySem.W.findObj_own hh ha rfl (by rw [hl, hv])) hv' h
theorem get_meth {pl : Sem Bool} {Q : Value × List Value → Shared → Prop} (X : K.In s.heap) (I : ObjM s.heap x dx C mA) (hg : PySem.W.plainGet K C name = true)
    (hf : PySem.W.findIn K (.ref C) name = some (some (.ref f))) (ht : PySem.W.isFn K (.ref f) = true) (hv : mA name = none) (h : Q (.ref f, [.ref x]) s) :
    wpAny (model prog w) A (getMethod (.ref x) name pl) Q E s := by
  obtain ⟨od, J, hl⟩ := I.look
  exact PySem.W.method_fn X J (PySem.W.plainGet_of hg).1 (PySem.W.plainGet_of hg).2 hf (beq_iff_eq.mp ht) (by show (PySem.W.lookIn name od).map (·.isSome) = some false; rw [hl, hv]; rfl) h
theorem set_map {ns : List Str} {Q : Unit → Shared → Prop} (X : K.In s.heap) (I : ObjM s.heap x dx C mA)
    (hs : PySem.W.findIn K (.ref C) "__setattr__" = some (some (.builtin "object.__setattr__"))) (hp : PySem.W.plainOver K C = true) (ht : PySem.W.takerIn K C name = some none) (hh : PySem.W.hasDictIn K C = true)
    (hw : PySem.Within mA ns) (hsz : ns.length ≤ sizeLine)
    (h : ∀ h', ObjM h' x dx C (fun y => if y = name then some v else mA y) → Heap.SameBut dx s.heap h' → Q () { s with heap := h', toks := s.toks + 2 }) :
    wpAny (model prog w) A (setAttr (.ref x) name v) Q E s := by
  obtain ⟨od, J, hl⟩ := I.look
  refine PySem.W.set_plain X J hs (PySem.W.osa_open (s := { s with toks := s.toks + 1 }) (r := none) X J hp ht fun b => ?_)
  obtain ⟨cd, hc, hd'⟩ := PySem.W.any_some hh
  have hx : s.heap.get? x = some ⟨.ref C, some dx, .plain, #[]⟩ := I.obj
  refine wpAny_bind (wpAny_pure (wpAny_bind (wpAny_bind (wpAny_loadPart hx (wpAny_bind (PySem.W.Looks.here (s := { s with toks := s.toks + 1 }) (PySem.W.looks_clsIn X hc) ?_))))))
  rw [hd']
  refine wpAny_pure (a := some dx) (wpAny_bind (wpAny_pure (wpAny_bind ?_)))
  refine wpAny_nsSet1 (s := { s with toks := s.toks + 1 }) I.ns fun h' hn2 hs2 => ?_
  obtain ⟨oD, esD, epD, hoD, hdD, hcD⟩ := hn2.count (PySem.Within.cons name v hw)
  refine wpAny_bind (wpAny_lookBehind hoD (by rw [hdD]; exact pastItsLine_dict (Nat.le_trans hcD (by rw [List.length_cons]; omega))) ?_)
  exact wpAny_pure (h _ ⟨(hs2.2 _ (Ne.symm I.ne)).trans I.obj, hn2, I.ne⟩ hs2)
theorem make_map {R : Result → Shared → Prop} {vs : List Value} {kw : List (Str × Value)} (X : K.In s.heap) (hm : PySem.W.makesIn K C = true)
    (hi : PySem.W.findIn K (.ref C) "__init__" = some (some (.ref f))) (hf : PySem.W.typeIn K (.ref f) = some (.type "function"))
    (h : codeAny (model prog w) (A.under (.builtin "type.__call__" ⟨.ref C :: vs, kw⟩)) (.call (.ref f) ⟨.ref (s.heap.objs.size + 1) :: vs, kw⟩) (PySem.W.InitBack (s.heap.objs.size + 1) R)
      { s with heap := (s.heap.push PySem.W.emptyDict).push (PySem.W.instObj C s.heap.objs.size) }) :
    codeAny (model prog w) A (.call (.ref C) ⟨vs, kw⟩) R s := by
  obtain ⟨hh, g, d, t, os⟩ := s
  exact PySem.W.make_core (PySem.W.makes_of X hm) (PySem.W.looks_findIn X hi) (fun self => PySem.W.bind_fn X self hf) (.inl rfl) h
end
def putF (f : Str) (v : V) : List (Str × V) → List (Str × V)
  | [] => [(f, v)]
  | (g, x) :: r => if g = f then (g, v) :: r else (g, x) :: putF f v r
theorem lookup_putF (f g : Str) (v : V) : ∀ fs : List (Str × V), (putF f v fs).lookup g = if g = f then some v else fs.lookup g
  | [] => by
    show List.lookup g [(f, v)] = _
    by_cases h : g = f
    · have hb : (g == f) = true := beq_iff_eq.mpr h
      simp only [List.lookup, hb, if_pos h]
    · have hb : (g == f) = false := beq_eq_false_iff_ne.mpr h
      simp only [List.lookup, hb, if_neg h]
  | (k, x) :: r => by
    have ih := lookup_putF f g v r
    rw [show putF f v ((k, x) :: r) = (if k = f then (k, v) :: r else (k, x) :: putF f v r) from rfl]
    by_cases hk : k = f
    · rw [if_pos hk]
      by_cases h : g = k
      · have hb : (g == k) = true := beq_iff_eq.mpr h
        simp only [List.lookup, hb, if_pos (h.trans hk)]
      · have hb : (g == k) = false := beq_eq_false_iff_ne.mpr h
        simp only [List.lookup, hb, if_neg (fun e : g = f => h (e.trans hk.symm))]
    · rw [if_neg hk]
      by_cases h : g = k
      · have hb : (g == k) = true := beq_iff_eq.mpr h
        simp only [List.lookup, hb, if_neg (fun e : g = f => hk (h.symm.trans e))]
      · have hb : (g == k) = false := beq_eq_false_iff_ne.mpr h
        simp only [List.lookup, hb]
        exact ih
theorem keys_putF (f : Str) (v : V) : ∀ fs : List (Str × V), f ∈ (putF f v fs).map (·.1) ∧ ∀ g, g ∈ fs.map (·.1) → g ∈ (putF f v fs).map (·.1)
  | [] => ⟨by simp [putF], fun g h => by simp at h⟩
  | (k, x) :: r => by
    obtain ⟨i1, i2⟩ := keys_putF f v r
    rw [show putF f v ((k, x) :: r) = (if k = f then (k, v) :: r else (k, x) :: putF f v r) from rfl]
    by_cases hk : k = f
    · rw [if_pos hk]
      subst hk
      exact ⟨by simp, fun g h => by simpa using h⟩
    · rw [if_neg hk]
      refine ⟨?_, fun g h => ?_⟩
      · rw [List.map_cons]
        exact List.mem_cons_of_mem _ i1
      · rw [List.map_cons] at h ⊢
        rcases List.mem_cons.mp h with e | e
        · exact List.mem_cons.mpr (.inl e)
        · exact List.mem_cons_of_mem _ (i2 g e)
theorem length_putF (f : Str) (v : V) : ∀ fs : List (Str × V), (putF f v fs).length ≤ fs.length + 1
  | [] => by simp [putF]
  | (k, x) :: r => by
    have ih := length_putF f v r
    rw [show putF f v ((k, x) :: r) = (if k = f then (k, v) :: r else (k, x) :: putF f v r) from rfl]
    by_cases hk : k = f
    · rw [if_pos hk, List.length_cons, List.length_cons]; omega
    · rw [if_neg hk, List.length_cons, List.length_cons]; omega
theorem RelO.some_of {v : V} {o : Option Value} (r : RelO (some v) o) : ∃ u, o = some u ∧ RelV v u := by
  cases o with
  | none => exact (show False from r).elim
  | some u => exact ⟨u, rfl, r⟩
theorem RelO.none_of {o : Option Value} (r : RelO none o) : o = none := by
  cases o with
  | none => rfl
  | some u => exact (show False from r).elim
theorem handed_of {v : V} {u : Value} (r : RelV v u) : PySem.W.handedIn u = true := by
  cases v with
  | non => cases (show u = Value.none from r); rfl
  | bl b => cases (show u = Value.bool b from r); rfl
  | int i => obtain ⟨t, e⟩ := (show ∃ t, u = Value.int i t from r); cases e; rfl
  | str x => obtain ⟨t, e⟩ := (show ∃ t, u = Value.str x t from r); cases e; rfl
  | byt b => obtain ⟨t, e⟩ := (show ∃ t, u = Value.bytes b t from r); cases e; rfl
  | flt b => obtain ⟨t, e⟩ := (show ∃ t, u = Value.float b t from r); cases e; rfl
  | ref a => cases (show u = Value.ref a from r); rfl
  | ty n => cases (show u = Value.type n from r); rfl
section
variable {P : Program} {w : World} {H H' : Hp} {h h' : Heap} {a C dx : Addr} {fs fs' : List (Str × V)}
theorem ins_get (hok : HOk P w H h) (e : H a = some (.ins C dx fs)) : ∃ mA, ObjM h a dx C mA ∧ (∀ f, RelO (fs.lookup f) (mA f)) ∧ PySem.Within mA (fs.map (·.1)) ∧ fs.length ≤ 1000 ∧ H dx = some (.own a) := by
  obtain ⟨d, z, ne, ob, mA, n, r, q⟩ := (show ObjOk P w H h a (.ins C dx fs) from hok a _ e)
  exact ⟨mA, ⟨ob, n, ne⟩, r, q, z, d⟩
end
structure Cls (K : PySem.W.Frag) (C : Addr) : Prop where
  pg : PySem.W.plainGet K C Str.empty = true
  hd : PySem.W.hasDictIn K C = true
  po : PySem.W.plainOver K C = true
  sa : PySem.W.findIn K (.ref C) "__setattr__" = some (some (.builtin "object.__setattr__"))
theorem Cls.get {K : PySem.W.Frag} {C : Addr} (c : Cls K C) (f : Str) : PySem.W.plainGet K C f = true := c.pg
def NoAttr (K : PySem.W.Frag) (C : Addr) (f : Str) : Prop := PySem.W.findIn K (.ref C) f = some none
theorem NoAttr.taker {K : PySem.W.Frag} {C : Addr} {f : Str} (n : NoAttr K C f) : PySem.W.takerIn K C f = some none := by
  unfold PySem.W.takerIn
  rw [show PySem.W.findIn K (.ref C) f = some none from n]
  rfl
structure Meth (K : PySem.W.Frag) (C : Addr) (m : Str) (f : Addr) : Prop where
  at_ : PySem.W.findIn K (.ref C) m = some (some (.ref f))
  fn : PySem.W.isFn K (.ref f) = true
  kp : PySem.W.keepIn K (.ref f) = true
section
variable {X : Cx} {pins : List (Addr × Obj)} {σ : St} {H : Hp} {s : Shared} {a C dx : Addr} {fs : List (Str × V)} {f : Str} {v : V} {A : Around} {E : Value → Shared → Prop}
theorem getattr_ok {b : Bool} {Q : Value → Shared → Prop} (I : Inv X pins σ H s) (e : H a = some (.ins C dx fs)) (c : Cls X.K C) (n : NoAttr X.K C f) (l : fs.lookup f = some v)
    (h : ∀ u s', Inv X pins σ H s' → RelV v u → Q u s') : wpAny (model X.prog X.w) A (getAttr (.ref a) f b) Q E s := by
  obtain ⟨mA, O, r, _, _, _⟩ := ins_get I.hok e
  obtain ⟨u, hu, ru⟩ := RelO.some_of (v := v) (o := mA f) (by rw [← l]; exact r f)
  exact get_map I.kIn O (c.get f) c.hd n hu (handed_of ru) (h u _ (I.tok _) ru)
theorem getmeth_ok {m : Str} {g : Addr} {pl : Sem Bool} {Q : Value × List Value → Shared → Prop} (I : Inv X pins σ H s) (e : H a = some (.ins C dx fs)) (c : Cls X.K C) (k : Meth X.K C m g) (l : fs.lookup m = none)
    (h : Q (.ref g, [.ref a]) s) : wpAny (model X.prog X.w) A (getMethod (.ref a) m pl) Q E s := by
  obtain ⟨mA, O, r, _, _, _⟩ := ins_get I.hok e
  have hn : mA m = none := RelO.none_of (by rw [← l]; exact r m)
  exact get_meth I.kIn O (c.get m) k.at_ k.fn hn h
theorem setattr_ok {y : V} {u : Value} {Q : Unit → Shared → Prop} (I : Inv X pins σ H s) (e : H a = some (.ins C dx fs)) (c : Cls X.K C) (n : NoAttr X.K C f) (hl : fs.length < 1000) (ry : RelV y u)
    (h : ∀ s', Inv X pins σ (upd H a (.ins C dx (putF f y fs))) s' → Q () s') : wpAny (model X.prog X.w) A (setAttr (.ref a) f u) Q E s := by
  obtain ⟨mA, O, r, wi, _, ho⟩ := ins_get I.hok e
  have hz : (fs.map (·.1)).length ≤ sizeLine := by rw [List.length_map, sizeLine_eq]; omega
  refine set_map I.kIn O c.sa c.po n.taker c.hd wi hz fun h' O' sb => h _ ?_
  have hd : ∃ o, h'.get? dx = some o := let ⟨o, _, _, e', _⟩ := O'.ns; ⟨o, e'⟩
  refine I.write (x := a) (e := dx) (by rw [e]; exact True.intro) (.inr ho) (fun b q hb z => (sb.2 b hb).trans z) hd ?_
  refine ⟨by rw [upd_ne O.ne]; exact ho, ?_, O.ne, O'.obj, _, O'.ns, fun g => ?_, fun g hg => ?_⟩
  · have := length_putF f y fs; omega
  · show RelO ((putF f y fs).lookup g) (if g = f then some u else mA g)
    rw [lookup_putF]
    by_cases q : g = f
    · rw [if_pos q, if_pos q]; exact ry
    · rw [if_neg q, if_neg q]; exact r g
  · by_cases q : g = f
    · rw [q]; exact (keys_putF f y fs).1
    · refine (keys_putF f y fs).2 g (wi g fun z => hg ?_)
      show (if g = f then some u else mA g) = none
      rw [if_neg q]; exact z
theorem Inv.made (I : Inv X pins σ H s) : Inv X pins σ (upd (upd H s.heap.objs.size (.own (s.heap.objs.size + 1))) (s.heap.objs.size + 1) (.ins C s.heap.objs.size []))
    { s with heap := (s.heap.push PySem.W.emptyDict).push (PySem.W.instObj C s.heap.objs.size) } := by
  have e1 : (s.heap.push PySem.W.emptyDict).get? s.heap.objs.size = some PySem.W.emptyDict := Heap.get?_push_size s.heap rfl
  have e2 : ((s.heap.push PySem.W.emptyDict).push (PySem.W.instObj C s.heap.objs.size)).get? (s.heap.objs.size + 1) = some (PySem.W.instObj C s.heap.objs.size) := by
    have := Heap.get?_push_size (s.heap.push PySem.W.emptyDict) (o := PySem.W.instObj C s.heap.objs.size) rfl
    rwa [Heap.size_push] at this
  have e3 : (s.heap.push PySem.W.emptyDict).Ns s.heap.objs.size (fun _ => none) := ⟨PySem.W.emptyDict, #[], _, e1, rfl, (fun e he => absurd he (by simp)), fun _ => rfl⟩
  have I1 := I.laid (a := s.heap.objs.size) (o := .own (s.heap.objs.size + 1)) (h' := s.heap.push PySem.W.emptyDict) (t' := s.toks) (fun b u q => Heap.get?_push_of_some _ q) (Nat.le_refl _) ⟨_, e1⟩
  refine I1.laid (a := s.heap.objs.size + 1) (o := .ins C s.heap.objs.size []) (t' := s.toks) (fun b u q => Heap.get?_push_of_some _ q) (Nat.le_of_eq (Heap.size_push _ _)) ?_
  have ne : s.heap.objs.size ≠ s.heap.objs.size + 1 := Nat.ne_of_lt (Nat.lt_succ_self _)
  refine ⟨by rw [upd_ne ne, upd_same], Nat.zero_le _, ne, e2, fun _ => none, (Heap.Ns1.of_empty e3).at fun o q => Heap.get?_push_of_some _ q, fun _ => True.intro, fun y hy => absurd rfl hy⟩
theorem attr_of {prog : Program} {w : World} {env : Env} {e : Expr} {f : Str} {pos : Pos} {s : Shared} {Q : Value → Shared → Prop} (hb : attributeBase e f env (eval e env) = eval e env)
    (h : wpAny (model prog w) A (eval e env) (fun o s₁ => wpAny (model prog w) A (getAttr o f true) Q E s₁) E s) : wpAny (model prog w) A (eval (.Attribute e f pos) env) Q E s :=
  Attribute_any_ h (by rw [arm_eval_Attribute, hb])
end
def tFld (K : PySem.W.Frag) (ta : TE) (f : Str) : TE := fun σ H Q => ta σ H fun x H1 => ∃ a C dx fs v, x = .ref a ∧ H1 a = some (.ins C dx fs) ∧ Cls K C ∧ NoAttr K C f ∧ fs.lookup f = some v ∧ Q v H1
def sFld (K : PySem.W.Frag) (ta tv : TE) (f : Str) : TS := fun D σ H => tv σ H fun y H1 => ta σ H1 fun x H2 => ∃ a C dx fs, x = .ref a ∧ H2 a = some (.ins C dx fs) ∧ Cls K C ∧ NoAttr K C f ∧ fs.length < 1000 ∧
  D.nx σ (upd H2 a (.ins C dx (putF f y fs)))
def InOp (X : Cx) (op : Operator) (rd : V → V → Hp → VK → Prop) : Prop :=
  ∀ (pins : List (Addr × Obj)) (s : Shared) (σ : St) (H : Hp) (x y : V) (u v : Value) (Q : VK), Inv X pins σ H s → RelV x u → RelV y v → rd x y H Q → wpAny (model X.prog X.w) X.A (inplaceOp op u v) (EP X pins σ Q) X.xe s
def sFldAug (K : PySem.W.Frag) (ta tv : TE) (rd : V → V → Hp → VK → Prop) (f : Str) : TS := fun D σ H => ta σ H fun x H1 => ∃ a C dx fs v, x = .ref a ∧ H1 a = some (.ins C dx fs) ∧ Cls K C ∧ NoAttr K C f ∧ fs.lookup f = some v ∧
  tv σ H1 fun y H2 => rd v y H2 fun z H3 => ∃ dx' fs', H3 a = some (.ins C dx' fs') ∧ fs'.length < 1000 ∧ D.nx σ (upd H3 a (.ins C dx' (putF f z fs')))
section
variable {X : Cx} {o e value : Expr} {f : Str} {pos pos' tpos : Pos} {ta tv : TE}
theorem pe_fld (he : PE X e ta) (hb : attributeBase e f X.env (eval e X.env) = eval e X.env) : PE X (.Attribute e f pos) (tFld X.K ta f) := by
  intro pins s σ H Q I h
  refine attr_of hb (thn (he pins s σ H _ I h) fun u s1 ⟨x, H1, I1, rx, a, C, dx, fs, v, ex, ea, c, n, l, q⟩ => ?_)
  subst ex
  obtain rfl : u = Value.ref a := rx
  exact getattr_ok I1 ea c n l fun u' s2 I2 ru => ⟨v, H1, I2, ru, q⟩
theorem ps_fld (ha : PE X o ta) (hv : PE X value tv) (hs : swapsWith value (some (.Attribute o f pos')) pos.line X.env = pure false) : PS X (.Assign [.Attribute o f pos'] value pos) (sFld X.K ta tv f) := by
  intro pins s σ H D I h
  refine plainObj_wpAny_Assign_Attribute (thn (hv pins s σ H _ I h) fun u s1 ⟨y, H1, I1, ry, q⟩ => thn (ha pins s1 σ H1 _ I1 q) fun ov s2 ⟨x, H2, I2, rx, a, C, dx, fs, ex, ea, c, n, l, q2⟩ => ?_) hs
  subst ex
  obtain rfl : ov = Value.ref a := rx
  exact setattr_ok I2 ea c n l ry fun s3 I3 => ⟨σ, _, I3, q2⟩
theorem ps_fldaug {op : Operator} {rd : V → V → Hp → VK → Prop} (ha : PE X o ta) (hv : PE X value tv) (hop : InOp X op rd) : PS X (.AugAssign (.Attribute o f tpos) op value pos) (sFldAug X.K ta tv rd f) := by
  intro pins s σ H D I h
  refine wpAny_AugAssign_AttributeAny (thn (ha pins s σ H _ I h) fun ov s1 ⟨x, H1, I1, rx, a, C, dx, fs, v, ex, ea, c, n, l, q⟩ => ?_)
  subst ex
  obtain rfl : ov = Value.ref a := rx
  refine getattr_ok I1 ea c n l fun u s2 I2 ru => thn (hv pins s2 σ H1 _ I2 q) fun w3 s3 ⟨y, H2, I3, ry, q3⟩ => thn (hop pins s3 σ H2 v y u w3 _ I3 ru ry q3) fun w4 s4 ⟨z, H3, I4, rz, dx', fs', ea', l', q4⟩ => ?_
  exact setattr_ok I4 ea' c n l' rz fun s5 I5 => ⟨σ, _, I5, q4⟩
def rAdd : V → V → Hp → VK → Prop := fun x y H Q => ∃ i j, x = .int i ∧ y = .int j ∧ Q (.int (i + j)) H
theorem in_add : InOp X .Add rAdd := by
  rintro pins s σ H x y u v Q I rx ry ⟨i, j, rfl, rfl, q⟩
  obtain ⟨t, rfl⟩ := (show ∃ t, u = Value.int i t from rx)
  obtain ⟨t', rfl⟩ := (show ∃ t', v = Value.int j t' from ry)
  exact PyProof.Rows.iadd_int ⟨.int (i + j), H, I.tok _, ⟨_, rfl⟩, q⟩
end
section
variable {X : Cx} {pins : List (Addr × Obj)} {σ : St} {H : Hp} {s : Shared} {A : Around} {E : Value → Shared → Prop} {Q : Value → Shared → Prop} {c : Value} {b : Bool}
inductive TyOf (K : PySem.W.Frag) (H : Hp) : V → Value → Prop where
  | non : TyOf K H .non (.type "NoneType")
  | bl (x : Bool) : TyOf K H (.bl x) (.type "bool")
  | int (i : Int) : TyOf K H (.int i) (.type "int")
  | str (x : Str) : TyOf K H (.str x) (.type "str")
  | flt (x : UInt64) : TyOf K H (.flt x) (.type "float")
  | lst {a : Addr} {xs : List V} (e : H a = some (.lst xs)) : TyOf K H (.ref a) (.type "list")
  | frz {a : Addr} {o : Obj} {xs : List V} (e : H a = some (.frz o (.lst xs))) : TyOf K H (.ref a) (.type "list")
  | tup {a : Addr} {xs : List V} (e : H a = some (.tup xs)) : TyOf K H (.ref a) (.type "tuple")
  | dK {a : Addr} {kvs : List (Key × V)} (e : H a = some (.dK kvs)) : TyOf K H (.ref a) (.type "dict")
  | dT {a : Addr} {kvs : List (List Key × V)} (e : H a = some (.dT kvs)) : TyOf K H (.ref a) (.type "dict")
  | ins {a C dx : Addr} {fs : List (Str × V)} (e : H a = some (.ins C dx fs)) (cl : Cls K C) (ha : PySem.W.findIn K (.ref C) "__class__" = some (some (.builtin "object.__class__")))
      (hn : PySem.W.specialIn K (.builtin "object.__class__") "__get__" = some (some (.builtin "getset_descriptor.__get__"))) (htk : PySem.W.takesIn K (.builtin "object.__class__") = some true)
      (hm : PySem.W.mroIn K C (.type "object") = some true) : TyOf K H (.ref a) (.ref C)
theorem isinst_ok {x : V} {u t : Value} (I : Inv X pins σ H s) (rx : RelV x u) (ty : TyOf X.K H x t) (e : PySem.W.kitOne X.K t c = some b) (h : ∀ tk, Q (.bool b) { s with toks := tk }) :
    wpAny (model X.prog X.w) A (call (.builtin "isinstance") [u, c]) Q E s := by
  cases ty with
  | non => cases (show u = Value.none from rx); exact PySem.W.kia_one PySem.W.kitx_none I.kIn True.intro e (fun z => nomatch z) h
  | bl y => cases (show u = Value.bool y from rx); exact PySem.W.kia_one PySem.W.kitx_bool I.kIn True.intro e (fun z => nomatch z) h
  | int i => obtain ⟨t, q⟩ := (show ∃ t, u = Value.int i t from rx); cases q; exact PySem.W.kia_one PySem.W.kitx_int I.kIn True.intro e (fun z => nomatch z) h
  | str y => obtain ⟨t, q⟩ := (show ∃ t, u = Value.str y t from rx); cases q; exact PySem.W.kia_one PySem.W.kitx_str I.kIn True.intro e (fun z => nomatch z) h
  | flt y => obtain ⟨t, q⟩ := (show ∃ t, u = Value.float y t from rx); cases q; exact PySem.W.kia_one PySem.W.kitx_float I.kIn True.intro e (fun z => nomatch z) h
  | @lst a xs ea =>
    cases (show u = Value.ref a from rx)
    obtain ⟨_, _, n, _, h1⟩ := (show ObjOk X.prog X.w H s.heap a (.lst xs) from I.hok a _ ea)
    exact PySem.W.kia_one PySem.W.kitx_list I.kIn ⟨_, h1, rfl⟩ e (fun z => nomatch z) h
  | @frz a ob xs ea =>
    cases (show u = Value.ref a from rx)
    obtain ⟨_, _, _, n, _, h1⟩ := (show ObjOk X.prog X.w H s.heap a (.frz ob (.lst xs)) from I.hok a _ ea)
    exact PySem.W.kia_one PySem.W.kitx_list I.kIn ⟨_, h1, rfl⟩ e (fun z => nomatch z) h
  | @tup a xs ea =>
    cases (show u = Value.ref a from rx)
    obtain ⟨_, _, _, p⟩ := (show ObjOk X.prog X.w H s.heap a (.tup xs) from I.hok a _ ea)
    obtain ⟨o, h1, h2, _⟩ := p
    exact PySem.W.kia_one PySem.W.kitx_tuple I.kIn ⟨o, h1, h2⟩ e (fun z => nomatch z) h
  | @dK a kvs ea =>
    cases (show u = Value.ref a from rx)
    obtain ⟨_, _, vs, _, p⟩ := (show ObjOk X.prog X.w H s.heap a (.dK kvs) from I.hok a _ ea)
    obtain ⟨o, es, ep, h1, h2, _⟩ := p
    exact PySem.W.kia_one PySem.W.kitx_dict I.kIn ⟨o, h1, h2.1⟩ e (fun z => nomatch z) h
  | @dT a kvs ea =>
    cases (show u = Value.ref a from rx)
    obtain ⟨_, _, xs, _, o, es, ep, h1, h2, _⟩ := (show ObjOk X.prog X.w H s.heap a (.dT kvs) from I.hok a _ ea)
    exact PySem.W.kia_one PySem.W.kitx_dict I.kIn ⟨o, h1, h2.1⟩ e (fun z => nomatch z) h
  | @ins a C dx fs ea cl ha hn htk hm =>
    cases (show u = Value.ref a from rx)
    obtain ⟨mA, O, _⟩ := ins_get I.hok ea
    obtain ⟨od, J, _⟩ := O.look
    exact PySem.W.kia_one (PySem.W.kitx_own (cl.get _) cl.hd ha hn htk hm) I.kIn J e (fun z => nomatch z) h
end
end L2
namespace L2
open PySem PySem.Spec PyProof.Rows
structure Room (k : Nat) (A : Around) : Prop where
  hd : A.handled = none
  dp : A.depth + 3 * k + 5 < recursionLimit
  un : A.units + 16 * k + 200 < cLine
  gd : A.guards = some []
theorem Room.mono {j k : Nat} {A : Around} (r : Room k A) (h : j ≤ k) : Room j A := ⟨r.hd, by have := r.dp; omega, by have := r.un; omega, r.gd⟩
theorem Room.deeper {k : Nat} {A : Around} (r : Room (k + 1) A) (env : Env) : Room k (A.deeper env) :=
  ⟨r.hd, by have := r.dp; show A.depth + 1 + 3 * k + 5 < _; omega, by have := r.un; show A.units + 3 + 16 * k + 200 < _; omega, r.gd⟩
theorem make_depth {A : Around} {C : Addr} {us : List Value} {kw : List (Str × Value)} : (A.under (.builtin "type.__call__" ⟨.ref C :: us, kw⟩)).depth = A.depth + 1 := by
  first | rfl | simp [Around.under, Code.weight, Code.isCreation, Code.isGuard, Code.isCaller, Code.frames, Code.isFrame, guardIds]
theorem make_units {A : Around} {C : Addr} {us : List Value} {kw : List (Str × Value)} : (A.under (.builtin "type.__call__" ⟨.ref C :: us, kw⟩)).units = A.units + 1 := by
  first | rfl | simp [Around.under, Code.cUnits, Code.frames, Code.isFrame]
theorem make_guards {A : Around} {C : Addr} {us : List Value} {kw : List (Str × Value)} : (A.under (.builtin "type.__call__" ⟨.ref C :: us, kw⟩)).guards = A.guards := by
  cases h : A.guards <;> simp [Around.under, Code.guards, Code.isGuard, guardIds, pushGuards, h]
theorem Room.make {k : Nat} {A : Around} (r : Room (k + 1) A) (C : Addr) (us : List Value) (kw : List (Str × Value)) : Room k (A.under (.builtin "type.__call__" ⟨.ref C :: us, kw⟩)) :=
  ⟨r.hd, by have := r.dp; rw [make_depth]; omega, by have := r.un; rw [make_units]; omega, by have := r.gd; rw [make_guards]; exact this⟩
theorem Room.depth {k : Nat} {A : Around} (r : Room k A) : A.depth < recursionLimit := by have := r.dp; omega
theorem Room.units {k : Nat} {A : Around} (r : Room k A) : A.units + 64 < cLine := by have := r.un; omega
def tNil : TA := fun _ H Q => Q [] H
def tCons (ta : TE) (tr : TA) : TA := fun σ H Q => ta σ H fun x H1 => tr σ H1 fun xs H2 => Q (x :: xs) H2
section
variable {X : Cx} {e : Expr} {es : List Expr} {te : TE} {t : TA} {pos : Pos}
theorem pa_nil : PA X [] tNil := fun _ _ _ _ H Q I h => Calls.spliced_nil ⟨[], H, I, .nil, h⟩
theorem pa_cons (ha : PE X e te) (hr : PA X es t) (hs : starEach (e :: es) X.env = (false, eval e X.env) :: starEach es X.env := by rfl) : PA X (e :: es) (tCons te t) := by
  intro pos pins s σ H Q I h
  rw [hs]
  show wpAny _ _ (spliced ((false, eval e X.env) :: backTo pos (starEach es X.env))) _ _ s
  refine Calls.spliced_cons (thn (ha pins s σ H _ I h) fun u s1 ⟨x, H1, I1, r1, q1⟩ => ?_)
  exact thn (hr pos pins s1 σ H1 _ I1 q1) fun us s2 ⟨xs, H2, I2, r2, q2⟩ => ⟨x :: xs, H2, I2, .cons r1 r2, q2⟩
end
abbrev Sp := List V → Hp → VK → XK → Prop
abbrev CXT := List Env → Hp → Shared → XK → Value → Shared → Prop
structure Env0 (P : Program) (w : World) (K : PySem.W.Frag) (mg : Str → Option Value) (base : Heap) (A : Around) (outer : List Env) (s : Shared) (H : Hp) : Prop where
  frames : A.frames = some outer
  mod : Mod K mg base
  bs : ∀ b o, base.get? b = some o → s.heap.get? b = some o ∧ H b = none
  bsz : base.objs.size ≤ s.heap.objs.size
  funs : s.heap.FunFrames base outer
  frf : ∀ b ∈ frs outer, H b = none
  hok : HOk P w H s.heap
  bare : AllBare s.gens
def CE (outer : List Env) (P : Program) (w : World) (H : Hp) (s : Shared) (Q : VK) (u : Value) (s' : Shared) : Prop :=
  ∃ v H', s'.os = s.os ∧ AllBare s'.gens ∧ Un (frs outer) [] H H' s.heap s'.heap ∧ HOk P w H' s'.heap ∧ RelV v u ∧ Q v H'
def CR (CX : CXT) (outer : List Env) (P : Program) (w : World) (H : Hp) (s : Shared) (Q : VK) (E : XK) (r : Result) (s' : Shared) : Prop :=
  match r with
  | .ok (.ret u) => CE outer P w H s Q u s'
  | .ok _ => False
  | .error e => CX outer H s E e s'
structure FnOk (P : Program) (w : World) (K : PySem.W.Frag) (mg : Str → Option Value) (base : Heap) (CX : CXT) (k : Nat) (f : Addr) (fd : FuncData) (ps : List Str) (sp : Sp) : Prop where
  len : ∀ vs H Q E, sp vs H Q E → vs.length = ps.length
  run : ∀ (A : Around) (outer : List Env) (s : Shared) (H : Hp) (args : Args) (us : List Value) (vs : List V) (Q : VK) (E : XK), Room k A → Env0 P w K mg base A outer s H → BindsTo s fd args (ps.zip us) → Vals vs us → sp vs H Q E →
    codeAny (model P w) A (.call (.ref f) args) (CR CX outer P w H s Q E) s
theorem FnOk.mono {P : Program} {w : World} {K : PySem.W.Frag} {mg : Str → Option Value} {base : Heap} {CX : CXT} {j k : Nat} {f : Addr} {fd : FuncData} {ps : List Str} {sp : Sp} (F : FnOk P w K mg base CX j f fd ps sp) (h : j ≤ k) :
    FnOk P w K mg base CX k f fd ps sp := ⟨F.len, fun A outer s H args us vs Q E hr => F.run A outer s H args us vs Q E (hr.mono h)⟩
theorem Env0.make {P : Program} {w : World} {K : PySem.W.Frag} {mg : Str → Option Value} {base : Heap} {A : Around} {outer : List Env} {s : Shared} {H : Hp} (e : Env0 P w K mg base A outer s H) (C : Addr) (us : List Value) (kw : List (Str × Value)) :
    Env0 P w K mg base (A.under (.builtin "type.__call__" ⟨.ref C :: us, kw⟩)) outer s H := ⟨by first | exact e.frames | (simpa [Around.under, Code.envs, Code.isFrame, pushEnvs] using e.frames), e.mod, e.bs, e.bsz, e.funs, e.frf, e.hok, e.bare⟩
section
variable {X : Cx} {pins : List (Addr × Obj)} {σ : St} {H : Hp} {s s' : Shared}
theorem Inv.env0 (I : Inv X pins σ H s) : Env0 X.prog X.w X.K X.mg X.base X.A X.stack s H :=
  ⟨I.ok.frames, I.ok.mod, I.bs, Nat.le_trans I.ok.bsz I.sz, I.stack, I.stkFree, I.hok, I.bare⟩
theorem Inv.after {Q : VK} {u : Value} (I : Inv X pins σ H s) (h : CE X.stack X.prog X.w H s Q u s') : EP X pins σ Q u s' := by
  obtain ⟨v, H', os, bare, un, hok, r, q⟩ := h
  obtain ⟨hh, g, d, t, os'⟩ := s'
  obtain rfl : os' = s.os := os
  exact ⟨v, H', I.call (h' := hh) (g' := g) (d' := d) (t' := t) (ch := []) un hok bare (fun b z => absurd z (by simp)), r, q⟩
end
def tCall (sp : Sp) (dvs : List V) (E : XK) (t : TA) : TE := fun σ H Q => t σ H fun vs H1 => sp (vs ++ dvs) H1 Q E
def tMake (C : Addr) (sp : Sp) (dvs : List V) (E : XK) (t : TA) : TE := fun σ H Q => t σ H fun vs H1 => ∀ x dx, H1 x = none → H1 dx = none → dx ≠ x →
  sp (.ref x :: (vs ++ dvs)) (upd (upd H1 dx (.own x)) x (.ins C dx [])) (fun v H2 => v = .non ∧ Q (.ref x) H2) E
def Binds (K : PySem.W.Frag) (fd : FuncData) (ps : List Str) (ds : List Value) : Prop :=
  ∀ (s : Shared) (us : List Value), K.In s.heap → (us ++ ds).length = ps.length → BindsTo s fd ⟨us, []⟩ (ps.zip (us ++ ds))
theorem Binds.all {K : PySem.W.Frag} {fd : FuncData} {ps : List Str} (h : ∀ us : List Value, us.length = ps.length → bindArgs fd ⟨us, []⟩ = pure (ps.zip us)) : Binds K fd ps [] := fun s us _ hl => by
  rw [List.append_nil] at hl ⊢
  exact .of_eq (h us hl)
def Passes (CX : CXT) (X : Cx) (E : XK) : Prop := ∀ (pins : List (Addr × Obj)) (σ : St) (H : Hp) (s : Shared) (e : Value) (s' : Shared), Inv X pins σ H s → CX X.stack H s E e s' → X.xe e s'
section
variable {X : Cx} {CX : CXT} {k : Nat} {f C : Addr} {fd : FuncData} {ps : List Str} {sp : Sp} {dvs : List V} {ds : List Value} {E : XK} {x m : Str} {p pos apos : Pos} {e o : Expr} {es : List Expr} {ta : TE} {t : TA}
theorem run_fn {pins : List (Addr × Obj)} {σ : St} {H : Hp} {s : Shared} {Q : VK} {us : List Value} {vs : List V} (F : FnOk X.prog X.w X.K X.mg X.base CX k f fd ps sp) (hr : Room k X.A) (hb : Binds X.K fd ps ds) (hd : Vals dvs ds) (hx : Passes CX X E)
    (I : Inv X pins σ H s) (r : Vals vs us) (h : sp (vs ++ dvs) H Q E) : wpAny (model X.prog X.w) X.A (call (.ref f) us) (EP X pins σ Q) X.xe s := by
  have r2 : Vals (vs ++ dvs) (us ++ ds) := r.append hd
  have hl : (us ++ ds).length = ps.length := by rw [← r2.length]; exact F.len _ _ _ _ h
  refine wpAny_call (codeAny_mono (F.run X.A X.stack s H ⟨us, []⟩ (us ++ ds) (vs ++ dvs) Q E hr I.env0 (hb s us I.kIn hl) r2 h) fun r s' hq => ?_)
  cases r with
  | error e => exact hx pins σ H s e s' I hq
  | ok fl =>
    cases fl with
    | ret u => exact I.after hq
    | next => exact False.elim hq
    | brk => exact False.elim hq
    | cont => exact False.elim hq
theorem pe_call (F : FnOk X.prog X.w X.K X.mg X.base CX k f fd ps sp) (hr : Room k X.A) (hg : Gl X x) (hm : X.mg x = some (.ref f)) (hk : PySem.W.keepIn X.K (.ref f) = true) (hb : Binds X.K fd ps ds) (hd : Vals dvs ds) (hx : Passes CX X E)
    (ha : PA X (e :: es) t) (hdb : (x == ("__debug__" : Str)) = false := by decide) (he : starEach (e :: es) X.env = (false, eval e X.env) :: starEach es X.env := by rfl) (hpl : (backTo pos (starEach es X.env)).any (·.1) = false := by rfl) :
    PE X (.Call (.Name x p) (e :: es) [] pos) (tCall sp dvs E t) := by
  intro pins s σ H Q I h
  refine wpAny_Call_Name_kw (ld_glob I hg hm ?_ hdb)
  refine PySem.W.callWith_K (h₀ := X.base) I.ok.mod.kin hk (thn (ha pos pins s σ H _ I h) fun us s1 ⟨vs, H1, I1, r, q⟩ => ⟨I1.kIn, ?_⟩) he hpl
  exact run_fn F hr hb hd hx I1 r q
structure Mk (K : PySem.W.Frag) (C f : Addr) : Prop where
  makes : PySem.W.makesIn K C = true
  init : PySem.W.findIn K (.ref C) "__init__" = some (some (.ref f))
  fn : PySem.W.isFn K (.ref f) = true
  kp : PySem.W.keepIn K (.ref C) = true
theorem run_make {pins : List (Addr × Obj)} {σ : St} {H : Hp} {s : Shared} {Q : VK} {us : List Value} {vs : List V} (M : Mk X.K C f) (F : FnOk X.prog X.w X.K X.mg X.base CX k f fd ps sp) (hr : Room (k + 1) X.A) (hb : Binds X.K fd ps ds) (hd : Vals dvs ds)
    (hx : Passes CX X E) (I : Inv X pins σ H s) (r : Vals vs us)
    (h : ∀ x dx, H x = none → H dx = none → dx ≠ x → sp (.ref x :: (vs ++ dvs)) (upd (upd H dx (.own x)) x (.ins C dx [])) (fun v H2 => v = .non ∧ Q (.ref x) H2) E) :
    wpAny (model X.prog X.w) X.A (call (.ref C) us) (EP X pins σ Q) X.xe s := by
  have hq := h (s.heap.objs.size + 1) s.heap.objs.size (I.hok.fresh (Nat.le_succ _)) (I.hok.fresh (Nat.le_refl _)) (Nat.ne_of_lt (Nat.lt_succ_self _))
  have I2 := Inv.made (C := C) I
  have r2 : Vals (V.ref (s.heap.objs.size + 1) :: (vs ++ dvs)) (Value.ref (s.heap.objs.size + 1) :: (us ++ ds)) := .cons rfl (r.append hd)
  have hl : (Value.ref (s.heap.objs.size + 1) :: us ++ ds).length = ps.length := by
    have e := r2.length
    rw [F.len _ _ _ _ hq] at e
    exact e.symm
  refine wpAny_call (make_map (f := f) I.kIn M.makes M.init (beq_iff_eq.mp M.fn) (codeAny_mono (F.run _ X.stack _ _ ⟨Value.ref (s.heap.objs.size + 1) :: us, []⟩ (Value.ref (s.heap.objs.size + 1) :: (us ++ ds)) _ _ E (hr.make C us [])
    (I2.env0.make C us []) (hb _ (Value.ref (s.heap.objs.size + 1) :: us) I2.kIn hl) r2 hq) fun r s' hq' => ?_))
  cases r with
  | error e => exact hx pins σ _ _ e s' I2 hq'
  | ok fl =>
    cases fl with
    | ret u =>
      obtain ⟨v, H', I3, rv, ev, q3⟩ := I2.after hq'
      subst ev
      exact ⟨rv, ⟨V.ref (s.heap.objs.size + 1), H', I3, rfl, q3⟩⟩
    | next => exact False.elim hq'
    | brk => exact False.elim hq'
    | cont => exact False.elim hq'
theorem pe_make (M : Mk X.K C f) (F : FnOk X.prog X.w X.K X.mg X.base CX k f fd ps sp) (hr : Room (k + 1) X.A) (hg : Gl X x) (hm : X.mg x = some (.ref C)) (hb : Binds X.K fd ps ds) (hd : Vals dvs ds) (hx : Passes CX X E)
    (ha : PA X (e :: es) t) (hdb : (x == ("__debug__" : Str)) = false := by decide) (he : starEach (e :: es) X.env = (false, eval e X.env) :: starEach es X.env := by rfl) (hpl : (backTo pos (starEach es X.env)).any (·.1) = false := by rfl) :
    PE X (.Call (.Name x p) (e :: es) [] pos) (tMake C sp dvs E t) := by
  intro pins s σ H Q I h
  refine wpAny_Call_Name_kw (ld_glob I hg hm ?_ hdb)
  refine PySem.W.callWith_K (h₀ := X.base) I.ok.mod.kin M.kp (thn (ha pos pins s σ H _ I h) fun us s1 ⟨vs, H1, I1, r, q⟩ => ⟨I1.kIn, ?_⟩) he hpl
  exact run_make M F hr hb hd hx I1 r q
end
section
variable {X : Cx} {CX : CXT} {k : Nat} {f C : Addr} {fd : FuncData} {ps ks : List Str} {sp : Sp} {E : XK} {x m : Str} {p pos apos kpos : Pos} {e o : Expr} {es : List Expr} {kws : List Keyword} {te ta : TE} {t tk : TA} {nm : Option Str}
variable {g : List Value → List Value → List Value} {gV : List V → List V → List V}
end
structure FnScope (N P : List Str) (sc : Scope) : Prop where
  kind : sc.kind = .function
  co : sc.isCoroutine = false
  gen : sc.isGenerator = false
  nd : N.Nodup
  pre : N.take P.length = P
  par : ∀ x ∈ P, sc.names.lookup x = some .local ∨ sc.names.lookup x = some .cell
  nofree : ∀ y ∈ sc.names, y.2 ≠ .free
theorem bindL_out {kindOf : Str → Option NameKind} {x : Str} : ∀ {binds : List (Str × Value)} {m : Str → Option Value}, (∀ v, (x, v) ∉ binds) → bindL kindOf binds m x = m x
  | [], _, _ => rfl
  | (n, v) :: r, m, h => by
    unfold bindL
    rw [bindL_out fun w hw => h w (List.mem_cons_of_mem _ hw)]
    split
    · have : x ≠ n := by rintro rfl; exact h v List.mem_cons_self
      simp [this]
    · rfl
theorem bindC_out {kindOf : Str → Option NameKind} {x : Str} : ∀ {binds : List (Str × Value)} {m : Str → Option Value}, (∀ v, (x, v) ∉ binds) → bindC kindOf binds m x = m x
  | [], _, _ => rfl
  | (n, v) :: r, m, h => by
    unfold bindC
    rw [bindC_out fun w hw => h w (List.mem_cons_of_mem _ hw)]
    split
    · rfl
    · have : x ≠ n := by rintro rfl; exact h v List.mem_cons_self
      simp [this]
theorem bindL_get {kindOf : Str → Option NameKind} {x : Str} {v : Value} : ∀ {P : List Str} {vs : List Value} {i : Nat} {m : Str → Option Value}, P.Nodup → P[i]? = some x → vs[i]? = some v → kindOf x = some .local →
    bindL kindOf (P.zip vs) m x = some v
  | [], _, _, _, _, h, _, _ => by simp at h
  | _ :: _, [], _, _, _, _, h, _ => by simp at h
  | p :: P, w :: vs, 0, m, nd, h1, h2, hk => by
    simp at h1 h2; subst h1; subst h2
    show bindL kindOf ((p, w) :: P.zip vs) m p = _
    unfold bindL
    rw [bindL_out fun v hv => (List.nodup_cons.mp nd).1 (List.of_mem_zip hv).1, if_pos hk]
    simp
  | p :: P, w :: vs, i + 1, m, nd, h1, h2, hk => by
    show bindL kindOf ((p, w) :: P.zip vs) m x = _
    unfold bindL
    exact bindL_get (i := i) (List.nodup_cons.mp nd).2 (by simpa using h1) (by simpa using h2) hk
theorem bindC_get {kindOf : Str → Option NameKind} {x : Str} {v : Value} : ∀ {P : List Str} {vs : List Value} {i : Nat} {m : Str → Option Value}, P.Nodup → P[i]? = some x → vs[i]? = some v → kindOf x ≠ some .local →
    bindC kindOf (P.zip vs) m x = some v
  | [], _, _, _, _, h, _, _ => by simp at h
  | _ :: _, [], _, _, _, _, h, _ => by simp at h
  | p :: P, w :: vs, 0, m, nd, h1, h2, hk => by
    simp at h1 h2; subst h1; subst h2
    show bindC kindOf ((p, w) :: P.zip vs) m p = _
    unfold bindC
    rw [bindC_out fun v hv => (List.nodup_cons.mp nd).1 (List.of_mem_zip hv).1, if_neg hk]
    simp
  | p :: P, w :: vs, i + 1, m, nd, h1, h2, hk => by
    show bindC kindOf ((p, w) :: P.zip vs) m x = _
    unfold bindC
    exact bindC_get (i := i) (List.nodup_cons.mp nd).2 (by simpa using h1) (by simpa using h2) hk
def start (N : List Str) (vs : List V) : St := vs.map some ++ List.replicate (N.length - vs.length) none
def cxOf (CX : CXT) (P : Program) (w : World) (K : PySem.W.Frag) (mg : Str → Option Value) (base : Heap) (N : List Str) (qual : Str) (scope : Scope) (f : Addr) (cd : Value) (A : Around) (outer : List Env) (s : Shared) (H : Hp) (E : XK) : Cx where
  prog := P
  w := w
  K := K
  mg := mg
  base := base
  A := A.deeper (envOfC qual scope s.heap.objs.size f cd)
  N := N
  s₀ := s
  H₀ := H
  env := envOfC qual scope s.heap.objs.size f cd
  outer := outer
  stack := envOfC qual scope s.heap.objs.size f cd :: outer
  ex := []
  calm := true
  fn := fun _ => true
  pn := []
  xe := fun e s' => wpAny (model P w) (A.deeper (envOfC qual scope s.heap.objs.size f cd)) (leaving (envOfC qual scope s.heap.objs.size f cd) e) (fun _ s'' => CX outer H s E e s'') (fun e' s'' => CX outer H s E e' s'') s'
theorem cell_has {sc : Scope} {n : Nat} {x : Str} (h : sc.names.lookup x = some .cell) : ∃ c, (cellsFrom n sc.names []).lookup x = some c := by
  have q := PySem.W.cellsFrom_some sc.names n [] (.inl h)
  exact Option.isSome_iff_exists.mp q
theorem inv_start {CX : CXT} {P : Program} {w : World} {K : PySem.W.Frag} {mg : Str → Option Value} {base : Heap} {N ps : List Str} {qual : Str} {scope : Scope} {f : Addr} {cd : Value} {A : Around} {outer : List Env} {s s1 : Shared} {H : Hp} {E : XK} {us : List Value} {vs : List V}
    (S : FnScope N ps scope) (hd : A.handled = none) (e0 : Env0 P w K mg base A outer s H) (hl : vs.length = ps.length) (r : Vals vs us)
    (x : InCallC s s.heap.objs.size (bindL (envOfC qual scope s.heap.objs.size f cd).kindOf (ps.zip us) fun _ => none) (cellsFrom (s.heap.objs.size + 1) scope.names []) (bindC (envOfC qual scope s.heap.objs.size f cd).kindOf (ps.zip us) fun _ => none) s1) :
    Inv (cxOf CX P w K mg base N qual scope f cd A outer s H E) [] (start N vs) H s1 := by
  have hpl : ps.length ≤ N.length := by have := congrArg List.length S.pre; rw [List.length_take] at this; omega
  obtain ⟨h1, tk, rfl, hk⟩ := x.done
  have noA : ∀ b : Addr, b ∉ (cxOf CX P w K mg base N qual scope f cd A outer s H E).ex := fun b z => absurd (show b ∈ ([] : List Addr) from z) (by simp)
  refine ⟨⟨e0.mod, S.kind, rfl, rfl, Nat.le_refl _, fun y z c h1 h2 => ?_, fun y hy => ?_, fun y c _ h => ?_, fun _ => hd, Around.frames_deeper e0.frames, .inr ⟨rfl, rfl⟩, fun b z => absurd z (noA b), e0.bs, e0.bsz, fun b _ _ => noA b, fun b z => absurd z (noA b), e0.funs, e0.frf⟩,
    rfl, e0.bare, Un.kept hk, ⟨_, x.toInCall.ns, fun i y v h1 h2 h3 => ?_⟩, fun y c h => ⟨_, x.cell y c h⟩, e0.hok.fresh (Nat.le_refl _), fun y c h => ?_, fun p hp => absurd (show p ∈ ([] : List (Addr × Obj)) from hp) (by simp), e0.hok.kept hk, ?_⟩
  · exact name_of_addr x.apart (PySem.mem_of_lookup h1) (PySem.mem_of_lookup h2)
  · have hy : scope.names.lookup y = some .cell ∨ scope.names.lookup y = some .free := hy
    rcases hy with hy | hy
    · exact cell_has hy
    · exact absurd rfl (S.nofree _ (PySem.mem_of_lookup hy))
  · exact Nat.le_of_lt (x.above y c (PySem.mem_of_lookup h))
  · have hi : i < vs.length := by
      unfold start at h2
      by_cases hi : i < vs.length
      · exact hi
      · rw [List.getElem?_append_right (by simpa using hi)] at h2
        rw [List.getElem?_replicate] at h2
        split at h2 <;> cases h2
    have ha : vs[i]? = some v := by
      unfold start at h2
      rw [List.getElem?_append_left (by simpa using hi), List.getElem?_map] at h2
      cases e : vs[i]? with
      | none => rw [e] at h2; cases h2
      | some a => rw [e] at h2; cases h2; rfl
    obtain ⟨u, hu, rv⟩ := r.get ha
    have hp : ps[i]? = some y := by
      rw [← S.pre, List.getElem?_take_of_lt (by omega)]; exact h1
    have ndP : ps.Nodup := by rw [← S.pre]; exact S.nd.sublist (List.take_sublist _ _)
    refine ⟨u, rv, ?_⟩
    rcases S.par y (List.mem_of_getElem? hp) with k | k
    · exact .inl ⟨k, bindL_get ndP hp hu k⟩
    · obtain ⟨c, e⟩ := cell_has (n := s.heap.objs.size + 1) k
      refine .inr ⟨.inl k, c, e, ?_⟩
      have q := x.cell y c e
      rw [bindC_get ndP hp hu (by show scope.names.lookup y ≠ _; rw [k]; decide)] at q
      exact q
  · exact e0.hok.fresh (Nat.le_of_lt (x.above y c (PySem.mem_of_lookup h)))
  · unfold start
    show _ = N.length
    rw [List.length_append, List.length_map, List.length_replicate]
    omega
theorem fn_of {CX : CXT} {P : Program} {w : World} {K : PySem.W.Frag} {mg : Str → Option Value} {base : Heap} {k : Nat} {f : Addr} {name qual : Str} {params : Arguments} {body : List Stmt} {scope : Scope} {dV kV doc pm cdv ct oc : Value} {an od : Option Addr}
    {osl : Array (Option Value)} {N ps : List Str} {sp : Sp} (lk : K.lookup f = some ⟨oc, od, .func (PySem.W.fnOf name qual params body scope dV kV doc pm an cdv ct), osl⟩) (hcd : PySem.W.codeIn K cdv qual = true) (S : FnScope N ps scope)
    (len : ∀ vs H Q E, sp vs H Q E → vs.length = ps.length)
    (hbody : ∀ (A : Around) (outer : List Env) (s : Shared) (H : Hp) (vs : List V) (Q : VK) (E : XK), Room k (A.deeper (envOfC qual scope s.heap.objs.size f cdv)) → sp vs H Q E →
      ∃ t, PSs (cxOf CX P w K mg base N qual scope f cdv A outer s H E) body t ∧ t { nx := fun _ H' => Q .non H', rt := Q } (start N vs) H) :
    FnOk P w K mg base CX (k + 1) f (PySem.W.fnOf name qual params body scope dV kV doc pm an cdv ct) ps sp := by
  refine ⟨len, fun A outer s H args us vs Q E hr e0 hb r hsp => ?_⟩
  have hl := len _ _ _ _ hsp
  have KX : K.In s.heap := e0.mod.kin.keeps fun b o e => (e0.bs b o e).1
  have lim : s.heap.NoLimit := e0.mod.nolimit.keeps fun b o e => (e0.bs b o e).1
  have hkind : ∀ y ∈ ps.zip us, scope.names.lookup y.1 = some .local ∨ (scope.names.lookup y.1 = some .cell ∧ ((cellsFrom (s.heap.objs.size + 1) scope.names []).lookup y.1).isSome = true) := fun ⟨n, v⟩ hy => by
    rcases S.par n (List.of_mem_zip hy).1 with q | q
    · exact .inl q
    · exact .inr ⟨q, PySem.W.cellsFrom_some _ _ _ (.inl q)⟩
  refine codeAny_call_function hr.depth (KX _ _ lk) rfl S.co S.gen rfl (PySem.W.codeRec_of KX hcd) (hb _ _ _ _ ?_)
  refine wpAny_newFunctionEnv_cells S.kind hkind fun env he s1 x => ?_
  subst he
  refine ⟨lim.keeps x.toInCall.keep, codeAny_func ?_⟩
  obtain ⟨t, ht, hq⟩ := hbody A outer s H vs Q E (hr.deeper _) hsp
  have I : Inv (cxOf CX P w K mg base N qual scope f cdv A outer s H E) [] (start N vs) H s1 := inv_start S hr.hd e0 hl r x
  refine wpAny_mono (ht [] s1 (start N vs) H _ I hq) (fun fl s' hs => ?_) fun e s' hs => hs
  have fin : ∀ {σ' : St} {H' : Hp} {v : V} {u : Value}, Inv (cxOf CX P w K mg base N qual scope f cdv A outer s H E) [] σ' H' s' → RelV v u → Q v H' → CE outer P w H s Q u s' :=
    fun {σ' H' v u} J rv q => ⟨v, H', J.os, J.bare, J.base, J.hok, rv, q⟩
  cases fl with
  | ret u =>
    obtain ⟨v, σ', H', J, rv, q⟩ := hs
    exact fin J rv q
  | next =>
    obtain ⟨σ', H', J, q⟩ := hs
    exact fin (v := V.non) (u := Value.none) J rfl q
  | brk =>
    obtain ⟨_, _, _, q⟩ := hs
    exact False.elim q
  | cont =>
    obtain ⟨_, _, _, q⟩ := hs
    exact False.elim q
end L2
namespace L2
open PySem PySem.Spec PyProof.Rows
section
variable {X : Cx} {x : Str} {p pos : Pos} {e : Expr} {es : List Expr} {t : TA} {id T : String} {r : List V → Hp → VK → Prop}
def tCB (r : List V → Hp → VK → Prop) (t : TA) : TE := fun σ H Q => t σ H fun vs H1 => r vs H1 Q
theorem pe_callB (hc : CallR X (.builtin id) r) (hg : Gl X x) (hm : X.mg x = none) (hv : bootBuiltins x = some (.builtin id)) (ha : PA X (e :: es) t) (hn : x ≠ "__name__" := by decide) (hdb : (x == ("__debug__" : Str)) = false := by decide)
    (he : starEach (e :: es) X.env = (false, eval e X.env) :: starEach es X.env := by rfl) (hpl : (backTo pos (starEach es X.env)).any (·.1) = false := by rfl) : PE X (.Call (.Name x p) (e :: es) [] pos) (tCB r t) := by
  intro pins s σ H Q I h
  refine wpAny_Call_Name_kw (ld_blt I hg hm hv ?_ hn hdb)
  exact PyProof.Rows.callWith_builtin1 (thn (ha pos pins s σ H _ I h) fun us s1 ⟨vs, H1, I1, r1, q1⟩ => hc pins s1 σ H1 vs us Q I1 r1 q1) he hpl
theorem pe_callTy (hc : CallR X (.type T) r) (hg : Gl X x) (hm : X.mg x = none) (hv : bootBuiltins x = some (.type T)) (ha : PA X (e :: es) t) (hn : x ≠ "__name__" := by decide) (hdb : (x == ("__debug__" : Str)) = false := by decide)
    (he : starEach (e :: es) X.env = (false, eval e X.env) :: starEach es X.env := by rfl) (hpl : (backTo pos (starEach es X.env)).any (·.1) = false := by rfl) : PE X (.Call (.Name x p) (e :: es) [] pos) (tCB r t) := by
  intro pins s σ H Q I h
  refine wpAny_Call_Name_kw (ld_blt I hg hm hv ?_ hn hdb)
  exact PyProof.Rows.callWith_type1 (thn (ha pos pins s σ H _ I h) fun us s1 ⟨vs, H1, I1, r1, q1⟩ => hc pins s1 σ H1 vs us Q I1 r1 q1) he hpl
end
end L2
namespace HT
open PySem PyProof.Rows
section
open PySem.SeqAt
open PySem.AutoSeq1 (wpAny_loadPart')
open PySem.MeetsSeq PySem.MeetsSeq2 PySem.MeetsSeq3
end
section
variable {prog : Program} {w : World} {A : Around} {E : Value → Shared → Prop} {s : Shared}
def sIx (n d : Nat) : Option Int → Nat
  | none => d
  | some v => if v < 0 then (v + (n : Int)).toNat else min v.toNat n
end
end HT
namespace L2
open PySem PySem.Spec PyProof.Rows
theorem intsAre_of {ns : List Int} : ∀ {us : List Value}, Vals (ns.map V.int) us → IntsAre us ns := by
  induction ns with
  | nil => intro us r; rw [List.map_nil] at r; cases r; exact .nil
  | cons n ns ih =>
    intro us r
    rw [List.map_cons] at r
    cases r with
    | cons r1 r2 =>
      obtain ⟨t, e⟩ := r1
      subst e
      exact .cons n t (ih r2)
section
variable {X : Cx} {e : Expr} {te : TE} {lo hi : Option Expr} {tl th : TO} {pos p2 : Pos}
def SlR (X : Cx) (r : V → Option Int → Option Int → Hp → VK → Prop) : Prop :=
  ∀ (pins : List (Addr × Obj)) (s : Shared) (σ : St) (H : Hp) (x : V) (v vl vu : Value) (lo hi : Option Int) (sl : Addr) (Q : VK), Inv X pins σ H s → RelV x v → s.heap.IsSliceOf sl vl vu .none → IsPart vl lo → IsPart vu hi → r x lo hi H Q →
    ∃ T id, typeLookup (.type T) "__getitem__" = pure (some (.builtin id)) ∧ s.TypeIs v T ∧ wpAny (model X.prog X.w) X.A (getItem v (.ref sl)) (EP X pins σ Q) X.xe s
def cutV (xs : List V) (lo hi : Option Int) : List V := (xs.drop (HT.sIx xs.length 0 lo)).take (HT.sIx xs.length xs.length hi - HT.sIx xs.length 0 lo)
theorem cutV_length (xs : List V) (lo hi : Option Int) : (cutV xs lo hi).length ≤ xs.length := by
  unfold cutV
  rw [List.length_take, List.length_drop]
  omega
end
end L2
namespace L2
open PySem PySem.Spec PyProof.Rows
def ixN (n : Nat) (i : Int) : Option Nat := if 0 ≤ i then (if i < n then some i.toNat else none) else if -(n : Int) ≤ i then some (i + n).toNat else none
def atI {α : Type} (xs : List α) (i : Int) : Option α := (ixN xs.length i).bind fun j => xs[j]?
theorem ixN_seq {n : Nat} {i : Int} {j : Nat} (h : ixN n i = some j) : seqIndex? i n = some j ∧ j < n ∧ -(n : Int) ≤ i ∧ i < n := by
  unfold ixN at h
  by_cases h0 : 0 ≤ i
  · rw [if_pos h0] at h
    by_cases h1 : i < n
    · rw [if_pos h1] at h
      have e : i.toNat = j := Option.some.inj h
      exact ⟨by rw [seqIndex_of h0 h1, e], by omega, by omega, h1⟩
    · rw [if_neg h1] at h; cases h
  · rw [if_neg h0] at h
    by_cases h1 : -(n : Int) ≤ i
    · rw [if_pos h1] at h
      have e : (i + n).toNat = j := Option.some.inj h
      exact ⟨by rw [seqIndex_neg (by omega) h1, e], by omega, h1, by omega⟩
    · rw [if_neg h1] at h; cases h
theorem atI_get {α : Type} {xs : List α} {i : Int} {v : α} (h : atI xs i = some v) : ∃ j, seqIndex? i xs.length = some j ∧ xs[j]? = some v ∧ j < xs.length ∧ -(xs.length : Int) ≤ i ∧ i < xs.length := by
  unfold atI at h
  cases e : ixN xs.length i with
  | none => rw [e] at h; cases h
  | some j =>
    rw [e] at h
    obtain ⟨h1, h2, h3, h4⟩ := ixN_seq e
    exact ⟨j, h1, h, h2, h3, h4⟩
theorem atI_nat {α : Type} {xs : List α} {j : Nat} {v : α} (h : xs[j]? = some v) : atI xs (j : Int) = some v := by
  have hj : j < xs.length := (List.getElem?_eq_some_iff.mp h).1
  have e : ixN xs.length (j : Int) = some j := by
    unfold ixN
    rw [if_pos (by omega), if_pos (by omega)]; simp
  unfold atI; rw [e]; exact h
def PlainIx (b : Expr) : Prop := ∀ o i, subscripted b false o i = operate [o, i] (getItem o i)
def IxR (X : Cx) (r : R2) : Prop :=
  ∀ (value slice : Expr) (pins : List (Addr × Obj)) (s : Shared) (σ : St) (H : Hp) (x y : V) (v u : Value) (Q : VK), Inv X pins σ H s → RelV x v → RelV y u → r x y H Q →
    subscripted slice false v u = operate [v, u] (getItem v u) → wpAny (model X.prog X.w) X.A (subscriptTail value slice v u) (EP X pins σ Q) X.xe s
def MtR (X : Cx) (id : String) (r : V → List V → Hp → VK → Prop) : Prop :=
  ∀ (pins : List (Addr × Obj)) (s : Shared) (σ : St) (H : Hp) (x : V) (xs : List V) (v : Value) (us : List Value) (Q : VK), Inv X pins σ H s → RelV x v → Vals xs us → r x xs H Q →
    wpAny (model X.prog X.w) X.A (call (.builtin id) (v :: us)) (EP X pins σ Q) X.xe s
section
variable {X : Cx} {a b : Expr} {ta tb : TE} {pos : Pos}
theorem IxR.or {r r' : R2} (h : IxR X r) (h' : IxR X r') : IxR X (fun x y H Q => r x y H Q ∨ r' x y H Q) := by
  intro value slice pins s σ H x y v u Q I rx ry q hs
  rcases q with q | q
  · exact h value slice pins s σ H x y v u Q I rx ry q hs
  · exact h' value slice pins s σ H x y v u Q I rx ry q hs
theorem pe_ix {r : R2} (hr : IxR X r) (ha : PE X a ta) (hb : PE X b tb) (hs : PlainIx b) : PE X (.Subscript a b pos) (tOp r ta tb) := by
  intro pins s σ H Q I h
  exact Subscript_ (binT ha hb I h fun v u s2 x y H2 I2 rx ry q => hr a b pins s2 σ H2 x y v u Q I2 rx ry q (hs _ _))
def rIxL (K : PySem.W.Frag) : R2 := fun x y H Q => ∃ p xs i v, x = .ref p ∧ y = .int i ∧ SqL K H p xs ∧ atI xs i = some v ∧ Q v H
def rIxT (K : PySem.W.Frag) : R2 := fun x y H Q => ∃ p xs i v, x = .ref p ∧ y = .int i ∧ SqT K H p xs ∧ atI xs i = some v ∧ Q v H
def rIxS : R2 := fun x y H Q => ∃ z i c, x = .str z ∧ y = .int i ∧ z.length ≤ sizeLine ∧ atI z.cps.toList i = some c ∧ Q (.str ⟨#[c]⟩) H
theorem ix_list : IxR X (rIxL X.K) := by
  intro value slice pins s σ H x y v u Q I rx ry h hs
  obtain ⟨p, xs, i, z, rfl, rfl, hq, he, q⟩ := h
  cases rx
  obtain ⟨t, rfl⟩ := ry
  obtain ⟨its, r, pl, hz⟩ := I.list hq
  obtain ⟨j, h1, h2, h3, h4, h5⟩ := atI_get he
  obtain ⟨w, ew, rw'⟩ := r.get h2
  have hl := r.length
  have hn := line63
  have fin : EP X pins σ Q w s := ⟨z, H, I, rw', q⟩
  by_cases h0 : 0 ≤ i
  · have hj : i.toNat = j := by
      rw [seqIndex_of h0 h5] at h1
      exact Option.some.inj h1
    exact item_listR pl.isList h0 (by omega) (by rw [hj]; simpa using ew) fin hs
  · have hj : (i + (its.toArray.size : Int)).toNat = j := by
      rw [seqIndex_neg (by omega) h4] at h1
      rw [List.size_toArray, ← hl]
      exact Option.some.inj h1
    exact subscriptTail_builtinR (x := w) pl.isList.typeIs slot_list_getitem.lookup
      (wpAny_getItem_list_neg (Q := fun r s' => r = w ∧ EP X pins σ Q r s') pl.isList (by omega) (by rw [List.size_toArray] <;> omega) (by omega) (by rw [hj]; simpa using ew) ⟨rfl, fin⟩) hs
theorem ix_tup : IxR X (rIxT X.K) := by
  intro value slice pins s σ H x y v u Q I rx ry h hs
  obtain ⟨p, xs, i, z, rfl, rfl, hq, he, q⟩ := h
  cases rx
  obtain ⟨t, rfl⟩ := ry
  obtain ⟨its, r, pl, hz⟩ := I.tuple hq
  obtain ⟨j, h1, h2, h3, h4, h5⟩ := atI_get he
  obtain ⟨w, ew, rw'⟩ := r.get h2
  have hl := r.length
  have hn := line63
  have fin : EP X pins σ Q w s := ⟨z, H, I, rw', q⟩
  exact subscriptTail_builtinR (x := w) pl.typeIs slot_tuple_getitem.lookup
    (getItem_tuple (j := j) (Q := fun r s' => r = w ∧ EP X pins σ Q r s') pl (by omega) (by omega) (by rw [List.size_toArray, ← hl]; exact h1) (by simpa using ew) ⟨rfl, fin⟩) hs
theorem ix_str : IxR X rIxS := by
  intro value slice pins s σ H x y v u Q I rx ry h hs
  obtain ⟨z, i, c, rfl, rfl, hz, he, q⟩ := h
  obtain ⟨t, rfl⟩ := rx
  obtain ⟨t', rfl⟩ := ry
  obtain ⟨j, h1, h2, h3, h4, h5⟩ := atI_get he
  have hl : z.cps.toList.length = z.length := by simp [Str.length]
  rw [hl] at h1 h4 h5
  have hn := line63
  exact tail_any (typeIs_str s z t) slot_str_getitem.lookup (getItem_str (c := c) (by
    have e1 : decide (i < -(2 ^ 63 : Int)) = false := decide_eq_false (by omega)
    have e2 : decide (i ≥ 2 ^ 63) = false := decide_eq_false (by omega)
    rw [e1, e2, Bool.or_false]) (by rw [h1]; simpa using h2) ⟨.str ⟨#[c]⟩, H, I.tok _, ⟨_, rfl⟩, q⟩) hs
def rIx (K : PySem.W.Frag) : R2 := fun x y H Q => rIxL K x y H Q ∨ rIxT K x y H Q ∨ rIxS x y H Q
theorem ix_seq : IxR X (rIx X.K) := ix_list.or (ix_tup.or ix_str)
theorem mapSeq_set (its : List Value) (n j : Nat) (u : Value) : Obj.mapSeq (·.setIfInBounds j u) { cls := .type "list", data := .seq its.toArray n } = { cls := .type "list", data := .seq (its.set j u).toArray n } := by
  simp [Obj.mapSeq]
theorem Inv.lst {pins : List (Addr × Obj)} {σ : St} {H : Hp} {s : Shared} {p : Addr} {xs : List V} (I : Inv X pins σ H s) (h : H p = some (.lst xs)) :
    ∃ (its : List Value) (n : Nat), Vals xs its ∧ s.heap.get? p = some { cls := .type "list", data := .seq its.toArray n } ∧ xs.length ≤ sizeLine := by
  obtain ⟨z, its, n, r, e⟩ := I.hok p _ h
  exact ⟨its, n, r, e, z⟩
theorem Inv.lstUpd {pins : List (Addr × Obj)} {σ : St} {H : Hp} {s : Shared} {p : Addr} {xs ys : List V} {its its' : List Value} {n n' : Nat} {f : Obj → Obj} (I : Inv X pins σ H s) (h : H p = some (.lst xs))
    (ho : s.heap.get? p = some { cls := .type "list", data := .seq its.toArray n }) (hf : f { cls := .type "list", data := .seq its.toArray n } = { cls := .type "list", data := .seq its'.toArray n' }) (r : Vals ys its') (hz : ys.length ≤ sizeLine) (t : Nat) :
    Inv X pins σ (upd H p (.lst ys)) { s with heap := s.heap.update p f, toks := t } := by
  have e : (s.heap.update p f).get? p = some { cls := .type "list", data := .seq its'.toArray n' } := by
    rw [Heap.get?_update_self f ho (by rw [hf] <;> rfl), hf]
  refine I.write (x := p) (e := p) (by rw [h]; trivial) (.inl rfl) (fun b u hb q => (Heap.get?_update_other _ _ (Ne.symm hb)).trans q) ⟨_, e⟩ ?_
  exact ⟨hz, its', n', r, e⟩
def rSetL : V → V → V → Hp → (Hp → Prop) → Prop := fun o i v H Q => ∃ p xs k j, o = .ref p ∧ i = .int k ∧ H p = some (.lst xs) ∧ ixN xs.length k = some j ∧ Q (upd H p (.lst (xs.set j v)))
theorem set_list : PSet X rSetL := by
  intro pins s σ H o i v ov iv u Q I ro ri rv h
  obtain ⟨p, xs, k, j, rfl, rfl, hp, hj, q⟩ := h
  cases ro
  obtain ⟨t, rfl⟩ := ri
  obtain ⟨its, n, r, ho, hz⟩ := I.lst hp
  obtain ⟨h1, h2, h3, h4⟩ := ixN_seq hj
  have hl := r.length
  have hn := line63
  have I' : Inv X pins σ (upd H p (.lst (xs.set j v))) { s with heap := s.heap.update p (Obj.mapSeq (·.setIfInBounds j u)) } :=
    I.lstUpd hp ho (mapSeq_set its n j u) (r.set rv j) (by rw [List.length_set]; exact hz) s.toks
  by_cases h0 : 0 ≤ k
  · have hk : k.toNat = j := by
      rw [seqIndex_of h0 h4] at h1
      exact Option.some.inj h1
    exact PySem.W.ki_setAt ho h0 (by omega) (by rw [List.size_toArray, ← hl]; exact h4) (by rw [hk]; exact ⟨_, I', q⟩)
  · have hk : (k + (its.toArray.size : Int)).toNat = j := by
      rw [seqIndex_neg (by omega) h3] at h1
      rw [List.size_toArray, ← hl]
      exact Option.some.inj h1
    exact PySem.W.ki_setBack ho (by omega) (by rw [List.size_toArray, ← hl]; exact h3) (by omega) (by rw [hk]; exact ⟨_, I', q⟩)
theorem slice_bounds (lo hi : Option Int) (n : Nat) : (sliceBounds lo hi none n).1 = ((HT.sIx n 0 lo : Nat) : Int) ∧ (sliceBounds lo hi none n).2.1 = ((HT.sIx n n hi : Nat) : Int) ∧ (sliceBounds lo hi none n).2.2 = 1 := by
  refine ⟨?_, ?_, rfl⟩
  · cases lo with
    | none => simp [sliceBounds, HT.sIx]
    | some i =>
      simp only [sliceBounds, HT.sIx, Option.getD_none, show (1 : Int) > 0 by decide, if_true]
      by_cases h : i < 0
      · simp only [h, if_true] <;> omega
      · simp only [h, if_false] <;> omega
  · cases hi with
    | none => simp [sliceBounds, HT.sIx]
    | some i =>
      simp only [sliceBounds, HT.sIx, Option.getD_none, show (1 : Int) > 0 by decide, if_true]
      by_cases h : i < 0
      · simp only [h, if_true] <;> omega
      · simp only [h, if_false] <;> omega
theorem slicePick_cut (its : List Value) (lo hi : Option Int) : slicePick its.toArray lo hi none = ((its.drop (HT.sIx its.length 0 lo)).take (HT.sIx its.length its.length hi - HT.sIx its.length 0 lo)).toArray := by
  obtain ⟨h1, h2, h3⟩ := slice_bounds lo hi its.toArray.size
  unfold slicePick
  rw [h1, h2, h3]
  simp only [sliceRange_one, pick_run, List.size_toArray] <;> rfl
def rSlL (K : PySem.W.Frag) : V → Option Int → Option Int → Hp → VK → Prop := fun x lo hi H Q => ∃ a xs, x = .ref a ∧ SqL K H a xs ∧ ∀ p, H p = none → Q (.ref p) (upd H p (.lst (cutV xs lo hi)))
theorem sl_list : SlR X (rSlL X.K) := by
  intro pins s σ H x v vl vu lo hi sl Q I rx hs pl pu h
  obtain ⟨a, xs, rfl, hx, q⟩ := h
  cases rx
  obtain ⟨its, r, ht, hz⟩ := I.list hx
  have hlen := r.length
  refine ⟨"list", _, slot_list_getitem.lookup, ht.isList.typeIs, ?_⟩
  refine wpAny_getItem_list_slice ht.isList hs pl pu .none (by simp) ?_ (by rw [List.size_toArray] <;> omega)
  rw [slicePick_cut, ← hlen]
  refine ⟨.ref s.heap.objs.size, _, I.laid (t' := s.toks) (o := .lst (cutV xs lo hi)) (fun b ob q => Heap.get?_push_of_some _ q) (Nat.le_refl _) ?_, rfl, q _ (I.hok.fresh (Nat.le_refl _))⟩
  exact ⟨Nat.le_trans (cutV_length xs lo hi) hz, _, 0, (r.drop (HT.sIx xs.length 0 lo)).take (HT.sIx xs.length xs.length hi - HT.sIx xs.length 0 lo), Heap.get?_push_size _ rfl⟩
def flatV : V → Bool
  | .non => true
  | .bl _ => true
  | .int _ => true
  | .str _ => true
  | _ => false
def eqV : V → V → Bool
  | .non, .non => true
  | .bl a, .bl b => a == b
  | .bl a, .int b => (if a then 1 else 0) == b
  | .int a, .bl b => a == (if b then 1 else 0)
  | .int a, .int b => a == b
  | .str a, .str b => a == b
  | _, _ => false
theorem eqAt_V {A : Around} {s : Shared} {y x : V} {u v : Value} (ry : RelV y u) (rx : RelV x v) (fy : flatV y = true) (fx : flatV x = true) : SeqAt.EqAt A s u v (eqV y x) := by
  cases y with
  | non =>
    cases ry
    cases x with
    | non => cases rx; exact SeqAt.EqAt.same _
    | bl b => cases rx; exact SeqAt.EqAt.none_bool b
    | int b => obtain ⟨t, rfl⟩ := rx; exact SeqAt.EqAt.none_int b t
    | str b => obtain ⟨t, rfl⟩ := rx; exact SeqAt.EqAt.none_str b t
    | _ => exact absurd (show false = true from fx) Bool.false_ne_true
  | bl a =>
    cases ry
    cases x with
    | non => cases rx; exact SeqAt.EqAt.bool_none a
    | bl b => cases rx; exact SeqAt.EqAt.bool_bool a b
    | int b => obtain ⟨t, rfl⟩ := rx; exact SeqAt.EqAt.bool_int a b t
    | str b => obtain ⟨t, rfl⟩ := rx; exact SeqAt.EqAt.bool_str a b t
    | _ => exact absurd (show false = true from fx) Bool.false_ne_true
  | int a =>
    obtain ⟨t', rfl⟩ := ry
    cases x with
    | non => cases rx; exact SeqAt.EqAt.int_none a t'
    | bl b => cases rx; exact SeqAt.EqAt.int_bool a t' b
    | int b => obtain ⟨t, rfl⟩ := rx; exact SeqAt.EqAt.int_int a t' b t
    | str b => obtain ⟨t, rfl⟩ := rx; exact SeqAt.EqAt.int_str a t' b t
    | _ => exact absurd (show false = true from fx) Bool.false_ne_true
  | str a =>
    obtain ⟨t', rfl⟩ := ry
    cases x with
    | non => cases rx; exact SeqAt.EqAt.str_none a t'
    | bl b => cases rx; exact SeqAt.EqAt.str_bool a t' b
    | int b => obtain ⟨t, rfl⟩ := rx; exact SeqAt.EqAt.str_int a t' b t
    | str b => obtain ⟨t, rfl⟩ := rx; exact SeqAt.EqAt.str_str a t' b t
    | _ => exact absurd (show false = true from fx) Bool.false_ne_true
  | _ => exact absurd (show false = true from fy) Bool.false_ne_true
def eqU (x : V) (u : Value) : Bool := match u with
  | .none => eqV .non x
  | .bool b => eqV (.bl b) x
  | .int i _ => eqV (.int i) x
  | .str z _ => eqV (.str z) x
  | _ => false
theorem eqU_of {x y : V} {u : Value} (r : RelV y u) (f : flatV y = true) : eqU x u = eqV y x := by
  cases y with
  | non => cases r; rfl
  | bl b => cases r; rfl
  | int i => obtain ⟨t, rfl⟩ := r; rfl
  | str z => obtain ⟨t, rfl⟩ := r; rfl
  | _ => exact absurd (show false = true from f) Bool.false_ne_true
theorem mem_eqAt {A : Around} {s : Shared} {x : V} {v : Value} (rx : RelV x v) (fx : flatV x = true) : ∀ {xs : List V} {us : List Value}, Vals xs us → xs.all flatV = true → ∀ u ∈ us, SeqAt.EqAt A s u v (eqU x u)
  | _, _, .nil, _ => fun u hu => by cases hu
  | y :: xs, u :: us, .cons r t, f => fun u' hu => by
    rw [List.all_cons, Bool.and_eq_true] at f
    rcases List.mem_cons.mp hu with rfl | hu
    · rw [eqU_of r f.1]; exact eqAt_V r rx f.1 fx
    · exact mem_eqAt rx fx t f.2 u' hu
theorem call_len_seq : CallR X (.builtin "len") (fun xs H Q => ∃ p ys, xs = [.ref p] ∧ (SqL X.K H p ys ∨ SqT X.K H p ys) ∧ Q (.int ys.length) H) := by
  intro pins s σ H xs us Q I r h
  obtain ⟨p, ys, rfl, hq, q⟩ := h
  obtain ⟨u, rfl, rx⟩ := vals1 r
  cases rx
  have hn := line63
  rcases hq with hq | hq
  · obtain ⟨its, r', pl, hz⟩ := I.list hq
    have hlen := r'.length
    exact Calls.call_len_list pl.isList (by simp only [List.size_toArray] <;> omega) ⟨.int ys.length, H, I.tok _, ⟨s.toks + 1, by rw [List.size_toArray, hlen]⟩, q⟩
  · obtain ⟨its, r', pl, hz⟩ := I.tuple hq
    have hlen := r'.length
    exact len_tuple pl (by simp only [List.size_toArray] <;> omega) ⟨.int ys.length, H, I.tok _, ⟨s.toks + 1, by rw [List.size_toArray, hlen]⟩, q⟩
theorem call_list_of : CallR X (.type "list") (fun xs H Q => ∃ p ys, xs = [.ref p] ∧ (SqL X.K H p ys ∨ SqT X.K H p ys) ∧ ∀ l, H l = none → Q (.ref l) (upd H l (.lst ys))) := by
  intro pins s σ H xs us Q I r h
  obtain ⟨p, ys, rfl, hq, q⟩ := h
  obtain ⟨u, rfl, rx⟩ := vals1 r
  cases rx
  have fin : ∀ (its : List Value), Vals ys its → ys.length ≤ sizeLine → ∀ (h' : Heap) (c' : Nat), (∀ b o', s.heap.get? b = some o' → h'.get? b = some o') →
      h'.get? s.heap.objs.size = some { cls := .type "list", dict := none, data := .seq its.toArray c', slots := #[] } → EP X pins σ Q (.ref s.heap.objs.size) { s with heap := h' } := fun its r' hz h' c' kp e =>
    ⟨.ref s.heap.objs.size, _, I.laid (t' := s.toks) kp (Nat.le_refl _) (show ObjOk X.prog X.w _ h' _ (.lst ys) from ⟨hz, its, c', r', e⟩), rfl, q _ (I.hok.fresh (Nat.le_refl _))⟩
  rcases hq with hq | hq
  · obtain ⟨its, r', pl, hz⟩ := I.list hq
    have hlen := r'.length
    obtain ⟨o, ho, hc, n, hd⟩ := pl.isList
    exact call_list_seq p (.inl rfl) ho hc hd (fun h' c' kp e => fin its r' hz h' c' kp e) (by simp only [List.size_toArray] <;> omega)
  · obtain ⟨its, r', pl, hz⟩ := I.tuple hq
    have hlen := r'.length
    obtain ⟨o, ho, hc, n, hd⟩ := pl
    exact call_list_seq p (.inr rfl) ho hc hd (fun h' c' kp e => fin its r' hz h' c' kp e) (by simp only [List.size_toArray] <;> omega)
def tyV (K : PySem.W.Frag) (T : String) (x : V) (H : Hp) : Prop := match x with
  | .str _ => T = "str"
  | .int _ => T = "int"
  | .ref p => (T = "list" ∧ ∃ xs, SqL K H p xs) ∨ (T = "tuple" ∧ ∃ o, K.lookup p = some o ∧ o.cls = .type "tuple" ∧ o.dict = none) ∨
      (T = "dict" ∧ ((∃ kvs, H p = some (.dK kvs)) ∨ ∃ kvs, H p = some (.dT kvs))) ∨ (T = "set" ∧ ∃ S n, H p = some (.set S n))
  | _ => False
theorem tyV_is {pins : List (Addr × Obj)} {σ : St} {H : Hp} {s : Shared} {T : String} {x : V} {v : Value} (I : Inv X pins σ H s) (r : RelV x v) (ty : tyV X.K T x H) :
    s.TypeIs v T ∧ ∀ a, v = .ref a → ∃ ob, s.heap.get? a = some ob ∧ ob.dict = none := by
  cases x with
  | str z =>
    obtain ⟨t, rfl⟩ := r
    cases (show T = "str" from ty)
    exact ⟨typeIs_str s z t, fun _ e => nomatch e⟩
  | int i =>
    obtain ⟨t, rfl⟩ := r
    cases (show T = "int" from ty)
    exact ⟨typeIs_int s i t, fun _ e => nomatch e⟩
  | ref p =>
    cases r
    rcases ty with ⟨rfl, xs, hq⟩ | ⟨rfl, o, hk, hc, hd⟩ | ⟨rfl, hk⟩ | ⟨rfl, S, n, hk⟩
    · obtain ⟨its, _, pl, _⟩ := I.list hq
      refine ⟨pl.isList.typeIs, fun a e => ?_⟩
      cases e
      obtain ⟨o, n, e, c, hd, _⟩ := pl
      exact ⟨o, e, hd⟩
    · refine ⟨⟨o, I.kIn p o hk, hc⟩, fun a e => ?_⟩
      cases e
      exact ⟨o, I.kIn _ o hk, hd⟩
    · have z : ∃ o, s.heap.get? p = some o ∧ o.ExactDict := by
        rcases hk with ⟨kvs, hk⟩ | ⟨kvs, hk⟩
        · obtain ⟨_, _, _, _, o, _, _, e, ex, _⟩ := I.hok p _ hk
          exact ⟨o, e, ex⟩
        · obtain ⟨_, _, _, _, o, _, _, e, ex, _⟩ := I.hok p _ hk
          exact ⟨o, e, ex⟩
      obtain ⟨o, e, ex⟩ := z
      refine ⟨⟨o, e, ex.1⟩, fun a e2 => ?_⟩
      cases e2
      exact ⟨o, e, ex.2.1⟩
    · obtain ⟨o, _, _, _, e, ex, _⟩ := I.hok p _ hk
      refine ⟨⟨o, e, ex.1⟩, fun a e2 => ?_⟩
      cases e2
      exact ⟨o, e, ex.2.1⟩
  | _ => exact False.elim ty
def tBM (K : PySem.W.Frag) (T : String) (r : V → List V → Hp → VK → Prop) (to : TE) (t : TA) : TE := fun σ H Q => to σ H fun x H1 => tyV K T x H1 ∧ t σ H1 fun xs H2 => r x xs H2 Q
variable {o e : Expr} {es : List Expr} {to : TE} {t : TA} {name : Str} {apos cpos : Pos} {T id : String} {r : V → List V → Hp → VK → Prop}
theorem pe_bm (pa : PlainAttrs T) (slot : Slot T name id) (hty : typeOf (.builtin id) = pure (.type "method_descriptor")) (hm : MtR X id r) (ho : PE X o to) (ha : PA X (e :: es) t)
    (hbase : attributeBase o name X.env (eval o X.env) = eval o X.env := by rfl)
    (hfew : ((backTo cpos (starEach (e :: es) X.env)).all (fun x => !x.1) && (backToKw cpos (keywordEach [] X.env)).all (fun x => x.1.isSome)
      && decide ((e :: es).length + ([] : List Keyword).length + (if ([] : List Keyword).isEmpty then 0 else 1) < 30)) = true := by rfl)
    (hline : (apos.endLine == cpos.line) = true := by rfl) (hs : starEach (e :: es) X.env = (false, eval e X.env) :: starEach es X.env := by rfl) (hplain : (backTo cpos (starEach es X.env)).any (·.1) = false := by rfl) :
    PE X (.Call (.Attribute o name apos) (e :: es) [] cpos) (tBM X.K T r to t) := by
  intro pins s σ H Q I h
  refine wpAny_Call_method_late hbase hfew hline rfl (thn (ho pins s σ H _ I h) fun v s1 ⟨x, H1, I1, r1, ty, q1⟩ => ?_)
  obtain ⟨h1, h2⟩ := tyV_is I1 r1 ty
  refine ⟨T, id, pa, slot, hty, h1, h2, ?_⟩
  have hA := ha cpos pins s1 σ H1 _ I1 q1
  rw [hs] at hA ⊢
  refine Calls.callWith_builtin (by show (false || (backTo cpos (starEach es X.env)).any (·.1)) = false; rw [hplain] <;> rfl) (Calls.evalArgs_plain ?_)
  exact thn hA fun us s2 ⟨vs, H2, I2, r2, q2⟩ => hm pins s2 σ H2 x vs v us Q I2 r1 r2 q2
end
end L2
namespace L2
open PySem PySem.Spec PyProof.Rows
def MtM (X : Cx) (id : String) (r : V → List V → Hp → VK → Prop) : Prop :=
  ∀ (pins : List (Addr × Obj)) (s : Shared) (σ : St) (H : Hp) (x : V) (xs : List V) (v : Value) (us : List Value) (Q : VK), Inv X pins σ H s → RelV x v → Vals xs us → r x xs H Q →
    wpAny (model X.prog X.w) X.A (call (.builtin id) (v :: us)) (EP X pins σ Q) X.xe s
theorem Vals.one : ∀ {x : V} {us : List Value}, Vals [x] us → ∃ u, us = [u] ∧ RelV x u
  | _, _, .cons r .nil => ⟨_, rfl, r⟩
section
variable {X : Cx} {pins : List (Addr × Obj)} {σ : St} {H : Hp} {s : Shared} {l b : Addr} {xs ys zs : List V}
theorem Inv.lset {its its' : List Value} {n : Nat} {f : Array Value → Array Value} {t' : Nat} (I : Inv X pins σ H s) (hH : H l = some (.lst xs))
    (e : s.heap.get? l = some { cls := .type "list", data := .seq its.toArray n }) (hf : f its.toArray = its'.toArray) (hv : Vals ys its') (hz : ys.length ≤ sizeLine) :
    Inv X pins σ (upd H l (.lst ys)) { s with heap := s.heap.update l (Obj.mapSeq f), toks := t' } := by
  have q := PySem.IsL.update e f
  rw [hf] at q
  refine I.write (x := l) (e := l) (by rw [hH]; exact trivial) (.inl rfl) (fun b' u hb hu => (Heap.get?_update_other s.heap (Obj.mapSeq f) (Ne.symm hb)).trans hu) ⟨_, q⟩ ?_
  exact ⟨hz, its', _, hv, q⟩
theorem Inv.lnew {its : List Value} {t' : Nat} (I : Inv X pins σ H s) (hv : Vals ys its) (hz : ys.length ≤ sizeLine) :
    Inv X pins σ (upd H s.heap.objs.size (.lst ys)) { s with heap := s.heap.push { cls := .type "list", data := .seq its.toArray }, toks := t' } :=
  I.laid (fun _ _ q => Heap.get?_push_of_some _ q) (Nat.le_refl _) ⟨hz, its, 0, hv, Heap.get?_push_size _ rfl⟩
theorem Inv.fresh (I : Inv X pins σ H s) : H s.heap.objs.size = none := I.hok.fresh (Nat.le_refl _)
theorem Inv.lstM (I : Inv X pins σ H s) (hH : H l = some (.lst xs)) : xs.length ≤ sizeLine ∧ ∃ (its : List Value) (n : Nat), Vals xs its ∧ xs.length = its.length ∧ s.heap.get? l = some { cls := .type "list", data := .seq its.toArray n } := by
  obtain ⟨z, its, n, r, e⟩ := I.hok l _ hH
  exact ⟨z, its, n, r, r.length, e⟩
theorem notLongL {n : Nat} (h : n ≤ sizeLine) : Builtin.List.listTooLong n = false := by
  unfold Builtin.List.listTooLong
  exact decide_eq_false (by omega)
end
section
variable {X : Cx}
def rAppend : V → List V → Hp → VK → Prop := fun x vs H Q => ∃ l xs y, x = .ref l ∧ vs = [y] ∧ H l = some (.lst xs) ∧ xs.length < sizeLine ∧ Q .non (upd H l (.lst (xs ++ [y])))
theorem mt_append : MtM X "list.append" rAppend := by
  intro pins s σ H x vs v us Q I rx rv h
  obtain ⟨l, xs, y, rfl, rfl, hH, hz, q⟩ := h
  cases rx
  obtain ⟨u, rfl, ru⟩ := rv.one
  obtain ⟨z, its, n, r, hl, e⟩ := I.lstM hH
  refine call_meets F.slot_list_append ⟨_, e, rfl⟩ F.entry_list_append (F.args_list_append_2 _ _) (PySem.list_append l its.toArray n u (by rw [List.size_toArray]; omega)) ⟨e, ?_⟩
  refine ⟨.non, _, I.lset (its' := its ++ [u]) hH e (by simp) (r.append (.cons ru .nil)) ?_, rfl, q⟩
  rw [List.length_append, List.length_singleton]
  omega
def rExtend : V → List V → Hp → VK → Prop := fun x vs H Q => ∃ l b xs zs, x = .ref l ∧ vs = [.ref b] ∧ H l = some (.lst xs) ∧ H b = some (.lst zs) ∧ xs.length + zs.length ≤ sizeLine ∧ Q .non (upd H l (.lst (xs ++ zs)))
theorem mt_extend : MtM X "list.extend" rExtend := by
  intro pins s σ H x vs v us Q I rx rv h
  obtain ⟨l, b, xs, zs, rfl, rfl, hH, hB, hz, q⟩ := h
  cases rx
  obtain ⟨u, rfl, ru⟩ := rv.one
  cases ru
  obtain ⟨z, its, n, r, hl, e⟩ := I.lstM hH
  obtain ⟨z2, its2, n2, r2, hl2, e2⟩ := I.lstM hB
  have hsz : its.toArray.size + its2.toArray.size ≤ sizeLine := by rw [List.size_toArray, List.size_toArray]; omega
  have hlong : ¬ (!its.toArray.isEmpty && Builtin.List.listTooLong (its.toArray.size + its2.toArray.size)) = true := by
    rw [notLongL hsz, Bool.and_false]
    exact Bool.false_ne_true
  refine call_meets F.slot_list_extend ⟨_, e, rfl⟩ F.entry_list_extend (F.args_list_extend_2 _ _)
    (AutoSeq1.list_extend_list_list_0 l its.toArray n b its2.toArray n2 hlong (by rw [List.size_toArray]; omega) (by omega)) ⟨e, e2, ?_⟩
  refine ⟨.non, _, I.lset (its' := its ++ its2) hH e (by simp) (r.append r2) ?_, rfl, q⟩
  rw [List.length_append]
  omega
def rCat : R2 := fun x y H Q => ∃ l b xs zs, x = .ref l ∧ y = .ref b ∧ H l = some (.lst xs) ∧ H b = some (.lst zs) ∧ xs.length + zs.length ≤ sizeLine ∧ ∀ p, H p = none → Q (.ref p) (upd H p (.lst (xs ++ zs)))
theorem op_cat : OpR X (binaryOp .Add) rCat := by
  intro pins s σ H x y v u Q I rx ry h
  obtain ⟨l, b, xs, zs, rfl, rfl, hH, hB, hz, q⟩ := h
  cases rx
  cases ry
  obtain ⟨z, its, n, r, hl, e⟩ := I.lstM hH
  obtain ⟨z2, its2, n2, r2, hl2, e2⟩ := I.lstM hB
  refine PySem.P.add_list e e2 ?_ (by rw [List.size_toArray, List.size_toArray]; omega)
  have ea : its.toArray ++ its2.toArray = (its ++ its2).toArray := by simp
  rw [ea]
  exact ⟨.ref _, _, I.lnew (t' := s.toks) (r.append r2) (by rw [List.length_append]; omega), rfl, q _ I.fresh⟩
end
section
variable {prog : Program} {w : World} {A : Around} {E : Value → Shared → Prop} {s : Shared}
set_option maxRecDepth 100000 in
end
section
variable {X : Cx}
end
end L2
namespace Att
open PySem PySem.W PySem.Calls PyProof.Rows
theorem ints_of_wellAll {P : Params} {h : Heap} : ∀ (ns : List Int) (vs : List Value), WellAll P h vs (ns.map WData.int) → IntsAre vs ns := by
  intro ns
  induction ns with
  | nil =>
    intro vs w
    rw [List.map_nil] at w
    cases w
    exact .nil
  | cons n ns ih =>
    intro vs w
    rw [List.map_cons] at w
    cases w with
    | cons a b =>
      cases a
      exact .cons _ _ (ih _ b)
theorem script_of {l : OpenLaw} {n : Nat} (hn : l.most = some n) {P : Params} {h : Heap} {args : List WData} {vals : List Value}
    (hpre : l.row.toRowW.claim.pre args = true) (hwl : WellAll P h vals args) :
    ∃ a vs ns, vals = [Value.ref a] ∧ args = [WData.list (ns.map WData.int)] ∧ h.get? a = some { cls := .type "list", data := .seq vs.toArray } ∧ IntsAre vs ns ∧ ns.length ≤ n := by
  have hsh : WShape.hasAll [] args [.list .int] = true := (pre_splitW hpre).1
  have hc : l.pre.holds [] { args := args } = true := (pre_splitW hpre).2
  obtain ⟨d, r, rfl, h1, h2⟩ := hasAllW_cons hsh
  obtain rfl := hasAllW_nil h2
  obtain ⟨xs, rfl, h3⟩ := hasW_list h1
  obtain ⟨ns, rfl⟩ := items_int h3
  have hlen : ns.length ≤ n := by
    unfold OpenLaw.pre at hc
    have h4 : (WTm.not (.lt (.lit (.int (n : Int))) (.len (.arg 0)))).holds [] { args := [.list (ns.map .int)] } = true := by
      have h4 := (holds_andW hc).1
      rw [hn] at h4
      exact h4
    have h5 := condW_of h4 (w_not (w_lt w_lit (w_len_list (w_arg rfl))))
    rw [List.length_map] at h5
    refine Nat.le_of_not_lt fun q => ?_
    have q' : (n : Int) < ((ns.length : Nat) : Int) := by omega
    first
      | (rw [decide_eq_true q'] at h5; exact absurd h5 (by decide))
      | (simp at h5; omega)
  cases hwl with
  | cons w1 w2 =>
    cases w2
    cases w1 with
    | list ho hall => exact ⟨_, _, ns, rfl, rfl, ho, ints_of_wellAll ns _ hall, hlen⟩
theorem post_true (l : OpenLaw) (args : List WData) : l.row.toRowW.claim.post args (.bool true) args = true :=
  postW_of (r := l.row.toRowW) (X := (true == true))
    (show WShape.has [] (.bool true) .bool = true by first | rfl | decide | simp [WShape.has, WShape.arms, WShape.armsAll])
    (show (WTm.eq .res (.lit (.bool true))).value [] { args := args, res := some (.bool true), after := args } = some (.bool (true == true)) from w_eq_bool (w_res rfl) w_lit) rfl
section
variable {prog : Program} {w : World} {A : Around} {E : Value → Shared → Prop} {s : Shared} {K : Frag}
end
end Att
namespace L2
open PySem PySem.Spec PyProof.Rows
theorem vals_ints : ∀ {vs : List Value} {ns : List Int}, IntsAre vs ns → Vals (ns.map V.int) vs
  | _, _, .nil => .nil
  | _, _, .cons n t h => .cons ⟨t, rfl⟩ (vals_ints h)
def Only (H : Hp) : Prop := ∀ b, H b = none ∨ ∃ o xs, H b = some (.frz o (.lst xs))
theorem law_call {P : Program} {w : World} {K : PySem.W.Frag} {mg mb : Str → Option Value} {CX : CXT} {k : Nat} {fa a : Addr} {fd : FuncData} {x : Str} {sp : Sp} {s₁ : Shared} {vs : List Value} {ns : List Int}
    (KX : K.In s₁.heap) (hns : s₁.heap.Ns mainGlobals mg) (hb : s₁.heap.Ns builtinsNs mb) (hbb : ∀ x : Str, x ≠ "__name__" → mb x = bootBuiltins x) (hlim : s₁.heap.NoLimit) (hg : s₁.gens = #[])
    (ha : s₁.heap.get? a = some { cls := .type "list", data := .seq vs.toArray }) (hi : IntsAre vs ns) (hl : ns.length ≤ sizeLine) (hr : Room k callerA)
    (F : ∀ base : Heap, K.In base → base.Ns mainGlobals mg → FnOk P w K mg base CX k fa fd [x] sp) (hbind : ∀ (s : Shared) (u : Value), BindsTo s fd ⟨[u], []⟩ [(x, u)])
    (hsp : ∀ H : Hp, Only H → SqL K H a (ns.map V.int) → sp [.ref a] H (fun v _ => v = .bl true) fun _ _ _ => False)
    (hCX : ∀ H e s', CX [] H s₁ (fun _ _ _ => False) e s' → False) :
    codeAny (model P w) callerA (.call (.ref fa) ⟨[.ref a], []⟩) (fun r s' => r = .ok (.ret (.bool true)) ∧ OldK s₁.heap s'.heap ∧ s'.os = s₁.os ∧ AllBare s'.gens) s₁ := by
  have rv := vals_ints hi
  have lenV := hi.length
  -- from an abstract heap in which nothing but the script may be tracked
  have core : ∀ H : Hp, Only H → SqL K H a (ns.map V.int) → HOk P w H s₁.heap → (∀ b, H b ≠ none → b = a) → (H a ≠ none → K.lookup a = none) →
      codeAny (model P w) callerA (.call (.ref fa) ⟨[.ref a], []⟩) (fun r s' => r = .ok (.ret (.bool true)) ∧ OldK s₁.heap s'.heap ∧ s'.os = s₁.os ∧ AllBare s'.gens) s₁ := by
    intro H hO hS hok hA hK
    have base_of : ∀ {b : Addr} {o : Obj}, s₁.heap.get? b = some o → H b = none → (hidT s₁.heap H).get? b = some o := fun e n => hidT_get e n
    have noA : ∀ {b : Addr} {o : Obj} {es : Array DictEntry} {ep : Nat}, s₁.heap.get? b = some o → o.data = .dict es ep → H b = none := fun {b o es ep} e d => by
      cases q : H b with
      | none => rfl
      | some u =>
        have e' : b = a := hA b (by rw [q]; simp)
        subst e'
        rw [ha] at e; cases e
        have d' : Data.seq vs.toArray _ = Data.dict es ep := d
        cases d'
    have nsK : ∀ {b : Addr} {m : Str → Option Value}, s₁.heap.Ns b m → (hidT s₁.heap H).Ns b m := fun {b m} ⟨o, es, ep, e, d, r⟩ => ⟨o, es, ep, base_of e (noA e d), d, r⟩
    have hKb : K.In (hidT s₁.heap H) := fun b o e => base_of (KX b o e) (by
      cases q : H b with
      | none => rfl
      | some u =>
        have e' : b = a := hA b (by rw [q]; simp)
        subst e'
        rw [hK (by rw [q]; simp)] at e; cases e)
    have hM : Mod K mg (hidT s₁.heap H) := ⟨hKb, nsK hns, ⟨mb, nsK hb, hbb⟩, let ⟨mc, h1, h2⟩ := hlim; ⟨mc, nsK h1, h2⟩⟩
    have e0 : Env0 P w K mg (hidT s₁.heap H) callerA [] s₁ H := ⟨rfl, hM, fun b o e => of_hidT e, Nat.le_of_eq (hidT_size _ _), trivial, fun b hb => absurd (show b ∈ ([] : List Addr) from hb) (by simp), hok, .of_eq hg⟩
    refine codeAny_mono ((F _ hKb (nsK hns)).run callerA [] s₁ H ⟨[.ref a], []⟩ [.ref a] [.ref a] _ _ hr e0 (hbind s₁ (.ref a)) (.cons rfl .nil) (hsp H hO hS)) fun r s' h => ?_
    cases r with
    | error e => exact (hCX H e s' h).elim
    | ok fl =>
      cases fl with
      | next => exact False.elim h
      | brk => exact False.elim h
      | cont => exact False.elim h
      | ret u =>
        obtain ⟨v, H', os, bare, un, hok', r', q⟩ := h
        have q' : v = .bl true := q
        subst q'
        obtain rfl : u = Value.bool true := r'
        refine ⟨rfl, OldK.of_keep fun b o e => ?_, os, bare⟩
        cases q : H b with
        | none => exact un.keep b o e q (by intro z; exact absurd (show b ∈ ([] : List Addr) from z) (by simp)) (by simp)
        | some u =>
          rcases hO b with z | ⟨ob, xs, z⟩
          · rw [q] at z; cases z
          · have z2 := un.frzs b ob _ z
            obtain ⟨e1, _⟩ := hok b _ z
            obtain ⟨e2, _⟩ := hok' b _ z2
            rw [e] at e1; cases e1
            exact e2
  cases hk : K.lookup a with
  | some o =>
    -- the script is one of the module's own objects
    have e := KX a o hk
    rw [ha] at e
    cases e
    refine core (fun _ => none) (fun _ => .inl rfl) (.inr ⟨_, vs.toArray, _, hk, rfl, rfl, rfl, by rw [List.size_toArray, lenV]; exact hl, by simpa using rv⟩) (fun b u z => by have z' : (none : Option HO) = some u := z; cases z') (fun b z => absurd rfl z) fun z => absurd rfl z
  | none =>
    refine core (fun b => if b = a then some (.frz { cls := .type "list", data := .seq vs.toArray } (.lst (ns.map V.int))) else none) (fun b => ?_) (.inl (.inr ⟨{ cls := .type "list", data := .seq vs.toArray }, if_pos rfl⟩)) (fun b u z => ?_) (fun b z => ?_) fun _ => hk
    · by_cases hb : b = a
      · exact .inr ⟨_, _, if_pos hb⟩
      · exact .inl (if_neg hb)
    · by_cases hb : b = a
      · have z' := (if_pos hb).symm.trans z
        cases z'
        subst hb
        exact ⟨ha, by rw [List.length_map]; exact hl, vs, _, rv, ha⟩
      · have z' := (if_neg hb).symm.trans z
        cases z'
    · by_cases hb : b = a
      · exact hb
      · exact absurd (if_neg hb) z
end L2
namespace L2
open PySem PySem.Spec PyProof.Rows
end L2
namespace L2
open PySem PySem.Spec PyProof.Rows
def inClass (s : Stmt) (j : Nat) : Stmt := match s with
  | .ClassDef _ _ _ body _ _ _ _ _ _ _ => body.getD j (.Pass ⟨0, 0, 0, 0⟩)
  | _ => .Pass ⟨0, 0, 0, 0⟩
def defArgs (s : Stmt) : Arguments := match s with
  | .FunctionDef _ a _ _ _ _ _ _ _ _ => a
  | _ => { posonlyargs := [], args := [], vararg := none, kwonlyargs := [], kw_defaults := [], kwarg := none, defaults := [] }
def defBody (s : Stmt) : List Stmt := match s with
  | .FunctionDef _ _ b _ _ _ _ _ _ _ => b
  | _ => []
def defScope (s : Stmt) : Scope := match s with
  | .FunctionDef _ _ _ _ _ _ sc _ _ _ => sc
  | _ => { kind := .function, names := [], isGenerator := false, isCoroutine := false }
abbrev CX0 : CXT := fun _ _ _ _ _ _ => False
abbrev E0 : XK := fun _ _ _ => False
theorem pass0 {X : Cx} : Passes CX0 X E0 := fun _ _ _ _ _ _ _ h => h.elim
structure Fun (K : PySem.W.Frag) (x qual : Str) (st : Stmt) (f : Addr) (fd : FuncData) : Prop where
  ex : ∃ (oc : Value) (od : Option Addr) (kV doc pm : Value) (an : Option Addr) (cdv ct : Value) (osl : Array (Option Value)),
    fd = PySem.W.fnOf x qual (defArgs st) (defBody st) (defScope st) .none kV doc pm an cdv ct ∧ K.lookup f = some ⟨oc, od, .func fd, osl⟩ ∧ PySem.W.codeIn K cdv qual = true
  kp : PySem.W.keepIn K (.ref f) = true
section
variable {P : Program} {w : World} {K : PySem.W.Frag} {mg : Str → Option Value} {base : Heap}
theorem Fun.ok {x qual : Str} {st : Stmt} {f : Addr} {fd : FuncData} {N ps : List Str} {k : Nat} {sp : Sp} (F : Fun K x qual st f fd) (S : FnScope N ps (defScope st)) (len : ∀ vs H Q E, sp vs H Q E → vs.length = ps.length)
    (hbody : ∀ (cdv : Value) (A : Around) (outer : List Env) (s : Shared) (H : Hp) (vs : List V) (Q : VK) (E : XK), Room k (A.deeper (envOfC qual (defScope st) s.heap.objs.size f cdv)) → sp vs H Q E →
      ∃ t, PSs (cxOf CX0 P w K mg base N qual (defScope st) f cdv A outer s H E).nox (defBody st) t ∧ t { nx := fun _ H' => Q .non H', rt := Q } (start N vs) H) : FnOk P w K mg base CX0 (k + 1) f fd ps sp := by
  obtain ⟨oc, od, kV, doc, pm, an, cdv, ct, osl, rfl, lk, hcd⟩ := F.ex
  refine fn_of lk hcd S len fun A outer s H vs Q E hr hsp => ?_
  obtain ⟨t, h, q⟩ := hbody cdv A outer s H vs Q E hr hsp
  exact ⟨t, h.nox, q⟩
theorem Fun.binds {x qual : Str} {st : Stmt} {f : Addr} {fd : FuncData} {ps : List Str} (F : Fun K x qual st f fd)
    (h : ∀ (kV doc pm : Value) (an : Option Addr) (cdv ct : Value) (us : List Value), us.length = ps.length → bindArgs (PySem.W.fnOf x qual (defArgs st) (defBody st) (defScope st) .none kV doc pm an cdv ct) ⟨us, []⟩ = pure (ps.zip us)) : Binds K fd ps [] := by
  obtain ⟨oc, od, kV, doc, pm, an, cdv, ct, osl, rfl, lk, hcd⟩ := F.ex
  exact .all (h kV doc pm an cdv ct)
theorem fun_mk {x qual : Str} {st : Stmt} {f : Addr} {oc : Value} {od an : Option Addr} {osl : Array (Option Value)} {kV doc pm cdv ct : Value} (l : K.lookup f = some ⟨oc, od, .func (PySem.W.fnOf x qual (defArgs st) (defBody st) (defScope st) .none kV doc pm an cdv ct), osl⟩)
    (c : PySem.W.codeIn K cdv qual = true) (k : PySem.W.keepIn K (.ref f) = true) : Fun K x qual st f (PySem.W.fnOf x qual (defArgs st) (defBody st) (defScope st) .none kV doc pm an cdv ct) := ⟨⟨oc, od, kV, doc, pm, an, cdv, ct, osl, rfl, l, c⟩, k⟩
end
theorem hu_of {A : Around} {k : Nat} (hr : Room k A) : A.units + 1 < cLine := Nat.lt_of_le_of_lt (Nat.add_le_add_left (by decide : 1 ≤ 64) _) hr.units
section
variable {X : Cx}
theorem pv (i : Nat) {x : Str} {pos : Pos} (hN : X.N[i]? = some x := by rfl) (hv : Vis X.env.scope x := by first | exact Or.inl rfl | exact Or.inr (Or.inl rfl) | exact Or.inr (Or.inr rfl)) (hd : (x == ("__debug__" : Str)) = false := by decide)
    (hcd : (x == ("__classdict__" : Str)) = false := by decide) : PE X (.Name x pos) (tVar i) := pe_var hN hv hd hcd
end
theorem iteF {A B : Prop} (h : B) : if false = true then A else B := by
  rw [if_neg Bool.false_ne_true]
  exact h
theorem iteT {A B : Prop} (h : A) : if true = true then A else B := by
  rw [if_pos rfl]
  exact h
theorem ite2 {c A B : Prop} [Decidable c] (h1 : c → A) (h2 : ¬ c → B) : if c then A else B := by
  by_cases h : c
  · rw [if_pos h]
    exact h1 h
  · rw [if_neg h]
    exact h2 h
def Same (H H' : Hp) : Prop := ∀ b o, H b = some o → H' b = some o
theorem Same.refl (H : Hp) : Same H H := fun _ _ h => h
theorem Same.trans {H H1 H2 : Hp} (a : Same H H1) (b : Same H1 H2) : Same H H2 := fun c o h => b c o (a c o h)
theorem Same.free {H H' : Hp} (e : Same H H') {l : Addr} (h : H' l = Option.none) : H l = Option.none := by
  cases q : H l with
  | none => rfl
  | some o =>
    rw [e l o q] at h
    cases h
theorem Same.seq {K : PySem.W.Frag} {H H' : Hp} {a : Addr} {xs : List V} (e : Same H H') (h : SqL K H a xs) : SqL K H' a xs := by
  rcases h with (h | ⟨o, h⟩) | h
  · exact .inl (.inl (e _ _ h))
  · exact .inl (.inr ⟨o, e _ _ h⟩)
  · exact .inr h
end L2
set_option Elab.async false
set_option linter.all false
set_option maxRecDepth 100000
namespace L2
open PySem PySem.Spec PyProof.Rows
section
variable {X : Cx}
theorem op_mulO : OpR X (binaryOp .Mult) (rI IntMulOk fun i j => .int (i * j)) := opI fun _ _ _ _ _ _ _ hc q => mul_int q hc
theorem mulOk_abs {i j : Int} (m n : Nat) (hi : i.natAbs < 2 ^ m) (hj : j.natAbs < 2 ^ n) (h : m + n ≤ 134217728) : IntMulOk i j :=
  IntMulOk.of_le (intBits_le_iff.mpr hi) (intBits_le_iff.mpr hj) h
def clsV : V → Value
  | .ty n => .type n
  | .ref a => .ref a
  | _ => .none
def isC : V → Bool
  | .ty _ => true
  | .ref _ => true
  | _ => false
theorem clsV_of {c : V} {u : Value} (h : isC c = true) (r : RelV c u) : u = clsV c := by
  cases c with
  | ty n => exact r
  | ref a => exact r
  | _ => cases h
def rIsi (K : PySem.W.Frag) : List V → Hp → VK → Prop := fun xs H Q => ∃ x c t b, xs = [x, c] ∧ isC c = true ∧ TyOf K H x t ∧ PySem.W.kitOne K t (clsV c) = some b ∧ Q (.bl b) H
theorem call_isi : CallR X (.builtin "isinstance") (rIsi X.K) := by
  intro pins s σ H xs us Q I r h
  obtain ⟨x, c, t, b, rfl, hc, ty, e, q⟩ := h
  obtain ⟨v, u, rfl, r1, r2⟩ := vals2 r
  rw [clsV_of hc r2]
  exact isinst_ok I r1 ty e fun tk => ⟨.bl b, H, I.tok _, rfl, q⟩
theorem eqV_self : ∀ {x : V}, flatV x = true → eqV x x = true := by
  intro x h
  cases x <;> first | rfl | (simp [eqV]; done) | (cases h)
structure MkN (K : PySem.W.Frag) (C : Addr) : Prop where
  makes : PySem.W.makesIn K C = true
  init : PySem.W.findIn K (.ref C) "__init__" = some (some (.builtin "object.__init__"))
  kp : PySem.W.keepIn K (.ref C) = true
theorem make_n {prog : Program} {w : World} {A : Around} {s : Shared} {K : PySem.W.Frag} {C : Addr} {R : Result → Shared → Prop} (X : K.In s.heap) (hm : PySem.W.makesIn K C = true)
    (hi : PySem.W.findIn K (.ref C) "__init__" = some (some (.builtin "object.__init__")))
    (h : R (.ok (.ret (.ref (s.heap.objs.size + 1)))) { s with heap := (s.heap.push PySem.W.emptyDict).push (PySem.W.instObj C s.heap.objs.size) }) :
    codeAny (model prog w) A (.call (.ref C) ⟨[], []⟩) R s := by
  obtain ⟨hh, g, d, t, os⟩ := s
  have Y := PySem.W.makes_of (M := model prog w) X hm
  refine PySem.W.make_core Y (PySem.W.looks_findIn X hi) (fun self => PySem.W.Looks.of_pure (PySem.W.oi_bind self)) (.inr ⟨rfl, rfl⟩) ?_
  have e2 : ((hh.push PySem.W.emptyDict).push (PySem.W.instObj C hh.objs.size)).get? (hh.objs.size + 1) = some (PySem.W.instObj C hh.objs.size) := by
    have := Heap.get?_push_size (hh.push PySem.W.emptyDict) (o := PySem.W.instObj C hh.objs.size) rfl
    rwa [Heap.size_push] at this
  have t1 : PySem.W.Looks (model prog w) ((hh.push PySem.W.emptyDict).push (PySem.W.instObj C hh.objs.size)) (typeOf (.ref (hh.objs.size + 1))) (.ref C) := (PySem.W.Looks.ld e2).andThen .now
  have t2 : PySem.W.Looks (model prog w) ((hh.push PySem.W.emptyDict).push (PySem.W.instObj C hh.objs.size)) (isInstance (.ref (hh.objs.size + 1)) (.type "object")) true := t1.andThen (Y.top.keeps fun b o e => Heap.get?_push_of_some _ (Heap.get?_push_of_some _ e))
  refine codeAny_call_builtin PySem.W.oi_plain PySem.W.entry_oi (@PySem.W.check_slot (model prog w) _ _ _ "object.__init__" "object" "__init__" (.ref (hh.objs.size + 1)) [] [] _ PySem.W.oi_kind PySem.W.oi_split t2 (PySem.W.oi_args (.ref (hh.objs.size + 1))) ?_)
  rw [PySem.W.oi_run]
  exact wpAny_pure (And.intro rfl h)
def tMakeN (C : Addr) : TE := fun _ H Q => ∀ x dx, H x = none → H dx = none → dx ≠ x → Q (.ref x) (upd (upd H dx (.own x)) x (.ins C dx []))
theorem pe_makeN {C : Addr} {x : Str} {p pos : Pos} (M : MkN X.K C) (hg : Gl X x) (hm : X.mg x = some (.ref C)) (hdb : (x == ("__debug__" : Str)) = false := by decide) : PE X (.Call (.Name x p) [] [] pos) (tMakeN C) := by
  intro pins s σ H Q I h
  refine wpAny_Call_Name_kw (ld_glob I hg hm ?_ hdb)
  refine PySem.W.callWith_K0 I.kIn M.kp (wpAny_call (make_n I.kIn M.makes M.init ?_))
  exact ⟨.ref (s.heap.objs.size + 1), _, Inv.made (C := C) I, rfl, h _ _ (I.hok.fresh (Nat.le_succ _)) (I.hok.fresh (Nat.le_refl _)) (Nat.ne_of_lt (Nat.lt_succ_self _))⟩
structure MethI {ι : Type} (P : Program) (w : World) (K : PySem.W.Frag) (mg : Str → Option Value) (base : Heap) (k : Nat) (m : Str) (ps : List Str) (C : ι → Addr) (sp : ι → Sp) : Prop where
  ex : ∀ i, Cls K (C i) ∧ ∃ f fd, Meth K (C i) m f ∧ FnOk P w K mg base CX0 k f fd ps (sp i) ∧ Binds K fd ps []
def tMethI {ι : Type} (m : Str) (C : ι → Addr) (sp : ι → Sp) (ta : TE) (t : TA) : TE := fun σ H Q => ta σ H fun x H1 => ∃ i a dx fs, x = .ref a ∧ H1 a = some (.ins (C i) dx fs) ∧ fs.lookup m = none ∧
  t σ H1 fun vs H2 => sp i (x :: (vs ++ [])) H2 Q E0
theorem pe_methI {ι : Type} {C : ι → Addr} {sp : ι → Sp} {k : Nat} {m : Str} {ps : List Str} {o e : Expr} {es : List Expr} {ta : TE} {t : TA} {apos pos : Pos} {pl : Sem Bool} (M : MethI X.prog X.w X.K X.mg X.base k m ps C sp) (he : PE X o ta) (hr : Room k X.A) (ha : PA X (e :: es) t)
    (hst : starEach (e :: es) X.env = (false, eval e X.env) :: starEach es X.env := by rfl) (hpl : (backTo pos (starEach es X.env)).any (·.1) = false := by rfl)
    (ht : eval (.Call (.Attribute o m apos) (e :: es) [] pos) X.env = (do
      let ov ← eval o X.env
      standAt apos.atName
      let (f, first) ← holding [ov] (getMethod ov m pl)
      callWith pos f first (backTo pos (starEach (e :: es) X.env)) (backToKw pos (keywordEach [] X.env))) := by rfl) :
    PE X (.Call (.Attribute o m apos) (e :: es) [] pos) (tMethI m C sp ta t) := by
  intro pins s σ H Q I h
  refine PySem.W.methodCall_KW (pl := pl) (thn (he pins s σ H _ I h) fun u s1 ⟨x, H1, I1, rx, i, a, dx, fs, ex, ea, l, q⟩ => ?_) ht
  subst ex
  obtain rfl : u = Value.ref a := rx
  obtain ⟨c, f, fd, hm, F, hb⟩ := M.ex i
  refine getmeth_ok I1 ea c hm l ?_
  refine PySem.W.callWith_K (first := [.ref a]) (h₀ := X.base) I.ok.mod.kin hm.kp (thn (ha pos pins s1 σ H1 _ I1 q) fun us s2 ⟨vs, H2, I2, r, q2⟩ => ⟨I2.kIn, ?_⟩) hst hpl
  exact run_fn (us := .ref a :: us) (vs := .ref a :: vs) F hr hb .nil pass0 I2 (.cons rfl r) q2
theorem pe_methI0 {ι : Type} {C : ι → Addr} {sp : ι → Sp} {k : Nat} {m : Str} {ps : List Str} {o : Expr} {ta : TE} {apos pos : Pos} {pl : Sem Bool} (M : MethI X.prog X.w X.K X.mg X.base k m ps C sp) (he : PE X o ta) (hr : Room k X.A)
    (ht : eval (.Call (.Attribute o m apos) [] [] pos) X.env = (do
      let ov ← eval o X.env
      standAt apos.atName
      let (f, first) ← holding [ov] (getMethod ov m pl)
      callWith pos f first (backTo pos (starEach [] X.env)) (backToKw pos (keywordEach [] X.env))) := by rfl) :
    PE X (.Call (.Attribute o m apos) [] [] pos) (tMethI m C sp ta tNil) := by
  intro pins s σ H Q I h
  refine PySem.W.methodCall_KW (pl := pl) (thn (he pins s σ H _ I h) fun u s1 ⟨x, H1, I1, rx, i, a, dx, fs, ex, ea, l, q⟩ => ?_) ht
  subst ex
  obtain rfl : u = Value.ref a := rx
  obtain ⟨c, f, fd, hm, F, hb⟩ := M.ex i
  refine getmeth_ok I1 ea c hm l ?_
  exact PySem.W.callWith_K0 (first := [.ref a]) I1.kIn hm.kp (run_fn (us := [.ref a]) (vs := [.ref a]) F hr hb .nil pass0 I1 (.cons rfl .nil) q)
structure Df (P : Program) (w : World) (K : PySem.W.Frag) (mg : Str → Option Value) (base : Heap) (k : Nat) (x : Str) (ps : List Str) (sp : Sp) : Prop where
  ex : ∃ f fd, mg x = some (.ref f) ∧ PySem.W.keepIn K (.ref f) = true ∧ Binds K fd ps [] ∧ FnOk P w K mg base CX0 k f fd ps sp
theorem pe_callD {k : Nat} {x : Str} {ps : List Str} {sp : Sp} {e : Expr} {es : List Expr} {t : TA} {p pos : Pos} (D : Df X.prog X.w X.K X.mg X.base k x ps sp) (hr : Room k X.A) (hg : Gl X x) (ha : PA X (e :: es) t)
    (hdb : (x == ("__debug__" : Str)) = false := by decide) (he : starEach (e :: es) X.env = (false, eval e X.env) :: starEach es X.env := by rfl) (hpl : (backTo pos (starEach es X.env)).any (·.1) = false := by rfl) :
    PE X (.Call (.Name x p) (e :: es) [] pos) (tCall sp [] E0 t) := by
  obtain ⟨f, fd, hm, hk, hb, F⟩ := D.ex
  exact pe_call F hr hg hm hk hb .nil pass0 ha hdb he hpl
end
structure HasF (K : PySem.W.Frag) (x : Str) (st : Stmt) : Prop where
  ex : ∃ (f : Addr) (fd : FuncData), PySem.W.nsIn K mainGlobals x = some (some (.ref f)) ∧ Fun K x x st f fd
theorem hasF_mk {K : PySem.W.Frag} {x : Str} {st : Stmt} {f : Addr} {oc : Value} {od an : Option Addr} {osl : Array (Option Value)} {kV doc pm cdv ct : Value} (a : PySem.W.nsIn K mainGlobals x = some (some (.ref f)))
    (l : K.lookup f = some ⟨oc, od, .func (PySem.W.fnOf x x (defArgs st) (defBody st) (defScope st) .none kV doc pm an cdv ct), osl⟩)
    (c : PySem.W.codeIn K cdv x = true) (k : PySem.W.keepIn K (.ref f) = true) : HasF K x st := ⟨f, _, a, fun_mk l c k⟩
structure HasC (K : PySem.W.Frag) (x : Str) (C : Addr) : Prop where
  ns : PySem.W.nsIn K mainGlobals x = some (some (.ref C))
  cl : Cls K C
  mkn : MkN K C
theorem hasC_mk {K : PySem.W.Frag} {x : Str} {C : Addr} (a : PySem.W.nsIn K mainGlobals x = some (some (.ref C))) (pg : PySem.W.plainGet K C Str.empty = true) (hd : PySem.W.hasDictIn K C = true) (po : PySem.W.plainOver K C = true)
    (sa : PySem.W.findIn K (.ref C) "__setattr__" = some (some (.builtin "object.__setattr__"))) (mk : PySem.W.makesIn K C = true) (i : PySem.W.findIn K (.ref C) "__init__" = some (some (.builtin "object.__init__"))) (kc : PySem.W.keepIn K (.ref C) = true) : HasC K x C :=
  ⟨a, ⟨pg, hd, po, sa⟩, ⟨mk, i, kc⟩⟩
structure HasM (K : PySem.W.Frag) (C : Addr) (m qual : Str) (st : Stmt) : Prop where
  ex : ∃ (f : Addr) (fd : FuncData), Meth K C m f ∧ Fun K m qual st f fd
theorem hasM_mk {K : PySem.W.Frag} {C : Addr} {m qual : Str} {st : Stmt} {f : Addr} {oc : Value} {od an : Option Addr} {osl : Array (Option Value)} {kV doc pm cdv ct : Value} (a : PySem.W.findIn K (.ref C) m = some (some (.ref f))) (i : PySem.W.isFn K (.ref f) = true)
    (l : K.lookup f = some ⟨oc, od, .func (PySem.W.fnOf m qual (defArgs st) (defBody st) (defScope st) .none kV doc pm an cdv ct), osl⟩)
    (c : PySem.W.codeIn K cdv qual = true) (k : PySem.W.keepIn K (.ref f) = true) : HasM K C m qual st := ⟨f, _, ⟨a, i, k⟩, fun_mk l c k⟩
theorem HasF.df {P : Program} {w : World} {K : PySem.W.Frag} {mg : Str → Option Value} {base : Heap} {k : Nat} {x : Str} {st : Stmt} {N ps : List Str} {sp : Sp} (F : HasF K x st) (Kb : K.In base) (G : base.Ns mainGlobals mg) (S : FnScope N ps (defScope st))
    (hbi : ∀ (kV doc pm : Value) (an : Option Addr) (cdv ct : Value) (us : List Value), us.length = ps.length → bindArgs (PySem.W.fnOf x x (defArgs st) (defBody st) (defScope st) .none kV doc pm an cdv ct) ⟨us, []⟩ = pure (ps.zip us))
    (len : ∀ vs H Q E, sp vs H Q E → vs.length = ps.length)
    (hbody : ∀ (f : Addr) (cdv : Value) (A : Around) (outer : List Env) (s : Shared) (H : Hp) (vs : List V) (Q : VK) (E : XK), Room k (A.deeper (envOfC x (defScope st) s.heap.objs.size f cdv)) → sp vs H Q E →
      ∃ t, PSs (cxOf CX0 P w K mg base N x (defScope st) f cdv A outer s H E).nox (defBody st) t ∧ t { nx := fun _ H' => Q .non H', rt := Q } (start N vs) H) : Df P w K mg base (k + 1) x ps sp := by
  obtain ⟨f, fd, a, F⟩ := F.ex
  exact ⟨f, fd, PySem.W.mg_of Kb G a, F.kp, F.binds hbi, F.ok S len (hbody f)⟩
theorem HasM.fn {P : Program} {w : World} {K : PySem.W.Frag} {mg : Str → Option Value} {base : Heap} {k : Nat} {C : Addr} {m qual : Str} {st : Stmt} {N ps : List Str} {sp : Sp} (F : HasM K C m qual st) (S : FnScope N ps (defScope st))
    (hbi : ∀ (kV doc pm : Value) (an : Option Addr) (cdv ct : Value) (us : List Value), us.length = ps.length → bindArgs (PySem.W.fnOf m qual (defArgs st) (defBody st) (defScope st) .none kV doc pm an cdv ct) ⟨us, []⟩ = pure (ps.zip us))
    (len : ∀ vs H Q E, sp vs H Q E → vs.length = ps.length)
    (hbody : ∀ (f : Addr) (cdv : Value) (A : Around) (outer : List Env) (s : Shared) (H : Hp) (vs : List V) (Q : VK) (E : XK), Room k (A.deeper (envOfC qual (defScope st) s.heap.objs.size f cdv)) → sp vs H Q E →
      ∃ t, PSs (cxOf CX0 P w K mg base N qual (defScope st) f cdv A outer s H E).nox (defBody st) t ∧ t { nx := fun _ H' => Q .non H', rt := Q } (start N vs) H) :
    ∃ f fd, Meth K C m f ∧ FnOk P w K mg base CX0 (k + 1) f fd ps sp ∧ Binds K fd ps [] := by
  obtain ⟨f, fd, a, F⟩ := F.ex
  exact ⟨f, fd, a, F.ok S len (hbody f), F.binds hbi⟩
theorem walk_bits {l : PySem.W.OpenLaw} {n k : Nat} {q : Program} {loose : List Str} {XP : (Str → Option Value) → Heap → Prop} {YP : World → Heap → Prop} {d : DefRec} {K : Params → PySem.W.Frag} {CX : World → CXT} {sp : World → List Int → Sp} {x : Str}
    (hn : l.most = some n) (hn2 : n ≤ sizeLine) (hdf : d.params.defaults = []) (hr : Room k callerA)
    (hY : ∀ (w : World) (h : Heap), YP w h → (K w.params).In h)
    (F : ∀ (w : World) (mg : Str → Option Value) (fa : Addr) (h : Heap), (K w.params).In h → h.Ns mainGlobals mg → mg d.name = some (.ref fa) →
      ∃ fd : FuncData, (∀ (s : Shared) (u : Value), BindsTo s fd ⟨[u], []⟩ [(x, u)]) ∧
        ∀ (base : Heap) (ns : List Int), (K w.params).In base → base.Ns mainGlobals mg → ns.length ≤ n → (∀ i ∈ ns, Builtin.Int.intBits i ≤ 1048576) → FnOk l.prog w (K w.params) mg base (CX w) k fa fd [x] (sp w ns))
    (hsp : ∀ (w : World) (H : Hp) (a : Addr) (ns : List Int), ns.length ≤ n → (∀ i ∈ ns, Builtin.Int.intBits i ≤ 1048576) → Only H → SqL (K w.params) H a (ns.map V.int) → sp w ns [.ref a] H (fun v _ => v = .bl true) fun _ _ _ => False)
    (hCX : ∀ (w : World) (H : Hp) (s : Shared) (e : Value) (s' : Shared), CX w [] H s (fun _ _ _ => False) e s' → False) :
    PySem.W.WalkO q loose XP YP l.row.toRowW d [] (fun f vs => PySem.call f vs) := by
  intro w s₀ s₁ mg mb G Y fa o pm cd doc dV kV ho hd hcd hD hmg hg args vals as hpre hlay hrd hwl hlo
  obtain rfl : dV = .none := PySem.W.Dflts.none hD hdf
  obtain rfl : kV = .none := PySem.W.Dflts.noKw hD
  obtain ⟨a, vs, ns, rfl, rfl, hobj, hints, hlen⟩ := Att.script_of hn hpre hwl
  have hbits : ∀ i ∈ ns, Builtin.Int.intBits i ≤ 1048576 := fun i hi => by
    have h1 := PySem.W.layableW_arg hlay _ (List.mem_singleton.mpr rfl)
    have h2 := PySem.W.layableW_item h1 (.int i) (List.mem_map.mpr ⟨i, hi, rfl⟩)
    have h3 : PyData.layableAll0 [.int i] = true := PySem.W.lay0_int h2
    have h4 : PyData.layable0 (.int i) = true := PySem.W.layable0_of_all h3
    exact intBits_le_of_layable h4
  have KX := hY w _ Y
  obtain ⟨fd, hb, hF⟩ := F w mg fa _ KX G.T.g hmg
  refine PySem.W.enter_call (codeAny_mono (law_call KX G.T.g G.T.b G.T.builtins G.T.nolimit hg hobj hints (Nat.le_trans hlen hn2) hr (fun base kb nb => hF base ns kb nb hlen hbits) hb (fun H hO hS => hsp w H a ns hlen hbits hO hS) fun H e s' => hCX w H s₁ e s') fun r s' hq => ?_)
  obtain ⟨rfl, h2, h3, h4⟩ := hq
  exact ⟨.inl ⟨.bool true, .bool true, [], rfl, fun _ => rfl, .bool true, Att.post_true l _, fun _ => ⟨List.Pairwise.nil, fun _ hm => (nomatch hm)⟩⟩, h2, h3, h4⟩
end L2
namespace L2
open PySem PySem.Spec PyProof.Rows
section
variable {σ : St} {H : Hp} {Q : VK} {D : Ends} {ta tb : TE} {v : V} {i j : Int}
theorem i_C (q : Q v H) : tC v σ H Q := q
theorem i_op {r : R2} (q : ta σ H fun x H1 => tb σ H1 fun y H2 => r x y H2 Q) : tOp r ta tb σ H Q := q
theorem i_un {r : V → Hp → VK → Prop} (q : ta σ H fun x H1 => r x H1 Q) : tUn r ta σ H Q := q
theorem i_I0 {g : Int → Int → V} (q : Q (g i j) H) : rI0 g (.int i) (.int j) H Q := ⟨i, j, rfl, rfl, q⟩
theorem i_mod {g : Int → Int → V} (c : 0 < j) (q : Q (g i j) H) : rI (fun _ j => 0 < j) g (.int i) (.int j) H Q := ⟨i, j, rfl, rfl, c, q⟩
theorem i_div {g : Int → Int → V} (c : 0 < j ∧ j < 1073741824) (q : Q (g i j) H) : rI CDiv g (.int i) (.int j) H Q := ⟨i, j, rfl, rfl, c, q⟩
theorem i_pow {g : Int → Int → V} (c : 0 ≤ j ∧ j ≤ 1000000 ∧ i.natAbs < 2 ^ 64) (q : Q (g i j) H) : rI CPow g (.int i) (.int j) H Q := ⟨i, j, rfl, rfl, c, q⟩
theorem i_mul {g : Int → Int → V} (c : IntMulOk i j) (q : Q (g i j) H) : rI IntMulOk g (.int i) (.int j) H Q := ⟨i, j, rfl, rfl, c, q⟩
theorem i_U {g : Int → V} (q : Q (g i) H) : rU g (.int i) H Q := ⟨i, rfl, q⟩
theorem i_test {t : TE} {Q : Bool → Hp → Prop} (q : t σ H fun x H' => ∃ k, x = .bl k ∧ Q k H') : tTest t σ H Q := q
theorem i_B {t : TE} {Q : Bool → Hp → Prop} (q : t σ H fun x H' => ∃ k, x = .bl k ∧ Q k H') : tB t σ H Q := q
theorem i_bl {b : Bool} {P : Bool → Prop} (q : P b) : ∃ k, V.bl b = V.bl k ∧ P k := ⟨b, rfl, q⟩
theorem i_or {t u : TT} {Q : Bool → Hp → Prop} (q : t σ H fun c H1 => if c = true then Q true H1 else u σ H1 Q) : tOr t u σ H Q := q
theorem i_not {t : TT} {Q : Bool → Hp → Prop} (q : t σ H fun c H1 => Q (!c) H1) : tNot t σ H Q := q
theorem i_andV (q : ta σ H fun x H1 => ∃ c, x = .bl c ∧ if c = true then tb σ H1 Q else Q (.bl false) H1) : tAndV ta tb σ H Q := q
theorem i_notV (q : ta σ H fun x H1 => ∃ c, x = .bl c ∧ Q (.bl (!c)) H1) : tNotV ta σ H Q := q
theorem i_ifS {c : TT} {t u : TS} (q : c σ H fun b H1 => if b = true then t D σ H1 else u D σ H1) : tIfS c t u D σ H := q
theorem i_if {c : TT} (q : c σ H fun b H1 => if b = true then ta σ H1 Q else tb σ H1 Q) : tIf c ta tb σ H Q := q
theorem i_seq {t u : TS} (q : t { D with nx := u D } σ H) : tSeq t u D σ H := q
theorem i_ret (q : ta σ H D.rt) : tRet ta D σ H := q
theorem i_next (q : D.nx σ H) : tNext D σ H := q
theorem i_asg {g : TG} (q : ta σ H fun x H1 => g x σ H1 D.nx) : tAsg ta g D σ H := q
theorem i_name {n : Nat} {Q : St → Hp → Prop} (q : Q (σ.set n (some v)) H) : gName n v σ H Q := q
theorem i_drop (q : ta σ H fun _ H1 => D.nx σ H1) : tDrop ta D σ H := q
theorem i_call {sp : Sp} {dvs : List V} {E : XK} {t : TA} (q : t σ H fun vs H1 => sp (vs ++ dvs) H1 Q E) : tCall sp dvs E t σ H Q := q
theorem i_CB {r : List V → Hp → VK → Prop} {t : TA} (q : t σ H fun vs H1 => r vs H1 Q) : tCB r t σ H Q := q
theorem i_nil {Q : List V → Hp → Prop} (q : Q [] H) : tNil σ H Q := q
theorem i_cons {t : TA} {Q : List V → Hp → Prop} (q : ta σ H fun x H1 => t σ H1 fun xs H2 => Q (x :: xs) H2) : tCons ta t σ H Q := q
theorem i_ixL {K : PySem.W.Frag} {p : Addr} {xs : List V} (h : SqL K H p xs) (a : atI xs i = some v) (q : Q v H) : rIx K (.ref p) (.int i) H Q := .inl ⟨p, xs, i, v, rfl, rfl, h, a, q⟩
theorem i_ixT {K : PySem.W.Frag} {p : Addr} {xs : List V} (h : SqT K H p xs) (a : atI xs i = some v) (q : Q v H) : rIx K (.ref p) (.int i) H Q := .inr (.inl ⟨p, xs, i, v, rfl, rfl, h, a, q⟩)
theorem i_iteI {A B : Prop} (h1 : i = j → A) (h2 : ¬ i = j → B) : if decide (V.int i = V.int j) = true then A else B :=
  ite2 (fun h => h1 (V.int.inj (of_decide_eq_true h))) fun h => h2 fun e => h (decide_eq_true (congrArg V.int e))
theorem i_iteD {c A B : Prop} [Decidable c] (h1 : c → A) (h2 : ¬ c → B) : if decide c = true then A else B :=
  ite2 (fun h => h1 (of_decide_eq_true h)) fun h => h2 fun e => h (decide_eq_true e)
theorem i_iteSf {x y : Str} {A B : Prop} (n : ¬ x = y) (q : B) : if decide (V.str x = V.str y) = true then A else B := by
  rw [decide_eq_false fun e => n (V.str.inj e)]; exact iteF q
theorem Same.upd {H' : Hp} {p : Addr} {o : HO} (s : Same H H') (n : H' p = none) : Same H (L2.upd H' p o) := fun b u e => by
  rw [upd_ne (ne_of_none (s b u e) n)]; exact s b u e
theorem Same.new (n : H p = none) : Same H (L2.upd H p o) := Same.upd (Same.refl H) n
end
end L2
namespace L2
open PySem PySem.Spec PyProof.Rows
section
variable {H : Hp} {Q : VK} {i j : Int} {x y : Str}
theorem i_eqI (q : Q (.bl (decide (V.int i = V.int j))) H) : rEq (.int i) (.int j) H Q := ⟨rfl, q⟩
theorem i_eqS (q : Q (.bl (decide (V.str x = V.str y))) H) : rEq (.str x) (.str y) H Q := ⟨rfl, q⟩
theorem i_neI (q : Q (.bl (!decide (V.int i = V.int j))) H) : rNe (.int i) (.int j) H Q := ⟨rfl, q⟩
theorem i_neS (q : Q (.bl (!decide (V.str x = V.str y))) H) : rNe (.str x) (.str y) H Q := ⟨rfl, q⟩
theorem at_ints {ns : List Int} (k : Nat) (h : k < ns.length) : atI (ns.map V.int) (k : Int) = some (.int (ns.getD k 0)) := by
  refine atI_nat ?_
  rw [List.getElem?_map, List.getElem?_eq_getElem h]
  simp [List.getD, h]
end
end L2
namespace Lap
open PySem L2
inductive Dk where
  | sum | less | times | least | most | pick | same | tell | take
  deriving DecidableEq
def Dk.word : Dk → Str
  | .sum => "sum" | .less => "less" | .times => "times" | .least => "least" | .most => "most" | .pick => "pick" | .same => "same" | .tell => "tell" | .take => "take"
def Dk.need : Dk → Nat
  | .pick => 3 | .same => 1 | .tell => 1 | .take => 1 | _ => 2
def Dk.of : Dk → List Int → Int → Int
  | .sum, ns, m => (ns.getD 0 0 + ns.getD 1 0) % m
  | .less, ns, m => (ns.getD 0 0 - ns.getD 1 0) % m
  | .times, ns, m => ns.getD 0 0 * ns.getD 1 0 % m
  | .least, ns, m => if ns.getD 1 0 % m < ns.getD 0 0 % m then ns.getD 1 0 % m else ns.getD 0 0 % m
  | .most, ns, m => if ns.getD 1 0 % m > ns.getD 0 0 % m then ns.getD 1 0 % m else ns.getD 0 0 % m
  | .pick, ns, m => if ns.getD 0 0 % m = 0 then ns.getD 2 0 % m else ns.getD 1 0 % m
  | _, ns, m => ns.getD 0 0 % m
def spOf (K : PySem.W.Frag) (d : Dk) : Sp := fun vs H Q _ => ∃ (a p : Addr) (ns : List Int) (m : Int), vs = [.ref a, .ref p, .int m] ∧ SqL K H p (ns.map V.int) ∧ d.need ≤ ns.length ∧ 0 < m ∧
  (d = .times → IntMulOk (ns.getD 0 0) (ns.getD 1 0)) ∧ Q (.int (d.of ns m)) H
end Lap
namespace L2
open PySem PySem.Spec PyProof.Rows
section
variable {σ : St} {H : Hp} {Q : VK} {D : Ends}
theorem i_methI {ι : Type} {m : Str} {C : ι → Addr} {sp : ι → Sp} {ta : TE} {t : TA} (q : ta σ H fun x H1 => ∃ i a dx fs, x = .ref a ∧ H1 a = some (.ins (C i) dx fs) ∧ fs.lookup m = none ∧ t σ H1 fun vs H2 => sp i (x :: (vs ++ [])) H2 Q E0) : tMethI m C sp ta t σ H Q := q
theorem i_for {wi : TI} {g : TG} {tb : TS} (q : wi σ H fun J H1 => ∃ W : Nat → Nat → St → Hp → Prop, (∃ m, W 0 m σ H1) ∧ ∀ i m σ H, W i m σ H →
  (J.stop i H ∧ D.nx σ H) ∨ (J.go i H ∧ ∃ N : St → Hp → Prop, (∀ σ' H', N σ' H' → ∃ m', m' < m ∧ W (i + 1) m' σ' H') ∧ ∀ x H', J.yld i H x H' → g x σ H' fun σ2 H2 => tb { D with nx := N, ct := N, bk := D.nx } σ2 H2)) : tFor wi g tb D σ H := q
theorem i_rng1 {ta : TA} {R : It → Hp → Prop} (q : ta σ H fun vs H1 => ∃ j : Int, vs = [.int j] ∧ -(2 ^ 62) ≤ j ∧ j < 2 ^ 62 ∧ R (Itr 0 j.toNat) H1) : iRng1 ta σ H R := q
theorem i_list {K : PySem.W.Frag} {tl : TE} {R : It → Hp → Prop} (q : tl σ H fun x H1 => ∃ a, x = .ref a ∧ (∃ xs, SqL K H1 a xs) ∧ R (Itl K a) H1) : iList K tl σ H R := q
end
end L2
namespace L2
theorem iteNT {A B : Prop} (h : B) : if (!true) = true then A else B := iteF h
theorem iteNF {A B : Prop} (h : A) : if (!false) = true then A else B := iteT h
end L2
namespace L2
open PySem PySem.Spec PyProof.Rows
def noStar : Expr → Bool
  | .Starred _ _ => false
  | _ => true
theorem se {e : Expr} {es : List Expr} {env : Env} (h : noStar e = true) : starEach (e :: es) env = (false, eval e env) :: starEach es env := by
  cases e <;> first | rfl | cases h
theorem nst {es : List Expr} {env : Env} {pos : Pos} (h : es.all noStar = true) : (backTo pos (starEach es env)).any (·.1) = false := by
  induction es with
  | nil => rfl
  | cons e es ih =>
    rw [List.all_cons, Bool.and_eq_true] at h
    rw [se h.1]
    show (false || (backTo pos (starEach es env)).any (·.1)) = false
    rw [ih h.2]
    rfl
end L2
set_option Elab.async false
set_option linter.all false
set_option maxRecDepth 100000
namespace L2
open PySem PySem.Spec PyProof.Rows
def capL (env : Env) : List (Str × NameKind) → List (Str × Addr) → List (Str × Addr)
  | [], cs => cs
  | (n, k) :: r, cs => if k == .free then capL env r ((n, (env.cells.lookup n).getD 0) :: cs) else capL env r cs
theorem closure_run {env : Env} : ∀ (names : List (Str × NameKind)) (cs : List (Str × Addr)), (∀ y ∈ names, y.2 = .free → ∃ c, env.cells.lookup y.1 = some c) →
    (forIn names cs fun (x : Str × NameKind) (r : List (Str × Addr)) => (do
      if x.2 == .free then
        let a ← cellOf env x.1
        pure (ForInStep.yield ((x.1, a) :: r))
      else pure (ForInStep.yield r) : Sem (ForInStep (List (Str × Addr))))) = pure (capL env names cs)
  | [], cs, _ => rfl
  | (n, k) :: r, cs, h => by
    have ih := fun cs => closure_run (env := env) r cs fun y hy => h y (List.mem_cons_of_mem _ hy)
    rw [List.forIn_cons]
    by_cases hk : (k == NameKind.free) = true
    · have hk' : k = .free := by simpa using hk
      obtain ⟨c, hc⟩ := h (n, k) List.mem_cons_self hk'
      have hc' : env.cells.lookup n = some c := hc
      simp only [capL, hk, if_true, cellOf, hc', Option.getD_some, pure_bind]
      exact ih _
    · simp only [capL, hk, if_false, pure_bind, Bool.false_eq_true]
      exact ih _
theorem closure_eq {scope : Scope} {env : Env} (h : ∀ y ∈ scope.names, y.2 = .free → ∃ c, env.cells.lookup y.1 = some c) : closureFor scope env = pure (capL env scope.names []) := by
  have e := closure_run scope.names [] h
  unfold closureFor
  simp only [← e, bind_pure]
theorem capL_sub {env : Env} {y : Str} {c : Addr} : ∀ (names : List (Str × NameKind)) (cs : List (Str × Addr)), (∀ y ∈ names, y.2 = .free → ∃ c, env.cells.lookup y.1 = some c) →
    (∀ y c, cs.lookup y = some c → env.cells.lookup y = some c) → (capL env names cs).lookup y = some c → env.cells.lookup y = some c
  | [], cs, _, hs, e => hs y c e
  | (n, k) :: r, cs, h, hs, e => by
    have h' : ∀ y ∈ r, y.2 = .free → ∃ c, env.cells.lookup y.1 = some c := fun y hy => h y (List.mem_cons_of_mem _ hy)
    by_cases hk : (k == NameKind.free) = true
    · have hk' : k = .free := by simpa using hk
      obtain ⟨d, hd⟩ := h (n, k) List.mem_cons_self hk'
      simp only [capL, hk, if_true] at e
      refine capL_sub r _ h' (fun z c' q => ?_) e
      rw [List.lookup_cons] at q
      cases hz : z == n with
      | true =>
        rw [hz] at q
        have hz' : z = n := by simpa using hz
        subst hz'
        have hd' : env.cells.lookup z = some d := hd
        rw [hd', Option.getD_some] at q
        rw [hd']; exact q
      | false => rw [hz] at q; exact hs z c' q
    · simp only [capL, hk, if_false, Bool.false_eq_true] at e
      exact capL_sub r cs h' hs e
theorem capL_keep {env : Env} {y : Str} : ∀ (names : List (Str × NameKind)) (cs : List (Str × Addr)), (∃ c, cs.lookup y = some c) → ∃ c, (capL env names cs).lookup y = some c
  | [], cs, h => h
  | (n, k) :: r, cs, h => by
    by_cases hk : (k == NameKind.free) = true
    · simp only [capL, hk, if_true]
      refine capL_keep r _ ?_
      rw [List.lookup_cons]
      cases y == n with
      | true => exact ⟨_, rfl⟩
      | false => exact h
    · simp only [capL, hk, if_false, Bool.false_eq_true]
      exact capL_keep r cs h
theorem capL_has {env : Env} {y : Str} : ∀ (names : List (Str × NameKind)) (cs : List (Str × Addr)), (y, NameKind.free) ∈ names → ∃ c, (capL env names cs).lookup y = some c
  | (n, k) :: r, cs, h => by
    rcases List.mem_cons.mp h with e | h
    · cases e
      exact capL_keep r _ ⟨(env.cells.lookup y).getD 0, by rw [List.lookup_cons, beq_self_eq_true]⟩
    · by_cases hk : (k == NameKind.free) = true
      · simp only [capL, hk, if_true]; exact capL_has r _ h
      · simp only [capL, hk, if_false, Bool.false_eq_true]; exact capL_has r cs h
theorem lookup_mem {α : Type} {x : Str} {k : α} : ∀ {l : List (Str × α)}, l.lookup x = some k → (x, k) ∈ l
  | [], h => by simp at h
  | (n, k') :: r, h => by
    rw [List.lookup_cons] at h
    cases hx : x == n with
    | true =>
      rw [hx] at h
      have : x = n := by simpa using hx
      subst this; cases h; exact List.mem_cons_self
    | false => rw [hx] at h; exact List.mem_cons_of_mem _ (lookup_mem h)
theorem relabel_look {env : Env} {y : Str} {k : NameKind} : ∀ {names : List (Str × NameKind)}, (∀ z ∈ names, z.2 ≠ .cell) →
    (names.map fun (n, k) => if (k == NameKind.free && env.scope.kind == .function && env.kindOf n == some .cell) then (n, NameKind.cell) else (n, k)).lookup y = some k →
    names.lookup y = some k ∨ (k = .cell ∧ names.lookup y = some .free)
  | [], _, h => by simp at h
  | (n, k') :: r, hc, h => by
    have ih := @relabel_look env y k r fun z hz => hc z (List.mem_cons_of_mem _ hz)
    rw [List.map_cons, List.lookup_cons] at h
    rw [List.lookup_cons]
    by_cases hk : (k' == NameKind.free && env.scope.kind == .function && env.kindOf n == some .cell) = true
    · have h' := h
      rw [if_pos hk] at h'
      dsimp only at h'
      cases hy : y == n with
      | true =>
        rw [hy] at h'
        have e1 : NameKind.cell = k := Option.some.inj h'
        have e2 : k' = .free := by
          rw [Bool.and_eq_true, Bool.and_eq_true] at hk
          simpa using hk.1.1
        exact .inr ⟨e1.symm, by rw [e2]⟩
      | false => rw [hy] at h'; exact ih h'
    · have h' := h
      rw [if_neg hk] at h'
      dsimp only at h'
      cases hy : y == n with
      | true => rw [hy] at h'; exact .inl h'
      | false => rw [hy] at h'; exact ih h'
def blk (X : Cx) (scope : Scope) (x : Str) (caps : List Str) (C : Addr) (s₀ : Shared) (H₀ : Hp) (ex : List Addr) : Cx :=
  { X with N := x :: caps, env := compEnvC scope (capL X.env scope.names []) C X.env, s₀ := s₀, H₀ := H₀, outer := X.stack, stack := X.stack, ex := ex, fn := fun _ => false, xe := fun _ _ => False }
structure Blk (X : Cx) (scope : Scope) (x : Str) (caps : List Str) (ix : List Nat) : Prop where
  kind : scope.kind = .function
  cell : ∀ y ∈ scope.names, y.2 ≠ .cell
  loc : scope.names.lookup x = some .local
  names : ∀ y ∈ scope.names, y.2 = .local → scope.names.lookup y.1 = some .local
  free : ∀ y ∈ scope.names, y.2 = .free → X.env.kindOf y.1 = some .cell ∨ X.env.kindOf y.1 = some .free
  len : caps.length = ix.length
  nd : (x :: caps).Nodup
  ix : ∀ (j : Nat) (y : Str) (i : Nat), caps[j]? = some y → ix[j]? = some i → X.N[i]? = some y ∧ scope.names.lookup y = some .free
def capV (ix : List Nat) (σ : St) : St := ix.map fun i => (σ[i]?).join
theorem Blk.cells {X : Cx} {scope : Scope} {x : Str} {caps : List Str} {ix : List Nat} (B : Blk X scope x caps ix) (ok : X.Ok) : ∀ y ∈ scope.names, y.2 = .free → ∃ c, X.env.cells.lookup y.1 = some c :=
  fun y hy e => ok.has y.1 (B.free y hy e)
theorem Blk.sub {X : Cx} {scope : Scope} {x : Str} {caps : List Str} {ix : List Nat} (B : Blk X scope x caps ix) (ok : X.Ok) {y : Str} {c : Addr} (e : (capL X.env scope.names []).lookup y = some c) : X.env.cells.lookup y = some c :=
  capL_sub _ _ (B.cells ok) (fun _ _ q => by simp at q) e
theorem Blk.freeOf {X : Cx} {scope : Scope} {x : Str} {caps : List Str} {ix : List Nat} {C : Addr} (B : Blk X scope x caps ix) {y : Str} {k : NameKind} (e : (compEnvC scope (capL X.env scope.names []) C X.env).kindOf y = some k) (hk : k = .cell ∨ k = .free) : scope.names.lookup y = some .free := by
  rcases relabel_look (env := X.env) B.cell (show (scope.names.map _).lookup y = some k from e) with q | ⟨_, q⟩
  · rcases hk with rfl | rfl
    · exact absurd rfl (B.cell _ (lookup_mem q))
    · exact q
  · exact q
def blkOk (sc scope : Scope) (N : List Str) (x : Str) (caps : List Str) (ix : List Nat) : Bool :=
  scope.kind == .function && scope.names.all (fun y => y.2 != .cell) && scope.names.lookup x == some .local && scope.names.all (fun y => y.2 != .local || scope.names.lookup y.1 == some .local) &&
  scope.names.all (fun y => y.2 != .free || (sc.names.lookup y.1 == some .cell || sc.names.lookup y.1 == some .free)) && caps.length == ix.length && decide (x :: caps).Nodup &&
  (caps.zip ix).all (fun p => N[p.2]? == some p.1 && scope.names.lookup p.1 == some .free)
theorem Blk.of {X : Cx} {scope : Scope} {x : Str} {caps : List Str} {ix : List Nat} (h : blkOk X.env.scope scope X.N x caps ix = true) : Blk X scope x caps ix := by
  unfold blkOk at h
  simp only [Bool.and_eq_true] at h
  obtain ⟨⟨⟨⟨⟨⟨⟨h1, h2⟩, h3⟩, h4⟩, h5⟩, h6⟩, h7⟩, h8⟩ := h
  refine ⟨by simpa using h1, fun y hy => by simpa using List.all_eq_true.mp h2 y hy, by simpa using h3, fun y hy e => ?_, fun y hy e => ?_, by simpa using h6, of_decide_eq_true h7, fun j y i e1 e2 => ?_⟩
  · have := List.all_eq_true.mp h4 y hy
    rw [e] at this
    simpa using this
  · have := List.all_eq_true.mp h5 y hy
    rw [e] at this
    have this : (X.env.scope.names.lookup y.1 == some NameKind.cell || X.env.scope.names.lookup y.1 == some NameKind.free) = true := by simpa using this
    rw [Bool.or_eq_true] at this
    rcases this with z | z
    · exact .inl (show X.env.scope.names.lookup y.1 = _ by simpa using z)
    · exact .inr (show X.env.scope.names.lookup y.1 = _ by simpa using z)
  · have hm : (y, i) ∈ caps.zip ix := by
      refine List.mem_iff_getElem?.mpr ⟨j, ?_⟩
      rw [List.getElem?_zip_eq_some]
      exact ⟨e1, e2⟩
    have := List.all_eq_true.mp h8 _ hm
    rw [Bool.and_eq_true] at this
    exact ⟨by simpa using this.1, by simpa using this.2⟩
def PF (X : Cx) (ifs : List Expr) (t : TT) : Prop :=
  ∀ (pins : List (Addr × Obj)) (s : Shared) (σ : St) (H : Hp) (Q : Bool → Hp → Prop), Inv X pins σ H s → t σ H Q →
    wpAny (model X.prog X.w) X.A (forIn ifs true fun c r => if r = true then do let ok ← isTrue c X.env (eval c X.env); pure (ForInStep.yield ok) else pure (ForInStep.yield r)) (TP X pins σ Q) X.xe s
def tYes : TT := fun _ H Q => Q true H
theorem pf_nil {X : Cx} : PF X [] tYes := fun _ _ _ H _ I h => wpAny_tests_nil ⟨H, I, h⟩
theorem pf_one {X : Cx} {c : Expr} {t : TT} (h : PT X c t) : PF X [c] t := fun pins s σ H Q I q => wpAny_tests_one (h pins s σ H Q I q)
def tLc (wi : TI) (tf : TT) (te : TE) (ix : List Nat) : TE := fun σ H Q => wi σ H fun J H1 => ∀ D, H1 D = none → ∃ W : Nat → Nat → List V → Hp → Prop, (∃ m, W 0 m [] (upd H1 D (.lst []))) ∧ ∀ i m ys H, W i m ys H →
  H D = some (.lst ys) ∧ ((J.stop i H ∧ Q (.ref D) H) ∨ (J.go i H ∧ ys.length < sizeLine ∧ ∀ x H', J.yld i H x H' → tf (some x :: capV ix σ) H' fun b H2 =>
    if b = true then te (some x :: capV ix σ) H2 fun y H3 => H3 D = some (.lst ys) ∧ ∃ m', m' < m ∧ W (i + 1) m' (ys ++ [y]) (upd H3 D (.lst (ys ++ [y]))) else ∃ m', m' < m ∧ W (i + 1) m' ys H2))
section
variable {X : Cx} {scope : Scope} {x : Str} {caps : List Str} {ix : List Nat} {pins : List (Addr × Obj)} {σ : St} {H : Hp} {s : Shared}
theorem blk_ok (B : Blk X scope x caps ix) (I : Inv X pins σ H s) {fp : List Addr} (f : ∀ b ∈ fp, FpOk X pins H b) (fo : ∀ b ∈ fp, b < s.heap.objs.size) : (blk X scope x caps s.heap.objs.size s H fp).Ok where
  mod := I.ok.mod
  kind := B.kind
  glob := I.ok.glob
  blt := I.ok.blt
  above := Nat.le_refl _
  inj := fun y z c e1 e2 => I.ok.inj y z c (B.sub I.ok e1) (B.sub I.ok e2)
  has := fun y h => by
    have q : scope.names.lookup y = some .free := by
      rcases h with h | h
      · exact B.freeOf h (.inl rfl)
      · exact B.freeOf h (.inr rfl)
    exact capL_has _ _ (lookup_mem q)
  cab := fun _ _ h => nomatch h
  hd := I.ok.hd
  frames := I.ok.frames
  stk := .inl rfl
  exf := fun b hb => ⟨Nat.ne_of_lt (fo b hb), fun y c e => (f b hb).2.2.2.2.1 y c (B.sub I.ok e)⟩
  bs := I.bs
  bsz := Nat.le_trans I.ok.bsz I.sz
  noex := fun b o e hb => by
    rcases (f b hb).2.2.2.1 with z | z
    · exact I.ok.noex b o e z
    · have := (I.ok.bs b o e).1; rw [z] at this; cases this
  exfs := fun b hb z => by
    rcases List.mem_cons.mp (I.stkSub b z) with q | q
    · exact (f b hb).2.1 q
    · exact (f b hb).2.2.1 q
  funs := I.stack
  frf := I.stkFree
theorem capV_get {j : Nat} {v : V} (h : (capV ix σ)[j]? = some (some v)) : ∃ i, ix[j]? = some i ∧ σ[i]? = some (some v) := by
  unfold capV at h
  rw [List.getElem?_map] at h
  cases e : ix[j]? with
  | none => rw [e] at h; cases h
  | some i =>
    rw [e] at h
    have h' : (σ[i]?).join = some v := Option.some.inj h
    refine ⟨i, rfl, ?_⟩
    cases q : σ[i]? with
    | none => rw [q] at h'; cases h'
    | some o => rw [q] at h'; exact congrArg some h'
theorem blk_inv (B : Blk X scope x caps ix) (I : Inv X pins σ H s) {fp : List Addr} (f : ∀ b ∈ fp, FpOk X pins H b) (fo : ∀ b ∈ fp, b < s.heap.objs.size) {h' : Heap} {t' : Nat} (hn : h'.Ns s.heap.objs.size (fun _ => none)) (k : ∀ b o, s.heap.get? b = some o → h'.get? b = some o) :
    Inv (blk X scope x caps s.heap.objs.size s H fp) pins (none :: capV ix σ) H { s with heap := h', toks := t' } where
  ok := blk_ok B I f fo
  os := rfl
  bare := I.bare
  base := Un.kept k
  loc := by
    refine ⟨_, hn, fun i y v e1 e2 e3 => ?_⟩
    cases i with
    | zero => cases e2
    | succ j =>
      have e1' : caps[j]? = some y := e1
      have e2' : (capV ix σ)[j]? = some (some v) := e2
      obtain ⟨i, hi, hv⟩ := capV_get e2'
      obtain ⟨hN, hf⟩ := B.ix j y i e1' hi
      obtain ⟨m, hm, hl⟩ := I.loc
      have hk := B.free _ (lookup_mem hf) rfl
      have hvis : Vis X.env.scope y := by
        rcases hk with q | q
        · exact .inr (.inl q)
        · exact .inr (.inr q)
      obtain ⟨u, ru, lk⟩ := hl i y v hN hv hvis
      refine ⟨u, ru, .inr ?_⟩
      obtain ⟨c', hc'⟩ := capL_has (env := X.env) scope.names [] (lookup_mem hf)
      have hc := B.sub I.ok hc'
      refine ⟨?_, c', hc', ?_⟩
      · have hvv : (compEnvC scope (capL X.env scope.names []) s.heap.objs.size X.env).kindOf y = some .local ∨ _ := e3
        rcases hvv with q | q
        · rcases relabel_look (env := X.env) B.cell (show (scope.names.map _).lookup y = some NameKind.local from q) with z | ⟨z, _⟩
          · rw [hf] at z; cases z
          · cases z
        · exact q
      · rcases lk with ⟨l, _⟩ | ⟨_, c, ec, z⟩
        · rcases hk with q | q <;> (rw [q] at l; cases l)
        · have ecc : c = c' := Option.some.inj (ec.symm.trans hc)
          rw [← ecc]
          obtain ⟨o, ho, hd⟩ := z
          exact ⟨o, k _ _ ho, hd⟩
  cell := fun y c e => by
    obtain ⟨v, o, ho, hd⟩ := I.cell y c (B.sub I.ok e)
    exact ⟨v, o, k _ _ ho, hd⟩
  free := I.hok.fresh (Nat.le_refl _)
  freeC := fun y c e => I.freeC y c (B.sub I.ok e)
  pin := fun p hp => by
    obtain ⟨e, n, ne, nf, d⟩ := I.pin p hp
    refine ⟨k _ _ e, n, Nat.ne_of_lt (Heap.lt_size e), fun z => ?_, d⟩
    rcases List.mem_cons.mp (I.stkSub _ z) with q | q
    · exact ne q
    · exact nf q
  hok := I.hok.kept k
  len := by
    show (none :: capV ix σ).length = (x :: caps).length
    rw [List.length_cons, List.length_cons, capV, List.length_map, B.len]
theorem blk_out (I : Inv X pins σ H s) {fp : List Addr} (f : ∀ b ∈ fp, FpOk X pins H b) {σ' : St} {H' : Hp} {s' : Shared} (I' : Inv (blk X scope x caps s.heap.objs.size s H fp) pins σ' H' s') : Inv X pins σ H' s' ∧ FpOk X pins H' s.heap.objs.size := by
  have fC : FpOk X pins H' s.heap.objs.size := I.fpOk (Nat.le_refl _) I'.free
  refine ⟨I.call' (ch := fp) I'.os I'.base I'.hok I'.bare fun b hb => ?_, fC⟩
  obtain ⟨f0, f1, f2, f3, f4, f5⟩ := f b hb
  exact ⟨f3, f1, f4, f5⟩
theorem lc_core {elt iter : Expr} {ifs : List Expr} {px pos pos' : Pos} {wi : TI} {tf : TT} {te : TE} {use : Option (Value → Sem Unit)} {R : VK} {QQ : Value → Shared → Prop}
    (B : Blk X scope x caps ix) (hc : X.calm = true) (hi : PI X (.Name x px) iter wi) (hf : ∀ C s₀ H₀ ex, PF (blk X scope x caps C s₀ H₀ ex) ifs tf) (he : ∀ C s₀ H₀ ex, PE (blk X scope x caps C s₀ H₀ ex) elt te)
    (I : Inv X pins σ H s) (h : tLc wi tf te ix σ H R)
    (hQ : ∀ (v : V) (u : Value) (H' : Hp) (C : Addr) (m : Str → Option Value) (s' : Shared), Inv X pins σ H' s' → RelV v u → R v H' → FpOk X pins H' C → s'.heap.Ns C m → compPost (model X.prog X.w) X.A X.xe use QQ u C (.ok .next) s')
    (hs : ∀ x, foldedSetIterable iter X.env x = pure x) :
    wpAny (model X.prog X.w) X.A (comprehension (.ListComp elt [⟨.Name x px, iter, ifs, 0⟩] scope pos) scope X.env pos' (newList []) false (eval iter X.env) use) QQ X.xe s := by
  refine wpAny_comprehension_free rfl hs (closure_eq (B.cells I.ok)) B.kind B.names (thn (hi pins s σ H _ I h) fun xv s1 h1 => thn h1 fun itv s2 h2 => ?_)
  obtain ⟨it, fp, tn, J, H2, e, I2, T, st2, f2, rest⟩ := h2
  subst e
  refine wpAny_newObj_type (wpAny_newFunctionEnv B.cell (by intro y hy; simp at hy) (fun h₁ hns₁ hsb₁ => ?_) B.kind)
  have hD : H2 s2.heap.objs.size = none := I2.fresh
  obtain ⟨W, ⟨m0, w0⟩, turn⟩ := rest s2.heap.objs.size hD
  generalize hDn : s2.heap.objs.size = D at *
  have I3 : Inv X pins σ (upd H2 D (.lst [])) { s2 with heap := s2.heap.push { cls := .type "list", data := .seq ([] : List Value).toArray } } := by
    have := I2.lnew (ys := []) (its := []) (t' := s2.toks) .nil (Nat.zero_le _)
    rw [hDn] at this
    exact this
  generalize hs3 : ({ s2 with heap := s2.heap.push { cls := .type "list", data := .seq ([] : List Value).toArray } } : Shared) = s3 at *
  have fpD : ∀ b ∈ fp, b ≠ D := fun b hb => by
    obtain ⟨o, e, _⟩ := T.obj _ _ st2 b hb
    rw [← hDn]; exact Nat.ne_of_lt (Heap.lt_size e)
  have up3 : ∀ b o, s2.heap.get? b = some o → s3.heap.get? b = some o := fun b o e => by rw [← hs3]; exact Heap.get?_push_of_some _ e
  have f3 : ∀ b ∈ fp, FpOk X pins (upd H2 D (.lst [])) b := fun b hb => by
    obtain ⟨f0, fr⟩ := f2 b hb
    exact ⟨by rw [upd_ne (fpD b hb)]; exact f0, fr⟩
  have st3 : tn 0 s3.heap := T.keep _ _ _ st2 fun b _ o e => up3 b o e
  have fo : ∀ b ∈ fp, b < s3.heap.objs.size := fun b hb => by
    obtain ⟨o, e, _⟩ := T.obj _ _ st3 b hb
    exact Heap.lt_size e
  have eh : s2.heap.push { cls := .type "list", data := .seq ([] : List Value).toArray } = s3.heap := by rw [← hs3]
  have es : ∀ (g : Heap) (t : Nat), ({ s2 with heap := g, toks := t } : Shared) = { s3 with heap := g, toks := t } := fun g t => by rw [← hs3]
  have hn1 : h₁.Ns s3.heap.objs.size (fun _ => none) := hns₁
  have k1 : ∀ b o, s3.heap.get? b = some o → h₁.get? b = some o := fun b o e => by
    exact hsb₁.extBut b o (Nat.ne_of_lt (Heap.lt_size e)) (Heap.get?_push_of_some _ e)
  have I4 := blk_inv B I3 f3 fo (t' := s3.toks + ([] : List (Str × Value)).length) hn1 k1
  have st4 : tn 0 h₁ := T.keep _ _ _ st3 fun b _ o e => k1 b o e
  have post : ∀ σ' H' s', Inv (blk X scope x caps s3.heap.objs.size s3 (upd H2 D (.lst [])) fp) pins σ' H' s' → R (.ref D) H' → compPost (model X.prog X.w) X.A X.xe use QQ (.ref D) s3.heap.objs.size (.ok .next) s' := fun σ' H' s' I' r => by
    obtain ⟨I5, fC⟩ := blk_out I3 f3 I'
    obtain ⟨m, hm, _⟩ := I'.loc
    exact hQ (.ref D) _ H' _ m s' I5 rfl r fC hm
  have loop : codeAny (model X.prog X.w) X.A (.compLoop (.ListComp elt [⟨.Name x px, iter, ifs, 0⟩] scope pos) 0 (.ref it) (.ref D) (blk X scope x caps s3.heap.objs.size s3 (upd H2 D (.lst [])) fp).env)
      (compPost (model X.prog X.w) X.A X.xe use QQ (.ref D) s3.heap.objs.size) { s3 with heap := h₁, toks := s3.toks + ([] : List (Str × Value)).length } := by
    have fpc : ∀ {H' : Hp}, (∀ b ∈ fp, H' b = none) → ∀ b ∈ fp, FpOk (blk X scope x caps s3.heap.objs.size s3 (upd H2 D (.lst [])) fp) pins H' b := fun hn b hb => by
      obtain ⟨f0, f1, f2, f3, f4, f5⟩ := f3 b hb
      refine ⟨hn b hb, Nat.ne_of_lt (fo b hb), fun z => ?_, .inl hb, fun y c e => f4 y c (B.sub I3.ok e), f5⟩
      rcases List.mem_cons.mp (I3.stkSub b z) with q | q
      · exact f1 q
      · exact f2 q
    have hfx := hf s3.heap.objs.size s3 (upd H2 D (.lst [])) fp
    have hex := he s3.heap.objs.size s3 (upd H2 D (.lst [])) fp
    have hgx : PG (blk X scope x caps s3.heap.objs.size s3 (upd H2 D (.lst [])) fp) (.Name x px) (gName 0) := pg_name B.nd rfl (.inl (lookup_relabel_local B.loc)) (.inr (lookup_relabel_local B.loc))
    have hcx : (blk X scope x caps s3.heap.objs.size s3 (upd H2 D (.lst [])) fp).calm = true := hc
    refine codeAny_compLoop_tests (fun n s' => ∃ i ys H' o, Inv (blk X scope x caps s3.heap.objs.size s3 (upd H2 D (.lst [])) fp) pins (o :: capV ix σ) H' s' ∧ tn i s'.heap ∧ (∀ b ∈ fp, H' b = none) ∧ W i n ys H') ?_ m0
      ⟨0, [], _, none, I4, st4, fun b hb => (f3 b hb).1, w0⟩
    rintro n s5 ⟨i, ys, H5, o5, I5, st5, fr5, w5⟩
    obtain ⟨hD5, hstep⟩ := turn i n ys H5 w5
    rcases hstep with ⟨stop, r⟩ | ⟨go, hz, step⟩
    · refine thn (T.done (blk X scope x caps s3.heap.objs.size s3 (upd H2 D (.lst [])) fp) rfl rfl rfl hcx i pins s5 _ H5 _ I5 (fpc fr5) st5 stop) fun r' s6 ⟨hr, I6⟩ => ?_
      subst hr
      exact post _ _ _ I6 r
    · refine thn (T.item (blk X scope x caps s3.heap.objs.size s3 (upd H2 D (.lst [])) fp) rfl rfl rfl hcx i pins s5 _ H5 _ I5 (fpc fr5) st5 go) fun r' s6 ⟨u, hr, h6⟩ => ?_
      subst hr
      show wpAny _ _ (letOwnedTupleGo (.Name x px) (.ref it) u >>= fun _ => assign (.Name x px) (blk X scope x caps s3.heap.objs.size s3 (upd H2 D (.lst [])) fp).env u) _ _ _
      refine wpAny_bind (thn h6 fun _ s7 ⟨v, H7, I7, rv, y7, st7, fr7⟩ => ?_)
      have I7' := I7.pinned (fpc fr7) (T.obj _ _ st7)
      refine wpAny_mono (hgx _ s7 _ H7 v u _ I7' rv (show gName 0 v _ H7 (fun σ' H' => σ' = some v :: capV ix σ ∧ H' = H7) from ⟨rfl, rfl⟩)) (fun _ s8 ⟨σ8, H8, I8, e8, eH8⟩ => ?_) fun _ _ f => f.elim
      subst e8 eH8
      refine wpAny_mono (hfx _ s8 _ _ _ I8 (step v _ y7)) (fun ok s9 ⟨H9, I9, q9⟩ => ?_) fun _ _ f => f.elim
      have again : ∀ {n' : Nat} {ys' : List V} {HA : Hp} {sA : Shared}, n' < n → Inv (blk X scope x caps s3.heap.objs.size s3 (upd H2 D (.lst [])) fp) (pins ++ pinsAt fp s7.heap) (some v :: capV ix σ) HA sA → W (i + 1) n' ys' HA →
          ∃ m, m < n ∧ ∃ i ys H' o, Inv (blk X scope x caps s3.heap.objs.size s3 (upd H2 D (.lst [])) fp) pins (o :: capV ix σ) H' sA ∧ tn i sA.heap ∧ (∀ b ∈ fp, H' b = none) ∧ W i m ys H' := fun {n' ys' HA sA} hn IA wA => by
        refine ⟨n', hn, i + 1, ys', HA, _, IA.unpinned, T.keep _ _ _ st7 fun b hb o e => (IA.pin (b, o) (List.mem_append_right _ (List.mem_append_right _ (mem_pinsAt hb e)))).1, fun b hb => ?_, wA⟩
        obtain ⟨o, e, d⟩ := T.obj _ _ st7 b hb
        exact (IA.pin (b, o) (List.mem_append_right _ (List.mem_append_right _ (mem_pinsAt hb e)))).2.1
      cases ok with
      | false =>
        obtain ⟨n', hn, wA⟩ := q9
        exact again hn I9 wA
      | true =>
        refine wpAny_mono (hex _ s9 _ _ _ I9 q9) (fun u9 sA ⟨vA, HA, IA, rA, hDA, n', hn, wA⟩ => ?_) fun _ _ f => f.elim
        refine wpAny_mono (mt_append (X := blk X scope x caps s3.heap.objs.size s3 (upd H2 D (.lst [])) fp) _ sA _ HA (.ref D) [vA] (.ref D) [u9] (fun _ HB => W (i + 1) n' (ys ++ [vA]) HB) IA rfl (.cons rA .nil) ⟨D, ys, vA, rfl, rfl, hDA, hz, wA⟩) (fun _ sB ⟨_, HB, IB, _, wB⟩ => ?_) fun _ _ f => f.elim
        exact again hn IB wB
  exact codeAny_compStart_list loop (T.self _ 0 _ _ _ st4 loop)
theorem pe_lc {elt iter : Expr} {ifs : List Expr} {px pos : Pos} {wi : TI} {tf : TT} {te : TE} (B : Blk X scope x caps ix) (hc : X.calm = true) (hi : PI X (.Name x px) iter wi)
    (hf : ∀ C s₀ H₀ ex, PF (blk X scope x caps C s₀ H₀ ex) ifs tf) (he : ∀ C s₀ H₀ ex, PE (blk X scope x caps C s₀ H₀ ex) elt te) (hs : ∀ x, foldedSetIterable iter X.env x = pure x := by intro _; rfl) :
    PE X (.ListComp elt [⟨.Name x px, iter, ifs, 0⟩] scope pos) (tLc wi tf te ix) := by
  intro pins s σ H Q I h
  rw [eval_ListComp]
  refine lc_core (use := none) B hc hi hf he I h (fun v u H' C m s' I' r q fC hn => ⟨m, hn, fun h' sb => ⟨v, H', ?_, r, q⟩⟩) hs
  obtain ⟨f0, f1, f2, f3, f4, f5⟩ := fC
  exact I'.turned (t' := s'.toks) (fun b o hb e => (sb.2 b hb).trans e) f0 f1 f3 f4 f5
def tSetLc (i : Nat) (t : TE) : TS := fun D σ H => t σ H fun v H' => D.nx (σ.set i (some v)) H'
theorem ps_lc {i : Nat} {y : Str} {elt iter : Expr} {ifs : List Expr} {px py pos spos : Pos} {wi : TI} {tf : TT} {te : TE} (hN : X.N.Nodup) (hy : X.N[i]? = some y) (hl : X.env.kindOf y = some .local)
    (hsw : swapsWith (.ListComp elt [⟨.Name x px, iter, ifs, 0⟩] scope pos) (some (.Name y py)) spos.line X.env = pure true) (B : Blk X scope x caps ix) (hc : X.calm = true) (hi : PI X (.Name x px) iter wi)
    (hf : ∀ C s₀ H₀ ex, PF (blk X scope x caps C s₀ H₀ ex) ifs tf) (he : ∀ C s₀ H₀ ex, PE (blk X scope x caps C s₀ H₀ ex) elt te) (hs : ∀ x, foldedSetIterable iter X.env x = pure x := by intro _; rfl) :
    PS X (.Assign [.Name y py] (.ListComp elt [⟨.Name x px, iter, ifs, 0⟩] scope pos) spos) (tSetLc i (tLc wi tf te ix)) := by
  intro pins s σ H D I h
  rw [exec_Assign_Name_used _ _ _ _ hsw]
  refine wpAny_bind (wpAny_standAt (wpAny_bind ?_))
  show wpAny _ X.A (do let _ ← comprehension (.ListComp elt [⟨.Name x px, iter, ifs, 0⟩] scope pos) scope X.env _ (newList []) false (eval iter X.env) (some (assign (.Name y py) X.env))) _ _ s
  refine wpAny_bind (wpAny_mono (lc_core (use := some (assign (.Name y py) X.env)) (QQ := fun _ s' => SP X pins D .next s') B hc hi hf he I h (fun v u H' C m s' I' r q fC hn => ?_) hs) (fun _ s' hq => wpAny_pure (wpAny_pure hq)) fun _ _ e => e)
  obtain ⟨oC, esC, epC, hoC, hdC, rC⟩ := id hn
  have I1 : Inv X (pins ++ pinsAt [C] s'.heap) σ H' s' := I'.pinned (fun b hb => by rw [List.mem_singleton.mp hb]; exact fC) (fun b hb => ⟨oC, by rw [List.mem_singleton.mp hb]; exact hoC, fun v z => by rw [hdC] at z; cases z⟩)
  show wpAny _ X.A (assign (.Name y py) X.env u) _ _ s'
  refine wpAny_assign_Name (store_ok I1 hN hy (.inl hl) r (fun s'' I2 => ?_) (.inr hl))
  have hC2 := I2.pin (C, oC) (List.mem_append_right _ (List.mem_append_right _ (mem_pinsAt (List.mem_singleton.mpr rfl) hoC)))
  refine ⟨m, ⟨oC, esC, epC, hC2.1, hdC, rC⟩, fun h' sb => ⟨σ.set i (some v), H', ?_, q⟩⟩
  obtain ⟨f0, f1, f2, f3, f4, f5⟩ := fC
  exact I2.unpinned.turned (t' := s''.toks) (fun b o hb e => (sb.2 b hb).trans e) f0 f1 f3 f4 f5
end
theorem i_lc {wi : TI} {tf : TT} {te : TE} {ix : List Nat} {σ : St} {H : Hp} {Q : VK} (q : wi σ H fun J H1 => ∀ D, H1 D = none → ∃ W : Nat → Nat → List V → Hp → Prop, (∃ m, W 0 m [] (upd H1 D (.lst []))) ∧ ∀ i m ys H, W i m ys H →
  H D = some (.lst ys) ∧ ((J.stop i H ∧ Q (.ref D) H) ∨ (J.go i H ∧ ys.length < sizeLine ∧ ∀ x H', J.yld i H x H' → tf (some x :: capV ix σ) H' fun b H2 =>
    if b = true then te (some x :: capV ix σ) H2 fun y H3 => H3 D = some (.lst ys) ∧ ∃ m', m' < m ∧ W (i + 1) m' (ys ++ [y]) (upd H3 D (.lst (ys ++ [y]))) else ∃ m', m' < m ∧ W (i + 1) m' ys H2))) : tLc wi tf te ix σ H Q := q
theorem i_setLc {i : Nat} {t : TE} {D : Ends} {σ : St} {H : Hp} (q : t σ H fun v H' => D.nx (σ.set i (some v)) H') : tSetLc i t D σ H := q
theorem lc_list {K : PySem.W.Frag} {a : Addr} {xs : List V} {te : TE} {cs : St} {H1 : Hp} {Q : VK} (f : V → V) (hS : SqL K H1 a xs) (hz : xs.length ≤ sizeLine)
    (hx : ∀ (i : Nat) (v : V) (H' : Hp) (R : VK), xs[i]? = some v → Same H1 H' → R (f v) H' → te (some v :: cs) H' R) (q : ∀ D, H1 D = none → Q (.ref D) (upd H1 D (.lst (xs.map f)))) :
    ∀ D, H1 D = none → ∃ W : Nat → Nat → List V → Hp → Prop, (∃ m, W 0 m [] (upd H1 D (.lst []))) ∧ ∀ i m ys H, W i m ys H →
      H D = some (.lst ys) ∧ (((Itl K a).stop i H ∧ Q (.ref D) H) ∨ ((Itl K a).go i H ∧ ys.length < sizeLine ∧ ∀ x H', (Itl K a).yld i H x H' → tYes (some x :: cs) H' fun b H2 =>
        if b = true then te (some x :: cs) H2 fun y H3 => H3 D = some (.lst ys) ∧ ∃ m', m' < m ∧ W (i + 1) m' (ys ++ [y]) (upd H3 D (.lst (ys ++ [y]))) else ∃ m', m' < m ∧ W (i + 1) m' ys H2)) := by
  intro D hD
  refine ⟨fun i m ys H => m = xs.length - i ∧ i ≤ xs.length ∧ ys = (xs.take i).map f ∧ H = upd H1 D (.lst ys), ⟨xs.length, by simp, Nat.zero_le _, by simp, rfl⟩, ?_⟩
  rintro i m ys H ⟨rfl, hi, hys, rfl⟩
  have s1 : Same H1 (upd H1 D (.lst ys)) := Same.upd (Same.refl H1) hD
  have q1 := s1.seq hS
  refine ⟨upd_same, ?_⟩
  by_cases hlt : i < xs.length
  · have hyl : ys.length = i := by rw [hys, List.length_map, List.length_take]; omega
    refine .inr ⟨⟨xs, xs[i], q1, by simp [hlt]⟩, by omega, fun x H' y => ?_⟩
    obtain ⟨e, y⟩ := y
    subst e
    have hxi := y xs q1
    unfold tYes; dsimp only
    rw [if_pos rfl]
    refine (hx i x _ _ hxi s1 ⟨upd_same, xs.length - (i + 1), by omega, rfl, hlt, ?_, by rw [upd_upd]⟩)
    rw [List.take_add_one, List.map_append, ← hys, hxi]; rfl
  · have e : i = xs.length := by omega
    subst e
    refine .inl ⟨⟨xs, q1, Nat.le_refl _⟩, ?_⟩
    rw [hys, List.take_length]
    exact q D hD
def tJoin (t : TS) : TS := fun D σ H => ∃ J : St → Hp → Prop, t { D with nx := J } σ H ∧ ∀ σ' H', J σ' H' → D.nx σ' H'
theorem ps_join {X : Cx} {st : Stmt} {t : TS} (h : PS X st t) : PS X st (tJoin t) := by
  intro pins s σ H D I q
  obtain ⟨J, q, hJ⟩ := q
  refine thn (h pins s σ H _ I q) fun f s' z => ?_
  cases f with
  | next => obtain ⟨σ', H', I', z⟩ := z; exact ⟨σ', H', I', hJ _ _ z⟩
  | brk => exact z
  | cont => exact z
  | ret v => exact z
theorem i_join {t : TS} {D : Ends} {σ : St} {H : Hp} (J : St → Hp → Prop) (h1 : t { D with nx := J } σ H) (h2 : ∀ σ' H', J σ' H' → D.nx σ' H') : tJoin t D σ H := ⟨J, h1, h2⟩
structure New (H : Hp) (p : Addr) (o : HO) (H2 : Hp) : Prop where
  free : H p = none
  eq : H2 = upd H p o
theorem New.at {H H2 : Hp} {p : Addr} {o : HO} (n : New H p o H2) : H2 p = some o := by rw [n.eq]; exact upd_same
theorem New.same {H H2 : Hp} {p : Addr} {o : HO} (n : New H p o H2) : Same H H2 := by rw [n.eq]; exact Same.new n.free
theorem New.lst {K : PySem.W.Frag} {H H2 : Hp} {p : Addr} {xs : List V} (n : New H p (.lst xs) H2) : SqL K H2 p xs := .inl (.inl n.at)
section
variable {X : Cx} {es : List Expr} {t : TA} {pos : Pos}
def tTupA (t : TA) : TE := fun σ H Q => t σ H fun xs H1 => xs.length ≤ sizeLine ∧ ∀ p H2, New H1 p (.tup xs) H2 → Q (.ref p) H2
def tLstA (t : TA) : TE := fun σ H Q => t σ H fun xs H1 => xs.length ≤ sizeLine ∧ ∀ p H2, New H1 p (.lst xs) H2 → Q (.ref p) H2
theorem pe_tupA {x1} (h : PA X es t) : PE X (.Tuple es x1 pos) (tTupA t) := by
  intro pins s σ H Q I hq
  refine wpAny_Tuple_spliced (thn (h pos pins s σ H _ I hq) fun us s1 ⟨xs, H1, I1, r, z, q⟩ => ⟨by rw [← r.length]; exact z, ?_⟩)
  have hf : H1 s1.heap.objs.size = none := I1.hok.fresh (Nat.le_refl _)
  refine ⟨.ref s1.heap.objs.size, upd H1 s1.heap.objs.size (.tup xs), I1.laid (t' := s1.toks) (fun b u e => Heap.get?_push_of_some _ e) (Nat.le_refl _) ?_, rfl, q _ _ ⟨hf, rfl⟩⟩
  exact ⟨z, us, r, ⟨_, Heap.get?_push_size _ rfl, rfl, _, rfl⟩⟩
theorem pe_lstA (h : PA X es t) : PE X (.List es pos) (tLstA t) := by
  intro pins s σ H Q I hq
  refine wpAny_List_spliced (thn (h pos pins s σ H _ I hq) fun us s1 ⟨xs, H1, I1, r, z, q⟩ => ⟨by rw [← r.length]; exact z, ?_⟩)
  have hf : H1 s1.heap.objs.size = none := I1.hok.fresh (Nat.le_refl _)
  refine ⟨.ref s1.heap.objs.size, upd H1 s1.heap.objs.size (.lst xs), I1.laid (t' := s1.toks) (fun b u e => Heap.get?_push_of_some _ e) (Nat.le_refl _) ?_, rfl, q _ _ ⟨hf, rfl⟩⟩
  exact ⟨z, us, 0, r, Heap.get?_push_size _ rfl⟩
theorem CallR.imp {f : Value} {r r' : List V → Hp → VK → Prop} (h : CallR X f r) (i : ∀ xs H Q, r' xs H Q → r xs H Q) : CallR X f r' := fun pins s σ H xs us Q I rv q => h pins s σ H xs us Q I rv (i _ _ _ q)
def rListA (K : PySem.W.Frag) : List V → Hp → VK → Prop := fun xs H Q => ∃ p ys, xs = [.ref p] ∧ (SqL K H p ys ∨ SqT K H p ys) ∧ ∀ l H2, New H l (.lst ys) H2 → Q (.ref l) H2
theorem call_listA : CallR X (.type "list") (rListA X.K) := call_list_of.imp fun xs H Q ⟨p, ys, e, h, q⟩ => ⟨p, ys, e, h, fun l hl => q l _ ⟨hl, rfl⟩⟩
end
section
variable {K : PySem.W.Frag} {σ : St} {H : Hp} {Q : VK} {p : Addr} {xs : List V}
theorem i_lstA {t : TA} (q : t σ H fun xs H1 => xs.length ≤ sizeLine ∧ ∀ p H2, New H1 p (.lst xs) H2 → Q (.ref p) H2) : tLstA t σ H Q := q
theorem i_tupA {t : TA} (q : t σ H fun xs H1 => xs.length ≤ sizeLine ∧ ∀ p H2, New H1 p (.tup xs) H2 → Q (.ref p) H2) : tTupA t σ H Q := q
theorem i_listAL (h : SqL K H p xs) (q : ∀ l H2, New H l (.lst xs) H2 → Q (.ref l) H2) : rListA K [.ref p] H Q := ⟨p, xs, rfl, .inl h, q⟩
end
structure NewI (H : Hp) (x dx C : Addr) (fs : List (Str × V)) (H2 : Hp) : Prop where
  fx : H x = none
  fd : H dx = none
  ne : dx ≠ x
  eq : H2 = upd (upd H dx (.own x)) x (.ins C dx fs)
theorem NewI.at {H H2 : Hp} {x dx C : Addr} {fs : List (Str × V)} (n : NewI H x dx C fs H2) : H2 x = some (.ins C dx fs) := by rw [n.eq]; exact upd_same
theorem NewI.same {H H2 : Hp} {x dx C : Addr} {fs : List (Str × V)} (n : NewI H x dx C fs H2) : Same H H2 := by
  rw [n.eq]; exact Same.upd (Same.new n.fd) (by rw [upd_ne n.ne.symm]; exact n.fx)
theorem i_iteSe {x y : Str} {A B : Prop} (n : x = y) (q : A) : if decide (V.str x = V.str y) = true then A else B := by
  rw [decide_eq_true (congrArg V.str n)]; exact iteT q
theorem lcL {K : PySem.W.Frag} {a : Addr} {te : TE} {cs : St} {H1 : Hp} {Q : Addr → Hp → Prop} (xs : List V) (f : V → V) (hS : SqL K H1 a xs) (hz : xs.length ≤ sizeLine)
    (hx : ∀ (i : Nat) (v : V) (H' : Hp) (R : VK), xs[i]? = some v → Same H1 H' → R (f v) H' → te (some v :: cs) H' R) (q : ∀ D H2, New H1 D (.lst (xs.map f)) H2 → Q D H2) :
    ∃ a', V.ref a = .ref a' ∧ (∃ xs, SqL K H1 a' xs) ∧ ∀ D, H1 D = none → ∃ W : Nat → Nat → List V → Hp → Prop, (∃ m, W 0 m [] (upd H1 D (.lst []))) ∧ ∀ i m ys H, W i m ys H →
      H D = some (.lst ys) ∧ (((Itl K a').stop i H ∧ Q D H) ∨ ((Itl K a').go i H ∧ ys.length < sizeLine ∧ ∀ x H', (Itl K a').yld i H x H' → tYes (some x :: cs) H' fun b H2 =>
        if b = true then te (some x :: cs) H2 fun y H3 => H3 D = some (.lst ys) ∧ ∃ m', m' < m ∧ W (i + 1) m' (ys ++ [y]) (upd H3 D (.lst (ys ++ [y]))) else ∃ m', m' < m ∧ W (i + 1) m' ys H2)) :=
  ⟨a, rfl, ⟨xs, hS⟩, fun D hD => by
    obtain ⟨W, w0, h⟩ := lc_list (K := K) (Q := fun v H => ∃ D, v = .ref D ∧ Q D H) (te := te) (cs := cs) f hS hz hx (fun D hD => ⟨D, rfl, q D _ ⟨hD, rfl⟩⟩) D hD
    refine ⟨W, w0, fun i m ys H w => ?_⟩
    obtain ⟨a1, a2⟩ := h i m ys H w
    refine ⟨a1, a2.imp (fun ⟨st, D', e, q'⟩ => ⟨st, ?_⟩) id⟩
    cases e; exact q'⟩
theorem sqL_inj_of {K : PySem.W.Frag} {a : Addr} {xs : List V} {H : Hp} (h : H a = some (.lst xs)) : SqL K H a xs := .inl (.inl h)
end L2
namespace Lap
open PySem L2
def spDeedA (C : Dk → Addr) : Sp := fun vs H Q _ => ∃ d : Dk, vs = [.str d.word] ∧ ∀ x dx H2, NewI H x dx (C d) [] H2 → Q (.ref x) H2
end Lap
set_option Elab.async false
set_option linter.all false
set_option maxRecDepth 100000
namespace L2
open PySem PySem.Spec PyProof.Rows
section
variable {X : Cx} {pins : List (Addr × Obj)} {σ : St} {H : Hp} {s : Shared}
theorem Inv.slots {h' : Heap} (I : Inv X pins σ H s) (k : Heap.SlotsOnly (frs X.stack) s.heap h') : Inv X pins σ H { s with heap := h' } := by
  have hok : HOk X.prog X.w H h' := fun b u e => (I.hok b u e).stay (fun c v hc q => (k.2.1 c fun hm => by
    have hn := I.stkFree c hm
    rcases hc with z | z
    · rw [z, e] at hn; cases hn
    · rw [z] at hn; cases hn).trans q) (fun _ q => q) fun _ _ q => q
  refine I.call' (s' := { s with heap := h' }) (ch := []) rfl ⟨fun b o q _ hb _ => (k.2.1 b hb).trans q, fun b o q _ _ _ => k.2.2 b o q, fun _ _ _ n _ => n, fun b o q _ => ?_, fun _ _ q => q, fun _ _ _ q => q, fun b ps q => ⟨#[], by rw [q]; simp⟩⟩ hok I.bare fun _ z => nomatch z
  obtain ⟨sl, e⟩ := k.2.2 b o q
  exact ⟨_, e⟩
theorem Inv.rec' {a : Addr} {h' : Heap} (I : Inv X pins σ H s) (f : FpOk X pins H a) (k : ∀ b, b ≠ a → h'.get? b = s.heap.get? b) : Inv X pins σ H { s with heap := h' } := by
  obtain ⟨f0, f1, f2, f3, f4, f5⟩ := f
  exact I.turned (t' := s.toks) (fun b o hb e => (k b hb).trans e) f0 f1 f3 f4 f5
end
def TbAt (P : Addr → Prop) (h : Heap) (e : Addr) (c : Value) (d : Option Addr) : Option Value → Prop
  | none => ∃ sl vs, h.get? e = some ⟨c, d, .fields vs, sl⟩ ∧ vs[1]? = some .none
  | some fl => ∃ sl vs T oT ts, h.get? e = some ⟨c, d, .fields vs, sl⟩ ∧ vs[1]? = some (.ref T) ∧ P T ∧ T ≠ e ∧ h.get? T = some oT ∧ oT.data = .fields ts ∧ ts[3]? = some fl
theorem TbAt.there {P : Addr → Prop} {h : Heap} {e : Addr} {c : Value} {d : Option Addr} {fl : Option Value} (x : TbAt P h e c d fl) : ∃ sl vs, h.get? e = some ⟨c, d, .fields vs, sl⟩ := by
  cases fl with
  | none => obtain ⟨sl, vs, q, _⟩ := x; exact ⟨sl, vs, q⟩
  | some v => obtain ⟨sl, vs, T, oT, ts, q, _⟩ := x; exact ⟨sl, vs, q⟩
structure Exc (X : Cx) (pins : List (Addr × Obj)) (σ : St) (H : Hp) (s : Shared) (e : Addr) (c : Value) (d : Option Addr) (fl : Option Value) : Prop where
  inv : Inv X pins σ H s
  fe : FpOk X pins H e
  tb : TbAt (FpOk X pins H) s.heap e c d fl
section
variable {X : Cx} {pins : List (Addr × Obj)} {σ : St} {H : Hp} {s : Shared} {e : Addr} {c : Value} {d : Option Addr} {M : Model} {E : Value → Shared → Prop} {Q : Unit → Shared → Prop}
theorem upd_rec {h : Heap} {a : Addr} {cl : Value} {dd : Option Addr} {vs : Array Value} {sl : Array (Option Value)} (ho : h.get? a = some ⟨cl, dd, .fields vs, sl⟩) (f : Array Value → Array Value) : (h.update a (Obj.mapFields f)).get? a = some ⟨cl, dd, .fields (f vs), sl⟩ :=
  Heap.get?_update_self _ ho rfl
theorem note_entry {hadNext : Bool} {head : Value} {vs : Array Value} {sl : Array (Option Value)} (hst : X.stack = X.env :: X.outer) (hf : X.env.frame = some X.env.locals) (I : Inv X pins σ H s) (fe : FpOk X pins H e)
    (he : s.heap.get? e = some ⟨c, d, .fields vs, sl⟩) (hsz : 1 < vs.size)
    (h : ∀ s', Exc X pins σ H s' e c d (some (rawInt X.env.locals)) → Q () s') :
    wpAny M X.A (do setField (.ref e) 1 (← EntryCells.newEntry head (← frameOf X.env) .none (rawInt X.env.locals) .none (← entryPlaceOf X.env.locals hadNext))) Q E s := by
  have hl : s.heap.FunFrames X.base (X.env :: X.outer) := hst ▸ I.stack
  have hfr : X.A.frames = some (X.env :: X.outer) := by rw [I.ok.frames, hst]
  refine wpAny_bind (wpAny_frameOf_fun hfr hl hf fun h₁ hs₁ => ?_)
  have hs₁' : Heap.SlotsOnly (frs X.stack) s.heap h₁ := by rw [hst]; exact hs₁
  have I1 := I.slots hs₁'
  have ene : e ∉ frs X.stack := fun z => by
    rcases List.mem_cons.mp (I.stkSub e z) with q | q
    · exact fe.2.1 q
    · exact fe.2.2.1 q
  have he1 : h₁.get? e = some ⟨c, d, .fields vs, sl⟩ := (hs₁'.2.1 e ene).trans he
  refine wpAny_bind (wpAny_entryPlaceOf fun pl hpl => ?_)
  unfold EntryCells.newEntry newFields
  refine wpAny_bind (wpAny_newObj_type ?_ (hpl.sizeOk5 _ _ _ _ _))
  generalize hts : ([head, Value.ref X.env.locals, Value.none, rawInt X.env.locals, Value.none] ++ (if pl.isEmpty then List.replicate 6 Value.none else pl)).toArray = ts
  have h3 : ts[3]? = some (rawInt X.env.locals) := by rw [← hts]; rfl
  have I2 : Inv X pins σ H { s with heap := h₁.push { cls := .type "traceback", dict := none, data := .fields ts } } := I1.kept (t' := s.toks) fun b o q => Heap.get?_push_of_some _ q
  have he2 := Heap.get?_push_of_some (h := h₁) { cls := .type "traceback", dict := none, data := .fields ts } he1
  refine wpAny_setField he2 rfl hsz (h _ ⟨I2.rec' fe fun b hb => Heap.get?_update_other _ _ (Ne.symm hb), fe, ?_⟩)
  have hTe : h₁.objs.size ≠ e := Nat.ne_of_gt (Heap.lt_size he1)
  refine ⟨sl, _, h₁.objs.size, { cls := .type "traceback", dict := none, data := .fields ts }, ts, upd_rec he2 _, by simp [hsz], I1.fpOk (Nat.le_refl _) (I1.hok.fresh (Nat.le_refl _)), hTe, ?_, rfl, h3⟩
  rw [Heap.get?_update_other _ _ (Ne.symm hTe)]
  exact Heap.get?_push_size h₁ rfl
theorem Exc.note {fl : Option Value} (hst : X.stack = X.env :: X.outer) (hf : X.env.frame = some X.env.locals) (x : Exc X pins σ H s e c d fl) (hfl : fl = none ∨ fl = some .none ∨ fl = some (rawInt X.env.locals))
    (h : ∀ s', Exc X pins σ H s' e c d (some (rawInt X.env.locals)) → Q () s') : wpAny M X.A (noteFrame (.ref e) X.env) Q E s := by
  obtain ⟨I, fe, tb⟩ := x
  unfold noteFrame
  simp only [hf]
  rcases hfl with z | z | z
  · subst z
    obtain ⟨sl, vs, he, h1⟩ := tb
    refine wpAny_bind (wpAny_field he rfl h1 ?_)
    rw [if_neg (by decide)]
    exact note_entry hst hf I fe he (Array.getElem?_eq_some_iff.mp h1).1 h
  · subst z
    obtain ⟨sl, vs, T, oT, ts, he, h1, fT, hTe, hT, hdT, h3⟩ := tb
    refine wpAny_bind (wpAny_field he rfl h1 ?_)
    rw [if_pos (show (Value.ref T != Value.none) = true from by simp)]
    refine wpAny_bind (wpAny_field hT hdT h3 ?_)
    rw [if_neg (show ¬ ((Value.none == rawInt X.env.locals) = true) from by simp [rawInt])]
    refine wpAny_bind (wpAny_setField hT hdT (Array.getElem?_eq_some_iff.mp h3).1 ?_)
    have I1 := I.rec' (h' := s.heap.update T (Obj.mapFields (·.setIfInBounds 3 .none))) fT fun b hb => Heap.get?_update_other _ _ (Ne.symm hb)
    exact note_entry (s := { s with heap := _ }) hst hf I1 fe ((Heap.get?_update_other _ _ hTe).trans he) (Array.getElem?_eq_some_iff.mp h1).1 h
  · subst z
    obtain ⟨sl, vs, T, oT, ts, he, h1, fT, hTe, hT, hdT, h3⟩ := tb
    refine wpAny_bind (wpAny_field he rfl h1 ?_)
    rw [if_pos (show (Value.ref T != Value.none) = true from by simp)]
    refine wpAny_bind (wpAny_field hT hdT h3 ?_)
    rw [if_pos (show (rawInt X.env.locals == rawInt X.env.locals) = true from by simp)]
    exact wpAny_pure (h s ⟨I, fe, sl, vs, T, oT, ts, he, h1, fT, hTe, hT, hdT, h3⟩)
theorem Exc.fly {fl : Value} {to : Option Addr} (x : Exc X pins σ H s e c d (some fl)) (h : ∀ s', Exc X pins σ H s' e c d (some (to.elim .none fun f => rawInt f)) → Q () s') : wpAny M X.A (setFlight (.ref e) to) Q E s := by
  obtain ⟨I, fe, sl, vs, T, oT, ts, he, h1, fT, hTe, hT, hdT, h3⟩ := x
  unfold setFlight
  refine wpAny_bind (wpAny_field he rfl h1 ?_)
  rw [if_pos (show (Value.ref T != Value.none) = true from by simp)]
  have hsz : 3 < ts.size := (Array.getElem?_eq_some_iff.mp h3).1
  refine wpAny_setField hT hdT hsz (h _ ⟨I.rec' fT fun b hb => Heap.get?_update_other _ _ (Ne.symm hb), fe, sl, vs, T, _, _, (Heap.get?_update_other _ _ hTe).trans he, h1, fT, hTe, Heap.get?_update_self _ hT (Obj.isFreed_of_fields (Obj.data_mapFields hdT _)), Obj.data_mapFields hdT _, by simp [hsz]⟩)
end
theorem ObjOk.get {P : Program} {w : World} {H : Hp} {h : Heap} {a : Addr} {o : HO} (x : ObjOk P w H h a o) : ∃ ob, h.get? a = some ob := by
  induction o with
  | lst xs => obtain ⟨_, _, _, _, e⟩ := x; exact ⟨_, e⟩
  | tup xs => obtain ⟨_, _, _, ob, e, _⟩ := x; exact ⟨_, e⟩
  | dK kvs => obtain ⟨_, _, _, _, ob, _, _, e, _⟩ := x; exact ⟨_, e⟩
  | dT kvs => obtain ⟨_, _, _, _, ob, _, _, e, _⟩ := x; exact ⟨_, e⟩
  | set S n => obtain ⟨ob, _, _, _, e, _⟩ := x; exact ⟨_, e⟩
  | ins C dx fs => obtain ⟨_, _, _, e, _⟩ := x; exact ⟨_, e⟩
  | own y => exact x
  | xd fs => obtain ⟨_, ⟨od, _, _, e, _⟩, _⟩ := x; exact ⟨_, e⟩
  | rng lo hi => obtain ⟨_, _, _, e⟩ := x; exact ⟨_, e⟩
  | frz ob u ih => exact ⟨_, x.1⟩
  | tbl ps => exact ⟨_, x⟩
  | met f y => exact ⟨_, x⟩
  | ext φ => exact x.2.1
section
variable {X : Cx} {pins : List (Addr × Obj)} {σ : St} {H H' : Hp} {s : Shared} {b : Addr}
theorem Inv.noObj (I : Inv X pins σ H s) (hb : s.heap.get? b = none) : H b = none := by
  cases q : H b with
  | none => rfl
  | some u => obtain ⟨ob, e⟩ := (I.hok b u q).get; rw [hb] at e; cases e
theorem Inv.fpNew (I : Inv X pins σ H s) (hb : s.heap.get? b = none) (hn : H' b = none) : FpOk X pins H' b := by
  obtain ⟨m, ⟨oL, _, _, hoL, _⟩, _⟩ := I.loc
  refine ⟨hn, fun z => ?_, fun z => ?_, ?_, fun x c e z => ?_, fun p hp z => ?_⟩
  · rw [z, hoL] at hb; cases hb
  · obtain ⟨_, o, ho, _⟩ := I.funs.mem z
    rw [ho] at hb; cases hb
  · by_cases hx : b ∈ X.ex
    · exact .inl hx
    · refine .inr ?_
      cases q : X.s₀.heap.get? b with
      | none => rfl
      | some o => obtain ⟨o', e⟩ := I.base.there b o q hx; rw [hb] at e; cases e
  · obtain ⟨v, o, ho, _⟩ := I.cell x c e
    rw [z, hb] at ho; cases ho
  · have := (I.pin p hp).1
    rw [z, hb] at this; cases this
theorem FpOk.nil (f : FpOk X pins H b) : FpOk X.nox [] H b := by
  obtain ⟨f0, f1, f2, f3, f4, f5⟩ := f
  exact ⟨f0, f1, f2, f3, f4, fun p hp => f5 p (List.mem_append_left _ (by simpa using hp))⟩
theorem Inv.nil (I : Inv X pins σ H s) : Inv X.nox [] σ H s := (I.pins_of (pins' := []) fun _ z => nomatch z).wish _
theorem TbAt.imp {P P' : Addr → Prop} {h : Heap} {e : Addr} {c : Value} {d : Option Addr} {fl : Option Value} (x : TbAt P h e c d fl) (i : ∀ T, P T → P' T) : TbAt P' h e c d fl := by
  cases fl with
  | none => exact x
  | some v => obtain ⟨sl, vs, T, oT, ts, h1, h2, h3, r⟩ := x; exact ⟨sl, vs, T, oT, ts, h1, h2, i T h3, r⟩
end
abbrev XS := St → Value → Option Addr → Hp → Prop
def flOk (X : Cx) (fl : Option Value) : Prop := fl = none ∨ fl = some .none ∨ fl = some (rawInt X.env.locals)
def xeOf (X : Cx) (ES : XS) : Value → Shared → Prop := fun v s' => ∃ e c d fl σ H, v = .ref e ∧ Exc X.nox [] σ H s' e c d fl ∧ flOk X fl ∧ ES σ c d H
structure OwnFr (X : Cx) : Prop where
  st : X.stack = X.env :: X.outer
  fr : X.env.frame = some X.env.locals
theorem passes_own {X : Cx} {ES : XS} (hO : OwnFr X) : PassesOwn (model X.prog X.w) X.A X.env (xeOf X ES) := by
  rintro v s' ⟨e, c, d, fl, σ, H, rfl, x, hfl, q⟩
  refine x.note (X := X.nox) hO.st hO.fr hfl fun s1 x1 => ?_
  obtain ⟨sl, vs, T, oT, ts, he, h1, r⟩ := id x1.tb
  show wpAny _ _ (field (.ref e) 1 >>= _) _ _ _
  refine wpAny_bind (wpAny_field he rfl h1 ?_)
  rw [if_neg (by simp)]
  refine x1.fly (X := X.nox) fun s2 x2 => ⟨e, c, d, _, σ, H, rfl, x2, ?_, q⟩
  exact .inr (.inr (by rw [show X.nox.env.frame = some X.env.locals from hO.fr]; rfl))
def CX1 (P : Program) (w : World) : CXT := fun outer H s E v s' => ∃ e c d H', v = .ref e ∧ s'.os = s.os ∧ AllBare s'.gens ∧ Un (frs outer) [] H H' s.heap s'.heap ∧ HOk P w H' s'.heap ∧ (s.heap.get? e = none ∧ H' e = none) ∧
  TbAt (fun T => s.heap.get? T = none ∧ H' T = none) s'.heap e c d (some .none) ∧ E c d H'
theorem leave_x {P : Program} {w : World} {K : PySem.W.Frag} {mg : Str → Option Value} {base : Heap} {N : List Str} {qual : Str} {scope : Scope} {f : Addr} {cd : Value} {A : Around} {outer : List Env} {s : Shared} {H : Hp} {E : XK} {v : Value} {s' : Shared}
    (h : xeOf (cxOf (CX1 P w) P w K mg base N qual scope f cd A outer s H E) (fun _ c d H' => E c d H') v s') : (cxOf (CX1 P w) P w K mg base N qual scope f cd A outer s H E).xe v s' := by
  obtain ⟨e, c, d, fl, σ, H', rfl, x, hfl, q⟩ := h
  show wpAny _ _ (leaving _ _) _ _ _
  unfold leaving
  refine wpAny_bind (x.note (X := (cxOf (CX1 P w) P w K mg base N qual scope f cd A outer s H E).nox) rfl rfl hfl fun s1 x1 => ?_)
  refine x1.fly (to := none) fun s2 x2 => ⟨e, c, d, H', rfl, x2.inv.os, x2.inv.bare, x2.inv.base, x2.inv.hok, ?_, x2.tb.imp fun T fT => ?_, q⟩
  · obtain ⟨f0, _, _, f3, _⟩ := x2.fe
    exact ⟨f3.resolve_left (fun z => nomatch z), f0⟩
  · obtain ⟨f0, _, _, f3, _⟩ := fT
    exact ⟨f3.resolve_left (fun z => nomatch z), f0⟩
section
variable {X : Cx} {CX : CXT} {k : Nat} {f C : Addr} {fd : FuncData} {ps : List Str} {sp : Sp} {ES : XS} {x m : Str} {p pos apos : Pos} {e o : Expr} {es : List Expr} {ta : TE} {t : TA}
theorem run_fnX {pins : List (Addr × Obj)} {σ : St} {H : Hp} {s : Shared} {Q : VK} {us : List Value} {vs : List V} (F : FnOk X.prog X.w X.K X.mg X.base (CX1 X.prog X.w) k f fd ps sp) (hr : Room k X.A) (hb : Binds X.K fd ps []) (hx : ∀ v s, xeOf X ES v s → X.xe v s)
    (I : Inv X pins σ H s) (r : Vals vs us) (h : sp (vs ++ []) H Q (ES σ)) : wpAny (model X.prog X.w) X.A (call (.ref f) us) (EP X pins σ Q) X.xe s := by
  have r2 : Vals (vs ++ []) (us ++ []) := r.append .nil
  have hl : (us ++ []).length = ps.length := by rw [← r2.length]; exact F.len _ _ _ _ h
  refine wpAny_call (codeAny_mono (F.run X.A X.stack s H ⟨us, []⟩ (us ++ []) (vs ++ []) Q (ES σ) hr I.env0 (hb s us I.kIn hl) r2 h) fun r s' hq => ?_)
  cases r with
  | error e =>
    obtain ⟨e, c, d, H', rfl, os, bare, un, hok, fe, tb, q⟩ := hq
    have I1 : Inv X pins σ H' s' := I.call' os un hok bare fun _ z => nomatch z
    exact hx _ _ ⟨e, c, d, _, σ, H', rfl, ⟨I1.nil, (I.fpNew fe.1 fe.2).nil, tb.imp fun T fT => (I.fpNew fT.1 fT.2).nil⟩, .inr (.inl rfl), q⟩
  | ok fl =>
    cases fl with
    | ret u => exact I.after hq
    | next => exact False.elim hq
    | brk => exact False.elim hq
    | cont => exact False.elim hq
structure DfX (P : Program) (w : World) (K : PySem.W.Frag) (mg : Str → Option Value) (base : Heap) (k : Nat) (x : Str) (ps : List Str) (sp : Sp) : Prop where
  ex : ∃ f fd, mg x = some (.ref f) ∧ PySem.W.keepIn K (.ref f) = true ∧ Binds K fd ps [] ∧ FnOk P w K mg base (CX1 P w) k f fd ps sp
end
theorem PSs.weak {X : Cx} {E E' : Value → Shared → Prop} {st : List Stmt} {t : TS} (h : PSs (X.wish E) st t) (i : ∀ v s, E v s → E' v s) : PSs (X.wish E') st t := fun pins s σ H D I hw =>
  wpAny_mono (h pins s σ H D (I.unwish.wish _) hw) (fun f s' q => by
    have q' := SP.unwish (X := X) q
    cases f with
    | next => obtain ⟨σ', H', I, q⟩ := q'; exact ⟨σ', H', I.wish _, q⟩
    | brk => obtain ⟨σ', H', I, q⟩ := q'; exact ⟨σ', H', I.wish _, q⟩
    | cont => obtain ⟨σ', H', I, q⟩ := q'; exact ⟨σ', H', I.wish _, q⟩
    | ret u => obtain ⟨v, σ', H', I, r, q⟩ := q'; exact ⟨v, σ', H', I.wish _, r, q⟩) i
abbrev cxX (P : Program) (w : World) (K : PySem.W.Frag) (mg : Str → Option Value) (base : Heap) (N : List Str) (qual : Str) (scope : Scope) (f : Addr) (cd : Value) (A : Around) (outer : List Env) (s : Shared) (H : Hp) (E : XK) : Cx :=
  (cxOf (CX1 P w) P w K mg base N qual scope f cd A outer s H E).wish (xeOf (cxOf (CX1 P w) P w K mg base N qual scope f cd A outer s H E) fun _ c d H' => E c d H')
section
variable {P : Program} {w : World} {K : PySem.W.Frag} {mg : Str → Option Value} {base : Heap}
theorem Fun.okX {x qual : Str} {st : Stmt} {f : Addr} {fd : FuncData} {N ps : List Str} {k : Nat} {sp : Sp} (F : Fun K x qual st f fd) (S : FnScope N ps (defScope st)) (len : ∀ vs H Q E, sp vs H Q E → vs.length = ps.length)
    (hbody : ∀ (cdv : Value) (A : Around) (outer : List Env) (s : Shared) (H : Hp) (vs : List V) (Q : VK) (E : XK), Room k (A.deeper (envOfC qual (defScope st) s.heap.objs.size f cdv)) → sp vs H Q E →
      ∃ t, PSs (cxX P w K mg base N qual (defScope st) f cdv A outer s H E) (defBody st) t ∧ t { nx := fun _ H' => Q .non H', rt := Q } (start N vs) H) : FnOk P w K mg base (CX1 P w) (k + 1) f fd ps sp := by
  obtain ⟨oc, od, kV, doc, pm, an, cdv, ct, osl, rfl, lk, hcd⟩ := F.ex
  refine fn_of lk hcd S len fun A outer s H vs Q E hr hsp => ?_
  obtain ⟨t, h, q⟩ := hbody cdv A outer s H vs Q E hr hsp
  exact ⟨t, PSs.weak h fun v s' z => leave_x z, q⟩
theorem HasF.dfX {k : Nat} {x : Str} {st : Stmt} {N ps : List Str} {sp : Sp} (F : HasF K x st) (Kb : K.In base) (G : base.Ns mainGlobals mg) (S : FnScope N ps (defScope st))
    (hbi : ∀ (kV doc pm : Value) (an : Option Addr) (cdv ct : Value) (us : List Value), us.length = ps.length → bindArgs (PySem.W.fnOf x x (defArgs st) (defBody st) (defScope st) .none kV doc pm an cdv ct) ⟨us, []⟩ = pure (ps.zip us))
    (len : ∀ vs H Q E, sp vs H Q E → vs.length = ps.length)
    (hbody : ∀ (f : Addr) (cdv : Value) (A : Around) (outer : List Env) (s : Shared) (H : Hp) (vs : List V) (Q : VK) (E : XK), Room k (A.deeper (envOfC x (defScope st) s.heap.objs.size f cdv)) → sp vs H Q E →
      ∃ t, PSs (cxX P w K mg base N x (defScope st) f cdv A outer s H E) (defBody st) t ∧ t { nx := fun _ H' => Q .non H', rt := Q } (start N vs) H) : DfX P w K mg base (k + 1) x ps sp := by
  obtain ⟨f, fd, a, F⟩ := F.ex
  exact ⟨f, fd, PySem.W.mg_of Kb G a, F.kp, F.binds hbi, F.okX S len (hbody f)⟩
theorem own_cxX {N : List Str} {qual : Str} {scope : Scope} {f : Addr} {cd : Value} {A : Around} {outer : List Env} {s : Shared} {H : Hp} {E : XK} : OwnFr (cxX P w K mg base N qual scope f cd A outer s H E) := ⟨rfl, rfl⟩
end
end L2
set_option Elab.async false
set_option linter.all false
set_option maxRecDepth 100000
namespace L2
open PySem PySem.Spec PySem.W PyProof.Rows
structure XCls (K : PySem.W.Frag) (C : Addr) : Prop where
  ga : findIn K (.ref C) "__getattribute__" = some (some (.builtin "BaseException.__getattribute__"))
  gt : findIn K (.ref C) "__getattr__" = some none
  bx : mroIn K C (.type "BaseException") = some true
  ob : mroIn K C (.type "object") = some true
  kc : findIn K (.ref C) "__class__" = some (some (.builtin "object.__class__"))
  kg : specialIn K (.builtin "object.__class__") "__get__" = some (some (.builtin "getset_descriptor.__get__"))
  kt : takesIn K (.builtin "object.__class__") = some true
section
variable {prog : Program} {w : World} {A : Around} {E : Value → Shared → Prop} {K : PySem.W.Frag} {h : Heap} {g : Array GenState} {d : Drawn} {t : Nat} {os : OsState} {e C : Addr} {oe : Obj} {od : Option Obj} {name : Str}
theorem ga_check {M : Model} {nameV : Value} {Q : Unit → Shared → Prop} (X : K.In h) (I : InstAt h e oe C od) (k : XCls K C) (hq : Q () ⟨h, g, d, t, os⟩) :
    wpAny M A (checkBuiltinCall "BaseException.__getattribute__" ⟨[.ref e, nameV], []⟩) Q E ⟨h, g, d, t, os⟩ := by
  have hk : builtinKind "BaseException.__getattribute__" = some .slot := by decide +kernel
  have hsplit : splitId "BaseException.__getattribute__" = some ("BaseException", "__getattribute__") := by decide +kernel
  have L : Looks M h (isInstance (.ref e) (.type "BaseException")) true := I.type.andThen (looks_mroIn X k.bx)
  have ha := F.args_bexc_ga (.ref e) nameV
  simp only [checkBuiltinCall, hk, hsplit]
  refine wpAny_bind (L.at ?_)
  repeat (first | assumption | wp_step)
  all_goals exact hq
theorem exc_by {tk : Tok} {fill expr : Bool} {Q : Value → Shared → Prop} (X : K.In h) (I : InstAt h e oe C od) (k : XCls K C)
    (hq : wpAny (model prog w) A.in1 (Builtin.«object.__getattribute__» ⟨[.ref e, .str name tk], []⟩)
      (fun fin s' => match fin with | .done (.ret v) => wpAny (model prog w) A (handedOut v) Q E s' | .done _ => False | .again c' => c'.quiet = true ∧ codeAny (model prog w) A c' (fun r s' => match r with | .ok (.ret v) => wpAny (model prog w) A (handedOut v) Q E s' | _ => False) s') (fun _ _ => False) ⟨h, g, d, t, os⟩) :
    wpAny (model prog w) A (getAttrBy (.ref e) (.str name tk) fill expr) Q E ⟨h, g, d, t, os⟩ := by
  have L0 := I.type (M := model prog w)
  have L1 := looks_findIn (M := model prog w) X k.ga
  have L2 := looks_findIn (M := model prog w) X k.gt
  have f3 := PySem.F.attr_ValueError.ga.bind (.ref e)
  have hx0 : (expr && onTheHeap (Value.builtin "BaseException.__getattribute__")) = false := by cases expr <;> rfl
  have hx2 : (Value.builtin "BaseException.__getattribute__" == Value.builtin "object.__getattribute__") = false := by decide +kernel
  unfold getAttrBy
  refine wpAny_holding (wpAny_bind (L0.at (wpAny_bind (L1.at ?_))))
  dsimp only
  rw [hx2, Bool.and_false, if_neg (by decide)]
  unfold getAttrByItsOwn hookBefore callGetattribute
  show wpAny _ _ (typeLookup (.ref C) "__getattr__" >>= _) _ _ _
  refine wpAny_bind (L2.at ?_)
  rw [if_neg (by rw [hx0]; decide)]
  unfold boundAndCalled
  refine wpAny_bind (wpAny_attempt (wpAny_holding (wpAny_bind (wpAny_of_eq f3 ?_))))
  refine wpAny_call (codeAny_call_builtin PySem.F.attr_ValueError.ga.plain F.entry_bexc_ga (ga_check X I k (wpAny_mono hq (fun fin s' z => ?_) fun _ _ z => z.elim)))
  cases fin with
  | done f => cases f <;> first | exact z | exact z.elim
  | again c =>
    refine ⟨z.1, codeAny_mono z.2 fun r s'' zz => ?_⟩
    cases r with
    | ok f => cases f <;> first | exact zz | exact zz.elim
    | error x => exact zz.elim
theorem exc_class {Q : Option Value → Shared → Prop} (X : K.In h) (I : InstAt h e oe C od) (hc : (clsIn K C).isSome = true) (k : XCls K C) (hq : Q (some (.ref C)) ⟨h, g, d, t + 1, os⟩) :
    wpAny (model prog w) A (getAttr? (.ref e) "__class__") Q E ⟨h, g, d, t, os⟩ := by
  have hf : findObj K C od "__class__" = some (.bind (.builtin "getset_descriptor.__get__") (.builtin "object.__class__")) := by
    obtain ⟨cd, hc⟩ := Option.isSome_iff_exists.mp hc
    unfold findObj
    rw [hc, Option.bind_some, k.kc, Option.bind_some]
    simp [k.kg, k.kt]
  have L0 := I.type (M := model prog w)
  have L3 := looks_find (M := model prog w) X I hf
  unfold getAttr? getAttrBy?
  refine wpAny_bind (wpAny_mkText (wpAny_bind (wpAny_attempt ?_)))
  refine exc_by X I k ?_
  unfold Builtin.«object.__getattribute__»
  refine wpAny_bind (m := slotArgs "__getattribute__" 1 _) (wpAny_of_eq (a := (.ref e, [.str "__class__" t])) rfl ?_)
  dsimp only
  refine wpAny_bind (m := Builtin.ObjectAttr.attrName _) (wpAny_of_eq (a := ("__class__" : Str)) rfl ?_)
  refine wpAny_bind (L0.at (wpAny_bind (L3.at ?_)))
  dsimp only
  show wpAny _ _ (holding [Value.builtin "object.__class__"] (call (.builtin "getset_descriptor.__get__") [.builtin "object.__class__", .ref e, .ref C]) >>= ret) _ _ _
  refine wpAny_bind (wpAny_holding (wpAny_call (class_get (ox := oe) (od := od) X I k.ob ?_)))
  exact wpAny_pure (handed_on rfl (wpAny_pure hq))
theorem kitx_exc (hc : (clsIn K C).isSome = true) (k : XCls K C) : KitX K (.ref e) (.ref C) (fun h => ∃ oe od, InstAt h e oe C od) where
  ty := fun _ _ _ ⟨_, _, I⟩ => I.type
  it := fun _ _ X _ => by
    obtain ⟨cd, hcD⟩ := Option.isSome_iff_exists.mp hc
    unfold clsIn at hcD
    split at hcD
    · rename_i c' d' cd' sl' ho
      intro A' Q' E' s' kk q
      unfold isType loadHead
      exact wpAny_bind (wpAny_loadPart (kk _ _ (X _ _ ho)) (wpAny_pure q))
    · cases hcD
  ne := fun h tp dd its n sl X htp => by
    obtain ⟨cd, hcD⟩ := Option.isSome_iff_exists.mp hc
    refine Bool.eq_false_iff.mpr fun q => ?_
    have ee : C = tp := Value.ref.inj (beq_iff_eq.mp q)
    subst ee
    unfold clsIn at hcD
    split at hcD
    · rename_i c' d' cd' sl' ho
      have z := (X _ _ ho).symm.trans htp
      cases z
    · cases hcD
  ca := fun {_ _ _ _ _ s} X ⟨_, _, I⟩ q => by
    obtain ⟨h, g, d, t, os⟩ := s
    exact exc_class X I hc k q
end
abbrev vBases : List Value := [.type "ValueError", .type "Exception", .type "BaseException", .type "object"]
structure HasX (K : PySem.W.Frag) (x : Str) (C : Addr) : Prop where
  ns : nsIn K mainGlobals x = some (some (.ref C))
  ex : excIn K C vBases "ValueError.__new__" = true
  xc : XCls K C
theorem XCls.isc {K : PySem.W.Frag} {C : Addr} (k : XCls K C) : (clsIn K C).isSome = true := by
  have h := k.bx
  unfold mroIn at h
  cases e : clsIn K C with
  | none => rw [e] at h; cases h
  | some cd => rfl
theorem exc_obj {K : PySem.W.Frag} {h : Heap} {C : Addr} {bmB : List Value} {newId : String} (X : K.In h) (q : excIn K C bmB newId = true) :
    ∃ bm N nm qn bs hdct sn sub ab col dd k0 k1 k2 k3 k5 mN, h.get? C = some (excClassObj nm qn C N bs bm hdct sn sub ab col dd k0 k1 k2 k3 k5 newId) ∧ h.Ns N mN ∧ mN "__init__" = none ∧ OwnTail h bmB bm := by
  unfold excIn at q
  split at q
  · rename_i dx cx sx lk
    split at q
    · rename_i C1 tl q0 q1 q2 q3 nid q5 hmro hsl
      rw [Bool.and_eq_true, Bool.and_eq_true, Bool.and_eq_true, Bool.and_eq_true, Bool.and_eq_true] at q
      obtain ⟨⟨⟨⟨⟨z1, z2⟩, z3⟩, z4⟩, z5⟩, z6⟩ := q
      replace z1 : C1 = C := by simpa using z1
      replace z2 : nid = newId := by simpa using z2
      replace z3 : cx.hasDel = false := by simpa using z3
      replace z6 : nsIn K cx.ns "__init__" = some none := by simpa using z6
      have obj := X _ _ lk
      have Nok : h.Ns cx.ns (h.nsMap cx.ns) := .of_isNs (isNs_of_in X z5)
      refine ⟨tl, cx.ns, cx.name, cx.qualname, cx.bases, cx.hasDict, cx.slotNames, cx.subclasses, cx.abstract, cx.collection, dx, q0, q1, q2, q3, q5, h.nsMap cx.ns, ?_, Nok, ns_none_of X Nok z6, tail_of_in X z4⟩
      rw [obj]
      cases cx
      cases sx
      simp only at hmro hsl z3
      subst hmro hsl z3 z1 z2
      rfl
    · cases q
  · cases q
section
variable {X : Cx} {ES : XS} {x : Str} {C : Addr} {np cpos pos : Pos} {a : Expr} {rest : List Expr} {t : TA}
def tRaise (ES : XS) (C : Addr) (t : TA) : TS := fun _ σ H => t σ H fun vs H1 => vs.length ≤ sizeLine ∧ ES σ (.ref C) none H1
theorem ps_raise (hX : HasX X.K x C) (hc : X.calm = true) (hx : ∀ v s, xeOf X ES v s → X.xe v s) (hg : Gl X x) (ha : PA X (a :: rest) t) (hdb : (x == ("__debug__" : Str)) = false := by decide)
    (he : starEach (a :: rest) X.env = (false, eval a X.env) :: starEach rest X.env := by rfl) (hpl : (backTo cpos (starEach rest X.env)).any (·.1) = false := by rfl) :
    PS X (.Raise (some (.Call (.Name x np) (a :: rest) [] cpos)) none pos) (tRaise ES C t) := by
  intro pins s σ H D I h
  obtain ⟨tl, N, nm, q, bs, hdct, sn, sub, ab, col, dd, k0, k1, k2, k3, k5, mN, hC, hN, hni, T⟩ := exc_obj I.ok.mod.kin hX.ex
  have FB := PySem.F.excBase_ValueError
  refine wpAny_Raise_call_subT (C := C) (nm := nm) (q := q) (N := N) (bs := bs) (bm := tl) (hdct := hdct) (sn := sn) (sub := sub) (ab := ab) (col := col) (dd := dd) (k0 := k0) (k1 := k1) (k2 := k2) (k3 := k3) (k5 := k5) (mN := mN)
    FB (T.hasType FB.hasBase) (I.ok.hd hc) (by rw [he]; show (false || (backTo cpos (starEach rest X.env)).any (·.1)) = false; rw [hpl]; rfl) hni (ld_glob I hg (PySem.W.mg_of I.ok.mod.kin I.ok.mod.glob hX.ns) ⟨rfl, ?_⟩ hdb)
  have hr := ha cpos pins s σ H _ I h
  rw [he] at hr ⊢
  refine Calls.evalArgs_plain (thn hr fun us s2 ⟨vs, H2, I2, rv, z, q2⟩ => ⟨rfl, by rw [← rv.length]; exact z, I2.bk _ _ hC, hN.keeps I2.bk, T.keeps I2.bk, fun h' e m => hx _ _ ?_⟩)
  have I3 : Inv X pins σ H2 { s2 with heap := h' } := I2.kept (t' := s2.toks) m.keeps
  obtain ⟨tp, ht, _, _⟩ := m.there
  exact ⟨e, .ref C, none, none, σ, H2, rfl, ⟨I3.nil, (I2.fpNew m.new (I2.noObj m.new)).nil, _, _, ht, rfl⟩, .inl rfl, q2⟩
end
end L2
set_option Elab.async false
set_option linter.all false
set_option maxRecDepth 100000
namespace L2
open PySem PySem.Spec PySem.W PyProof.Rows
abbrev Cx.re (X : Cx) (A : Around) (calm : Bool) (pn : List (Addr × Obj)) (xe : Value → Shared → Prop) : Cx := { X with A := A, calm := calm, pn := pn, xe := xe }
theorem Cx.Ok.re {X : Cx} {A : Around} {calm : Bool} {pn : List (Addr × Obj)} {xe : Value → Shared → Prop} (ok : X.Ok) (hd : calm = true → A.handled = none) (hf : A.frames = some X.stack) : (X.re A calm pn xe).Ok :=
  ⟨ok.mod, ok.kind, ok.glob, ok.blt, ok.above, ok.inj, ok.has, ok.cab, hd, hf, ok.stk, ok.exf, ok.bs, ok.bsz, ok.noex, ok.exfs, ok.funs, ok.frf⟩
section
variable {X : Cx} {A : Around} {calm : Bool} {pn pins pins' : List (Addr × Obj)} {xe : Value → Shared → Prop} {σ σ' : St} {H : Hp} {s : Shared} {e : Addr} {o : HO}
theorem Inv.re (I : Inv X pins σ H s) (hd : calm = true → A.handled = none) (hf : A.frames = some X.stack) (hp : ∀ p ∈ pn ++ pins', p ∈ X.pn ++ pins) : Inv (X.re A calm pn xe) pins' σ H s :=
  ⟨I.ok.re hd hf, I.os, I.bare, I.base, I.loc, I.cell, I.free, I.freeC, fun p q => I.pin p (hp p q), I.hok, I.len⟩
theorem Inv.back (ok : X.Ok) (I : Inv (X.re A calm pn xe) pins' σ H s) (hp : ∀ p ∈ X.pn ++ pins, p ∈ pn ++ pins') : Inv X pins σ H s :=
  ⟨ok, I.os, I.bare, I.base, I.loc, I.cell, I.free, I.freeC, fun p q => I.pin p (hp p q), I.hok, I.len⟩
theorem Inv.track (I : Inv X pins σ H s) (f : FpOk X pins H e) (new : ObjOk X.prog X.w (upd H e o) s.heap e o) : Inv X pins σ (upd H e o) s := by
  obtain ⟨f0, f1, f2, f3, f4, f5⟩ := f
  have hne : ∀ b u, H b = some u → b ≠ e := fun b u q => ne_of_none q f0
  refine ⟨I.ok, I.os, I.bare, ⟨I.base.keep, I.base.slot, fun b ob q n hx => ?_, I.base.there, fun b xs q => ?_, fun b ob u q => ?_, fun b ps q => ?_⟩, I.loc, I.cell, ?_, fun x c q => ?_, fun p hp => ?_, fun b u q => ?_, I.len⟩
  · have hb : b ≠ e := fun z => by
      subst z
      rcases f3 with w | w
      · exact hx w
      · rw [w] at q; cases q
    rw [upd_ne hb]; exact I.base.free b ob q n hx
  · have := I.base.tups b xs q; rw [upd_ne (hne _ _ this)]; exact this
  · have := I.base.frzs b ob u q; rw [upd_ne (hne _ _ this)]; exact this
  · obtain ⟨more, this⟩ := I.base.tbls b ps q; exact ⟨more, by rw [upd_ne (hne _ _ this)]; exact this⟩
  · rw [upd_ne (Ne.symm f1)]; exact I.free
  · rw [upd_ne (f4 x c q)]; exact I.freeC x c q
  · obtain ⟨a, b, c, d⟩ := I.pin p hp
    exact ⟨a, by rw [upd_ne (f5 p hp)]; exact b, c, d⟩
  · by_cases z : b = e
    · subst z
      rw [upd_same] at q; cases q; exact new
    · rw [upd_ne z] at q
      refine (I.hok b u q).stay (fun _ _ _ q => q) (fun c q => ?_) fun c xs q => ?_
      · rw [upd_ne (hne _ _ q)]; exact q
      · rw [upd_ne (hne _ _ q)]; exact q
theorem Inv.frameTo {h' : Heap} {m' : Str → Option Value} (I : Inv X pins σ H s) (sb : Heap.SameBut X.env.locals s.heap h') (hn : h'.Ns X.env.locals m')
    (hl : ∀ (i : Nat) (x : Str) (v : V), X.N[i]? = some x → σ'[i]? = some (some v) → Vis X.env.scope x → ∃ u, RelV v u ∧ Look X.env h' m' x u) (len : σ'.length = X.N.length) : Inv X pins σ' H { s with heap := h' } := by
  obtain ⟨m, ⟨oL, _, _, hoL, _⟩, _⟩ := I.loc
  have nL : ∀ b o', X.s₀.heap.get? b = some o' → b ≠ X.env.locals := fun b o' q => Nat.ne_of_lt (Nat.lt_of_lt_of_le (Heap.lt_size q) I.ok.above)
  have nT : ∀ b u, H b = some u → b ≠ X.env.locals := fun b u q => ne_of_none q I.free
  refine ⟨I.ok, I.os, I.bare, ⟨fun b ob q n hb hx => (sb.2 b (nL b ob q)).trans (I.base.keep b ob q n hb hx), fun b ob q n hb hx => ?_, I.base.free, fun b ob q hx => ?_, I.base.tups, I.base.frzs, I.base.tbls⟩, ⟨m', hn, hl⟩, fun x c q => ?_, I.free, I.freeC, fun p hp => ?_, fun b u q => ?_, len⟩
  · obtain ⟨sl, z⟩ := I.base.slot b ob q n hb hx; exact ⟨sl, (sb.2 b (nL b ob q)).trans z⟩
  · obtain ⟨o', z⟩ := I.base.there b ob q hx; exact ⟨o', (sb.2 b (nL b ob q)).trans z⟩
  · obtain ⟨v, ob, ho, hd⟩ := I.cell x c q; exact ⟨v, ob, (sb.2 c (I.cne x c q)).trans ho, hd⟩
  · obtain ⟨a, b, c, d⟩ := I.pin p hp; exact ⟨(sb.2 p.1 c).trans a, b, c, d⟩
  · refine (I.hok b u q).stay (fun c v hc z => (sb.2 c ?_).trans z) (fun _ z => z) fun _ _ z => z
    rcases hc with w | w
    · rw [w]; exact nT b u q
    · exact nT c _ w
theorem unbind_ok {M : Model} {E : Value → Shared → Prop} {i : Nat} {x : Str} {v : V} {Q : Unit → Shared → Prop} (I : Inv X pins σ H s) (hN : X.N.Nodup) (hi : X.N[i]? = some x) (hx : X.env.kindOf x = some .local) (hv : σ[i]? = some (some v))
    (h : ∀ s', Inv X pins (σ.set i none) H s' → Q () s') : wpAny M A (unbindName X.env x) Q E s := by
  obtain ⟨m, hn, hl⟩ := id I.loc
  obtain ⟨u, _, lk⟩ := hl i x v hi hv (.inl hx)
  have hm : m x = some u := by
    rcases lk with ⟨_, q⟩ | ⟨q, _⟩
    · exact q
    · rcases q with q | q <;> (rw [hx] at q; cases q)
  refine wpAny_unbindName_local hx hn hm (by rw [I.ok.kind]; rfl) fun h' u' hn' sb => h _ (I.frameTo sb hn' (fun j y w e1 e2 e3 => ?_) (by rw [List.length_set]; exact I.len))
  by_cases hj : j = i
  · subst hj
    have hjl : j < σ.length := by rw [I.len]; exact (List.getElem?_eq_some_iff.mp e1).1
    rw [List.getElem?_set_self hjl] at e2; cases e2
  · rw [List.getElem?_set_ne (Ne.symm hj)] at e2
    obtain ⟨u2, r2, l2⟩ := hl j y w e1 e2 e3
    have hy : y ≠ x := fun z => hj (nodup_ix hN e1 (z ▸ hi))
    refine ⟨u2, r2, ?_⟩
    rcases l2 with ⟨k2, q⟩ | ⟨k2, c, ec, ob, ho, hd⟩
    · exact .inl ⟨k2, by show (if y = x then u' else m y) = some u2; rw [if_neg hy]; exact q⟩
    · exact .inr ⟨k2, c, ec, ob, (sb.2 c (I.cne y c ec)).trans ho, hd⟩
end
def excO (e C : Addr) (d : Option Addr) : HO := .ext fun h => ∃ vs sl, h.get? e = some ⟨.ref C, d, .fields vs, sl⟩
theorem excO_ok {P : Program} {w : World} {H : Hp} {h : Heap} {e C : Addr} {d : Option Addr} {Pr : Addr → Prop} {fl : Option Value} (x : TbAt Pr h e (.ref C) d fl) : ObjOk P w H h e (excO e C d) := by
  obtain ⟨sl, vs, q⟩ := x.there
  exact ⟨⟨vs, sl, q⟩, ⟨_, q⟩, fun h1 h2 ⟨vs, sl, q⟩ k => ⟨vs, sl, k _ q⟩⟩
section
variable {X : Cx} {pins : List (Addr × Obj)} {σ : St} {H : Hp} {s : Shared} {e C Cy : Addr}
theorem matches_ok {A : Around} {E : Value → Shared → Prop} {Q : Bool → Shared → Prop} {d : Option Addr} {Pr : Addr → Prop} {fl : Option Value} {b : Bool} (I : Inv X pins σ H s) (x : TbAt Pr s.heap e (.ref C) d fl)
    (hy : mroIn X.K Cy (.type "BaseException") = some true) (hty : typeIn X.K (.ref Cy) = some (.type "type")) (hc : mroIn X.K C (.ref Cy) = some b) (q : Q b s) : wpAny (model X.prog X.w) A (excMatches (.ref e) (.ref Cy)) Q E s := by
  obtain ⟨h, g, dr, t, os⟩ := s
  obtain ⟨sl, vs, he⟩ := x.there
  have L1 : Looks (model X.prog X.w) h (typeOf (.ref Cy)) (.type "type") := looks_typeIn I.kIn hty
  have L2 : Looks (model X.prog X.w) h (isInstance (.ref Cy) (.type "tuple")) false := L1.andThen (.of_pure tc_notTuple)
  have L3 : Looks (model X.prog X.w) h (typeOf (.ref e)) (.ref C) := (Looks.ld he).andThen .now
  have L4 := looks_mroIn (M := model X.prog X.w) I.kIn hc
  have L5 := looks_mroIn (M := model X.prog X.w) I.kIn hy
  have hcl : (clsIn X.K Cy).isSome = true := by
    have z := hy
    unfold mroIn at z
    cases e : clsIn X.K Cy with
    | none => rw [e] at z; cases z
    | some cd => rfl
  have L6 : Looks (model X.prog X.w) h (isType (.ref Cy)) true := by
    obtain ⟨cd, hcD⟩ := Option.isSome_iff_exists.mp hcl
    unfold clsIn at hcD
    split at hcD
    · rename_i c' d' cd' sl' ho
      intro A' Q' E' s' kk q
      unfold isType loadHead
      exact wpAny_bind (wpAny_loadPart (kk _ _ (I.kIn _ _ ho)) (wpAny_pure q))
    · cases hcD
  unfold excMatches
  refine wpAny_bind (L2.at ?_)
  simp only [Bool.false_eq_true, if_false]
  refine wpAny_bind (wpAny_pure ?_)
  simp only [List.forIn_cons, List.forIn_nil]
  have L7 : Looks (model X.prog X.w) h (isExcClass (.ref Cy)) true := by
    unfold isExcClass
    refine L6.andThen ?_
    rw [if_pos rfl]; exact L5
  refine wpAny_bind (wpAny_bind (wpAny_bind (L7.at ?_)))
  simp only [Bool.not_true, Bool.false_eq_true, if_false]
  refine wpAny_pure (wpAny_pure ?_)
  refine wpAny_bind (L3.at (wpAny_bind (wpAny_bind (wpAny_bind (L4.at ?_)))))
  cases b with
  | true =>
    simp only [if_true]
    exact wpAny_pure (wpAny_pure (wpAny_pure q))
  | false =>
    simp only [Bool.false_eq_true, if_false]
    exact wpAny_pure (wpAny_pure (wpAny_pure q))
end
theorem suite_as {prog : Program} {w : World} {A : Around} {s : Shared} {env : Env} {R : Result → Shared → Prop} {e : Value} {n : Str} {b₀ : Stmt} {body : List Stmt} {pos : Pos}
    (h : wpAny (model prog w) A (setFlight e none) (fun _ s₁ => wpAny (model prog w) A (bindName env n e) (fun _ s₂ => wpAny (model prog w) A (execs (b₀ :: body) env) (fun f s₃ => R (.ok f) s₃) (fun _ _ => False) s₂) (fun _ _ => False) s₁) (fun _ _ => False) s) :
    codeAny (model prog w) A (.handlers e [.ExceptHandler none (some n) (b₀ :: body) pos] env) R s := by
  refine codeAny_of_tree ?_
  show wpAny _ A (do return Fin.done (← (handleWith e env [.ExceptHandler none (some n) (b₀ :: body) pos]).onRaise (fun x => do noteFrame x env; theTreesLotGoes x))) _ _ s
  refine wpAny_bind (wpAny_noted ?_)
  unfold handleWith
  refine wpAny_bind (wpAny_standAt (wpAny_bind (wpAny_mono h (fun _ s₁ h₁ => wpAny_bind (wpAny_mono h₁ (fun _ s₂ h₂ => wpAny_bind (wpAny_attempt (wpAny_mono h₂ (fun f s₃ h₃ => ?_) fun _ _ z => z.elim))) fun _ _ z => z.elim)) fun _ _ z => z.elim)))
  exact wpAny_pure (wpAny_pure h₃)
abbrev Cx.tryB (X : Cx) (pn : List (Addr × Obj)) (ES : XS) : Cx := X.re X.A X.calm pn (xeOf { X with pn := pn } ES)
abbrev Cx.suite (X : Cx) (pn : List (Addr × Obj)) (e : Addr) : Cx := X.re (X.A.mark (some (.ref e))) false pn (fun _ _ => False)
def tClause (K : PySem.W.Frag) (Cy : Addr) (i : Nat) (th : TS) (D : Ends) : XS := fun σ c d H => ∃ C, c = .ref C ∧ XCls K C ∧ mroIn K C (.ref Cy) = some true ∧
  ∀ e H2, New H e (excO e C d) H2 → th { nx := fun σ' H' => (∃ v, σ'[i]? = some (some v)) ∧ D.nx (σ'.set i none) H', rt := fun _ _ => False, bk := fun _ _ => False, ct := fun _ _ => False } (σ.set i (some (.ref e))) H2
def tTry (K : PySem.W.Frag) (Cy : Addr) (i : Nat) (tb : XS → TS) (th : TS) : TS := fun D σ H => tb (tClause K Cy i th D) D σ H
theorem ps_try {X : Cx} {y n : Str} {np hpos pos : Pos} {body : List Stmt} {b₀ : Stmt} {suite : List Stmt} {Cy : Addr} {i : Nat} {tb : XS → TS} {th : TS} (hO : OwnFr X) (hcl : X.calm = true) (hN : X.N.Nodup) (hi : X.N[i]? = some n) (hn : X.env.kindOf n = some .local)
    (hy : mroIn X.K Cy (.type "BaseException") = some true) (hty : typeIn X.K (.ref Cy) = some (.type "type")) (hg : Gl X y) (hm : X.mg y = some (.ref Cy))
    (hb : ∀ pn ES, PSs (X.tryB pn ES) body (tb ES)) (hs : ∀ pn e, PSs (X.suite pn e) (b₀ :: suite) th) (hdb : (y == ("__debug__" : Str)) = false := by decide) :
    PS X (.Try body [.ExceptHandler (some (.Name y np)) (some n) (b₀ :: suite) hpos] [] [] pos) (tTry X.K Cy i tb th) := by
  intro pins s σ H D I h
  have Ib : Inv (X.tryB (X.pn ++ pins) (tClause X.K Cy i th D)) [] σ H s := I.re I.ok.hd I.ok.frames (fun p hp => by simpa using hp)
  have back : ∀ {A : Around} {calm : Bool} {xe : Value → Shared → Prop} {σ' : St} {H' : Hp} {s' : Shared}, Inv (X.re A calm (X.pn ++ pins) xe) [] σ' H' s' → Inv X pins σ' H' s' := fun J => J.back I.ok fun p hp => by simpa using hp
  refine wpAny_Try_except (wpAny_mono (hb _ _ [] s σ H D Ib h) (fun f s1 q => ?_) fun v s1 hx => ?_)
  · cases f with
    | next => obtain ⟨σ', H', J, q⟩ := q; exact wpAny_execs_nil ⟨σ', H', back J, q⟩
    | brk => obtain ⟨σ', H', J, q⟩ := q; exact ⟨σ', H', back J, q⟩
    | cont => obtain ⟨σ', H', J, q⟩ := q; exact ⟨σ', H', back J, q⟩
    | ret u => obtain ⟨v, σ', H', J, r, q⟩ := q; exact ⟨v, σ', H', back J, r, q⟩
  · obtain ⟨e, c, d, fl, σ1, H1, rfl, x, hfl, C, rfl, xc, hmr, q⟩ := hx
    refine x.note (X := (X.re X.A X.calm (X.pn ++ pins) (fun _ _ => False))) hO.st hO.fr hfl fun s2 x2 => ?_
    refine x2.fly (to := none) fun s3 x3 => ?_
    have hh : (X.A.mark (some (.ref e))).frames = some X.stack := I.ok.frames
    have Is : Inv (X.suite (X.pn ++ pins) e) [] σ1 H1 s3 := x3.inv.re (X := X.re X.A X.calm (X.pn ++ pins) (fun _ _ => False)) (fun z => nomatch z) hh (fun p hp => hp)
    refine wpAny_handleBy_cons (codeAny_handlers_test (ld_glob (X := X.suite (X.pn ++ pins) e) Is hg hm (matches_ok (X := X.suite (X.pn ++ pins) e) Is x3.tb hy hty hmr ?_) hdb)) (by intro z; cases z)
    dsimp only [if_true]
    refine suite_as ?_
    have xs : Exc (X.suite (X.pn ++ pins) e) [] σ1 H1 s3 e (.ref C) d (some .none) := ⟨Is, x3.fe, x3.tb⟩
    refine xs.fly (to := none) fun s4 x4 => ?_
    have I5 := x4.inv.track x4.fe (excO_ok x4.tb)
    refine wpAny_bindName (store_ok (X := X.suite (X.pn ++ pins) e) I5 hN hi (.inl hn) (v := .ref e) rfl (fun s5 I6 => ?_) (.inr hn))
    refine wpAny_mono (hs _ e [] s5 _ _ _ I6 (q e _ ⟨x4.fe.1, rfl⟩)) (fun f s6 z => ?_) fun _ _ z => z
    cases f with
    | next =>
      obtain ⟨σ2, H2, J, ⟨v, hv⟩, qn⟩ := z
      have J' := back J
      have hil : i < σ2.length := (List.getElem?_eq_some_iff.mp hv).1
      refine wpAny_bind (wpAny_bindName (store_ok J' hN hi (.inl hn) (v := .non) rfl (fun s7 I7 => ?_) (.inr hn)))
      refine wpAny_onRaise (unbind_ok I7 hN hi hn (v := .non) (by rw [List.getElem?_set_self hil]) fun s8 I8 => ?_)
      rw [List.set_set] at I8
      exact ⟨_, _, I8, qn⟩
    | brk => obtain ⟨_, _, _, z⟩ := z; exact z.elim
    | cont => obtain ⟨_, _, _, z⟩ := z; exact z.elim
    | ret u => obtain ⟨_, _, _, _, _, z⟩ := z; exact z.elim
def rIsiX (K : PySem.W.Frag) : List V → Hp → VK → Prop := fun xs H Q => ∃ e C d c b, xs = [.ref e, c] ∧ isC c = true ∧ H e = some (excO e C d) ∧ (d = none ∨ ∃ dx fs, d = some dx ∧ H dx = some (.xd fs)) ∧ XCls K C ∧ kitOne K (.ref C) (clsV c) = some b ∧ Q (.bl b) H
theorem call_isiX {X : Cx} : CallR X (.builtin "isinstance") (rIsiX X.K) := by
  intro pins s σ H xs us Q I r h
  obtain ⟨e, C, d, c, b, rfl, hc, he, hd, k, kb, q⟩ := h
  obtain ⟨v, u, rfl, r1, r2⟩ := vals2 r
  rw [clsV_of hc r2]
  cases r1
  obtain ⟨⟨vs, sl, ho⟩, _, _⟩ := I.hok e _ he
  have hat : ∃ oe od, InstAt s.heap e oe C od := by
    rcases hd with rfl | ⟨dx, fs, rfl, hdx⟩
    · exact ⟨_, none, ho, rfl, rfl, trivial⟩
    · obtain ⟨mA, ⟨od, _, _, hod, _⟩, _⟩ := I.hok dx _ hdx
      exact ⟨_, some od, ho, rfl, rfl, hod⟩
  exact kia_one (kitx_exc k.isc k) I.kIn hat kb (fun z => nomatch z) fun tk => ⟨.bl b, H, I.tok _, rfl, q⟩
section
variable {X : Cx} {es : List Expr} {t : TJ} {te : TE} {e : Expr} {pos : Pos} {z : Str} {k : Option Nat}
end
end L2
set_option Elab.async false
set_option linter.all false
set_option maxRecDepth 100000
namespace L2
open PySem PySem.Spec PyProof.Rows
section
variable {κ : Type} [DecidableEq κ]
def valV (kvs : List (κ × V)) (k : κ) : Option V := (kvs.find? fun kv => decide (kv.1 = k)).map (·.2)
def putK (kvs : List (κ × V)) (k : κ) (v : V) : List (κ × V) :=
  if (kvs.any fun kv => decide (kv.1 = k)) = true then kvs.map (fun kv => if kv.1 = k then (kv.1, v) else kv) else kvs ++ [(k, v)]
def dropK (kvs : List (κ × V)) (k : κ) : List (κ × V) := kvs.filter fun kv => decide (kv.1 ≠ k)
theorem valV_pos {p : κ × V} {r : List (κ × V)} {k : κ} (e : p.1 = k) : valV (p :: r) k = some p.2 := by simp [valV, List.find?_cons, e]
theorem valV_neg {p : κ × V} {r : List (κ × V)} {k : κ} (e : ¬ p.1 = k) : valV (p :: r) k = valV r k := by simp [valV, List.find?_cons, e]
theorem valV_any (k : κ) : ∀ kvs : List (κ × V), (kvs.any fun kv => decide (kv.1 = k)) = (valV kvs k).isSome
  | [] => rfl
  | p :: r => by
    rw [List.any_cons]
    by_cases e : p.1 = k
    · simp only [valV_pos e, decide_eq_true e, Bool.true_or, Option.isSome_some]
    · rw [valV_neg e, decide_eq_false e, Bool.false_or]; exact valV_any k r
theorem valV_map (k j : κ) (y : V) : ∀ kvs : List (κ × V), valV (kvs.map fun kv => if kv.1 = k then (kv.1, y) else kv) j = (valV kvs j).map fun x => if j = k then y else x
  | [] => rfl
  | p :: r => by
    have ih := valV_map k j y r
    rw [List.map_cons]
    by_cases h : p.1 = k
    · rw [if_pos h]
      by_cases e : p.1 = j
      · rw [valV_pos (p := (p.1, y)) e, valV_pos e, Option.map_some, if_pos (e.symm.trans h)]
      · rw [valV_neg (p := (p.1, y)) e, valV_neg e, ih]
    · rw [if_neg h]
      by_cases e : p.1 = j
      · rw [valV_pos (p := p) e, valV_pos e, Option.map_some, if_neg (fun z => h (e.trans z))]
      · rw [valV_neg (p := p) e, valV_neg e, ih]
theorem valV_snoc (k j : κ) (y : V) : ∀ kvs : List (κ × V), valV kvs k = none → valV (kvs ++ [(k, y)]) j = if j = k then some y else valV kvs j
  | [], _ => by
    by_cases e : k = j
    · rw [if_pos e.symm]; exact valV_pos (p := (k, y)) e
    · rw [if_neg (fun z => e z.symm)]; exact valV_neg (p := (k, y)) e
  | p :: r, hn => by
    rw [List.cons_append]
    have hk : ¬ p.1 = k := fun z => by rw [valV_pos z] at hn; cases hn
    rw [valV_neg hk] at hn
    have ih := valV_snoc k j y r hn
    by_cases e : p.1 = j
    · rw [valV_pos e, valV_pos e, if_neg (fun z => hk (e.trans z))]
    · rw [valV_neg e, valV_neg e, ih]
theorem valV_put (kvs : List (κ × V)) (k j : κ) (y : V) : valV (putK kvs k y) j = if j = k then some y else valV kvs j := by
  unfold putK
  by_cases a : (kvs.any fun kv => decide (kv.1 = k)) = true
  · rw [if_pos a, valV_map]
    rw [valV_any] at a
    by_cases e : j = k
    · obtain ⟨x, hx⟩ := Option.isSome_iff_exists.mp a
      rw [if_pos e, e, hx, Option.map_some, if_pos rfl]
    · rw [if_neg e]
      cases valV kvs j with
      | none => rfl
      | some x => rw [Option.map_some, if_neg e]
  · rw [if_neg a]
    refine valV_snoc k j y kvs ?_
    rw [valV_any] at a
    cases q : valV kvs k with
    | none => rfl
    | some x => rw [q] at a; exact (a rfl).elim
theorem length_putK (kvs : List (κ × V)) (k : κ) (v : V) : (putK kvs k v).length ≤ kvs.length + 1 := by
  unfold putK
  split
  · rw [List.length_map]; omega
  · rw [List.length_append, List.length_cons, List.length_nil]; omega
theorem putK_new {kvs : List (κ × V)} {k : κ} (v : V) (h : valV kvs k = none) : putK kvs k v = kvs ++ [(k, v)] := by
  unfold putK
  rw [valV_any, h]
  exact if_neg (by decide)
theorem RelO.isSome_eq {o : Option V} {u : Option Value} (r : RelO o u) : o.isSome = u.isSome := by
  cases o with
  | none => cases u with
    | none => rfl
    | some _ => exact (show False from r).elim
  | some _ => cases u with
    | none => exact (show False from r).elim
    | some _ => rfl
theorem KV.val {kvs : List (κ × V)} {vs : List (κ × Value)} (r : KV kvs vs) (k : κ) : RelO (valV kvs k) (valueAt vs k) := by
  unfold KV at r
  induction r with
  | nil => exact True.intro
  | @cons p q ps qs h t ih =>
    obtain ⟨h1, h2⟩ := h
    by_cases e : p.1 = k
    · have e' : q.1 = k := h1.symm.trans e
      have b : valueAt (q :: qs) k = some q.2 := by simp [valueAt, List.find?_cons, e']
      rw [valV_pos e, b]; exact h2
    · have e' : ¬ q.1 = k := fun z => e (h1.trans z)
      have b : valueAt (q :: qs) k = valueAt qs k := by simp [valueAt, List.find?_cons, e']
      rw [valV_neg e, b]; exact ih
theorem KV.any {kvs : List (κ × V)} {vs : List (κ × Value)} (r : KV kvs vs) (k : κ) : (kvs.any fun kv => decide (kv.1 = k)) = vs.any fun kv => decide (kv.1 = k) := by
  unfold KV at r
  induction r with
  | nil => rfl
  | cons h t ih => rw [List.any_cons, List.any_cons, ih, h.1]
theorem KV.repl {kvs : List (κ × V)} {vs : List (κ × Value)} (r : KV kvs vs) (k : κ) {y : V} {u : Value} (ry : RelV y u) :
    KV (kvs.map fun kv => if kv.1 = k then (kv.1, y) else kv) (vs.map fun kv => if kv.1 = k then (kv.1, u) else kv) := by
  unfold KV at r ⊢
  induction r with
  | nil => exact .nil
  | @cons p q ps qs h t ih =>
    rw [List.map_cons, List.map_cons]
    refine .cons ?_ ih
    obtain ⟨h1, h2⟩ := h
    by_cases e : p.1 = k
    · rw [if_pos e, if_pos (h1.symm.trans e)]; exact ⟨h1, ry⟩
    · rw [if_neg e, if_neg (fun z => e (h1.trans z))]; exact ⟨h1, h2⟩
theorem KV.put {kvs : List (κ × V)} {vs : List (κ × Value)} (r : KV kvs vs) (k : κ) {y : V} {u : Value} (ry : RelV y u) : KV (putK kvs k y) (stored vs k u) := by
  unfold putK stored
  rw [r.any k]
  by_cases e : (vs.any fun kv => decide (kv.1 = k)) = true
  · rw [if_pos e, if_pos e]; exact r.repl k ry
  · rw [if_neg e, if_neg e]; exact Paired.snoc r ⟨rfl, ry⟩
theorem KV.drop {kvs : List (κ × V)} {vs : List (κ × Value)} (r : KV kvs vs) (k : κ) : KV (dropK kvs k) (without vs k) := by
  unfold KV at r ⊢
  unfold dropK without
  induction r with
  | nil => exact .nil
  | @cons p q ps qs h t ih =>
    obtain ⟨h1, h2⟩ := h
    rw [List.filter_cons, List.filter_cons]
    by_cases e : p.1 = k
    · have a : ¬ decide (p.1 ≠ k) = true := by simp [e]
      have b : ¬ decide (q.1 ≠ k) = true := by simp [h1.symm.trans e]
      rw [if_neg a, if_neg b]; exact ih
    · have e' : ¬ q.1 = k := fun z => e (h1.trans z)
      have a : decide (p.1 ≠ k) = true := by simp [e]
      have b : decide (q.1 ≠ k) = true := by simp [e']
      rw [if_pos a, if_pos b]; exact .cons ⟨h1, h2⟩ ih
theorem KV.length {kvs : List (κ × V)} {vs : List (κ × Value)} (r : KV kvs vs) : kvs.length = vs.length := Paired.length r
theorem dropK_le (kvs : List (κ × V)) (k : κ) : (dropK kvs k).length ≤ kvs.length := List.length_filter_le _ _
end
theorem kV_is {P : Program} {w : World} {k : Key} {u : Value} (r : RelV (kV k) u) : (mixKind P w).is k u = true := by
  cases k with
  | inl i => obtain ⟨t, e⟩ := (show ∃ t, u = Value.int i t from r); subst e; exact mixKind_int P w i t
  | inr x => obtain ⟨t, e⟩ := (show ∃ t, u = Value.str x t from r); subst e; exact mixKind_str P w x t
theorem items_are {P : Program} {w : World} : ∀ {ks : List Key} {us : List Value}, Vals (ks.map kV) us → ItemsAre (mixKind P w) ks us
  | [], _, r => by rw [List.map_nil] at r; cases r; exact .nil
  | k :: ks, _, r => by
    rw [List.map_cons] at r
    cases r with
    | cons h t => exact .cons (kV_is h) (items_are t)
abbrev KT (H : Hp) : List (List Key × V) → List (List Key × Addr × Value) → Prop := Paired fun p q => p.1 = q.1 ∧ H q.2.1 = some (.tup (p.1.map kV)) ∧ RelV p.2 q.2.2
theorem KT.val {H : Hp} {kvs : List (List Key × V)} {xs : List (List Key × Addr × Value)} (r : KT H kvs xs) (k : List Key) : RelO (valV kvs k) ((atKey xs k).map (·.2)) := by
  induction r with
  | nil => exact True.intro
  | @cons p q ps qs h t ih =>
    obtain ⟨h1, _, h2⟩ := h
    by_cases e : p.1 = k
    · have e' : q.1 = k := h1.symm.trans e
      have b : atKey (q :: qs) k = some q.2 := by simp [atKey, List.find?_cons, e']
      rw [valV_pos e, b]; exact h2
    · have e' : ¬ q.1 = k := fun z => e (h1.trans z)
      have b : atKey (q :: qs) k = atKey qs k := by simp [atKey, List.find?_cons, e']
      rw [valV_neg e, b]; exact ih
section
variable {P : Program} {w : World} {H : Hp} {h : Heap} {a : Addr}
theorem rd_of {u : HO} (ok : HOk P w H h) (e : Rd H a u) : ObjOk P w H h a u := e.ok ok
theorem dk_rd {kvs : List (Key × V)} (ok : HOk P w H h) (e : Rd H a (.dK kvs)) : kvs.length ≤ sizeLine ∧ (a == sysModules) = false ∧ ∃ vs, KV kvs vs ∧ h.DictOf (mixKind P w) a vs :=
  show ObjOk P w H h a (.dK kvs) from rd_of ok e
theorem dk_of {kvs : List (Key × V)} (ok : HOk P w H h) (e : H a = some (.dK kvs)) : kvs.length ≤ sizeLine ∧ (a == sysModules) = false ∧ ∃ vs, KV kvs vs ∧ h.DictOf (mixKind P w) a vs := dk_rd ok (.inl e)
theorem key_of {ks : List Key} (ok : HOk P w H h) (e : H a = some (.tup (ks.map kV))) : (tupleKind (mixKind P w)).is h ks a := by
  obtain ⟨_, its, r, o, h1, h2, n, h3⟩ := (show ObjOk P w H h a (.tup (ks.map kV)) from ok a _ e)
  exact ⟨o, its.toArray, n, h1, h2, h3, by simpa using items_are r⟩
theorem dt_rd {kvs : List (List Key × V)} (ok : HOk P w H h) (e : Rd H a (.dT kvs)) : kvs.length ≤ sizeLine ∧ (a == sysModules) = false ∧
    ∃ xs, KT H kvs xs ∧ h.DictOfH (tupleKind (mixKind P w)) a xs := by
  obtain ⟨z, y, xs, r, o, es, ep, h1, h2, h3, h4, h5⟩ := (show ObjOk P w H h a (.dT kvs) from rd_of ok e)
  refine ⟨z, y, xs, r, o, es, ep, h1, h2, h3, h4, fun x hx => ?_, h5⟩
  have all : ∀ {l : List (List Key × V)} {m : List (List Key × Addr × Value)}, KT H l m → ∀ x ∈ m, (tupleKind (mixKind P w)).is h x.1 x.2.1 := by
    intro l m q
    induction q with
    | nil => intro x hx; exact nomatch hx
    | @cons p q ps qs hq t ih =>
      intro x hx
      rcases List.mem_cons.mp hx with e | hx
      · subst e
        exact key_of ok (by rw [← hq.1]; exact hq.2.1)
      · exact ih x hx
  exact all r x hx
end
def DGet (H : Hp) (a : Addr) (y : V) (r : Option V) : Prop :=
  (∃ kvs k, Rd H a (.dK kvs) ∧ y = kV k ∧ r = valV kvs k) ∨ ∃ kvs k b, Rd H a (.dT kvs) ∧ y = .ref b ∧ H b = some (.tup (k.map kV)) ∧ r = valV kvs k
theorem DGet.k {H : Hp} {a : Addr} {kvs : List (Key × V)} {k : Key} (e : H a = some (.dK kvs)) : DGet H a (kV k) (valV kvs k) := .inl ⟨kvs, k, .inl e, rfl, rfl⟩
section
variable {X : Cx} {pins : List (Addr × Obj)} {σ : St} {H : Hp} {s : Shared} {a : Addr} {y v : V} {u r : Value} {o : Option V} {A : Around} {E : Value → Shared → Prop}
theorem Inv.big (I : Inv X pins σ H s) : sysModules < s.heap.objs.size := by
  have h : mainGlobals < s.heap.objs.size := (I.mod.glob.keeps I.bk).lt
  exact Nat.lt_trans (by decide) h
theorem d_getItem {Q : Value → Shared → Prop} (hu : A.units + 1 < cLine) (I : Inv X pins σ H s) (g : DGet H a y (some v)) (ry : RelV y u) (h : ∀ w' s', Inv X pins σ H s' → RelV v w' → Q w' s') :
    wpAny (model X.prog X.w) A (getItem (.ref a) u) Q E s := by
  rcases g with ⟨kvs, k, e, ey, l⟩ | ⟨kvs, k, b, e, ey, eb, l⟩
  · subst ey
    obtain ⟨z, hd, vs, rel, dd⟩ := dk_rd I.hok e
    obtain ⟨w', hw, rw'⟩ := RelO.some_of (v := v) (o := valueAt vs k) (by rw [l]; exact rel.val k)
    exact wpAny_getItem_of (kV_is ry) dd.mapOf hw (h w' _ (I.tok _) rw')
  · subst ey
    cases (show u = Value.ref b from ry)
    obtain ⟨z, hd, xs, rel, dd⟩ := dt_rd I.hok e
    obtain ⟨w', hw, rw'⟩ := RelO.some_of (v := v) (o := (atKey xs k).map (·.2)) (by rw [l]; exact rel.val k)
    obtain ⟨p, hp, hp2⟩ := Option.map_eq_some_iff.mp hw
    refine wpAny_getItem_heap (tupleKind_room_in1 hu) (key_of I.hok eb) dd hp ?_
    rw [hp2]
    exact h w' _ (I.tok _) rw'
theorem d_write {h' : Heap} {t' : Nat} {ob : HO} (I : Inv X pins σ H s) (mu : Mut (H a)) (hs : Heap.SameBut a s.heap h') (he : ∃ q, h'.get? a = some q) (new : ObjOk X.prog X.w (upd H a ob) h' a ob) :
    Inv X pins σ (upd H a ob) { s with heap := h', toks := t' } :=
  I.write (x := a) (e := a) mu (.inl rfl) (fun b q hb z => (hs.2 b hb).trans z) he new
theorem dk_new {P : Program} {w : World} {H' : Hp} {h' : Heap} {kvs : List (Key × V)} {vs : List (Key × Value)} (z : kvs.length ≤ sizeLine) (hd : (a == sysModules) = false) (rel : KV kvs vs) (dd : h'.DictOf (mixKind P w) a vs) :
    ObjOk P w H' h' a (.dK kvs) := ⟨z, hd, vs, rel, dd⟩
end
section
variable {X : Cx} {pins : List (Addr × Obj)} {σ : St} {H : Hp} {s : Shared} {a : Addr} {kvs : List (Key × V)} {k : Key} {u : Value} {A : Around} {E : Value → Shared → Prop}
theorem d_delItem {Q : Unit → Shared → Prop} (I : Inv X pins σ H s) (e : H a = some (.dK kvs)) (ry : RelV (kV k) u) (l : (valV kvs k).isSome = true) (h : ∀ s', Inv X pins σ (upd H a (.dK (dropK kvs k))) s' → Q () s') :
    wpAny (model X.prog X.w) A (delItem (.ref a) u) Q E s := by
  obtain ⟨z, hd, vs, rel, dd⟩ := dk_of I.hok e
  refine wpAny_delItem_slot dd.typeIs (by decide) PySem.F.slot_dict_delitem
    (call_meetsIn PySem.F.slot_dict_delitem dd.typeIs PySem.F.entry_dict_delitem (PySem.F.args_dict_delitem_2 _ _) (meets_dict_delitem_pairs (mixKind X.prog X.w) a (kV_is ry)) ⟨vs, dd, by rw [← rel.length]; exact z, by rw [← (rel.val k).isSome_eq]; exact l, fun h' dd' hs => h _ ?_⟩)
  have he : ∃ q, h'.get? a = some q := let ⟨q, _, _, hq, _⟩ := dd'; ⟨q, hq⟩
  exact d_write I (by rw [e]; exact True.intro) hs he (dk_new (Nat.le_trans (dropK_le kvs k) z) hd (rel.drop k) dd')
theorem d_pop {v : V} {more : List Value} {Q : Value → Shared → Prop} (I : Inv X pins σ H s) (e : H a = some (.dK kvs)) (ry : RelV (kV k) u) (l : valV kvs k = some v) (hm : more = [] ∨ ∃ x, more = [x])
    (h : ∀ w' s', Inv X pins σ (upd H a (.dK (dropK kvs k))) s' → RelV v w' → Q w' s') : wpAny (model X.prog X.w) A (call (.builtin "dict.pop") (.ref a :: u :: more)) Q E s := by
  obtain ⟨z, hd, vs, rel, dd⟩ := dk_of I.hok e
  obtain ⟨w', hw, rw'⟩ := RelO.some_of (v := v) (o := valueAt vs k) (by rw [← l]; exact rel.val k)
  have hp : (keyPart u).isSome = true := by
    cases k with
    | inl i => obtain ⟨t, q⟩ := (show ∃ t, u = Value.int i t from ry); subst q; rfl
    | inr x => obtain ⟨t, q⟩ := (show ∃ t, u = Value.str x t from ry); subst q; rfl
  have ha : argsOk "dict.pop" ⟨.ref a :: u :: more, []⟩ := by
    rcases hm with q | ⟨x, q⟩
    · subst q; exact PySem.F.args_dict_pop_2 _ _
    · subst q; exact PySem.F.args_dict_pop_3 _ _ _
  refine call_meetsIn PySem.F.slot_dict_pop dd.typeIs PySem.F.entry_dict_pop ha (meets_dict_pop_there (mixKind X.prog X.w) a (kV_is ry) more hm hp)
    ⟨vs, w', dd, by rw [← rel.length]; exact z, hw, fun h' dd' hs => h w' _ ?_ rw'⟩
  have he : ∃ q, h'.get? a = some q := let ⟨q, _, _, hq, _⟩ := dd'; ⟨q, hq⟩
  exact d_write I (by rw [e]; exact True.intro) hs he (dk_new (Nat.le_trans (dropK_le kvs k) z) hd (rel.drop k) dd')
theorem d_popD {r : Value} {Q : Value → Shared → Prop} (I : Inv X pins σ H s) (e : H a = some (.dK kvs)) (ry : RelV (kV k) u) (l : valV kvs k = none) (h : ∀ s', Inv X pins σ H s' → Q r s') :
    wpAny (model X.prog X.w) A (call (.builtin "dict.pop") [.ref a, u, r]) Q E s := by
  obtain ⟨z, hd, vs, rel, dd⟩ := dk_of I.hok e
  have hn : valueAt vs k = none := RelO.none_of (by rw [← l]; exact rel.val k)
  have hp : (keyPart u).isSome = true := by
    cases k with
    | inl i => obtain ⟨t, q⟩ := (show ∃ t, u = Value.int i t from ry); subst q; rfl
    | inr x => obtain ⟨t, q⟩ := (show ∃ t, u = Value.str x t from ry); subst q; rfl
  exact call_meetsIn PySem.F.slot_dict_pop dd.typeIs PySem.F.entry_dict_pop (PySem.F.args_dict_pop_3 _ _ _) (meets_dict_pop_default (mixKind X.prog X.w) a (kV_is ry) hd hp r) ⟨vs, dd, hn, h _ (I.tok _)⟩
end
def NoSl (i : Expr) : Prop := ∀ ov iv, subscripted i false ov iv = operate [ov, iv] (getItem ov iv)
theorem subD_of {prog : Program} {w : World} {A : Around} {E : Value → Shared → Prop} {s : Shared} {env : Env} {value slice : Expr} {pos : Pos} {T id : String} {Q : Value → Shared → Prop}
    (hl : typeLookup (.type T) "__getitem__" = pure (some (.builtin id))) (hs : NoSl slice)
    (h : wpAny (model prog w) A (eval value env) (fun o s₁ => wpAny (model prog w) A (eval slice env) (fun i s₂ => s₂.TypeIs o T ∧ wpAny (model prog w) A (getItem o i) Q E s₂) E s₁) E s) :
    wpAny (model prog w) A (eval (.Subscript value slice pos) env) Q E s := by
  refine Subscript_ (wpAny_mono h (fun o s₁ h₁ => wpAny_mono h₁ (fun i s₂ h₂ => ?_) fun _ _ x => x) fun _ _ x => x)
  obtain ⟨hT, h₂⟩ := h₂
  unfold subscriptTail
  refine wpAny_bind ?_
  rw [getitemInPython_of_ne hT.not_modules]
  refine wpAny_bind (wpAny_specialOf hT hl ?_)
  have fin : wpAny (model prog w) A (subscripted slice false o i) (fun r s₃ => wpAny (model prog w) A (letTemporaryGo value o r >>= fun _ => pure r) Q E s₃) E s₂ := by
    rw [hs o i]
    exact wpAny_operating (wpAny_mono h₂ (fun r s₃ h₃ => wpAny_bind (wpAny_letTemporaryGo (wpAny_pure h₃))) fun _ _ x => x)
  first
    | exact wpAny_pure (wpAny_bind fin)
    | exact wpAny_bind (wpAny_pure (wpAny_bind fin))
    | exact wpAny_bind fin
theorem dict_typeIs {X : Cx} {pins : List (Addr × Obj)} {σ : St} {H : Hp} {s : Shared} {a : Addr} {y : V} {o : Option V} (I : Inv X pins σ H s) (g : DGet H a y o) : s.TypeIs (.ref a) "dict" := by
  rcases g with ⟨kvs, k, e, _, _⟩ | ⟨kvs, k, b, e, _, _, _⟩
  · obtain ⟨_, _, vs, _, dd⟩ := dk_rd I.hok e
    exact dd.typeIs
  · obtain ⟨_, _, xs, _, dd⟩ := dt_rd I.hok e
    exact dd.typeIs
def tDGet (td ty : TE) : TE := fun σ H Q => td σ H fun x H1 => ty σ H1 fun y H2 => ∃ a v, x = .ref a ∧ DGet H2 a y (some v) ∧ Q v H2
section
variable {X : Cx} {o i e value : Expr} {pos pos' tpos : Pos} {td ty tv : TE}
theorem pe_dget (hu : X.A.units + 1 < cLine) (ho : PE X o td) (hi : PE X i ty) (hs : NoSl i) : PE X (.Subscript o i pos) (tDGet td ty) := by
  intro pins s σ H Q I h
  refine subD_of PySem.F.slot_dict_getitem.lookup hs (thn (ho pins s σ H _ I h) fun u s1 ⟨x, H1, I1, rx, q1⟩ => thn (hi pins s1 σ H1 _ I1 q1) fun iv s2 ⟨y, H2, I2, ry, a, v, ex, g, q2⟩ => ?_)
  subst ex
  obtain rfl : u = Value.ref a := rx
  exact ⟨dict_typeIs I2 g, d_getItem hu I2 g ry fun w' s3 I3 rw' => ⟨v, H2, I3, rw', q2⟩⟩
end
theorem dk_empty {P : Program} {w : World} {H : Hp} (h : Heap) (hb : sysModules < h.objs.size) : ObjOk P w H (h.push { cls := .type "dict", data := .dict #[] }) h.objs.size (.dK []) :=
  ⟨Nat.zero_le _, beq_eq_false_iff_ne.mpr (Ne.symm (Nat.ne_of_lt hb)), [], .nil, Heap.DictOf.new h⟩
def tDNewK : TE := fun _ H Q => ∀ p, H p = none → Q (.ref p) (upd H p (.dK []))
section
variable {X : Cx} {pos : Pos}
theorem pe_dnewK : PE X (.Dict [] [] pos) tDNewK := fun pins s σ H Q I h =>
  wpAny_Dict_empty ⟨.ref s.heap.objs.size, _, I.laid (a := s.heap.objs.size) (o := .dK []) (t' := s.toks) (fun _ _ q => Heap.get?_push_of_some _ q) (Nat.le_refl _) (dk_empty s.heap I.big), rfl, h _ (I.hok.fresh (Nat.le_refl _))⟩
end
def tPairs : List (TE × TE) → St → Hp → (List (V × V) → Hp → Prop) → Prop
  | [], _, H, Q => Q [] H
  | (tk, tv) :: r, σ, H, Q => tk σ H fun x H1 => tv σ H1 fun y H2 => tPairs r σ H2 fun ps H3 => Q ((x, y) :: ps) H3
abbrev VV : List (V × V) → List (Value × Value) → Prop := Paired fun p q => RelV p.1 q.1 ∧ RelV p.2 q.2
def PPs (X : Cx) (pos : Pos) (keys : List (Option Expr)) (values : List Expr) (trs : List (TE × TE)) : Prop :=
  ∀ (pins : List (Addr × Obj)) (s : Shared) (σ : St) (H : Hp) (Q : List (V × V) → Hp → Prop), Inv X pins σ H s → tPairs trs σ H Q →
    wpAny (model X.prog X.w) X.A (evalPairs (pairTrees keys values X.env pos)) (fun vs s' => ∃ ps H', Inv X pins σ H' s' ∧ VV ps vs ∧ Q ps H') X.xe s
theorem pps_nil {X : Cx} {pos : Pos} : PPs X pos [] [] [] := fun pins s σ H Q I h => pairTrees_nil_walk ⟨[], H, I, .nil, h⟩
theorem pps_cons {X : Cx} {pos : Pos} {k v : Expr} {ks : List (Option Expr)} {vs : List Expr} {tk tv : TE} {trs : List (TE × TE)} (hk : PE X k tk) (hv : PE X v tv) (hr : PPs X pos ks vs trs) :
    PPs X pos (some k :: ks) (v :: vs) ((tk, tv) :: trs) := fun pins s σ H Q I h =>
  pairTrees_cons_walk (thn (hk pins s σ H _ I h) fun u s1 ⟨x, H1, I1, rx, q1⟩ => thn (hv pins s1 σ H1 _ I1 q1) fun w2 s2 ⟨y, H2, I2, ry, q2⟩ =>
    thn (hr pins s2 σ H2 _ I2 q2) fun ws s3 ⟨ps, H3, I3, rel, q3⟩ => ⟨(x, y) :: ps, H3, I3, .cons ⟨rx, ry⟩ rel, q3⟩)
def mergeK (kvs more : List (Key × V)) : List (Key × V) := more.foldl (fun acc kv => putK acc kv.1 kv.2) kvs
theorem KV.merge : ∀ {more : List (Key × V)} {rs : List (Key × Value)} {kvs : List (Key × V)} {vs : List (Key × Value)}, KV more rs → KV kvs vs → KV (mergeK kvs more) (merged vs rs) := by
  intro more rs kvs vs r
  unfold KV at r
  induction r generalizing kvs vs with
  | nil => intro q; exact q
  | @cons p q ps qs h t ih =>
    intro r0
    have e : KV (putK kvs p.1 p.2) (stored vs q.1 q.2) := by
      have := r0.put p.1 h.2
      rw [← h.1]; exact this
    exact ih e
theorem length_mergeK : ∀ (more kvs : List (Key × V)), (mergeK kvs more).length ≤ kvs.length + more.length
  | [], kvs => by show kvs.length ≤ kvs.length + 0; omega
  | p :: r, kvs => by
    have h1 := length_mergeK r (putK kvs p.1 p.2)
    have h2 := length_putK kvs p.1 p.2
    show (mergeK (putK kvs p.1 p.2) r).length ≤ _
    rw [List.length_cons]; omega
theorem carries_of {P : Program} {w : World} : ∀ {kvs : List (Key × V)} {ws : List (Value × Value)}, VV (kvs.map fun kv => (kV kv.1, kv.2)) ws → ∃ rs, Carries (mixKind P w) ws rs ∧ KV kvs rs
  | [], _, r => by rw [List.map_nil] at r; cases r; exact ⟨[], True.intro, .nil⟩
  | p :: kvs, _, r => by
    rw [List.map_cons] at r
    cases r with
    | @cons a b as bs h t =>
      obtain ⟨rs, c, q⟩ := carries_of (P := P) (w := w) t
      obtain ⟨b1, b2⟩ := b
      exact ⟨(p.1, b2) :: rs, ⟨kV_is h.1, rfl, c⟩, .cons ⟨rfl, h.2⟩ q⟩
def tDisp (trs : List (TE × TE)) : TE := fun σ H Q => ∀ p, H p = none → tPairs trs σ (upd H p (.dK [])) fun ps H2 => H2 p = some (.dK []) ∧ ∃ kvs : List (Key × V), ps = kvs.map (fun kv => (kV kv.1, kv.2)) ∧ kvs.length ≤ 15 ∧ Q (.ref p) (upd H2 p (.dK (mergeK [] kvs)))
theorem pe_disp {X : Cx} {pos : Pos} {keys : List (Option Expr)} {values : List Expr} {trs : List (TE × TE)} (h : PPs X pos keys values trs) (hall : keys.all (·.isSome) = true) (hl : keys.length = values.length) (h0 : keys ≠ [])
    (h15 : keys.length ≤ 15) : PE X (.Dict keys values pos) (tDisp trs) := by
  intro pins s σ H Q I q
  have hn := I.hok.fresh (Nat.le_refl s.heap.objs.size)
  have I1 := I.laid (a := s.heap.objs.size) (o := .dK []) (h' := s.heap.push { cls := .type "dict", data := .dict #[] }) (t' := s.toks) (fun _ _ q => Heap.get?_push_of_some _ q) (Nat.le_refl _) (dk_empty s.heap I.big)
  refine wpAny_Dict_walk (knd := mixKind X.prog X.w) hall hl h0 h15 (thn (h pins _ σ _ _ I1 (q _ hn)) fun ws s2 ⟨ps, H2, I2, rel, e, kvs, ep, lk, q2⟩ => ?_)
  subst ep
  obtain ⟨rs, c, rk⟩ := carries_of (P := X.prog) (w := X.w) rel
  obtain ⟨z, hd, vs0, r0, dd⟩ := dk_of I2.hok e
  cases r0
  refine ⟨rs, c, dd, fun h' dd' hs => ⟨.ref s.heap.objs.size, _, ?_, rfl, q2⟩⟩
  have hz : (mergeK [] kvs).length ≤ sizeLine := by
    have h1 := length_mergeK kvs []
    rw [List.length_nil] at h1
    rw [sizeLine_eq]; omega
  have he : ∃ q, h'.get? s.heap.objs.size = some q := let ⟨q, _, _, hq, _⟩ := dd'; ⟨q, hq⟩
  exact d_write I2 (by rw [e]; exact True.intro) hs he (dk_new hz hd (rk.merge .nil) dd')
structure M2 (X : Cx) (o : Expr) (m : Str) (apos : Pos) (e f : Expr) (cpos : Pos) : Prop where
  base : attributeBase o m X.env (eval o X.env) = eval o X.env
  few : ((backTo cpos (starEach [e, f] X.env)).all (fun x => !x.1) && (backToKw cpos (keywordEach [] X.env)).all (fun x => x.1.isSome)
    && decide (([e, f] : List Expr).length + ([] : List Keyword).length + (if ([] : List Keyword).isEmpty then 0 else 1) < 30)) = true
  line : (apos.endLine == cpos.line) = true
  trees : backTo cpos (starEach [e, f] X.env) = [(false, eval e X.env), (false, eval f X.env)]
def IsD (H : Hp) (a : Addr) : Prop := (∃ kvs, Rd H a (.dK kvs)) ∨ ∃ kvs, Rd H a (.dT kvs)
theorem isD_at {X : Cx} {pins : List (Addr × Obj)} {σ : St} {H : Hp} {s : Shared} {a : Addr} (I : Inv X pins σ H s) (d : IsD H a) :
    s.TypeIs (.ref a) "dict" ∧ (∀ b, Value.ref a = .ref b → ∃ ob, s.heap.get? b = some ob ∧ ob.dict = none) ∧ (a == sysModules) = false := by
  rcases d with ⟨kvs, e⟩ | ⟨kvs, e⟩
  · obtain ⟨_, hd, vs, _, dd⟩ := dk_rd I.hok e
    refine ⟨dd.typeIs, fun b q => ?_, hd⟩
    cases q
    obtain ⟨ob, _, _, h1, h2, _⟩ := dd
    exact ⟨ob, h1, h2.2.1⟩
  · obtain ⟨_, hd, xs, _, dd⟩ := dt_rd I.hok e
    refine ⟨dd.typeIs, fun b q => ?_, hd⟩
    cases q
    obtain ⟨ob, _, _, h1, h2, _⟩ := dd
    exact ⟨ob, h1, h2.2.1⟩
section
variable {X : Cx} {pins : List (Addr × Obj)} {σ : St} {H : Hp} {s : Shared} {a : Addr} {y d : V} {u r : Value} {o : Option V} {A : Around} {E : Value → Shared → Prop}
end
def tDPop2 (td ty tx : TE) : TE := fun σ H Q => td σ H fun x H1 => ∃ a, x = .ref a ∧ IsD H1 a ∧ ty σ H1 fun y H2 => tx σ H2 fun z H3 => ∃ kvs k, H3 a = some (.dK kvs) ∧ y = kV k ∧
  (∀ v, valV kvs k = some v → Q v (upd H3 a (.dK (dropK kvs k)))) ∧ (valV kvs k = none → Q z H3)
section
variable {X : Cx} {o e f : Expr} {apos cpos : Pos} {td ty tx : TE}
theorem pe_dpop2 (ho : PE X o td) (he : PE X e ty) (hf : PE X f tx) (m : M2 X o "pop" apos e f cpos) : PE X (.Call (.Attribute o "pop" apos) [e, f] [] cpos) (tDPop2 td ty tx) := by
  intro pins s σ H Q I h
  refine wpAny_Call_method m.base m.few m.line PySem.F.plainAttrs_dict PySem.F.slot_dict_pop PySem.F.type_dict_pop (thn (ho pins s σ H _ I h) fun u s1 ⟨x, H1, I1, rx, a, ex, d, q1⟩ => ?_)
  subst ex
  obtain rfl : u = Value.ref a := rx
  obtain ⟨t1, t2, _⟩ := isD_at I1 d
  refine ⟨t1, t2, ?_⟩
  rw [m.trees]
  refine Calls.callWith_builtin rfl (Calls.evalArgs_plain (Calls.spliced_cons (thn (he pins s1 σ H1 _ I1 q1) fun iv s2 ⟨y, H2, I2, ry, q2⟩ =>
    Calls.spliced_cons (thn (hf pins s2 σ H2 _ I2 q2) fun fv s3 ⟨z, H3, I3, rz, kvs, k, ea, ey, q3, q4⟩ => Calls.spliced_nil ?_))))
  subst ey
  cases l : valV kvs k with
  | some v => exact d_pop I3 ea ry l (.inr ⟨fv, rfl⟩) fun w' s4 I4 rw' => ⟨v, _, I4, rw', q3 v l⟩
  | none => exact d_popD I3 ea ry l fun s4 I4 => ⟨z, H3, I4, rz, q4 l⟩
end
section
variable {X : Cx} {pins : List (Addr × Obj)} {σ : St} {H : Hp} {s : Shared} {a : Addr} {kvs : List (Key × V)} {A : Around} {E : Value → Shared → Prop}
end
section
variable {X : Cx} {pins : List (Addr × Obj)} {σ : St} {H : Hp} {s : Shared} {a : Addr} {y : V} {u : Value} {A : Around} {E : Value → Shared → Prop}
end
end L2
namespace L2
open PySem PySem.Spec PyProof.Rows
section
variable {X : Cx}
end
section
variable {κ : Type} [DecidableEq κ]
theorem valV_in {kvs : List (κ × V)} {k : κ} {v : V} (h : valV kvs k = some v) : k ∈ kvs.map (·.1) := by
  have q : (kvs.any fun kv => decide (kv.1 = k)) = true := by
    rw [valV_any, h]
    all_goals rfl
  obtain ⟨p, hp, e⟩ := List.any_eq_true.mp q
  exact List.mem_map.mpr ⟨p, hp, of_decide_eq_true e⟩
theorem dropK_pos {p : κ × V} {r : List (κ × V)} {k : κ} (e : p.1 = k) : dropK (p :: r) k = dropK r k := by
  unfold dropK
  rw [List.filter_cons, if_neg (by simp [e])]
theorem dropK_neg {p : κ × V} {r : List (κ × V)} {k : κ} (e : ¬ p.1 = k) : dropK (p :: r) k = p :: dropK r k := by
  unfold dropK
  rw [List.filter_cons, if_pos (by simp [e])]
end
end L2
set_option maxRecDepth 100000
set_option Elab.async false
set_option linter.all false
namespace L2
open PySem PySem.Spec PySem.W PyProof.Rows
inductive DV where
  | f (v : V) | t (ds : List DV) | l (ds : List DV)
mutual
def deq : DV → DV → Bool
  | .f a, .f b => eqV a b
  | .t as, .t bs => deqs as bs
  | .l as, .l bs => deqs as bs
  | _, _ => false
def deqs : List DV → List DV → Bool
  | [], [] => true
  | a :: as, b :: bs => deq a b && deqs as bs
  | _, _ => false
end
mutual
def dep : DV → Nat
  | .f _ => 0
  | .t as => deps as + 1
  | .l as => deps as + 1
def deps : List DV → Nat
  | [] => 0
  | a :: as => max (dep a) (deps as)
end
mutual
def DRel (K : Frag) (H : Hp) : DV → V → Prop
  | .f v, x => x = v ∧ flatV v = true
  | .t ds, x => ∃ a xs, x = .ref a ∧ SqT K H a xs ∧ DRels K H ds xs
  | .l ds, x => ∃ a xs, x = .ref a ∧ SqL K H a xs ∧ DRels K H ds xs
def DRels (K : Frag) (H : Hp) : List DV → List V → Prop
  | [], [] => True
  | d :: ds, x :: xs => DRel K H d x ∧ DRels K H ds xs
  | _, _ => False
end
mutual
theorem deq_self : ∀ (d : DV) (K : Frag) (H : Hp) (x : V), DRel K H d x → deq d d = true
  | .f v, K, H, x, h => by
    simp only [DRel] at h
    simp only [deq]; exact eqV_self h.2
  | .t ds, K, H, x, h => by
    simp only [DRel] at h
    obtain ⟨a, xs, _, _, h⟩ := h
    simp only [deq]; exact deqs_self ds K H xs h
  | .l ds, K, H, x, h => by
    simp only [DRel] at h
    obtain ⟨a, xs, _, _, h⟩ := h
    simp only [deq]; exact deqs_self ds K H xs h
theorem deqs_self : ∀ (ds : List DV) (K : Frag) (H : Hp) (xs : List V), DRels K H ds xs → deqs ds ds = true
  | [], K, H, xs, h => by simp only [deqs]
  | d :: ds, K, H, [], h => by simp only [DRels] at h
  | d :: ds, K, H, x :: xs, h => by
    simp only [DRels] at h
    simp only [deqs, Bool.and_eq_true]
    exact ⟨deq_self d K H x h.1, deqs_self ds K H xs h.2⟩
end
def eqD (as bs : List DV) (j : Nat) : Bool := match as[j]?, bs[j]? with
  | some a, some b => deq a b
  | _, _ => true
theorem deqs_all : ∀ (as bs : List DV), as.length = bs.length → (List.range as.length).all (eqD as bs) = deqs as bs
  | [], [], _ => by simp [deqs]
  | a :: as, b :: bs, h => by
    have ih := deqs_all as bs (by simpa using h)
    rw [List.length_cons, List.range_succ_eq_map, List.all_cons, List.all_map]
    have e0 : eqD (a :: as) (b :: bs) 0 = deq a b := by simp [eqD]
    have e1 : (eqD (a :: as) (b :: bs) ∘ Nat.succ) = eqD as bs := by funext j; simp [eqD, Function.comp]
    rw [e0, e1, ih]
    simp only [deqs]
  | [], _ :: _, h => by simp at h
  | _ :: _, [], h => by simp at h
theorem deqs_len : ∀ (as bs : List DV), as.length ≠ bs.length → deqs as bs = false
  | [], [], h => absurd rfl h
  | a :: as, b :: bs, h => by
    have ih := deqs_len as bs (by simpa using h)
    simp only [deqs, ih, Bool.and_false]
  | [], _ :: _, _ => by simp only [deqs]
  | _ :: _, [], _ => by simp only [deqs]
theorem DRels.len {K : Frag} {H : Hp} : ∀ {ds : List DV} {xs : List V}, DRels K H ds xs → ds.length = xs.length
  | [], [], _ => rfl
  | d :: ds, x :: xs, h => by
    simp only [DRels] at h
    rw [List.length_cons, List.length_cons, DRels.len h.2]
  | [], _ :: _, h => by simp only [DRels] at h
  | _ :: _, [], h => by simp only [DRels] at h
section
variable {X : Cx} {pins : List (Addr × Obj)} {σ : St} {H : Hp} {s : Shared}
theorem not_both {a : Addr} {xs ys : List V} (I : Inv X pins σ H s) (h1 : SqT X.K H a xs) (h2 : SqL X.K H a ys) : False := by
  obtain ⟨_, _, ⟨o, e, c, _⟩, _⟩ := I.tuple h1
  obtain ⟨_, _, p, _⟩ := I.list h2
  obtain ⟨o', e', c', _⟩ := p.isList
  rw [e] at e'; cases e'
  rw [c] at c'
  injection c' with c'
  exact absurd c' (by decide)
mutual
theorem deq_same (I : Inv X pins σ H s) : ∀ (d1 d2 : DV) (x : V), DRel X.K H d1 x → DRel X.K H d2 x → deq d1 d2 = true
  | .f v, .f w, x, h1, h2 => by
    simp only [DRel] at h1 h2
    rw [← h1.1, ← h2.1] at *
    simp only [deq]; exact eqV_self h1.2
  | .t as, .t bs, x, h1, h2 => by
    simp only [DRel] at h1 h2
    obtain ⟨a, xs, rfl, q1, r1⟩ := h1
    obtain ⟨b, ys, e, q2, r2⟩ := h2
    cases e
    cases I.tuple_inj q1 q2
    simp only [deq]; exact deqs_same I as bs xs r1 r2
  | .l as, .l bs, x, h1, h2 => by
    simp only [DRel] at h1 h2
    obtain ⟨a, xs, rfl, q1, r1⟩ := h1
    obtain ⟨b, ys, e, q2, r2⟩ := h2
    cases e
    cases I.list_inj q1 q2
    simp only [deq]; exact deqs_same I as bs xs r1 r2
  | .f v, .t bs, x, h1, h2 => by
    simp only [DRel] at h1 h2
    obtain ⟨b, ys, e, _⟩ := h2
    have := h1.2; rw [← h1.1, e] at this; cases this
  | .f v, .l bs, x, h1, h2 => by
    simp only [DRel] at h1 h2
    obtain ⟨b, ys, e, _⟩ := h2
    have := h1.2; rw [← h1.1, e] at this; cases this
  | .t bs, .f v, x, h1, h2 => by
    simp only [DRel] at h1 h2
    obtain ⟨b, ys, e, _⟩ := h1
    have := h2.2; rw [← h2.1, e] at this; cases this
  | .l bs, .f v, x, h1, h2 => by
    simp only [DRel] at h1 h2
    obtain ⟨b, ys, e, _⟩ := h1
    have := h2.2; rw [← h2.1, e] at this; cases this
  | .t as, .l bs, x, h1, h2 => by
    simp only [DRel] at h1 h2
    obtain ⟨a, xs, rfl, q1, r1⟩ := h1
    obtain ⟨b, ys, e, q2, r2⟩ := h2
    cases e
    exact (not_both I q1 q2).elim
  | .l as, .t bs, x, h1, h2 => by
    simp only [DRel] at h1 h2
    obtain ⟨a, xs, rfl, q1, r1⟩ := h1
    obtain ⟨b, ys, e, q2, r2⟩ := h2
    cases e
    exact (not_both I q2 q1).elim
theorem deqs_same (I : Inv X pins σ H s) : ∀ (as bs : List DV) (xs : List V), DRels X.K H as xs → DRels X.K H bs xs → deqs as bs = true
  | [], [], _, _, _ => by simp only [deqs]
  | a :: as, b :: bs, x :: xs, h1, h2 => by
    simp only [DRels] at h1 h2
    simp only [deqs, Bool.and_eq_true]
    exact ⟨deq_same I a b x h1.1 h2.1, deqs_same I as bs xs h1.2 h2.2⟩
  | [], _ :: _, [], h1, h2 => by simp only [DRels] at h2
  | [], _ :: _, _ :: _, h1, h2 => by simp only [DRels] at h1
  | _ :: _, [], [], h1, h2 => by simp only [DRels] at h1
  | _ :: _, [], _ :: _, h1, h2 => by simp only [DRels] at h2
  | _ :: _, _ :: _, [], h1, h2 => by simp only [DRels] at h1
end
theorem flat_tup {A : Around} {y : V} {u : Value} {a : Addr} {items : Array Value} (fy : flatV y = true) (ry : RelV y u) (h : s.heap.IsTuple a items) (hu : A.units < cLine) : SeqAt.EqAt A s u (.ref a) false := by
  cases y with
  | non => cases ry; exact .none_tuple h hu
  | bl b => cases ry; exact .bool_tuple b h hu
  | int b => obtain ⟨t, rfl⟩ := ry; exact .int_tuple b t h hu
  | str b => obtain ⟨t, rfl⟩ := ry; exact .str_tuple b t h hu
  | _ => cases fy
theorem flat_lst {A : Around} {y : V} {u : Value} {a : Addr} {items : Array Value} (fy : flatV y = true) (ry : RelV y u) (h : s.heap.IsList a items) (hu : A.units < cLine) : SeqAt.EqAt A s u (.ref a) false := by
  cases y with
  | non => cases ry; exact .none_list h hu
  | bl b => cases ry; exact .bool_list b h hu
  | int b => obtain ⟨t, rfl⟩ := ry; exact .int_list b t h hu
  | str b => obtain ⟨t, rfl⟩ := ry; exact .str_list b t h hu
  | _ => cases fy
theorem tup_flat {A : Around} {y : V} {u : Value} {a : Addr} {items : Array Value} (fy : flatV y = true) (ry : RelV y u) (h : s.heap.IsTuple a items) (hu : A.units < cLine) : SeqAt.EqAt A s (.ref a) u false := by
  cases y with
  | non => cases ry; exact .tuple_none h hu
  | bl b => cases ry; exact .tuple_bool b h hu
  | int b => obtain ⟨t, rfl⟩ := ry; exact .tuple_int b t h hu
  | str b => obtain ⟨t, rfl⟩ := ry; exact .tuple_str b t h hu
  | _ => cases fy
theorem lst_flat {A : Around} {y : V} {u : Value} {a : Addr} {items : Array Value} (fy : flatV y = true) (ry : RelV y u) (h : s.heap.IsList a items) (hu : A.units < cLine) : SeqAt.EqAt A s (.ref a) u false := by
  cases y with
  | non => cases ry; exact .list_none h hu
  | bl b => cases ry; exact .list_bool b h hu
  | int b => obtain ⟨t, rfl⟩ := ry; exact .list_int b t h hu
  | str b => obtain ⟨t, rfl⟩ := ry; exact .list_str b t h hu
  | _ => cases fy
theorem items_eq {A : Around} {as bs : List DV} {xs ys : List V} {us vs : List Value} (h1 : DRels X.K H as xs) (h2 : DRels X.K H bs ys) (r1 : Vals xs us) (r2 : Vals ys vs)
    (ih : ∀ (j : Nat) (a b : DV) (u v : Value), as[j]? = some a → bs[j]? = some b → us[j]? = some u → vs[j]? = some v → SeqAt.EqAt A s u v (deq a b)) :
    ∀ j (g1 : j < us.toArray.size) (g2 : j < vs.toArray.size), SeqAt.EqAt A s us.toArray[j] vs.toArray[j] (eqD as bs j) := by
  intro j g1 g2
  have l1 := h1.len
  have l2 := h2.len
  have m1 := r1.length
  have m2 := r2.length
  have g1' : j < us.length := by simpa using g1
  have g2' : j < vs.length := by simpa using g2
  have e : eqD as bs j = deq as[j] bs[j] := by simp [eqD, show j < as.length by omega, show j < bs.length by omega]
  rw [e]
  exact ih j _ _ _ _ (List.getElem?_eq_getElem (by omega)) (List.getElem?_eq_getElem (by omega)) (by simp [g1']) (by simp [g2'])
mutual
theorem eqAt_D (I : Inv X pins σ H s) : ∀ (d1 d2 : DV) (x y : V) (u v : Value) (A : Around), DRel X.K H d1 x → DRel X.K H d2 y → RelV x u → RelV y v → A.units + dep d1 < cLine → SeqAt.EqAt A s u v (deq d1 d2)
  | .f a, .f b, x, y, u, v, A, h1, h2, r1, r2, hu => by
    simp only [DRel] at h1 h2
    simp only [deq]
    rw [h1.1] at r1; rw [h2.1] at r2
    exact eqAt_V r1 r2 h1.2 h2.2
  | .f a, .t bs, x, y, u, v, A, h1, h2, r1, r2, hu => by
    simp only [DRel] at h1 h2
    obtain ⟨b, ys, rfl, q2, _⟩ := h2
    obtain ⟨vs, _, p2, _⟩ := I.tuple q2
    simp only [deq]
    rw [h1.1] at r1; cases r2
    exact flat_tup h1.2 r1 p2 (by omega)
  | .f a, .l bs, x, y, u, v, A, h1, h2, r1, r2, hu => by
    simp only [DRel] at h1 h2
    obtain ⟨b, ys, rfl, q2, _⟩ := h2
    obtain ⟨vs, _, p2, _⟩ := I.list q2
    simp only [deq]
    rw [h1.1] at r1; cases r2
    exact flat_lst h1.2 r1 p2.isList (by omega)
  | .t as, .f b, x, y, u, v, A, h1, h2, r1, r2, hu => by
    simp only [DRel] at h1 h2
    obtain ⟨a, xs, rfl, q1, _⟩ := h1
    obtain ⟨us, _, p1, _⟩ := I.tuple q1
    simp only [deq]
    rw [h2.1] at r2; cases r1
    exact tup_flat h2.2 r2 p1 (by omega)
  | .l as, .f b, x, y, u, v, A, h1, h2, r1, r2, hu => by
    simp only [DRel] at h1 h2
    obtain ⟨a, xs, rfl, q1, _⟩ := h1
    obtain ⟨us, _, p1, _⟩ := I.list q1
    simp only [deq]
    rw [h2.1] at r2; cases r1
    exact lst_flat h2.2 r2 p1.isList (by omega)
  | .t as, .l bs, x, y, u, v, A, h1, h2, r1, r2, hu => by
    simp only [DRel] at h1 h2
    obtain ⟨a, xs, rfl, q1, _⟩ := h1
    obtain ⟨b, ys, rfl, q2, _⟩ := h2
    obtain ⟨us, _, p1, _⟩ := I.tuple q1
    obtain ⟨vs, _, p2, _⟩ := I.list q2
    simp only [deq]
    cases r1; cases r2
    exact .tuple_list p1 p2.isList (by omega)
  | .l as, .t bs, x, y, u, v, A, h1, h2, r1, r2, hu => by
    simp only [DRel] at h1 h2
    obtain ⟨a, xs, rfl, q1, _⟩ := h1
    obtain ⟨b, ys, rfl, q2, _⟩ := h2
    obtain ⟨us, _, p1, _⟩ := I.list q1
    obtain ⟨vs, _, p2, _⟩ := I.tuple q2
    simp only [deq]
    cases r1; cases r2
    exact .list_tuple p1.isList p2 (by omega)
  | .t as, .t bs, x, y, u, v, A, h1, h2, r1, r2, hu => by
    by_cases hxy : x = y
    · subst hxy
      rw [deq_same I _ _ x h1 h2]
      simp only [DRel] at h1
      obtain ⟨a, xs, rfl, _⟩ := h1
      cases r1; cases r2
      exact .same _
    simp only [DRel] at h1 h2
    obtain ⟨a, xs, rfl, q1, d1⟩ := h1
    obtain ⟨b, ys, rfl, q2, d2⟩ := h2
    obtain ⟨us, m1, p1, _⟩ := I.tuple q1
    obtain ⟨vs, m2, p2, _⟩ := I.tuple q2
    cases r1; cases r2
    simp only [dep] at hu
    have he := items_eq (A := A.in1) d1 d2 m1 m2 (eqAt_Ds I as bs xs ys us vs A.in1 d1 d2 m1 m2 (by show A.units + 1 + _ < _; omega))
    have hr := SeqAt.RcAt.tuples (A := A) p1 p2 (by omega) he
    have hq : ((List.range (min us.toArray.size vs.toArray.size)).all (eqD as bs) && us.toArray.size == vs.toArray.size) = deqs as bs := by
      have l1 := d1.len; have l2 := d2.len; have l3 := m1.length; have l4 := m2.length
      have e1 : us.toArray.size = as.length := by simp; omega
      have e2 : vs.toArray.size = bs.length := by simp; omega
      rw [e1, e2]
      by_cases hl : as.length = bs.length
      · rw [← hl, Nat.min_self, deqs_all as bs hl]; simp
      · rw [deqs_len as bs hl]; simp [hl]
    rw [hq] at hr
    simp only [deq]
    exact .of_refs (fun z => hxy (by rw [z])) hr
  | .l as, .l bs, x, y, u, v, A, h1, h2, r1, r2, hu => by
    by_cases hxy : x = y
    · subst hxy
      rw [deq_same I _ _ x h1 h2]
      simp only [DRel] at h1
      obtain ⟨a, xs, rfl, _⟩ := h1
      cases r1; cases r2
      exact .same _
    simp only [DRel] at h1 h2
    obtain ⟨a, xs, rfl, q1, d1⟩ := h1
    obtain ⟨b, ys, rfl, q2, d2⟩ := h2
    obtain ⟨us, m1, p1, _⟩ := I.list q1
    obtain ⟨vs, m2, p2, _⟩ := I.list q2
    cases r1; cases r2
    simp only [dep] at hu
    have l1 := d1.len; have l2 := d2.len; have l3 := m1.length; have l4 := m2.length
    have e1 : us.toArray.size = as.length := by simp; omega
    have e2 : vs.toArray.size = bs.length := by simp; omega
    simp only [deq]
    by_cases hl : as.length = bs.length
    · have he := items_eq (A := A.in1) d1 d2 m1 m2 (eqAt_Ds I as bs xs ys us vs A.in1 d1 d2 m1 m2 (by show A.units + 1 + _ < _; omega))
      have hr := SeqAt.RcAt.lists (A := A) p1.isList p2.isList (by omega) (by omega) he
      rw [e1, deqs_all as bs hl] at hr
      exact .of_refs (fun z => hxy (by rw [z])) hr
    · rw [deqs_len as bs hl]
      exact .of_refs (fun z => hxy (by rw [z])) (SeqAt.RcAt.lists_lengths p1.isList p2.isList (by simp; omega) (by omega))
theorem eqAt_Ds (I : Inv X pins σ H s) : ∀ (as bs : List DV) (xs ys : List V) (us vs : List Value) (A : Around), DRels X.K H as xs → DRels X.K H bs ys → Vals xs us → Vals ys vs → A.units + deps as < cLine →
    ∀ (j : Nat) (a b : DV) (u v : Value), as[j]? = some a → bs[j]? = some b → us[j]? = some u → vs[j]? = some v → SeqAt.EqAt A s u v (deq a b)
  | [], _, _, _, _, _, _, _, _, _, _, _, j, a, b, u, v, e1, _, _, _ => by simp at e1
  | _ :: _, [], _, _, _, _, _, _, _, _, _, _, j, a, b, u, v, _, e2, _, _ => by simp at e2
  | d :: as, d' :: bs, [], _, _, _, _, h1, _, _, _, _, j, a, b, u, v, _, _, _, _ => by simp only [DRels] at h1
  | d :: as, d' :: bs, _ :: _, [], _, _, _, _, h2, _, _, _, j, a, b, u, v, _, _, _, _ => by simp only [DRels] at h2
  | d :: as, d' :: bs, x :: xs, y :: ys, _, _, A, h1, h2, .cons r1 m1, .cons r2 m2, hu, 0, a, b, u, v, e1, e2, e3, e4 => by
    simp only [DRels] at h1 h2
    simp only [deps] at hu
    cases e1; cases e2; cases e3; cases e4
    exact eqAt_D I d d' x y _ _ A h1.1 h2.1 r1 r2 (by omega)
  | d :: as, d' :: bs, x :: xs, y :: ys, _, _, A, h1, h2, .cons r1 m1, .cons r2 m2, hu, j + 1, a, b, u, v, e1, e2, e3, e4 => by
    simp only [DRels] at h1 h2
    simp only [deps] at hu
    exact eqAt_Ds I as bs xs ys _ _ A h1.2 h2.2 m1 m2 (by omega) j a b u v e1 e2 e3 e4
end
end
section
variable {X : Cx} {pins : List (Addr × Obj)} {σ : St} {H : Hp} {s : Shared}
theorem rc_D (I : Inv X pins σ H s) : ∀ (d1 d2 : DV) (x y : V) (u v : Value) (A : Around), DRel X.K H d1 x → DRel X.K H d2 y → RelV x u → RelV y v → A.units + dep d1 < cLine → 0 < dep d1 → 0 < dep d2 → SeqAt.RcAt A s u v (deq d1 d2) ∧ SeqAt.RcNeAt A s u v (!deq d1 d2)
  | .f _, _, _, _, _, _, _, _, _, _, _, _, z, _ => by simp only [dep] at z; omega
  | .t _, .f _, _, _, _, _, _, _, _, _, _, _, _, z => by simp only [dep] at z; omega
  | .l _, .f _, _, _, _, _, _, _, _, _, _, _, _, z => by simp only [dep] at z; omega
  | .t as, .l bs, x, y, u, v, A, h1, h2, r1, r2, hu, _, _ => by
    simp only [DRel] at h1 h2
    obtain ⟨a, xs, rfl, q1, _⟩ := h1
    obtain ⟨b, ys, rfl, q2, _⟩ := h2
    obtain ⟨us, _, p1, _⟩ := I.tuple q1
    obtain ⟨vs, _, p2, _⟩ := I.list q2
    simp only [deq]
    cases r1; cases r2
    exact ⟨.tuple_list p1 p2.isList (by omega), .tuple_list p1 p2.isList (by omega)⟩
  | .l as, .t bs, x, y, u, v, A, h1, h2, r1, r2, hu, _, _ => by
    simp only [DRel] at h1 h2
    obtain ⟨a, xs, rfl, q1, _⟩ := h1
    obtain ⟨b, ys, rfl, q2, _⟩ := h2
    obtain ⟨us, _, p1, _⟩ := I.list q1
    obtain ⟨vs, _, p2, _⟩ := I.tuple q2
    simp only [deq]
    cases r1; cases r2
    exact ⟨.list_tuple p1.isList p2 (by omega), .list_tuple p1.isList p2 (by omega)⟩
  | .t as, .t bs, x, y, u, v, A, h1, h2, r1, r2, hu, _, _ => by
    simp only [DRel] at h1 h2
    obtain ⟨a, xs, rfl, q1, d1⟩ := h1
    obtain ⟨b, ys, rfl, q2, d2⟩ := h2
    obtain ⟨us, m1, p1, _⟩ := I.tuple q1
    obtain ⟨vs, m2, p2, _⟩ := I.tuple q2
    cases r1; cases r2
    simp only [dep] at hu
    have he := items_eq (A := A.in1) d1 d2 m1 m2 (eqAt_Ds I as bs xs ys us vs A.in1 d1 d2 m1 m2 (by show A.units + 1 + _ < _; omega))
    have hr := SeqAt.RcAt.tuples (A := A) p1 p2 (by omega) he
    have hn := SeqAt.RcNeAt.tuples (A := A) p1 p2 (by omega) he
    have hq : ((List.range (min us.toArray.size vs.toArray.size)).all (eqD as bs) && us.toArray.size == vs.toArray.size) = deqs as bs := by
      have l1 := d1.len; have l2 := d2.len; have l3 := m1.length; have l4 := m2.length
      have e1 : us.toArray.size = as.length := by simp; omega
      have e2 : vs.toArray.size = bs.length := by simp; omega
      rw [e1, e2]
      by_cases hl : as.length = bs.length
      · rw [← hl, Nat.min_self, deqs_all as bs hl]; simp
      · rw [deqs_len as bs hl]; simp [hl]
    rw [hq] at hr hn
    simp only [deq]
    exact ⟨hr, hn⟩
  | .l as, .l bs, x, y, u, v, A, h1, h2, r1, r2, hu, _, _ => by
    simp only [DRel] at h1 h2
    obtain ⟨a, xs, rfl, q1, d1⟩ := h1
    obtain ⟨b, ys, rfl, q2, d2⟩ := h2
    obtain ⟨us, m1, p1, _⟩ := I.list q1
    obtain ⟨vs, m2, p2, _⟩ := I.list q2
    cases r1; cases r2
    simp only [dep] at hu
    have l1 := d1.len; have l2 := d2.len; have l3 := m1.length; have l4 := m2.length
    have e1 : us.toArray.size = as.length := by simp; omega
    have e2 : vs.toArray.size = bs.length := by simp; omega
    simp only [deq]
    by_cases hl : as.length = bs.length
    · have he := items_eq (A := A.in1) d1 d2 m1 m2 (eqAt_Ds I as bs xs ys us vs A.in1 d1 d2 m1 m2 (by show A.units + 1 + _ < _; omega))
      have hr := SeqAt.RcAt.lists (A := A) p1.isList p2.isList (by omega) (by omega) he
      have hn := SeqAt.RcNeAt.lists (A := A) p1.isList p2.isList (by omega) (by omega) he
      rw [e1, deqs_all as bs hl] at hr hn
      exact ⟨hr, hn⟩
    · rw [deqs_len as bs hl]
      exact ⟨SeqAt.RcAt.lists_lengths p1.isList p2.isList (by simp; omega) (by omega), SeqAt.RcNeAt.lists_lengths p1.isList p2.isList (by simp; omega) (by omega)⟩
end
section
variable {X : Cx}
def rEqD (K : Frag) (neg : Bool) : R2 := fun x y H Q => ∃ d1 d2, DRel K H d1 x ∧ DRel K H d2 y ∧ dep d1 ≤ 20 ∧ 0 < dep d1 ∧ 0 < dep d2 ∧ Q (.bl (if neg then !deq d1 d2 else deq d1 d2)) H
theorem op_eqD (hu : X.A.units + 64 < cLine) : OpR X (compareOp .Eq) (rEqD X.K false) := by
  intro pins s σ H x y v u Q I rx ry h
  obtain ⟨d1, d2, h1, h2, z, z1, z2, q⟩ := h
  exact (rc_D I d1 d2 x y v u X.A h1 h2 rx ry (by omega) z1 z2).1 _ _ _ _ ⟨.bl (deq d1 d2), H, I, rfl, q⟩
end
section
variable {σ : St} {H : Hp} {Q : VK} {D : Ends}
theorem i_raise {ES : XS} {C : Addr} {t : TA} (q : t σ H fun vs H1 => vs.length ≤ sizeLine ∧ ES σ (.ref C) none H1) : tRaise ES C t D σ H := q
theorem i_try {K : Frag} {Cy : Addr} {i : Nat} {tb : XS → TS} {th : TS} (q : tb (tClause K Cy i th D) D σ H) : tTry K Cy i tb th D σ H := q
theorem i_bm {K : Frag} {T : String} {r : V → List V → Hp → VK → Prop} {to : TE} {t : TA} (q : to σ H fun x H1 => tyV K T x H1 ∧ t σ H1 fun xs H2 => r x xs H2 Q) : tBM K T r to t σ H Q := q
def rCatA (K : Frag) : R2 := fun x y H Q => ∃ l b xs zs, x = .ref l ∧ y = .ref b ∧ H l = some (.lst xs) ∧ H b = some (.lst zs) ∧ xs.length + zs.length ≤ sizeLine ∧ ∀ p H2, New H p (.lst (xs ++ zs)) H2 → Q (.ref p) H2
theorem op_catA {X : Cx} : OpR X (binaryOp .Add) (rCatA X.K) := fun pins s σ H x y v u Q I rx ry ⟨l, b, xs, zs, e1, e2, h1, h2, z, q⟩ => op_cat pins s σ H x y v u Q I rx ry ⟨l, b, xs, zs, e1, e2, h1, h2, z, fun p hp => q p _ ⟨hp, rfl⟩⟩
theorem i_catA {K : Frag} {l b : Addr} {xs zs : List V} (h1 : H l = some (.lst xs)) (h2 : H b = some (.lst zs)) (z : xs.length + zs.length ≤ sizeLine) (q : ∀ p H2, New H p (.lst (xs ++ zs)) H2 → Q (.ref p) H2) : rCatA K (.ref l) (.ref b) H Q := ⟨l, b, xs, zs, rfl, rfl, h1, h2, z, q⟩
end
theorem PE.imp {X : Cx} {e : Expr} {t t' : TE} (h : PE X e t) (i : ∀ σ H Q, t' σ H Q → t σ H Q) : PE X e t' := fun pins s σ H Q I q => h pins s σ H Q I (i _ _ _ q)
def tMakeA (C : Addr) : TE := fun _ H Q => ∀ x dx H2, NewI H x dx C [] H2 → Q (.ref x) H2
theorem pe_makeA {X : Cx} {C : Addr} {x : Str} {p pos : Pos} (M : MkN X.K C) (hg : Gl X x) (hm : X.mg x = some (.ref C)) (hdb : (x == ("__debug__" : Str)) = false := by decide) : PE X (.Call (.Name x p) [] [] pos) (tMakeA C) :=
  (pe_makeN M hg hm hdb).imp fun _ _ _ q x dx hx hd ne => q x dx _ ⟨hx, hd, ne, rfl⟩
theorem boot_ValueError : bootBuiltins "ValueError" = some (.type "ValueError") := by decide +kernel
theorem i_iteDt {c A B : Prop} [Decidable c] (h : c) (q : A) : if decide c = true then A else B := by rw [decide_eq_true h]; exact iteT q
theorem i_iteDf {c A B : Prop} [Decidable c] (h : ¬ c) (q : B) : if decide c = true then A else B := by rw [decide_eq_false h]; exact iteF q
end L2
set_option maxRecDepth 100000
set_option Elab.async false
set_option linter.all false
namespace L2
open PySem PySem.Spec PySem.W PyProof.Rows
def SameB (D : Addr) (H H' : Hp) : Prop := ∀ b u, b ≠ D → H b = some u → H' b = some u
theorem SameB.of {D : Addr} {H H' : Hp} (s : Same H H') : SameB D H H' := fun b u _ e => s b u e
theorem SameB.upd (D : Addr) (H : Hp) (o : HO) : SameB D H (L2.upd H D o) := fun b u n e => by rw [upd_ne n]; exact e
structure LcIt (J : It) (n : Nat) (H1 : Hp) (xs : Nat → V) : Prop where
  go : ∀ i H, i < n → Same H1 H → J.go i H
  yld : ∀ i H x H', i < n → Same H1 H → J.yld i H x H' → H' = H ∧ x = xs i
  stop : ∀ H, Same H1 H → J.stop n H
theorem LcIt.lst {K : Frag} {a : Addr} {H1 : Hp} {xs : List V} (hS : SqL K H1 a xs) : LcIt (Itl K a) xs.length H1 (fun i => xs.getD i .non) where
  go := fun i H hi s => ⟨xs, xs[i], s.seq hS, by simp [hi]⟩
  yld := fun i H x H' hi s y => by
    obtain ⟨e, y⟩ := y
    refine ⟨e, ?_⟩
    have := y xs (s.seq hS)
    rw [List.getD, this]; rfl
  stop := fun H s => ⟨xs, s.seq hS, Nat.le_refl _⟩
theorem LcIt.rng {lo : Int} {n : Nat} {H1 : Hp} : LcIt (Itr lo n) n H1 (fun i => .int (lo + i)) where
  go := fun i H hi s => hi
  yld := fun i H x H' hi s y => y
  stop := fun H s => Nat.le_refl _
theorem lcN {J : It} {n : Nat} {xs : Nat → V} {te : TE} {cs : St} {H1 : Hp} {Q : Addr → Hp → Prop} (L : LcIt J n H1 xs) (Pe : Addr → Nat → V → Hp → Prop) (hz : n ≤ sizeLine)
    (hm : ∀ D i y H H', SameB D H H' → Pe D i y H → Pe D i y H')
    (hx : ∀ (D : Addr) (i : Nat) (H' : Hp) (R : VK), i < n → H1 D = none → (∃ ys, H' D = some (.lst ys)) → Same H1 H' → (∀ y H'', Same H' H'' → Pe D i y H'' → R y H'') → te (some (xs i) :: cs) H' R)
    (q : ∀ D ys H2, H1 D = none → Same H1 H2 → H2 D = some (.lst ys) → ys.length = n → (∀ i y, ys[i]? = some y → Pe D i y H2) → Q D H2) :
    ∀ D, H1 D = none → ∃ W : Nat → Nat → List V → Hp → Prop, (∃ m, W 0 m [] (upd H1 D (.lst []))) ∧ ∀ i m ys H, W i m ys H →
      H D = some (.lst ys) ∧ ((J.stop i H ∧ Q D H) ∨ (J.go i H ∧ ys.length < sizeLine ∧ ∀ x H', J.yld i H x H' → tYes (some x :: cs) H' fun b H2 =>
        if b = true then te (some x :: cs) H2 fun y H3 => H3 D = some (.lst ys) ∧ ∃ m', m' < m ∧ W (i + 1) m' (ys ++ [y]) (upd H3 D (.lst (ys ++ [y]))) else ∃ m', m' < m ∧ W (i + 1) m' ys H2)) := by
  intro D hD
  refine ⟨fun i m ys H => m = n - i ∧ i ≤ n ∧ ys.length = i ∧ H D = some (.lst ys) ∧ Same H1 H ∧ ∀ j y, ys[j]? = some y → Pe D j y H, ⟨n, by simp, Nat.zero_le _, rfl, upd_same, Same.new hD, fun j y e => by simp at e⟩, ?_⟩
  rintro i m ys H ⟨rfl, hi, hyl, hHD, s1, hP⟩
  refine ⟨hHD, ?_⟩
  by_cases hlt : i < n
  · refine .inr ⟨L.go i H hlt s1, by omega, fun x H' y => ?_⟩
    obtain ⟨e, ex⟩ := L.yld i H x H' hlt s1 y
    subst e ex
    unfold tYes; dsimp only
    rw [if_pos rfl]
    refine hx D i _ _ hlt hD ⟨ys, hHD⟩ s1 fun y H'' s2 pe => ⟨s2 _ _ hHD, n - (i + 1), by omega, rfl, hlt, by simp [hyl], upd_same, fun b u e => ?_, fun j y' ej => ?_⟩
    · rw [upd_ne (ne_of_none e hD)]; exact s2 _ _ (s1 _ _ e)
    · refine hm D j y' _ _ (SameB.upd D H'' _) ?_
      by_cases hj : j < ys.length
      · rw [List.getElem?_append_left hj] at ej
        exact hm D j y' _ _ (SameB.of s2) (hP j y' ej)
      · rw [List.getElem?_append_right (by omega)] at ej
        have hj0 : j - ys.length = 0 := by
          by_cases h0 : j - ys.length = 0
          · exact h0
          · rw [List.getElem?_eq_none (by simp; omega)] at ej; cases ej
        rw [hj0] at ej
        have e1 : y = y' := by simpa using ej
        have e2 : j = i := by omega
        rw [← e1, e2]; exact pe
  · have e : i = n := by omega
    subst e
    exact .inl ⟨L.stop H s1, q D ys H hD s1 hHD hyl hP⟩
theorem lcNL {K : Frag} {a : Addr} {te : TE} {cs : St} {H1 : Hp} {Q : Addr → Hp → Prop} (xs : List V) (Pe : Addr → Nat → V → Hp → Prop) (hS : SqL K H1 a xs) (hz : xs.length ≤ sizeLine)
    (hm : ∀ D i y H H', SameB D H H' → Pe D i y H → Pe D i y H')
    (hx : ∀ (D : Addr) (i : Nat) (v : V) (H' : Hp) (R : VK), xs[i]? = some v → H1 D = none → (∃ ys, H' D = some (.lst ys)) → Same H1 H' → (∀ y H'', Same H' H'' → Pe D i y H'' → R y H'') → te (some v :: cs) H' R)
    (q : ∀ D ys H2, H1 D = none → Same H1 H2 → H2 D = some (.lst ys) → ys.length = xs.length → (∀ i y, ys[i]? = some y → Pe D i y H2) → Q D H2) :
    ∃ a', V.ref a = .ref a' ∧ (∃ xs, SqL K H1 a' xs) ∧ ∀ D, H1 D = none → ∃ W : Nat → Nat → List V → Hp → Prop, (∃ m, W 0 m [] (upd H1 D (.lst []))) ∧ ∀ i m ys H, W i m ys H →
      H D = some (.lst ys) ∧ (((Itl K a').stop i H ∧ Q D H) ∨ ((Itl K a').go i H ∧ ys.length < sizeLine ∧ ∀ x H', (Itl K a').yld i H x H' → tYes (some x :: cs) H' fun b H2 =>
        if b = true then te (some x :: cs) H2 fun y H3 => H3 D = some (.lst ys) ∧ ∃ m', m' < m ∧ W (i + 1) m' (ys ++ [y]) (upd H3 D (.lst (ys ++ [y]))) else ∃ m', m' < m ∧ W (i + 1) m' ys H2)) :=
  ⟨a, rfl, ⟨xs, hS⟩, lcN (LcIt.lst hS) Pe hz hm (fun D i H' R hi hD hy s r => by
    refine hx D i _ H' R ?_ hD hy s r
    rw [List.getD, List.getElem?_eq_getElem hi]; rfl) q⟩
structure HasV (K : Frag) (x : Str) (v : V) : Prop where
  ex : ∃ u, nsIn K mainGlobals x = some (some u) ∧ RelV v u
theorem hasV_int {K : Frag} {x : Str} {i : Int} {t : Tok} (h : nsIn K mainGlobals x = some (some (.int i t))) : HasV K x (.int i) := ⟨_, h, ⟨_, rfl⟩⟩
theorem pe_val {X : Cx} {x : Str} {v : V} {pos : Pos} (h : ∃ u, X.mg x = some u ∧ RelV v u) (hg : Gl X x) (hd : (x == ("__debug__" : Str)) = false := by decide) : PE X (.Name x pos) (tC v) := by
  obtain ⟨u, hm, r⟩ := h
  exact pe_glob hg hm r hd
theorem HasV.mg {K : Frag} {x : Str} {v : V} {h : Heap} {mg : Str → Option Value} (V : HasV K x v) (Kb : K.In h) (G : h.Ns mainGlobals mg) : ∃ u, mg x = some u ∧ RelV v u :=
  let ⟨u, a, r⟩ := V.ex
  ⟨u, PySem.W.mg_of Kb G a, r⟩
structure HasCI (K : Frag) (x : Str) (C : Addr) (qual : Str) (st : Stmt) : Prop where
  ns : nsIn K mainGlobals x = some (some (.ref C))
  cl : Cls K C
  ex : ∃ f fd, Mk K C f ∧ Fun K "__init__" qual st f fd
theorem hasCI_mk {K : Frag} {x qual : Str} {C : Addr} {st : Stmt} {f : Addr} {oc : Value} {od an : Option Addr} {osl : Array (Option Value)} {kV doc pm cdv ct : Value} (a : nsIn K mainGlobals x = some (some (.ref C))) (pg : plainGet K C Str.empty = true) (hd : hasDictIn K C = true) (po : plainOver K C = true)
    (sa : findIn K (.ref C) "__setattr__" = some (some (.builtin "object.__setattr__"))) (mk : makesIn K C = true) (i : findIn K (.ref C) "__init__" = some (some (.ref f))) (fn : isFn K (.ref f) = true) (kc : keepIn K (.ref C) = true)
    (l : K.lookup f = some ⟨oc, od, .func (PySem.W.fnOf "__init__" qual (defArgs st) (defBody st) (defScope st) .none kV doc pm an cdv ct), osl⟩)
    (c : codeIn K cdv qual = true) (k : keepIn K (.ref f) = true) : HasCI K x C qual st :=
  ⟨a, ⟨pg, hd, po, sa⟩, f, _, ⟨mk, i, fn, kc⟩, fun_mk l c k⟩
structure MkI (P : Program) (w : World) (K : Frag) (mg : Str → Option Value) (base : Heap) (k : Nat) (C : Addr) (ps : List Str) (sp : Sp) : Prop where
  ex : ∃ f fd, Mk K C f ∧ FnOk P w K mg base CX0 k f fd ps sp ∧ Binds K fd ps []
theorem HasCI.mki {P : Program} {w : World} {K : Frag} {mg : Str → Option Value} {base : Heap} {k : Nat} {x : Str} {C : Addr} {qual : Str} {st : Stmt} {N ps : List Str} {sp : Sp} (F : HasCI K x C qual st) (S : FnScope N ps (defScope st))
    (hbi : ∀ (kV doc pm : Value) (an : Option Addr) (cdv ct : Value) (us : List Value), us.length = ps.length → bindArgs (PySem.W.fnOf "__init__" qual (defArgs st) (defBody st) (defScope st) .none kV doc pm an cdv ct) ⟨us, []⟩ = pure (ps.zip us))
    (len : ∀ vs H Q E, sp vs H Q E → vs.length = ps.length)
    (hbody : ∀ (f : Addr) (cdv : Value) (A : Around) (outer : List Env) (s : Shared) (H : Hp) (vs : List V) (Q : VK) (E : XK), Room k (A.deeper (envOfC qual (defScope st) s.heap.objs.size f cdv)) → sp vs H Q E →
      ∃ t, PSs (cxOf CX0 P w K mg base N qual (defScope st) f cdv A outer s H E).nox (defBody st) t ∧ t { nx := fun _ H' => Q .non H', rt := Q } (start N vs) H) :
    MkI P w K mg base (k + 1) C ps sp := by
  obtain ⟨f, fd, a, F⟩ := F.ex
  exact ⟨f, fd, a, F.ok S len (hbody f), F.binds hbi⟩
theorem pe_makeI {X : Cx} {k : Nat} {C : Addr} {x : Str} {ps : List Str} {sp : Sp} {e : Expr} {es : List Expr} {t : TA} {p pos : Pos} (M : MkI X.prog X.w X.K X.mg X.base k C ps sp) (hr : Room (k + 1) X.A) (hg : Gl X x) (hm : X.mg x = some (.ref C)) (ha : PA X (e :: es) t)
    (hdb : (x == ("__debug__" : Str)) = false := by decide) (he : starEach (e :: es) X.env = (false, eval e X.env) :: starEach es X.env := by rfl) (hpl : (backTo pos (starEach es X.env)).any (·.1) = false := by rfl) :
    PE X (.Call (.Name x p) (e :: es) [] pos) (tMake C sp [] E0 t) := by
  obtain ⟨f, fd, m, F, hb⟩ := M.ex
  exact pe_make m F hr hg hm hb .nil pass0 ha hdb he hpl
theorem i_makeI {C : Addr} {sp : Sp} {t : TA} {σ : St} {H : Hp} {Q : VK} (q : t σ H fun vs H1 => ∀ x dx, H1 x = none → H1 dx = none → dx ≠ x → sp (.ref x :: (vs ++ [])) (upd (upd H1 dx (.own x)) x (.ins C dx [])) (fun v H2 => v = .non ∧ Q (.ref x) H2) E0) : tMake C sp [] E0 t σ H Q := q
section
variable {X : Cx} {K : Frag}
theorem ix_seqK (h : X.K = K) : IxR X (rIx K) := h ▸ ix_seq
theorem call_isiK (h : X.K = K) : CallR X (.builtin "isinstance") (rIsi K) := h ▸ call_isi
end
section
variable {K : Frag} {σ : St} {H : Hp} {Q : VK} {D : Ends}
theorem i_fld {ta : TE} {f : Str} (q : ta σ H fun x H1 => ∃ a C dx fs v, x = .ref a ∧ H1 a = some (.ins C dx fs) ∧ Cls K C ∧ NoAttr K C f ∧ fs.lookup f = some v ∧ Q v H1) : tFld K ta f σ H Q := q
theorem i_setFld {ta tv : TE} {f : Str} (q : tv σ H fun y H1 => ta σ H1 fun x H2 => ∃ a C dx fs, x = .ref a ∧ H2 a = some (.ins C dx fs) ∧ Cls K C ∧ NoAttr K C f ∧ fs.length < 1000 ∧ D.nx σ (upd H2 a (.ins C dx (putF f y fs)))) : sFld K ta tv f D σ H := q
theorem i_dnew (q : ∀ p, H p = none → Q (.ref p) (upd H p (.dK []))) : tDNewK σ H Q := q
theorem i_max {i j : Int} (q : Q (.int (max i j)) H) : ∃ i' j', [V.int i, V.int j] = [.int i', .int j'] ∧ Q (.int (if j' > i' then j' else i')) H :=
  ⟨i, j, rfl, by
    have e : (if j > i then j else i) = max i j := by by_cases h : j > i <;> simp [h] <;> omega
    rw [e]; exact q⟩
theorem i_chain {r r' : R2} {ta tb tc : TE} (q : ta σ H fun x H1 => tb σ H1 fun y H2 => r x y H2 fun z H3 => ∃ k, z = .bl k ∧ (if k = true then tc σ H3 fun w' H4 => r' y w' H4 Q else Q (.bl false) H3)) : tChain r r' ta tb tc σ H Q := q
theorem i_append {l : Addr} {xs : List V} {y : V} (h : H l = some (.lst xs)) (z : xs.length < sizeLine) (q : Q .non (upd H l (.lst (xs ++ [y])))) : rAppend (.ref l) [y] H Q := ⟨l, xs, y, rfl, rfl, h, z, q⟩
theorem i_isiI {i : Int} (kII : kitOne K (.type "int") (.type "int") = some true) (q : Q (.bl true) H) : rIsi K [.int i, .ty "int"] H Q := ⟨_, _, _, _, rfl, rfl, .int i, kII, q⟩
theorem i_isiT {a : Addr} {xs : List V} {T : String} {b : Bool} (e : H a = some (.tup xs)) (k : kitOne K (.type "tuple") (.type T) = some b) (q : Q (.bl b) H) : rIsi K [.ref a, .ty T] H Q := ⟨_, _, _, _, rfl, rfl, .tup e, k, q⟩
theorem i_isiL {a : Addr} {xs : List V} {T : String} {b : Bool} (e : H a = some (.lst xs)) (k : kitOne K (.type "list") (.type T) = some b) (q : Q (.bl b) H) : rIsi K [.ref a, .ty T] H Q := ⟨_, _, _, _, rfl, rfl, .lst e, k, q⟩
theorem i_gtup {n : Nat} {t : TGs} {a : Addr} {xs : List V} {Q : St → Hp → Prop} (h : SqT K H a xs) (l : xs.length = n) (q : t xs σ H Q) : gTup K n t (.ref a) σ H Q := ⟨a, xs, rfl, h, l, q⟩
theorem i_gcons {t : TG} {u : TGs} {v : V} {r : List V} {Q : St → Hp → Prop} (q : t v σ H fun σ' H' => u r σ' H' Q) : gCons t u (v :: r) σ H Q := ⟨v, r, rfl, q⟩
theorem i_gnil {Q : St → Hp → Prop} (q : Q σ H) : gNil [] σ H Q := ⟨rfl, q⟩
end
end L2
set_option maxRecDepth 100000
set_option Elab.async false
set_option linter.all false
namespace HT
open PySem PySem.Spec PyProof.Rows
section
variable {prog : Program} {w : World} {A : Around} {E : Value → Shared → Prop} {s : Shared}
end
end HT
namespace L2
open PySem PySem.Spec PySem.W PyProof.Rows
section
variable {X : Cx} {k : Nat} {f C : Addr} {fd : FuncData} {ps : List Str} {sp : Sp} {ES : XS} {x : Str} {p pos : Pos} {e : Expr} {es : List Expr} {t : TA} {dvs : List V} {ds : List Value}
end
section
variable {X : Cx}
def rSum (K : Frag) : List V → Hp → VK → Prop := fun xs H Q => ∃ p ns, xs = [.ref p] ∧ SqL K H p (List.map V.int ns) ∧ Q (.int ns.sum) H
theorem call_sum (hc : X.calm = true) : CallR X (.builtin "sum") (rSum X.K) := by
  intro pins s σ H xs us Q I r h
  obtain ⟨p, ns, rfl, hS, q⟩ := h
  obtain ⟨u, rfl, ru⟩ := r.one
  cases ru
  obtain ⟨its, rv, pl, hz⟩ := I.list hS
  have hi : IntsAre its ns := intsAre_of rv
  obtain ⟨xs, hx⟩ := hi.allInts.items
  have hl' : s.heap.IsList p (intItems xs) := by rw [← hx]; exact pl.isList
  refine sum_intListG (I.ok.hd hc) hl' fun h' tk t' hk => ?_
  have e1 : ns = xs.toList.map (·.1) := by
    rw [← nums_intItems, ← hx]
    exact (show numsOf its.toArray.toList = ns from hi.numsOf).symm
  have e2 : preSum (numAt xs) xs.size = ns.sum := by
    rw [preSum_eq, List.take_of_length_le (by simp), e1]
  rw [e2]
  exact ⟨.int ns.sum, H, I.kept (t' := tk) hk, ⟨_, rfl⟩, q⟩
theorem i_sum {K : Frag} {p : Addr} {ns : List Int} {H : Hp} {Q : VK} (h : SqL K H p (List.map V.int ns)) (q : Q (.int ns.sum) H) : rSum K [.ref p] H Q := ⟨p, ns, rfl, h, q⟩
def rIndexV (K : Frag) : V → List V → Hp → VK → Prop := fun x vs H Q => ∃ (p : Addr) (xs : List V) (w : V) (j : Nat), x = .ref p ∧ vs = [w] ∧ flatV w = true ∧ xs.all flatV = true ∧ SqL K H p xs ∧ j < xs.length ∧ (∀ y, xs[j]? = some y → eqV y w = true) ∧ (∀ i y, i < j → xs[i]? = some y → eqV y w = false) ∧ xs.length ≤ 1000 ∧ Q (.int (j : Nat)) H
theorem mt_indexV : MtR X "list.index" (rIndexV X.K) := by
  intro pins s σ H x vs v us Q I rx rv h
  obtain ⟨p, xs, w, j, rfl, rfl, fw, fl, hp, hj, he, hlt, hz, q⟩ := h
  cases rx
  obtain ⟨u, rfl, ru⟩ := rv.one
  obtain ⟨its, r, pl, _⟩ := I.list hp
  obtain ⟨⟨cls, dd, data, sl⟩, ho, hc, n, hd⟩ := id pl.isList
  simp only at hc hd
  subst hc hd
  have hl := r.length
  have at_ : ∀ (i : Nat) (hi : i < its.length) (hi2 : i < xs.length), eqU w its[i] = eqV xs[i] w := by
    intro i hi hi2
    obtain ⟨ui, e1, r1⟩ := r.get (i := i) (x := xs[i]) (List.getElem?_eq_getElem hi2)
    have e2 : its[i] = ui := by
      have := List.getElem?_eq_getElem hi
      rw [this] at e1; exact Option.some.inj e1
    rw [e2]
    exact eqU_of r1 (List.all_eq_true.mp fl _ (List.getElem_mem hi2))
  refine call_meets PySem.F.slot_list_index ⟨_, ho, rfl⟩ PySem.F.entry_list_index (PySem.F.args_list_index_2 _ _)
    (SeqAt.list_indexAt p its.toArray n dd sl u (eqU w) j (by simp; omega) (by omega) ?_ ?_) ⟨ho, fun y hy => mem_eqAt ru fw r fl y (by simpa using hy), ?_⟩
  · show eqU w its[j] = true
    rw [at_ j (by omega) hj]; exact he _ (List.getElem?_eq_getElem hj)
  · intro i hi hlt'
    have hi' : i < its.length := by simpa using hi
    show eqU w its[i] = false
    rw [at_ i hi' (by omega)]; exact hlt i _ hlt' (List.getElem?_eq_getElem (by omega))
  · exact ⟨.int (j : Nat), H, I.tok _, ⟨_, rfl⟩, q⟩
end
section
variable {X : Cx}
end
section
variable {prog : Program} {w : World} {A : Around} {E : Value → Shared → Prop} {s : Shared}
end
theorem boot_sum0 : bootBuiltins "sum" = some (.builtin "sum") := by decide +kernel
end L2
set_option maxRecDepth 100000
set_option Elab.async false
set_option linter.all false
namespace HT
open PySem PySem.Spec PyProof.Rows
section
variable {prog : Program} {w : World} {A : Around} {E : Value → Shared → Prop} {s : Shared}
end
end HT
namespace L2
open PySem PySem.Spec PySem.W PyProof.Rows
section
variable {X : Cx}
end
section
variable {X : Cx} {tg : Expr}
end
section
variable {X : Cx}
end
section
variable {X : Cx} {e : Expr} {t : TA} {p p' pos pos' : Pos}
theorem vals_keys {P : Program} {w : World} : ∀ {kvs : List (Key × V)} {vs : List (Key × Value)}, KV kvs vs → ∀ us : List Value, us.length = vs.length → (∀ (j : Nat) v, us[j]? = some v → ∃ k x, vs[j]? = some (k, x) ∧ (mixKind P w).is k v = true) → Vals (kvs.map fun kv => kV kv.1) us := by
  intro kvs vs r
  induction r with
  | nil => intro us hl _; cases us with
    | nil => exact .nil
    | cons _ _ => simp at hl
  | cons r1 _ ih =>
    intro us hl h
    cases us with
    | nil => simp at hl
    | cons u us =>
      obtain ⟨k, x, e, hk⟩ := h 0 u rfl
      simp only [List.getElem?_cons_zero, Option.some.injEq] at e
      refine .cons (show RelV (kV _) u from ?_) (ih us (by simpa using hl) fun j v e => by simpa using h (j + 1) v (by simpa using e))
      rw [e] at r1
      rw [r1.1]
      rcases keyIs_shape (show keyIs k u = true from hk) with ⟨i, t, rfl, rfl⟩ | ⟨z, t, rfl, rfl⟩
      · exact ⟨t, rfl⟩
      · exact ⟨t, rfl⟩
end
section
variable {σ : St} {H : Hp} {Q : VK} {td ty : TE}
theorem i_dix (q : td σ H fun x H1 => ty σ H1 fun y H2 => ∃ a v, x = .ref a ∧ DGet H2 a y (some v) ∧ Q v H2) : tDGet td ty σ H Q := q
end
end L2
set_option maxRecDepth 100000
set_option Elab.async false
set_option linter.all false
namespace L2
open PySem PySem.Spec PySem.W PyProof.Rows
section
variable {X : Cx} {pins : List (Addr × Obj)} {σ : St} {H : Hp} {s : Shared}
end
section
variable {X : Cx}
open Classical in
open Classical in
end
theorem lcF {J : It} {n : Nat} {xs : Nat → V} {tf : TT} {te : TE} {cs : St} {H1 : Hp} {Q : Addr → Hp → Prop} (L : LcIt J n H1 xs) (p : Nat → Bool) (f : Nat → V) (hz : n ≤ sizeLine)
    (hf : ∀ (i : Nat) (H' : Hp) (R : Bool → Hp → Prop), i < n → Same H1 H' → R (p i) H' → tf (some (xs i) :: cs) H' R)
    (hx : ∀ (i : Nat) (H' : Hp) (R : VK), i < n → p i = true → Same H1 H' → R (f i) H' → te (some (xs i) :: cs) H' R)
    (q : ∀ D H2, New H1 D (.lst (((List.range n).filter p).map f)) H2 → Q D H2) :
    ∀ D, H1 D = none → ∃ W : Nat → Nat → List V → Hp → Prop, (∃ m, W 0 m [] (upd H1 D (.lst []))) ∧ ∀ i m ys H, W i m ys H →
      H D = some (.lst ys) ∧ ((J.stop i H ∧ Q D H) ∨ (J.go i H ∧ ys.length < sizeLine ∧ ∀ x H', J.yld i H x H' → tf (some x :: cs) H' fun b H2 =>
        if b = true then te (some x :: cs) H2 fun y H3 => H3 D = some (.lst ys) ∧ ∃ m', m' < m ∧ W (i + 1) m' (ys ++ [y]) (upd H3 D (.lst (ys ++ [y]))) else ∃ m', m' < m ∧ W (i + 1) m' ys H2)) := by
  intro D hD
  refine ⟨fun i m ys H => m = n - i ∧ i ≤ n ∧ ys = ((List.range i).filter p).map f ∧ H = upd H1 D (.lst ys), ⟨n, by simp, Nat.zero_le _, by simp, rfl⟩, ?_⟩
  rintro i m ys H ⟨rfl, hi, hys, rfl⟩
  have s1 : Same H1 (upd H1 D (.lst ys)) := Same.upd (Same.refl H1) hD
  refine ⟨upd_same, ?_⟩
  by_cases hlt : i < n
  · have hyl : ys.length ≤ i := by
      rw [hys, List.length_map]
      exact Nat.le_trans (List.length_filter_le _ _) (Nat.le_of_eq List.length_range)
    refine .inr ⟨L.go i _ hlt s1, by omega, fun x H' y => ?_⟩
    obtain ⟨e, ex⟩ := L.yld i _ x H' hlt s1 y
    subst e ex
    refine hf i _ _ hlt s1 ?_
    cases hp : p i with
    | true =>
      rw [if_pos rfl]
      refine hx i _ _ hlt hp s1 ⟨upd_same, n - (i + 1), by omega, rfl, hlt, ?_, by rw [upd_upd]⟩
      rw [List.range_succ, List.filter_append, List.map_append, ← hys]
      simp [hp]
    | false =>
      rw [if_neg (by decide)]
      refine ⟨n - (i + 1), by omega, rfl, hlt, ?_, rfl⟩
      rw [List.range_succ, List.filter_append, List.map_append, ← hys]
      simp [hp]
  · have e : i = n := by omega
    subst e
    exact .inl ⟨L.stop _ s1, by rw [hys]; exact q D _ ⟨hD, rfl⟩⟩
end L2
set_option maxRecDepth 100000
set_option Elab.async false
set_option linter.all false
namespace L2
open PySem PySem.Spec PySem.W PyProof.Rows
section
variable {X : Cx} {scope : Scope} {x : Str} {caps : List Str} {ix : List Nat} {pins : List (Addr × Obj)} {σ : St} {H : Hp} {s : Shared}
end
end L2
set_option maxRecDepth 100000
set_option Elab.async false
set_option linter.all false
namespace L2
open PySem PySem.Spec PySem.W PyProof.Rows
section
variable {X : Cx} {scope : Scope} {xs : List Str} {caps : List Str} {ix : List Nat} {pins : List (Addr × Obj)} {σ : St} {H : Hp} {s : Shared}
end
end L2
set_option Elab.async false
set_option linter.all false
set_option maxHeartbeats 4000000
namespace L2
open PySem PyProof PyProof.Rows PySem.W
section
variable {X : Cx}
end
end L2
set_option Elab.async false
set_option linter.all false
set_option maxHeartbeats 4000000
set_option maxRecDepth 100000
namespace PySem
open Sem (wp)
namespace F
end F
section
variable {prog : Program} {w : World} {K : Type} [DecidableEq K] {knd : KeyKind prog w K} {A : Around} {R : Result → Shared → Prop}
end
section
variable {w : World} {prog : Program} {K : Type} [DecidableEq K] {knd : KeyKind prog w K} {s : Shared} {A : Around} {E : Value → Shared → Prop}
end
end PySem
namespace L2
open PySem PyProof PyProof.Rows PySem.W
section
variable {X : Cx}
theorem i_gsub {to ti : TE} {t : TSet} {v : V} {σ : St} {H : Hp} {Q : St → Hp → Prop} (q : to σ H fun o H1 => ti σ H1 fun i H2 => t o i v H2 fun H3 => Q σ H3) : gSub to ti t v σ H Q := q
end
end L2
set_option Elab.async false
set_option linter.all false
set_option maxHeartbeats 4000000
namespace L2
open PySem PyProof PyProof.Rows PySem.W
section
variable {X : Cx}
end
end L2
set_option Elab.async false
set_option linter.all false
set_option maxHeartbeats 4000000
set_option maxRecDepth 100000
namespace L2
open PySem PySem.Spec PyProof PyProof.Rows PySem.W
section
variable {X : Cx} {pins : List (Addr × Obj)} {σ : St} {H : Hp} {s : Shared}
end
section
variable {X : Cx} {pins : List (Addr × Obj)} {σ : St} {H : Hp} {s : Shared}
end
section
variable {X : Cx}
end
theorem pe_fldK {X : Cx} {K : PySem.W.Frag} {e : Expr} {f : Str} {pos : Pos} {ta : TE} (hK : X.K = K) (he : PE X e ta) (hb : attributeBase e f X.env (eval e X.env) = eval e X.env) : PE X (.Attribute e f pos) (tFld K ta f) := by
  subst hK; exact pe_fld he hb
def CDivB : Int → Int → Prop := fun _ j => 0 < j ∧ j.natAbs.log2 < 9000
theorem op_fdivB {X : Cx} : OpR X (binaryOp .FloorDiv) (rI CDivB fun i j => .int (i / j)) := opI fun i j _ _ _ _ _ hc q => by
  have h1 : (0 : Int) < j := hc.1
  exact floordiv_int (by omega) (by rw [Int.fdiv_eq_ediv_of_nonneg i (by omega)]; exact q) (.inl (PyProof.noPylong_of_log2 hc.2))
theorem i_divB {g : Int → Int → V} {i j : Int} {H : Hp} {Q : VK} (c : 0 < j ∧ j.natAbs.log2 < 9000) (q : Q (g i j) H) : rI CDivB g (.int i) (.int j) H Q := ⟨i, j, rfl, rfl, c, q⟩
theorem i_min {i j : Int} {H : Hp} {Q : VK} (q : Q (.int (if j < i then j else i)) H) : ∃ i' j', [V.int i, V.int j] = [.int i', .int j'] ∧ Q (.int (if j' < i' then j' else i')) H := ⟨i, j, rfl, q⟩
end L2
set_option Elab.async false
set_option linter.all false
set_option maxRecDepth 100000
namespace L2
open PySem PySem.Spec PySem.W PyProof.Rows
section
variable {X : Cx} {pins : List (Addr × Obj)} {σ : St} {H : Hp} {s : Shared} {e : Addr}
end
section
variable {prog : Program} {w : World} {A : Around} {E : Value → Shared → Prop} {h : Heap} {g : Array GenState} {d : Drawn} {t : Nat} {os : OsState} {K : Frag}
variable {nm q : Str} {C N fI : Addr} {bs bm bmB : List Value} {hdct : Bool} {sn : List Str} {sub : List Value} {ab : Bool} {col : Option Bool} {dd : Option Addr} {k0 k1 k2 k3 k5 : Option Value} {B newId initId : String}
end
section
variable {prog : Program} {w : World} {A : Around} {E : Value → Shared → Prop} {s : Shared} {env : Env} {K : Frag}
variable {nm q : Str} {C N fI : Addr} {bs bm bmB : List Value} {hdct : Bool} {sn : List Str} {sub : List Value} {ab : Bool} {col : Option Bool} {dd : Option Addr} {k0 k1 k2 k3 k5 : Option Value} {B newId initId : String}
end
section
variable {X : Cx} {ES : XS} {x : Str} {C L f : Addr} {fd : FuncData} {k : Nat} {ps : List Str} {sp : Sp} {np cpos pos : Pos} {a : Expr} {rest : List Expr} {t : TA}
end
section
variable {X : Cx} {y : Str} {C L f : Addr} {np apos pos : Pos} {e : Expr} {es : List Expr} {t : TA} {pl : Sem Bool}
end
section
variable {prog : Program} {w : World} {A : Around} {E : Value → Shared → Prop} {K : Frag} {s : Shared} {a C L fI : Addr} {oe : Obj} {od : Option Obj} {name : Str} {v : Value}
end
section
variable {X : Cx} {pins : List (Addr × Obj)} {σ : St} {H : Hp} {s : Shared} {A : Around} {E : Value → Shared → Prop} {a C L fI : Addr} {f : Str} {o e value : Expr} {pos pos' : Pos} {ta tv : TE}
end
end L2
set_option Elab.async false
set_option linter.all false
set_option maxRecDepth 100000
namespace L2
open PySem PySem.Spec PySem.W PyProof.Rows
section
variable {X : Cx} {k1 k2 : Nat} {ps1 ps2 : List Str} {sp1 sp2 : Sp} {ES : XS} {x : Str} {p pos : Pos} {e : Expr} {es : List Expr} {t : TA}
def tCallOr (sp1 sp2 : Sp) (ES : XS) (t : TA) : TE := fun σ H Q => t σ H fun vs H1 => sp1 (vs ++ []) H1 Q E0 ∨ sp2 (vs ++ []) H1 Q (ES σ)
theorem pe_callOr (D1 : Df X.prog X.w X.K X.mg X.base k1 x ps1 sp1) (D2 : DfX X.prog X.w X.K X.mg X.base k2 x ps2 sp2) (h1 : Room k1 X.A) (h2 : Room k2 X.A) (hx : ∀ v s, xeOf X ES v s → X.xe v s) (hg : Gl X x) (ha : PA X (e :: es) t)
    (hdb : (x == ("__debug__" : Str)) = false := by decide) (he : starEach (e :: es) X.env = (false, eval e X.env) :: starEach es X.env := by rfl) (hpl : (backTo pos (starEach es X.env)).any (·.1) = false := by rfl) :
    PE X (.Call (.Name x p) (e :: es) [] pos) (tCallOr sp1 sp2 ES t) := by
  obtain ⟨f, fd, hm, hk, hb, F⟩ := D1.ex
  obtain ⟨f', fd', hm', hk', hb', F'⟩ := D2.ex
  have ef : f = f' := by rw [hm] at hm'; cases hm'; rfl
  subst ef
  intro pins s σ H Q I h
  refine wpAny_Call_Name_kw (ld_glob I hg hm ?_ hdb)
  refine PySem.W.callWith_K (h₀ := X.base) I.ok.mod.kin hk (thn (ha pos pins s σ H _ I h) fun us s1 ⟨vs, H1, I1, r, q⟩ => ⟨I1.kIn, ?_⟩) he hpl
  rcases q with q | q
  · exact run_fn F h1 hb .nil pass0 I1 r q
  · exact run_fnX F' h2 hb' hx I1 r q
theorem i_callOr {σ : St} {H : Hp} {Q : VK} (q : t σ H fun vs H1 => sp1 (vs ++ []) H1 Q E0 ∨ sp2 (vs ++ []) H1 Q (ES σ)) : tCallOr sp1 sp2 ES t σ H Q := q
end
section
variable {prog : Program} {w : World} {A : Around} {E : Value → Shared → Prop} {s : Shared} {T : String} {r d : Addr} {n : Nat} {P : Nat → Value → Prop} {OK : Heap → Prop}
theorem collect_kdl {Q : List Value → Shared → Prop} (K : KdlSrc prog w T r d n P OK) (hh : A.handled = none) (hok : OK s.heap) (hn : n ≤ sizeLine)
    (h : ∀ (h' : Heap) (tk : Nat) (vs : List Value), (∀ b o, s.heap.get? b = some o → h'.get? b = some o) → vs.length = n → (∀ j v, vs[j]? = some v → P j v) → Q vs { s with heap := h', toks := tk }) : wpAny (model prog w) A (collect (.ref r)) Q E s := by
  have hlt := K.there _ hok
  unfold collect
  refine wpAny_bind (wpAny_runValue (codeAny_builtin entry_proto_collect' ?_))
  show wpAny _ _ (do again (.builtin "list.__iadd__" ⟨[← newList [], .ref r], []⟩)) _ _ s
  refine wpAny_bind (wpAny_newList (wpAny_pure ⟨Code.quiet_builtin _ (by decide +kernel), codeAny_builtin entry_list_iadd' ?_⟩))
  have ok' : OK (s.heap.push (seqObj "list" #[] 0)) := K.keep _ _ hok fun b _ o e => Heap.get?_push_of_some _ e
  rw [Around.under_plainId PySem.F.plain_list_iadd _]
  show wpAny _ A.in1 (Builtin.List.listExtendWith (.ref s.heap.objs.size) (.ref r) (.ref s.heap.objs.size)) _ _ { s with heap := s.heap.push (seqObj "list" #[] 0) }
  have fin : ∀ {s' : Shared}, (∃ (h' : Heap) (tk : Nat) (acc : Array Value) (c : Nat), s' = { s with heap := h', toks := tk } ∧ (∀ b o, s.heap.get? b = some o → h'.get? b = some o) ∧ h'.get? s.heap.objs.size = some { cls := .type "list", dict := none, data := .seq acc c, slots := #[] } ∧ ItemsOf P acc n) →
      wpAny (model prog w) A (do
        match (← load s.heap.objs.size).data with
        | .seq xs _ => pure xs.toList
        | _ => unsupported "internal:collect") Q E s' := by
    rintro s' ⟨h', tk, acc, c, rfl, hk, hS, hacc⟩
    refine wpAny_bind (wpAny_load hS ?_)
    exact wpAny_pure (h h' tk acc.toList hk (by rw [Array.length_toList]; exact hacc.1) fun j v e => hacc.2 j v (by rw [← Array.getElem?_toList]; exact e))
  refine wpAny_mono (kdl_extend (A := A) (s := { s with heap := s.heap.push (seqObj "list" #[] 0) }) (R := fun r s' => r = .ok (.ret (.ref s.heap.objs.size)) ∧ ∃ (h' : Heap) (tk : Nat) (acc : Array Value) (c : Nat), s' = { s with heap := h', toks := tk } ∧ (∀ b o, s.heap.get? b = some o → h'.get? b = some o) ∧ h'.get? s.heap.objs.size = some { cls := .type "list", dict := none, data := .seq acc c, slots := #[] } ∧ ItemsOf P acc n)
    K hh ok' s.heap.objs.size (Nat.ne_of_gt hlt.1) (Nat.ne_of_gt hlt.2) (.ref s.heap.objs.size) 0 (Heap.get?_push_size _ rfl) (fun h' tk acc' c' hk hS hacc => ⟨rfl, h', tk, acc', c', rfl, fun b o e => hk b o (Nat.ne_of_lt (Heap.lt_size e)) (Heap.get?_push_of_some _ e), hS, hacc⟩) hn) (fun f s' z => ?_) fun e s' z => ?_
  · cases f with
    | done f =>
      obtain ⟨e, z⟩ := z
      cases e
      exact fin z
    | again c =>
      refine ⟨z.1, codeAny_mono z.2 fun r s'' zz => ?_⟩
      obtain ⟨e, zz⟩ := zz
      cases e
      exact fin zz
  · obtain ⟨e', _⟩ := z
    cases e'
end
end L2
set_option Elab.async false
set_option linter.all false
set_option maxRecDepth 100000
namespace L2
open PySem PySem.Spec PySem.W PyProof.Rows
def tLstB (t : TA) : TE := fun σ H Q => t σ H fun xs H1 => xs.length ≤ sizeLine ∧ ∀ p H2, p ≠ sysModules → New H1 p (.lst xs) H2 → Q (.ref p) H2
section
variable {X : Cx} {es : List Expr} {t : TA} {pos : Pos}
theorem pe_lstB (h : PA X es t) : PE X (.List es pos) (tLstB t) := by
  intro pins s σ H Q I hq
  refine wpAny_List_spliced (thn (h pos pins s σ H _ I hq) fun us s1 ⟨xs, H1, I1, r, z, q⟩ => ⟨by rw [← r.length]; exact z, ?_⟩)
  have hf : H1 s1.heap.objs.size = none := I1.hok.fresh (Nat.le_refl _)
  refine ⟨.ref s1.heap.objs.size, upd H1 s1.heap.objs.size (.lst xs), I1.laid (t' := s1.toks) (fun b u e => Heap.get?_push_of_some _ e) (Nat.le_refl _) ?_, rfl, q _ _ (Nat.ne_of_gt I1.big) ⟨hf, rfl⟩⟩
  exact ⟨z, us, 0, r, Heap.get?_push_size _ rfl⟩
theorem i_lstB {σ : St} {H : Hp} {Q : VK} (q : t σ H fun xs H1 => xs.length ≤ sizeLine ∧ ∀ p H2, p ≠ sysModules → New H1 p (.lst xs) H2 → Q (.ref p) H2) : tLstB t σ H Q := q
end
def tLcB (wi : TI) (tf : TT) (te : TE) (ix : List Nat) : TE := fun σ H Q => wi σ H fun J H1 => ∀ D, H1 D = none → D ≠ sysModules → ∃ W : Nat → Nat → List V → Hp → Prop, (∃ m, W 0 m [] (upd H1 D (.lst []))) ∧ ∀ i m ys H, W i m ys H →
  H D = some (.lst ys) ∧ ((J.stop i H ∧ Q (.ref D) H) ∨ (J.go i H ∧ ys.length < sizeLine ∧ ∀ x H', J.yld i H x H' → tf (some x :: capV ix σ) H' fun b H2 =>
    if b = true then te (some x :: capV ix σ) H2 fun y H3 => H3 D = some (.lst ys) ∧ ∃ m', m' < m ∧ W (i + 1) m' (ys ++ [y]) (upd H3 D (.lst (ys ++ [y]))) else ∃ m', m' < m ∧ W (i + 1) m' ys H2))
section
variable {X : Cx} {scope : Scope} {x : Str} {caps : List Str} {ix : List Nat} {pins : List (Addr × Obj)} {σ : St} {H : Hp} {s : Shared}
theorem lc_coreB {elt iter : Expr} {ifs : List Expr} {px pos pos' : Pos} {wi : TI} {tf : TT} {te : TE} {use : Option (Value → Sem Unit)} {R : VK} {QQ : Value → Shared → Prop}
    (B : Blk X scope x caps ix) (hc : X.calm = true) (hi : PI X (.Name x px) iter wi) (hf : ∀ C s₀ H₀ ex, PF (blk X scope x caps C s₀ H₀ ex) ifs tf) (he : ∀ C s₀ H₀ ex, PE (blk X scope x caps C s₀ H₀ ex) elt te)
    (I : Inv X pins σ H s) (h : tLcB wi tf te ix σ H R)
    (hQ : ∀ (v : V) (u : Value) (H' : Hp) (C : Addr) (m : Str → Option Value) (s' : Shared), Inv X pins σ H' s' → RelV v u → R v H' → FpOk X pins H' C → s'.heap.Ns C m → compPost (model X.prog X.w) X.A X.xe use QQ u C (.ok .next) s')
    (hs : ∀ x, foldedSetIterable iter X.env x = pure x) :
    wpAny (model X.prog X.w) X.A (comprehension (.ListComp elt [⟨.Name x px, iter, ifs, 0⟩] scope pos) scope X.env pos' (newList []) false (eval iter X.env) use) QQ X.xe s := by
  refine wpAny_comprehension_free rfl hs (closure_eq (B.cells I.ok)) B.kind B.names (thn (hi pins s σ H _ I h) fun xv s1 h1 => thn h1 fun itv s2 h2 => ?_)
  obtain ⟨it, fp, tn, J, H2, e, I2, T, st2, f2, rest⟩ := h2
  subst e
  refine wpAny_newObj_type (wpAny_newFunctionEnv B.cell (by intro y hy; simp at hy) (fun h₁ hns₁ hsb₁ => ?_) B.kind)
  have hD : H2 s2.heap.objs.size = none := I2.fresh
  obtain ⟨W, ⟨m0, w0⟩, turn⟩ := rest s2.heap.objs.size hD (Nat.ne_of_gt I2.big)
  generalize hDn : s2.heap.objs.size = D at *
  have I3 : Inv X pins σ (upd H2 D (.lst [])) { s2 with heap := s2.heap.push { cls := .type "list", data := .seq ([] : List Value).toArray } } := by
    have := I2.lnew (ys := []) (its := []) (t' := s2.toks) .nil (Nat.zero_le _)
    rw [hDn] at this
    exact this
  generalize hs3 : ({ s2 with heap := s2.heap.push { cls := .type "list", data := .seq ([] : List Value).toArray } } : Shared) = s3 at *
  have fpD : ∀ b ∈ fp, b ≠ D := fun b hb => by
    obtain ⟨o, e, _⟩ := T.obj _ _ st2 b hb
    rw [← hDn]; exact Nat.ne_of_lt (Heap.lt_size e)
  have up3 : ∀ b o, s2.heap.get? b = some o → s3.heap.get? b = some o := fun b o e => by rw [← hs3]; exact Heap.get?_push_of_some _ e
  have f3 : ∀ b ∈ fp, FpOk X pins (upd H2 D (.lst [])) b := fun b hb => by
    obtain ⟨f0, fr⟩ := f2 b hb
    exact ⟨by rw [upd_ne (fpD b hb)]; exact f0, fr⟩
  have st3 : tn 0 s3.heap := T.keep _ _ _ st2 fun b _ o e => up3 b o e
  have fo : ∀ b ∈ fp, b < s3.heap.objs.size := fun b hb => by
    obtain ⟨o, e, _⟩ := T.obj _ _ st3 b hb
    exact Heap.lt_size e
  have eh : s2.heap.push { cls := .type "list", data := .seq ([] : List Value).toArray } = s3.heap := by rw [← hs3]
  have es : ∀ (g : Heap) (t : Nat), ({ s2 with heap := g, toks := t } : Shared) = { s3 with heap := g, toks := t } := fun g t => by rw [← hs3]
  have hn1 : h₁.Ns s3.heap.objs.size (fun _ => none) := hns₁
  have k1 : ∀ b o, s3.heap.get? b = some o → h₁.get? b = some o := fun b o e => by
    exact hsb₁.extBut b o (Nat.ne_of_lt (Heap.lt_size e)) (Heap.get?_push_of_some _ e)
  have I4 := blk_inv B I3 f3 fo (t' := s3.toks + ([] : List (Str × Value)).length) hn1 k1
  have st4 : tn 0 h₁ := T.keep _ _ _ st3 fun b _ o e => k1 b o e
  have post : ∀ σ' H' s', Inv (blk X scope x caps s3.heap.objs.size s3 (upd H2 D (.lst [])) fp) pins σ' H' s' → R (.ref D) H' → compPost (model X.prog X.w) X.A X.xe use QQ (.ref D) s3.heap.objs.size (.ok .next) s' := fun σ' H' s' I' r => by
    obtain ⟨I5, fC⟩ := blk_out I3 f3 I'
    obtain ⟨m, hm, _⟩ := I'.loc
    exact hQ (.ref D) _ H' _ m s' I5 rfl r fC hm
  have loop : codeAny (model X.prog X.w) X.A (.compLoop (.ListComp elt [⟨.Name x px, iter, ifs, 0⟩] scope pos) 0 (.ref it) (.ref D) (blk X scope x caps s3.heap.objs.size s3 (upd H2 D (.lst [])) fp).env)
      (compPost (model X.prog X.w) X.A X.xe use QQ (.ref D) s3.heap.objs.size) { s3 with heap := h₁, toks := s3.toks + ([] : List (Str × Value)).length } := by
    have fpc : ∀ {H' : Hp}, (∀ b ∈ fp, H' b = none) → ∀ b ∈ fp, FpOk (blk X scope x caps s3.heap.objs.size s3 (upd H2 D (.lst [])) fp) pins H' b := fun hn b hb => by
      obtain ⟨f0, f1, f2, f3, f4, f5⟩ := f3 b hb
      refine ⟨hn b hb, Nat.ne_of_lt (fo b hb), fun z => ?_, .inl hb, fun y c e => f4 y c (B.sub I3.ok e), f5⟩
      rcases List.mem_cons.mp (I3.stkSub b z) with q | q
      · exact f1 q
      · exact f2 q
    have hfx := hf s3.heap.objs.size s3 (upd H2 D (.lst [])) fp
    have hex := he s3.heap.objs.size s3 (upd H2 D (.lst [])) fp
    have hgx : PG (blk X scope x caps s3.heap.objs.size s3 (upd H2 D (.lst [])) fp) (.Name x px) (gName 0) := pg_name B.nd rfl (.inl (lookup_relabel_local B.loc)) (.inr (lookup_relabel_local B.loc))
    have hcx : (blk X scope x caps s3.heap.objs.size s3 (upd H2 D (.lst [])) fp).calm = true := hc
    refine codeAny_compLoop_tests (fun n s' => ∃ i ys H' o, Inv (blk X scope x caps s3.heap.objs.size s3 (upd H2 D (.lst [])) fp) pins (o :: capV ix σ) H' s' ∧ tn i s'.heap ∧ (∀ b ∈ fp, H' b = none) ∧ W i n ys H') ?_ m0
      ⟨0, [], _, none, I4, st4, fun b hb => (f3 b hb).1, w0⟩
    rintro n s5 ⟨i, ys, H5, o5, I5, st5, fr5, w5⟩
    obtain ⟨hD5, hstep⟩ := turn i n ys H5 w5
    rcases hstep with ⟨stop, r⟩ | ⟨go, hz, step⟩
    · refine thn (T.done (blk X scope x caps s3.heap.objs.size s3 (upd H2 D (.lst [])) fp) rfl rfl rfl hcx i pins s5 _ H5 _ I5 (fpc fr5) st5 stop) fun r' s6 ⟨hr, I6⟩ => ?_
      subst hr
      exact post _ _ _ I6 r
    · refine thn (T.item (blk X scope x caps s3.heap.objs.size s3 (upd H2 D (.lst [])) fp) rfl rfl rfl hcx i pins s5 _ H5 _ I5 (fpc fr5) st5 go) fun r' s6 ⟨u, hr, h6⟩ => ?_
      subst hr
      show wpAny _ _ (letOwnedTupleGo (.Name x px) (.ref it) u >>= fun _ => assign (.Name x px) (blk X scope x caps s3.heap.objs.size s3 (upd H2 D (.lst [])) fp).env u) _ _ _
      refine wpAny_bind (thn h6 fun _ s7 ⟨v, H7, I7, rv, y7, st7, fr7⟩ => ?_)
      have I7' := I7.pinned (fpc fr7) (T.obj _ _ st7)
      refine wpAny_mono (hgx _ s7 _ H7 v u _ I7' rv (show gName 0 v _ H7 (fun σ' H' => σ' = some v :: capV ix σ ∧ H' = H7) from ⟨rfl, rfl⟩)) (fun _ s8 ⟨σ8, H8, I8, e8, eH8⟩ => ?_) fun _ _ f => f.elim
      subst e8 eH8
      refine wpAny_mono (hfx _ s8 _ _ _ I8 (step v _ y7)) (fun ok s9 ⟨H9, I9, q9⟩ => ?_) fun _ _ f => f.elim
      have again : ∀ {n' : Nat} {ys' : List V} {HA : Hp} {sA : Shared}, n' < n → Inv (blk X scope x caps s3.heap.objs.size s3 (upd H2 D (.lst [])) fp) (pins ++ pinsAt fp s7.heap) (some v :: capV ix σ) HA sA → W (i + 1) n' ys' HA →
          ∃ m, m < n ∧ ∃ i ys H' o, Inv (blk X scope x caps s3.heap.objs.size s3 (upd H2 D (.lst [])) fp) pins (o :: capV ix σ) H' sA ∧ tn i sA.heap ∧ (∀ b ∈ fp, H' b = none) ∧ W i m ys H' := fun {n' ys' HA sA} hn IA wA => by
        refine ⟨n', hn, i + 1, ys', HA, _, IA.unpinned, T.keep _ _ _ st7 fun b hb o e => (IA.pin (b, o) (List.mem_append_right _ (List.mem_append_right _ (mem_pinsAt hb e)))).1, fun b hb => ?_, wA⟩
        obtain ⟨o, e, d⟩ := T.obj _ _ st7 b hb
        exact (IA.pin (b, o) (List.mem_append_right _ (List.mem_append_right _ (mem_pinsAt hb e)))).2.1
      cases ok with
      | false =>
        obtain ⟨n', hn, wA⟩ := q9
        exact again hn I9 wA
      | true =>
        refine wpAny_mono (hex _ s9 _ _ _ I9 q9) (fun u9 sA ⟨vA, HA, IA, rA, hDA, n', hn, wA⟩ => ?_) fun _ _ f => f.elim
        refine wpAny_mono (mt_append (X := blk X scope x caps s3.heap.objs.size s3 (upd H2 D (.lst [])) fp) _ sA _ HA (.ref D) [vA] (.ref D) [u9] (fun _ HB => W (i + 1) n' (ys ++ [vA]) HB) IA rfl (.cons rA .nil) ⟨D, ys, vA, rfl, rfl, hDA, hz, wA⟩) (fun _ sB ⟨_, HB, IB, _, wB⟩ => ?_) fun _ _ f => f.elim
        exact again hn IB wB
  exact codeAny_compStart_list loop (T.self _ 0 _ _ _ st4 loop)
theorem ps_lcB {i : Nat} {y : Str} {elt iter : Expr} {ifs : List Expr} {px py pos spos : Pos} {wi : TI} {tf : TT} {te : TE} (hN : X.N.Nodup) (hy : X.N[i]? = some y) (hl : X.env.kindOf y = some .local)
    (hsw : swapsWith (.ListComp elt [⟨.Name x px, iter, ifs, 0⟩] scope pos) (some (.Name y py)) spos.line X.env = pure true) (B : Blk X scope x caps ix) (hc : X.calm = true) (hi : PI X (.Name x px) iter wi)
    (hf : ∀ C s₀ H₀ ex, PF (blk X scope x caps C s₀ H₀ ex) ifs tf) (he : ∀ C s₀ H₀ ex, PE (blk X scope x caps C s₀ H₀ ex) elt te) (hs : ∀ x, foldedSetIterable iter X.env x = pure x := by intro _; rfl) :
    PS X (.Assign [.Name y py] (.ListComp elt [⟨.Name x px, iter, ifs, 0⟩] scope pos) spos) (tSetLc i (tLcB wi tf te ix)) := by
  intro pins s σ H D I h
  rw [exec_Assign_Name_used _ _ _ _ hsw]
  refine wpAny_bind (wpAny_standAt (wpAny_bind ?_))
  show wpAny _ X.A (do let _ ← comprehension (.ListComp elt [⟨.Name x px, iter, ifs, 0⟩] scope pos) scope X.env _ (newList []) false (eval iter X.env) (some (assign (.Name y py) X.env))) _ _ s
  refine wpAny_bind (wpAny_mono (lc_coreB (use := some (assign (.Name y py) X.env)) (QQ := fun _ s' => SP X pins D .next s') B hc hi hf he I h (fun v u H' C m s' I' r q fC hn => ?_) hs) (fun _ s' hq => wpAny_pure (wpAny_pure hq)) fun _ _ e => e)
  obtain ⟨oC, esC, epC, hoC, hdC, rC⟩ := id hn
  have I1 : Inv X (pins ++ pinsAt [C] s'.heap) σ H' s' := I'.pinned (fun b hb => by rw [List.mem_singleton.mp hb]; exact fC) (fun b hb => ⟨oC, by rw [List.mem_singleton.mp hb]; exact hoC, fun v z => by rw [hdC] at z; cases z⟩)
  show wpAny _ X.A (assign (.Name y py) X.env u) _ _ s'
  refine wpAny_assign_Name (store_ok I1 hN hy (.inl hl) r (fun s'' I2 => ?_) (.inr hl))
  have hC2 := I2.pin (C, oC) (List.mem_append_right _ (List.mem_append_right _ (mem_pinsAt (List.mem_singleton.mpr rfl) hoC)))
  refine ⟨m, ⟨oC, esC, epC, hC2.1, hdC, rC⟩, fun h' sb => ⟨σ.set i (some v), H', ?_, q⟩⟩
  obtain ⟨f0, f1, f2, f3, f4, f5⟩ := fC
  exact I2.unpinned.turned (t' := s''.toks) (fun b o hb e => (sb.2 b hb).trans e) f0 f1 f3 f4 f5
theorem i_lcB {wi : TI} {tf : TT} {te : TE} {ix : List Nat} {σ : St} {H : Hp} {Q : VK} (q : wi σ H fun J H1 => ∀ D, H1 D = none → D ≠ sysModules → ∃ W : Nat → Nat → List V → Hp → Prop, (∃ m, W 0 m [] (upd H1 D (.lst []))) ∧ ∀ i m ys H, W i m ys H →
  H D = some (.lst ys) ∧ ((J.stop i H ∧ Q (.ref D) H) ∨ (J.go i H ∧ ys.length < sizeLine ∧ ∀ x H', J.yld i H x H' → tf (some x :: capV ix σ) H' fun b H2 =>
    if b = true then te (some x :: capV ix σ) H2 fun y H3 => H3 D = some (.lst ys) ∧ ∃ m', m' < m ∧ W (i + 1) m' (ys ++ [y]) (upd H3 D (.lst (ys ++ [y]))) else ∃ m', m' < m ∧ W (i + 1) m' ys H2))) : tLcB wi tf te ix σ H Q := q
end
section
variable {prog : Program} {w : World} {A : Around} {E : Value → Shared → Prop} {s : Shared} {T : String} {r d : Addr} {n : Nat} {P : Nat → Value → Prop} {OK : Heap → Prop}
theorem sorted_kdlI {Q : Value → Shared → Prop} {ns : List Int} (K : KdlSrc prog w T r d n P OK) (hh : A.handled = none) (hok : OK s.heap) (h64 : n < 64) (hP : ∀ vs : List Value, vs.length = n → (∀ j v, vs[j]? = some v → P j v) → IntsAre vs ns)
    (h : ∀ (h1 : Heap) (tk : Nat) (h' : Heap) (e : Nat) (vs' : List Value) (ns' : List Int), (∀ b o, s.heap.get? b = some o → h1.get? b = some o) → (∀ b o, h1.get? b = some o → h'.get? b = some o) → h'.get? h1.objs.size = some (seqObj "list" vs'.toArray e) → IntsAre vs' ns' → ns'.Perm ns → ns'.Pairwise (· ≤ ·) → Q (.ref h1.objs.size) { s with heap := h', toks := tk }) :
    wpAny (model prog w) A (call (.builtin "sorted") [.ref r]) Q E s := by
  refine Calls.call_function_entry kind_sorted plain_sorted entry_sorted (args_sorted1 _) ?_
  unfold Builtin.«sorted»
  refine wpAny_bind (m := checkCount "sorted" 1 1 _) (wpAny_pure ?_)
  refine wpAny_bind (collect_kdl K hh hok (by rw [sizeLine_eq]; omega) fun h1 tk vs hk hl hv => ?_)
  have hS := hP vs hl hv
  refine wpAny_bind (wpAny_newList ?_ (by rw [sizeLine_eq]; omega))
  have ho : (h1.push (seqObj "list" vs.toArray 0)).get? h1.objs.size = some (seqObj "list" vs.toArray 0) := Heap.get?_push_size _ rfl
  show wpAny _ _ _ _ _ { s with heap := h1.push (seqObj "list" vs.toArray 0), toks := tk }
  refine wpAny_bind (wpAny_holding (wpAny_call_entry slot_list_sort ⟨_, ho, rfl⟩ entry_list_sort (list_sort_tree ho hS (by omega) fun out ns' b1 b2 b3 => ⟨_, rfl, ?_⟩) (args_list_sort _)))
  obtain ⟨e, he⟩ := sortedHeap_at (out := out) ho
  refine wpAny_pure ⟨_, rfl, h h1 tk _ e _ ns' hk (fun b o z => ?_) (by rw [Array.toArray_toList]; exact he) b1 b2 b3⟩
  rw [sortedHeap_old (Nat.ne_of_lt (Heap.lt_size z)) (by rw [size_push']; exact Nat.lt_succ_of_lt (Heap.lt_size z))]
  exact Heap.get?_push_of_some _ z
end
def rSortI (K : Frag) : List V → Hp → VK → Prop := fun xs H Q => ∃ (a : Addr) (kvs : List (Key × V)) (ns : List Int), xs = [.ref a] ∧ H a = some (.dK kvs) ∧ kvs.map (·.1) = ns.map Sum.inl ∧ kvs.length < 64 ∧
  ∀ D ys H2, ys.Perm ns → ys.Pairwise (· ≤ ·) → New H D (.lst (List.map V.int ys)) H2 → Q (.ref D) H2
theorem ints_vals : ∀ {vs : List Value} {ns : List Int}, IntsAre vs ns → Vals (List.map V.int ns) vs
  | _, _, .nil => .nil
  | _, _, .cons x t r => .cons ⟨t, rfl⟩ (ints_vals r)
theorem valsI : ∀ {ns : List Int} {vs : List Value}, Vals (List.map V.int ns) vs → IntsAre vs ns
  | [], _, .nil => .nil
  | z :: zs, _, .cons h r => by
    obtain ⟨t, rfl⟩ := h
    exact .cons z t (valsI r)
theorem call_sortI {X : Cx} (hc : X.calm = true) : CallR X (.builtin "sorted") (rSortI X.K) := by
  intro pins s σ H xs us Q I r h
  obtain ⟨a, kvs, zs, rfl, ha, hk, h64, q⟩ := h
  obtain ⟨u, rfl, rx⟩ := vals1 r
  cases rx
  obtain ⟨hz, lo, vs, rel, dd⟩ := dk_of I.hok ha
  obtain ⟨ep, hat⟩ := dd.dictAt
  have hlen := rel.length
  have ez : (kvs.map fun kv => kV kv.1) = List.map V.int zs := by
    have := congrArg (List.map kV) hk
    rw [List.map_map, List.map_map] at this
    exact this
  have hzl : zs.length = kvs.length := by have := congrArg List.length hk; rw [List.length_map, List.length_map] at this; exact this.symm
  refine sorted_kdlI (ns := zs) (kdl_dict (knd := mixKind X.prog X.w) (kvs := vs) (ep := ep) lo) (I.ok.hd hc) hat (by omega) (fun cs hl hv => ?_) fun h1 tk h' e ds ss k1 k2 hg hS hp hs => ?_
  · have := vals_keys (P := X.prog) (w := X.w) rel cs hl hv
    rw [ez] at this
    exact valsI this
  · have hss := (ints_vals hS).length
    rw [List.length_map] at hss
    have hpl := hp.length_eq
    have I1 : Inv X pins σ H { s with heap := h1, toks := tk } := I.kept (t' := tk) k1
    exact ⟨.ref h1.objs.size, _, I1.laid (t' := tk) k2 (Nat.le_refl _) (show ObjOk X.prog X.w _ h' _ (.lst (List.map V.int ss)) from ⟨by rw [List.length_map, sizeLine_eq]; omega, ds, e, ints_vals hS, hg⟩), rfl, q _ ss _ hp hs ⟨I1.hok.fresh (Nat.le_refl _), rfl⟩⟩
theorem i_sortI {K : Frag} {a : Addr} {kvs : List (Key × V)} {ns : List Int} {H : Hp} {Q : VK} (h : H a = some (.dK kvs)) (hk : kvs.map (·.1) = ns.map Sum.inl) (h64 : kvs.length < 64) (q : ∀ D ys H2, ys.Perm ns → ys.Pairwise (· ≤ ·) → New H D (.lst (List.map V.int ys)) H2 → Q (.ref D) H2) : rSortI K [.ref a] H Q := ⟨a, kvs, ns, rfl, h, hk, h64, q⟩
def tDSetD (td ty tx : TE) : TE := fun σ H Q => td σ H fun x H1 => ∃ a, x = .ref a ∧ IsD H1 a ∧ ty σ H1 fun y H2 => tx σ H2 fun z H3 => ∃ kvs k, H3 a = some (.dK kvs) ∧ y = kV k ∧ kvs.length < sizeLine ∧
  (∀ v, valV kvs k = some v → Q v H3) ∧ (valV kvs k = none → Q z (upd H3 a (.dK (putK kvs k z))))
section
variable {X : Cx} {o e f : Expr} {apos cpos : Pos} {td ty tx : TE}
theorem pe_dsetd (ho : PE X o td) (he : PE X e ty) (hf : PE X f tx) (m : M2 X o "setdefault" apos e f cpos) : PE X (.Call (.Attribute o "setdefault" apos) [e, f] [] cpos) (tDSetD td ty tx) := by
  intro pins s σ H Q I h
  refine wpAny_Call_method m.base m.few m.line PySem.F.plainAttrs_dict PySem.F.slot_dict_setdefault PySem.F.type_dict_setdefault (thn (ho pins s σ H _ I h) fun u s1 ⟨x, H1, I1, rx, a, ex, d, q1⟩ => ?_)
  subst ex
  obtain rfl : u = Value.ref a := rx
  obtain ⟨t1, t2, _⟩ := isD_at I1 d
  refine ⟨t1, t2, ?_⟩
  rw [m.trees]
  refine Calls.callWith_builtin rfl (Calls.evalArgs_plain (Calls.spliced_cons (thn (he pins s1 σ H1 _ I1 q1) fun iv s2 ⟨y, H2, I2, ry, q2⟩ =>
    Calls.spliced_cons (thn (hf pins s2 σ H2 _ I2 q2) fun fv s3 ⟨z, H3, I3, rz, kvs, k, ea, ey, hl, q3, q4⟩ => Calls.spliced_nil ?_))))
  subst ey
  obtain ⟨hz, hd, vs, rel, dd⟩ := dk_of I3.hok ea
  refine call_meetsIn PySem.F.slot_dict_setdefault dd.typeIs PySem.F.entry_dict_setdefault (PySem.F.args_dict_setdefault_3 _ _ _) (kt_meets_setdefault (mixKind X.prog X.w) a (kV_is ry) hd fv) ⟨vs, dd, by rw [← rel.length]; exact hz, fun v hv => ?_, fun hn h' dd' hs => ?_⟩
  · cases l : valV kvs k with
    | none =>
      have := RelO.none_of (o := valueAt vs k) (by rw [← l]; exact rel.val k)
      rw [hv] at this; cases this
    | some w' =>
      obtain ⟨u', hu', ru⟩ := RelO.some_of (v := w') (o := valueAt vs k) (by rw [← l]; exact rel.val k)
      rw [hv] at hu'; cases hu'
      exact ⟨w', H3, I3.tok _, ru, q3 w' l⟩
  · have l : valV kvs k = none := by
      cases l : valV kvs k with
      | none => rfl
      | some w' =>
        obtain ⟨u', hu', _⟩ := RelO.some_of (v := w') (o := valueAt vs k) (by rw [← l]; exact rel.val k)
        rw [hn] at hu'; cases hu'
    have he' : ∃ q, h'.get? a = some q := let ⟨q, _, _, hq, _⟩ := dd'; ⟨q, hq⟩
    have hz' : (putK kvs k z).length ≤ sizeLine := by have := length_putK kvs k z; omega
    exact ⟨z, _, d_write I3 (by rw [ea]; exact True.intro) hs he' (dk_new hz' hd (rel.put k rz) dd'), rz, q4 l⟩
theorem i_dsetd {σ : St} {H : Hp} {Q : VK} (q : td σ H fun x H1 => ∃ a, x = .ref a ∧ IsD H1 a ∧ ty σ H1 fun y H2 => tx σ H2 fun z H3 => ∃ kvs k, H3 a = some (.dK kvs) ∧ y = kV k ∧ kvs.length < sizeLine ∧
  (∀ v, valV kvs k = some v → Q v H3) ∧ (valV kvs k = none → Q z (upd H3 a (.dK (putK kvs k z))))) : tDSetD td ty tx σ H Q := q
theorem i_dpop2 {σ : St} {H : Hp} {Q : VK} (q : td σ H fun x H1 => ∃ a, x = .ref a ∧ IsD H1 a ∧ ty σ H1 fun y H2 => tx σ H2 fun z H3 => ∃ kvs k, H3 a = some (.dK kvs) ∧ y = kV k ∧
  (∀ v, valV kvs k = some v → Q v (upd H3 a (.dK (dropK kvs k)))) ∧ (valV kvs k = none → Q z H3)) : tDPop2 td ty tx σ H Q := q
end
mutual
inductive Rp (H : Hp) : V → PyData → Prop
  | int (i : Int) : Rp H (.int i) (.int i)
  | str (z : Str) : Rp H (.str z) (.str z)
  | lst {a : Addr} {xs : List V} {ds : List PyData} : a ≠ sysModules → H a = some (.lst xs) → RpA H xs ds → Rp H (.ref a) (.list ds)
  | tup {a : Addr} {xs : List V} {ds : List PyData} : H a = some (.tup xs) → RpA H xs ds → Rp H (.ref a) (.tuple ds)
  | dk {a : Addr} {kvs : List (Key × V)} {ds : List (PyData × PyData)} : H a = some (.dK kvs) → RpA H (kvs.map fun kv => kV kv.1) (ds.map (·.1)) → RpA H (kvs.map (·.2)) (ds.map (·.2)) → Rp H (.ref a) (.dict ds)
inductive RpA (H : Hp) : List V → List PyData → Prop
  | nil : RpA H [] []
  | cons {v : V} {d : PyData} {vs : List V} {ds : List PyData} : Rp H v d → RpA H vs ds → RpA H (v :: vs) (d :: ds)
end
mutual
theorem Rp.same {H H' : Hp} (s : Same H H') : ∀ {v : V} {d : PyData}, Rp H v d → Rp H' v d
  | _, _, .int i => .int i
  | _, _, .str z => .str z
  | _, _, .lst n h r => .lst n (s _ _ h) (RpA.same s r)
  | _, _, .tup h r => .tup (s _ _ h) (RpA.same s r)
  | _, _, .dk h r r' => .dk (s _ _ h) (RpA.same s r) (RpA.same s r')
theorem RpA.same {H H' : Hp} (s : Same H H') : ∀ {vs : List V} {ds : List PyData}, RpA H vs ds → RpA H' vs ds
  | _, _, .nil => .nil
  | _, _, .cons h r => .cons (h.same s) (r.same s)
end
theorem pairs_keys {P : Program} {w : World} : ∀ {es : List DictEntry} {vs : List (Key × Value)} {kvs : List (Key × V)}, Pairs (mixKind P w) es vs → KV kvs vs → Vals (kvs.map fun kv => kV kv.1) (es.map (·.key)) ∧ Vals (kvs.map (·.2)) (es.map (·.val))
  | [], _, _, .nil, .nil => ⟨.nil, .nil⟩
  | e :: es, _, _, .cons h1 h2 hp, .cons r rs => by
    obtain ⟨a, b⟩ := pairs_keys hp rs
    exact ⟨.cons (by
      have := vals_keys (P := P) (w := w) (kvs := [_]) (vs := [_]) (.cons r .nil) [e.key] rfl (fun j v hj => by
        cases j with
        | zero => cases hj; exact ⟨_, _, rfl, h1⟩
        | succ j => simp at hj)
      cases this with
      | cons q _ => exact q) a, .cons (by show RelV _ e.val; rw [h2]; exact r.2) b⟩
section
variable {X : Cx} {pins : List (Addr × Obj)} {σ : St} {H : Hp} {s : Shared}
mutual
theorem Rp.reads (I : Inv X pins σ H s) : ∀ {v : V} {d : PyData}, Rp H v d → ∀ {u : Value}, RelV v u → ∃ as, Reads s.heap u d as ∧ sysModules ∉ as
  | _, _, .int i, u, r => by
    obtain ⟨t, rfl⟩ := (show ∃ t, u = Value.int i t from r)
    exact ⟨[], .int i t, by simp⟩
  | _, _, .str z, u, r => by
    obtain ⟨t, rfl⟩ := (show ∃ t, u = Value.str z t from r)
    exact ⟨[], .str z t, by simp⟩
  | _, _, .lst n h ra, u, r => by
    cases (show u = Value.ref _ from r)
    obtain ⟨its, m, rv, ho, _⟩ := I.lst h
    obtain ⟨as, h1, h2⟩ := RpA.reads I ra rv
    exact ⟨_, .list ho rfl rfl (by simpa using h1), by
      intro hm
      rcases List.mem_cons.mp hm with e | e
      · exact n e.symm
      · exact h2 e⟩
  | _, _, .tup h ra, u, r => by
    cases (show u = Value.ref _ from r)
    obtain ⟨_, its, rv, o, ho, hc, m, hd⟩ := I.hok _ _ h
    obtain ⟨as, h1, h2⟩ := RpA.reads I ra rv
    exact ⟨as, .tuple ho hc hd (by simpa using h1), h2⟩
  | _, _, .dk h ra rb, u, r => by
    cases (show u = Value.ref _ from r)
    obtain ⟨hz, lo, vs, rel, o, es, ep, ho, hx, hd, _, hp, _⟩ := dk_of I.hok h
    obtain ⟨k1, k2⟩ := pairs_keys hp rel
    obtain ⟨as, h1, h2⟩ := RpA.reads I ra k1
    obtain ⟨bs, h3, h4⟩ := RpA.reads I rb k2
    refine ⟨_, .dict ho hx.1 hd h1 h3, fun hm => ?_⟩
    rw [List.cons_append] at hm
    rcases List.mem_cons.mp hm with e | e
    · rw [← e] at lo; simp at lo
    · rcases List.mem_append.mp e with e | e
      · exact h2 e
      · exact h4 e
theorem RpA.reads (I : Inv X pins σ H s) : ∀ {vs : List V} {ds : List PyData}, RpA H vs ds → ∀ {us : List Value}, Vals vs us → ∃ as, ReadsAll s.heap us ds as ∧ sysModules ∉ as
  | _, _, .nil, _, .nil => ⟨[], .nil, by simp⟩
  | _, _, .cons h r, _, .cons a b => by
    obtain ⟨as, h1, h2⟩ := h.reads I a
    obtain ⟨bs, h3, h4⟩ := r.reads I b
    exact ⟨_, .cons h1 h3, fun hm => (List.mem_append.mp hm).elim h2 h4⟩
end
end
def rRepr (K : Frag) : List V → Hp → VK → Prop := fun xs H Q => ∃ (a : Addr) (d : PyData), xs = [.ref a] ∧ Rp H (.ref a) d ∧ d.showable = true ∧ d.depth ≤ 40 ∧ d.shown.length ≤ sizeLine ∧ Q (.str d.shown) H
theorem call_repr {X : Cx} (hg : X.A.guards = some []) (hu : X.A.units + 64 < cLine) : CallR X (.builtin "repr") (rRepr X.K) := by
  intro pins s σ H xs us Q I r h
  obtain ⟨a, d, rfl, hr, hs, hd, hz, q⟩ := h
  obtain ⟨u, rfl, rx⟩ := vals1 r
  cases rx
  obtain ⟨as, h1, h2⟩ := hr.reads I (show RelV (.ref a) (.ref a) from rfl)
  exact repr_of_reads' h1 hs (fun _ => h2) hg (by omega) (fun _ _ e => e) (fun h' u tk hk => ⟨.str d.shown, H, I.kept (t' := tk) hk, ⟨u, rfl⟩, q⟩) hz
theorem i_repr {K : Frag} {a : Addr} {d : PyData} {H : Hp} {Q : VK} (hr : Rp H (.ref a) d) (hs : d.showable = true) (hd : d.depth ≤ 40) (hz : d.shown.length ≤ sizeLine) (q : Q (.str d.shown) H) : rRepr K [.ref a] H Q := ⟨a, d, rfl, hr, hs, hd, hz, q⟩
theorem i_fldaug {K : Frag} {ta tv : TE} {rd : V → V → Hp → VK → Prop} {f : Str} {D : Ends} {σ : St} {H : Hp} (q : ta σ H fun x H1 => ∃ a C dx fs v, x = .ref a ∧ H1 a = some (.ins C dx fs) ∧ Cls K C ∧ NoAttr K C f ∧ fs.lookup f = some v ∧
  tv σ H1 fun y H2 => rd v y H2 fun z H3 => ∃ dx' fs', H3 a = some (.ins C dx' fs') ∧ fs'.length < 1000 ∧ D.nx σ (upd H3 a (.ins C dx' (putF f z fs')))) : sFldAug K ta tv rd f D σ H := q
end L2
set_option Elab.async false
set_option linter.all false
set_option maxRecDepth 100000
set_option maxHeartbeats 4000000
namespace Lap
open PySem L2
seal PE PA PT PS PSs PW PI PG
local macro_rules | `(tactic| walk_at "rd1") => `(tactic| first
  | (with_reducible refine i_callX ?_) | (with_reducible refine i_chain ?_) | (with_reducible refine i_gcons ?_) | (with_reducible refine i_gnil ?_) | (with_reducible refine i_inS ?_) | (with_reducible refine i_max ?_) | (with_reducible refine i_raise ?_) | (with_reducible refine i_bm0 ?_) | (with_reducible refine i_bm ?_) | (with_reducible refine i_fmt ?_) | (with_reducible refine i_jNil ?_) | (with_reducible refine i_jRepr ?_) | (with_reducible refine i_jPlain ?_) | (with_reducible refine i_lstA ?_) | (with_reducible refine i_lstB ?_) | (with_reducible refine i_tupA ?_)
  | (with_reducible refine i_seq ?_) | (with_reducible refine i_sl ?_) | (with_reducible refine i_noPart ?_) | (with_reducible refine i_part ?_) | (with_reducible refine i_partI ?_) | (with_reducible refine i_eqB ?_) | (with_reducible refine i_ret ?_) | (with_reducible refine i_ifS ?_) | (with_reducible refine i_asg ?_) | (with_reducible refine i_name ?_) | (with_reducible refine i_next ?_) | (with_reducible refine i_drop ?_)
  | (with_reducible refine i_op ?_) | (with_reducible refine i_un ?_) | (with_reducible refine i_C ?_)
  | ((with_reducible show tVar _ _ _ _); refine ⟨_, rfl, ?_⟩)
  | (with_reducible refine i_I0 ?_) | (with_reducible refine i_U ?_) | (with_reducible refine i_test ?_) | (with_reducible refine i_B ?_) | (with_reducible refine i_bl ?_)
  | (with_reducible refine i_eqI ?_) | (with_reducible refine i_eqS ?_) | (with_reducible refine i_neI ?_) | (with_reducible refine i_neS ?_)
  | (with_reducible refine i_and ?_) | (with_reducible refine i_or ?_) | (with_reducible refine i_not ?_) | (with_reducible refine i_andV ?_) | (with_reducible refine i_orV ?_) | (with_reducible refine i_notV ?_) | (with_reducible refine i_if ?_)
  | (with_reducible refine i_call ?_) | (with_reducible refine i_CB ?_) | (with_reducible refine i_nil ?_) | (with_reducible refine i_cons ?_)
  | (with_reducible refine iteT ?_) | (with_reducible refine iteF ?_) | (with_reducible refine iteNT ?_) | (with_reducible refine iteNF ?_)
  | ((with_reducible refine i_mod ?_ ?_); (first | assumption | (decide +kernel) | omega))
  | ((with_reducible refine i_div ?_ ?_); (decide +kernel))
  | ((with_reducible refine i_pow ?_ ?_); (decide +kernel)))
local macro_rules | `(tactic| walk_at "rd") => `(tactic| repeat (walk_at "rd1"))
def top (i : Nat) : Stmt := PySem.Challenge.pw_lapwork_k62_run_of_any_sheet.main.body.getD i (.Pass ⟨0, 0, 0, 0⟩)
abbrev st_Deed_of : Stmt := inClass (top 24) 1
theorem sc_Deed_of : FnScope ["self", "numbers", "measure"] ["self", "numbers", "measure"] (defScope st_Deed_of) := ⟨rfl, rfl, rfl, by decide +kernel, rfl, by decide +kernel, by decide +kernel⟩
abbrev st_Sum_of : Stmt := inClass (top 25) 1
theorem sc_Sum_of : FnScope ["self", "numbers", "measure"] ["self", "numbers", "measure"] (defScope st_Sum_of) := ⟨rfl, rfl, rfl, by decide +kernel, rfl, by decide +kernel, by decide +kernel⟩
abbrev st_Less_of : Stmt := inClass (top 26) 1
theorem sc_Less_of : FnScope ["self", "numbers", "measure"] ["self", "numbers", "measure"] (defScope st_Less_of) := ⟨rfl, rfl, rfl, by decide +kernel, rfl, by decide +kernel, by decide +kernel⟩
abbrev st_Times_of : Stmt := inClass (top 27) 1
theorem sc_Times_of : FnScope ["self", "numbers", "measure"] ["self", "numbers", "measure"] (defScope st_Times_of) := ⟨rfl, rfl, rfl, by decide +kernel, rfl, by decide +kernel, by decide +kernel⟩
abbrev st_Least_of : Stmt := inClass (top 28) 1
theorem sc_Least_of : FnScope ["self", "numbers", "measure"] ["self", "numbers", "measure"] (defScope st_Least_of) := ⟨rfl, rfl, rfl, by decide +kernel, rfl, by decide +kernel, by decide +kernel⟩
abbrev st_Most_of : Stmt := inClass (top 29) 1
theorem sc_Most_of : FnScope ["self", "numbers", "measure"] ["self", "numbers", "measure"] (defScope st_Most_of) := ⟨rfl, rfl, rfl, by decide +kernel, rfl, by decide +kernel, by decide +kernel⟩
abbrev st_Pick_of : Stmt := inClass (top 30) 1
theorem sc_Pick_of : FnScope ["self", "numbers", "measure"] ["self", "numbers", "measure"] (defScope st_Pick_of) := ⟨rfl, rfl, rfl, by decide +kernel, rfl, by decide +kernel, by decide +kernel⟩
abbrev st_deed_of : Stmt := top 34
theorem sc_deed_of : FnScope ["word"] ["word"] (defScope st_deed_of) := ⟨rfl, rfl, rfl, by decide +kernel, rfl, by decide +kernel, by decide +kernel⟩
abbrev st_check_turns : Stmt := top 37
theorem sc_check_turns : FnScope ["turns"] ["turns"] (defScope st_check_turns) := ⟨rfl, rfl, rfl, by decide +kernel, rfl, by decide +kernel, by decide +kernel⟩
abbrev st_Sheet___init__ : Stmt := inClass (top 39) 0
theorem sc_Sheet___init__ : FnScope ["self", "pace", "held", "stages", "shorts", "ahead", "middle", "tails"] ["self", "pace", "held", "stages", "shorts", "ahead", "middle", "tails"] (defScope st_Sheet___init__) := ⟨rfl, rfl, rfl, by decide +kernel, rfl, by decide +kernel, by decide +kernel⟩
abbrev st_run : Stmt := top 41
theorem sc_run : FnScope ["measure", "sheet", "turns", "feeds", "boxes", "machine", "over", "passings", "passing"] ["measure", "sheet", "turns", "feeds", "boxes"] (defScope st_run) := ⟨rfl, rfl, rfl, by decide +kernel, rfl, by decide +kernel, by decide +kernel⟩
abbrev st_Machine___init__ : Stmt := inClass (top 42) 0
theorem sc_Machine___init__ : FnScope ["self", "measure", "feeds", "boxes"] ["self", "measure", "feeds", "boxes"] (defScope st_Machine___init__) := ⟨rfl, rfl, rfl, by decide +kernel, rfl, by decide +kernel, by decide +kernel⟩
abbrev st_Machine_do_part : Stmt := inClass (top 42) 1
theorem sc_Machine_do_part : FnScope ["self", "part", "later", "steps", "word", "delay", "box", "reads", "name", "offset", "turn", "number"] ["self", "part", "later"] (defScope st_Machine_do_part) := ⟨rfl, rfl, rfl, by decide +kernel, rfl, by decide +kernel, by decide +kernel⟩
abbrev st_Machine_numbers_got : Stmt := inClass (top 42) 2
theorem sc_Machine_numbers_got : FnScope ["self", "word", "reads", "name", "turn"] ["self", "word", "reads", "name", "turn"] (defScope st_Machine_numbers_got) := ⟨rfl, rfl, rfl, by decide +kernel, rfl, by decide +kernel, by decide +kernel⟩
abbrev st_Machine_land : Stmt := inClass (top 42) 3
theorem sc_Machine_land : FnScope ["self", "tick", "landing", "box", "number"] ["self", "tick"] (defScope st_Machine_land) := ⟨rfl, rfl, rfl, by decide +kernel, rfl, by decide +kernel, by decide +kernel⟩
abbrev st_Machine_land_all : Stmt := inClass (top 42) 4
theorem sc_Machine_land_all : FnScope ["self", "tick"] ["self"] (defScope st_Machine_land_all) := ⟨rfl, rfl, rfl, by decide +kernel, rfl, by decide +kernel, by decide +kernel⟩
abbrev st_law_cell_at : Stmt := top 44
theorem sc_law_cell_at : FnScope ["_law_script", "_law_k"] ["_law_script", "_law_k"] (defScope st_law_cell_at) := ⟨rfl, rfl, rfl, by decide +kernel, rfl, by decide +kernel, by decide +kernel⟩
abbrev st_law_whole : Stmt := top 45
theorem sc_law_whole : FnScope ["_law_found"] ["_law_found"] (defScope st_law_whole) := ⟨rfl, rfl, rfl, by decide +kernel, rfl, by decide +kernel, by decide +kernel⟩
abbrev st_law_alike : Stmt := top 46
theorem sc_law_alike : FnScope ["_law_found", "_law_due", "_law_k"] ["_law_found", "_law_due"] (defScope st_law_alike) := ⟨rfl, rfl, rfl, by decide +kernel, rfl, by decide +kernel, by decide +kernel⟩
abbrev st_law_mix : Stmt := top 47
theorem sc_law_mix : FnScope ["_law_cell", "_law_k", "_law_number"] ["_law_cell", "_law_k"] (defScope st_law_mix) := ⟨rfl, rfl, rfl, by decide +kernel, rfl, by decide +kernel, by decide +kernel⟩
abbrev st_law_wants : Stmt := top 48
theorem sc_law_wants : FnScope ["_law_word"] ["_law_word"] (defScope st_law_wants) := ⟨rfl, rfl, rfl, by decide +kernel, rfl, by decide +kernel, by decide +kernel⟩
abbrev st_law_makes : Stmt := top 49
theorem sc_law_makes : FnScope ["_law_word", "_law_numbers_here", "_law_measure", "_law_rests"] ["_law_word", "_law_numbers_here", "_law_measure"] (defScope st_law_makes) := ⟨rfl, rfl, rfl, by decide +kernel, rfl, by decide +kernel, by decide +kernel⟩
abbrev st_law_landed : Stmt := top 50
theorem sc_law_landed : FnScope ["_law_due", "_law_clock", "_law_boxes", "_law_tick", "_law_box", "_law_number"] ["_law_due", "_law_clock", "_law_boxes"] (defScope st_law_landed) := ⟨rfl, rfl, rfl, by decide +kernel, rfl, by decide +kernel, by decide +kernel⟩
abbrev st_law_begun : Stmt := top 51
theorem sc_law_begun : FnScope ["_law_step_here", "_law_base", "_law_feeds", "_law_boxes", "_law_measure", "_law_numbers_here", "_law_read"] ["_law_step_here", "_law_base", "_law_feeds", "_law_boxes", "_law_measure"] (defScope st_law_begun) := ⟨rfl, rfl, rfl, by decide +kernel, rfl, by decide +kernel, by decide +kernel⟩
abbrev st_law_done : Stmt := top 52
theorem sc_law_done : FnScope ["_law_measure", "_law_parts_here", "_law_feeds", "_law_boxes", "_law_clock", "_law_due", "_law_told", "_law_part_here", "_law_base", "_law_steps", "_law_step_here", "_law_number", "_law_k"] ["_law_measure", "_law_parts_here", "_law_feeds", "_law_boxes"] (defScope st_law_done) := ⟨rfl, rfl, rfl, by decide +kernel, rfl, by decide +kernel, by decide +kernel⟩
abbrev st_law_parts : Stmt := top 53
theorem sc_law_parts : FnScope ["_law_held", "_law_stages", "_law_shorts", "_law_ahead", "_law_middle", "_law_tails", "_law_turns", "_law_over", "_law_parts_here", "_law_x"] ["_law_held", "_law_stages", "_law_shorts", "_law_ahead", "_law_middle", "_law_tails", "_law_turns"] (defScope st_law_parts) := ⟨rfl, rfl, rfl, by decide +kernel, rfl, by decide +kernel, by decide +kernel⟩
abbrev st_law_classes : Stmt := top 54
theorem sc_law_classes : FnScope ["_law_kept", "_law_found"] ["_law_kept"] (defScope st_law_classes) := ⟨rfl, rfl, rfl, by decide +kernel, rfl, by decide +kernel, by decide +kernel⟩
abbrev st_law_step : Stmt := top 55
theorem sc_law_step : FnScope ["_law_script", "_law_number", "_law_boxes", "_law_word", "_law_reads", "_law_k", "_law_digit", "_law_name"] ["_law_script", "_law_number", "_law_boxes"] (defScope st_law_step) := ⟨rfl, rfl, rfl, by decide +kernel, rfl, by decide +kernel, by decide +kernel⟩
abbrev st_law_part : Stmt := top 56
theorem sc_law_part : FnScope ["_law_script", "_law_at", "_law_boxes", "_law_ticks", "_law_k", "_law_many", "_law_steps", "_law_j"] ["_law_script", "_law_at", "_law_boxes"] (defScope st_law_part) := ⟨rfl, rfl, rfl, by decide +kernel, rfl, by decide +kernel, by decide +kernel⟩
abbrev st_law_numbers : Stmt := top 57
theorem sc_law_numbers : FnScope ["_law_script", "_law_at", "_law_many", "_law_made", "_law_k", "_law_number"] ["_law_script", "_law_at", "_law_many"] (defScope st_law_numbers) := ⟨rfl, rfl, rfl, by decide +kernel, rfl, by decide +kernel, by decide +kernel⟩
abbrev st_law_pair_alike : Stmt := top 58
theorem sc_law_pair_alike : FnScope ["_law_found", "_law_due", "_law_one"] ["_law_found", "_law_due"] (defScope st_law_pair_alike) := ⟨rfl, rfl, rfl, by decide +kernel, rfl, by decide +kernel, by decide +kernel⟩
abbrev st_law : Stmt := top 59
theorem sc_law : FnScope ["_law_script", "_law_head", "_law_boxes", "_law_held", "_law_stages", "_law_turns", "_law_measure", "_law_shorts", "_law_ahead", "_law_middle", "_law_tails", "_law_feeds", "_law_first", "_law_sheet", "_law_kept", "_law_due", "_law_caught", "_law_found", "e"] ["_law_script"] (defScope st_law) := ⟨rfl, rfl, rfl, by decide +kernel, rfl, by decide +kernel, by decide +kernel⟩
inductive Xk where
  | LapError
  | NoDeed
  | NoMeasure
  | BadRows
  | BadName
  | Twice
  | BadCount
  | BadNumber
  | NoRow
  | BadBack
  | TooEarly
  | BadTurns
  | Short
  | BadWidth
  | BadArms
  | NoArm
  | BadDelay
  | BadHold
  | BadPlan
  | Unfit
  | BadText
  | Sheet
  | Machine
  deriving DecidableEq
structure Tp0 (K : PySem.W.Frag) (C : Dk → Addr) (CE : Xk → Addr) : Prop where
  c_Sum : HasC K "Sum" (C .sum)
  c_Less : HasC K "Less" (C .less)
  c_Times : HasC K "Times" (C .times)
  c_Least : HasC K "Least" (C .least)
  c_Most : HasC K "Most" (C .most)
  c_Pick : HasC K "Pick" (C .pick)
  c_Same : HasC K "Same" (C .same)
  c_Tell : HasC K "Tell" (C .tell)
  c_Take : HasC K "Take" (C .take)
  g_LapError : PySem.W.nsIn K mainGlobals "LapError" = some (some (.ref (CE .LapError)))
  g_NoDeed : PySem.W.nsIn K mainGlobals "NoDeed" = some (some (.ref (CE .NoDeed)))
  g_NoMeasure : PySem.W.nsIn K mainGlobals "NoMeasure" = some (some (.ref (CE .NoMeasure)))
  g_BadRows : PySem.W.nsIn K mainGlobals "BadRows" = some (some (.ref (CE .BadRows)))
  g_BadName : PySem.W.nsIn K mainGlobals "BadName" = some (some (.ref (CE .BadName)))
  g_Twice : PySem.W.nsIn K mainGlobals "Twice" = some (some (.ref (CE .Twice)))
  g_BadCount : PySem.W.nsIn K mainGlobals "BadCount" = some (some (.ref (CE .BadCount)))
  g_BadNumber : PySem.W.nsIn K mainGlobals "BadNumber" = some (some (.ref (CE .BadNumber)))
  g_NoRow : PySem.W.nsIn K mainGlobals "NoRow" = some (some (.ref (CE .NoRow)))
  g_BadBack : PySem.W.nsIn K mainGlobals "BadBack" = some (some (.ref (CE .BadBack)))
  g_TooEarly : PySem.W.nsIn K mainGlobals "TooEarly" = some (some (.ref (CE .TooEarly)))
  g_BadTurns : PySem.W.nsIn K mainGlobals "BadTurns" = some (some (.ref (CE .BadTurns)))
  g_Short : PySem.W.nsIn K mainGlobals "Short" = some (some (.ref (CE .Short)))
  g_BadWidth : PySem.W.nsIn K mainGlobals "BadWidth" = some (some (.ref (CE .BadWidth)))
  g_BadArms : PySem.W.nsIn K mainGlobals "BadArms" = some (some (.ref (CE .BadArms)))
  g_NoArm : PySem.W.nsIn K mainGlobals "NoArm" = some (some (.ref (CE .NoArm)))
  g_BadDelay : PySem.W.nsIn K mainGlobals "BadDelay" = some (some (.ref (CE .BadDelay)))
  g_BadHold : PySem.W.nsIn K mainGlobals "BadHold" = some (some (.ref (CE .BadHold)))
  g_BadPlan : PySem.W.nsIn K mainGlobals "BadPlan" = some (some (.ref (CE .BadPlan)))
  g_Unfit : PySem.W.nsIn K mainGlobals "Unfit" = some (some (.ref (CE .Unfit)))
  g_BadText : PySem.W.nsIn K mainGlobals "BadText" = some (some (.ref (CE .BadText)))
  g_Sheet : PySem.W.nsIn K mainGlobals "Sheet" = some (some (.ref (CE .Sheet)))
  g_Machine : PySem.W.nsIn K mainGlobals "Machine" = some (some (.ref (CE .Machine)))
structure Tp1 (K : PySem.W.Frag) (C : Dk → Addr) (CE : Xk → Addr) : Prop where
  f_of_sum : HasM K (C .sum) "of" "Sum.of" st_Sum_of
  f_of_less : HasM K (C .less) "of" "Less.of" st_Less_of
  f_of_times : HasM K (C .times) "of" "Times.of" st_Times_of
  f_of_least : HasM K (C .least) "of" "Least.of" st_Least_of
  f_of_most : HasM K (C .most) "of" "Most.of" st_Most_of
  f_of_pick : HasM K (C .pick) "of" "Pick.of" st_Pick_of
  f_of_same : HasM K (C .same) "of" "Deed.of" st_Deed_of
  f_of_tell : HasM K (C .tell) "of" "Deed.of" st_Deed_of
  f_of_take : HasM K (C .take) "of" "Deed.of" st_Deed_of
  x_BadTurns : HasX K "BadTurns" (CE .BadTurns)
  m_BadTurns : PySem.W.mroIn K (CE .BadTurns) (.ref (CE .LapError)) = some true
  lapB : PySem.W.mroIn K (CE .LapError) (.type "BaseException") = some true
  lapT : PySem.W.typeIn K (.ref (CE .LapError)) = some (.type "type")
  i_Sheet : HasCI K "Sheet" (CE .Sheet) "Sheet.__init__" st_Sheet___init__
  i_Machine : HasCI K "Machine" (CE .Machine) "Machine.__init__" st_Machine___init__
  f_Machine_do_part : HasM K (CE .Machine) "do_part" "Machine.do_part" st_Machine_do_part
  f_Machine_numbers_got : HasM K (CE .Machine) "numbers_got" "Machine.numbers_got" st_Machine_numbers_got
  f_Machine_land : HasM K (CE .Machine) "land" "Machine.land" st_Machine_land
  f_Machine_land_all : HasM K (CE .Machine) "land_all" "Machine.land_all" st_Machine_land_all
  w_MOST_TURNS : HasV K "MOST_TURNS" (.int 300)
  f_deed : HasF K "deed_of" st_deed_of
  f_cturns : HasF K "check_turns" st_check_turns
  f_run : HasF K "run" st_run
  f_cell : HasF K "_law_cell_at" st_law_cell_at
  f_whole : HasF K "_law_whole" st_law_whole
  f_alike : HasF K "_law_alike" st_law_alike
  f_mix : HasF K "_law_mix" st_law_mix
  f_wants : HasF K "_law_wants" st_law_wants
  f_makes : HasF K "_law_makes" st_law_makes
  f_landed : HasF K "_law_landed" st_law_landed
  f_begun : HasF K "_law_begun" st_law_begun
  f_done : HasF K "_law_done" st_law_done
  f_parts : HasF K "_law_parts" st_law_parts
  f_classes : HasF K "_law_classes" st_law_classes
  f_step : HasF K "_law_step" st_law_step
  f_part : HasF K "_law_part" st_law_part
structure Tp2 (K : PySem.W.Frag) (C : Dk → Addr) (CE : Xk → Addr) : Prop where
  f_numbers : HasF K "_law_numbers" st_law_numbers
  f_pair : HasF K "_law_pair_alike" st_law_pair_alike
  z_len : PySem.W.nsIn K mainGlobals "len" = some none
  z_isinstance : PySem.W.nsIn K mainGlobals "isinstance" = some none
  z_int : PySem.W.nsIn K mainGlobals "int" = some none
  z_bool : PySem.W.nsIn K mainGlobals "bool" = some none
  z_range : PySem.W.nsIn K mainGlobals "range" = some none
  z_min : PySem.W.nsIn K mainGlobals "min" = some none
  z_max : PySem.W.nsIn K mainGlobals "max" = some none
  z_list : PySem.W.nsIn K mainGlobals "list" = some none
  z_tuple : PySem.W.nsIn K mainGlobals "tuple" = some none
  z_str : PySem.W.nsIn K mainGlobals "str" = some none
  z_sum : PySem.W.nsIn K mainGlobals "sum" = some none
  z_sorted : PySem.W.nsIn K mainGlobals "sorted" = some none
  z_repr : PySem.W.nsIn K mainGlobals "repr" = some none
  z_ValueError : PySem.W.nsIn K mainGlobals "ValueError" = some none
  kII : PySem.W.kitOne K (.type "int") (.type "int") = some true
  kIB : PySem.W.kitOne K (.type "int") (.type "bool") = some false
  kTT : PySem.W.kitOne K (.type "tuple") (.type "tuple") = some true
  kTI : PySem.W.kitOne K (.type "tuple") (.type "int") = some false
  kIT : PySem.W.kitOne K (.type "int") (.type "tuple") = some false
  kLL : PySem.W.kitOne K (.type "list") (.type "list") = some true
  kSS : PySem.W.kitOne K (.type "str") (.type "str") = some true
  nS_pace : NoAttr K (CE .Sheet) "pace"
  nS_held : NoAttr K (CE .Sheet) "held"
  nS_stages : NoAttr K (CE .Sheet) "stages"
  nS_shorts : NoAttr K (CE .Sheet) "shorts"
  nS_ahead : NoAttr K (CE .Sheet) "ahead"
  nS_middle : NoAttr K (CE .Sheet) "middle"
  nS_tails : NoAttr K (CE .Sheet) "tails"
  nM_measure : NoAttr K (CE .Machine) "measure"
  nM_feeds : NoAttr K (CE .Machine) "feeds"
  nM_boxes : NoAttr K (CE .Machine) "boxes"
  nM_tick : NoAttr K (CE .Machine) "tick"
  nM_due : NoAttr K (CE .Machine) "due"
  nM_made : NoAttr K (CE .Machine) "made"
structure Tp3 (K : PySem.W.Frag) (C : Dk → Addr) (CE : Xk → Addr) : Prop where
  kX_BadTurns : ∀ f, f ≠ .LapError → f ≠ .Sheet → f ≠ .Machine → PySem.W.kitOne K (.ref (CE .BadTurns)) (.ref (CE f)) = some (decide (f = .BadTurns))
  kV_BadTurns : PySem.W.kitOne K (.ref (CE .BadTurns)) (.type "ValueError") = some true
  kL_BadTurns : PySem.W.kitOne K (.ref (CE .BadTurns)) (.ref (CE .LapError)) = some true
structure Tp (K : PySem.W.Frag) (C : Dk → Addr) (CE : Xk → Addr) : Prop extends Tp0 K C CE, Tp1 K C CE, Tp2 K C CE, Tp3 K C CE
structure Txt (K : PySem.W.Frag) (mg : Str → Option Value) (C : Dk → Addr) (CE : Xk → Addr) : Prop extends Tp K C CE where
  mg_Sum : mg "Sum" = some (.ref (C .sum))
  mg_Less : mg "Less" = some (.ref (C .less))
  mg_Times : mg "Times" = some (.ref (C .times))
  mg_Least : mg "Least" = some (.ref (C .least))
  mg_Most : mg "Most" = some (.ref (C .most))
  mg_Pick : mg "Pick" = some (.ref (C .pick))
  mg_Same : mg "Same" = some (.ref (C .same))
  mg_Tell : mg "Tell" = some (.ref (C .tell))
  mg_Take : mg "Take" = some (.ref (C .take))
  mg_LapError : mg "LapError" = some (.ref (CE .LapError))
  mg_NoDeed : mg "NoDeed" = some (.ref (CE .NoDeed))
  mg_NoMeasure : mg "NoMeasure" = some (.ref (CE .NoMeasure))
  mg_BadRows : mg "BadRows" = some (.ref (CE .BadRows))
  mg_BadName : mg "BadName" = some (.ref (CE .BadName))
  mg_Twice : mg "Twice" = some (.ref (CE .Twice))
  mg_BadCount : mg "BadCount" = some (.ref (CE .BadCount))
  mg_BadNumber : mg "BadNumber" = some (.ref (CE .BadNumber))
  mg_NoRow : mg "NoRow" = some (.ref (CE .NoRow))
  mg_BadBack : mg "BadBack" = some (.ref (CE .BadBack))
  mg_TooEarly : mg "TooEarly" = some (.ref (CE .TooEarly))
  mg_BadTurns : mg "BadTurns" = some (.ref (CE .BadTurns))
  mg_Short : mg "Short" = some (.ref (CE .Short))
  mg_BadWidth : mg "BadWidth" = some (.ref (CE .BadWidth))
  mg_BadArms : mg "BadArms" = some (.ref (CE .BadArms))
  mg_NoArm : mg "NoArm" = some (.ref (CE .NoArm))
  mg_BadDelay : mg "BadDelay" = some (.ref (CE .BadDelay))
  mg_BadHold : mg "BadHold" = some (.ref (CE .BadHold))
  mg_BadPlan : mg "BadPlan" = some (.ref (CE .BadPlan))
  mg_Unfit : mg "Unfit" = some (.ref (CE .Unfit))
  mg_BadText : mg "BadText" = some (.ref (CE .BadText))
  mg_Sheet : mg "Sheet" = some (.ref (CE .Sheet))
  mg_Machine : mg "Machine" = some (.ref (CE .Machine))
  nlen : mg "len" = none
  nisi : mg "isinstance" = none
  nint : mg "int" = none
  nbool : mg "bool" = none
  nrange : mg "range" = none
  nmin : mg "min" = none
  nmax : mg "max" = none
  nlist : mg "list" = none
  ntuple : mg "tuple" = none
  nstr : mg "str" = none
  nsum : mg "sum" = none
  nsorted : mg "sorted" = none
  nrepr : mg "repr" = none
  nVE : mg "ValueError" = none
  v_MOST_TURNS : ∃ u, mg "MOST_TURNS" = some u ∧ RelV (.int 300) u
section
variable {K : PySem.W.Frag} {mg : Str → Option Value} {C : Dk → Addr} {CE : Xk → Addr}
theorem Txt.cl (T : Txt K mg C CE) : ∀ d, Cls K (C d)
  | .sum => T.c_Sum.cl
  | .less => T.c_Less.cl
  | .times => T.c_Times.cl
  | .least => T.c_Least.cl
  | .most => T.c_Most.cl
  | .pick => T.c_Pick.cl
  | .same => T.c_Same.cl
  | .tell => T.c_Tell.cl
  | .take => T.c_Take.cl
theorem Txt.mk_Sum (T : Txt K mg C CE) : MkN K (C .sum) := T.c_Sum.mkn
theorem Txt.mk_Less (T : Txt K mg C CE) : MkN K (C .less) := T.c_Less.mkn
theorem Txt.mk_Times (T : Txt K mg C CE) : MkN K (C .times) := T.c_Times.mkn
theorem Txt.mk_Least (T : Txt K mg C CE) : MkN K (C .least) := T.c_Least.mkn
theorem Txt.mk_Most (T : Txt K mg C CE) : MkN K (C .most) := T.c_Most.mkn
theorem Txt.mk_Pick (T : Txt K mg C CE) : MkN K (C .pick) := T.c_Pick.mkn
theorem Txt.mk_Same (T : Txt K mg C CE) : MkN K (C .same) := T.c_Same.mkn
theorem Txt.mk_Tell (T : Txt K mg C CE) : MkN K (C .tell) := T.c_Tell.mkn
theorem Txt.mk_Take (T : Txt K mg C CE) : MkN K (C .take) := T.c_Take.mkn
theorem Tp.txt {h : Heap} (T : Tp K C CE) (X : K.In h) (G : h.Ns mainGlobals mg) : Txt K mg C CE where
  toTp := T
  mg_Sum := PySem.W.mg_of X G T.c_Sum.ns
  mg_Less := PySem.W.mg_of X G T.c_Less.ns
  mg_Times := PySem.W.mg_of X G T.c_Times.ns
  mg_Least := PySem.W.mg_of X G T.c_Least.ns
  mg_Most := PySem.W.mg_of X G T.c_Most.ns
  mg_Pick := PySem.W.mg_of X G T.c_Pick.ns
  mg_Same := PySem.W.mg_of X G T.c_Same.ns
  mg_Tell := PySem.W.mg_of X G T.c_Tell.ns
  mg_Take := PySem.W.mg_of X G T.c_Take.ns
  mg_LapError := PySem.W.mg_of X G T.g_LapError
  mg_NoDeed := PySem.W.mg_of X G T.g_NoDeed
  mg_NoMeasure := PySem.W.mg_of X G T.g_NoMeasure
  mg_BadRows := PySem.W.mg_of X G T.g_BadRows
  mg_BadName := PySem.W.mg_of X G T.g_BadName
  mg_Twice := PySem.W.mg_of X G T.g_Twice
  mg_BadCount := PySem.W.mg_of X G T.g_BadCount
  mg_BadNumber := PySem.W.mg_of X G T.g_BadNumber
  mg_NoRow := PySem.W.mg_of X G T.g_NoRow
  mg_BadBack := PySem.W.mg_of X G T.g_BadBack
  mg_TooEarly := PySem.W.mg_of X G T.g_TooEarly
  mg_BadTurns := PySem.W.mg_of X G T.g_BadTurns
  mg_Short := PySem.W.mg_of X G T.g_Short
  mg_BadWidth := PySem.W.mg_of X G T.g_BadWidth
  mg_BadArms := PySem.W.mg_of X G T.g_BadArms
  mg_NoArm := PySem.W.mg_of X G T.g_NoArm
  mg_BadDelay := PySem.W.mg_of X G T.g_BadDelay
  mg_BadHold := PySem.W.mg_of X G T.g_BadHold
  mg_BadPlan := PySem.W.mg_of X G T.g_BadPlan
  mg_Unfit := PySem.W.mg_of X G T.g_Unfit
  mg_BadText := PySem.W.mg_of X G T.g_BadText
  mg_Sheet := PySem.W.mg_of X G T.g_Sheet
  mg_Machine := PySem.W.mg_of X G T.g_Machine
  nlen := PySem.W.mg_none_of X G T.z_len
  nisi := PySem.W.mg_none_of X G T.z_isinstance
  nint := PySem.W.mg_none_of X G T.z_int
  nbool := PySem.W.mg_none_of X G T.z_bool
  nrange := PySem.W.mg_none_of X G T.z_range
  nmin := PySem.W.mg_none_of X G T.z_min
  nmax := PySem.W.mg_none_of X G T.z_max
  nlist := PySem.W.mg_none_of X G T.z_list
  ntuple := PySem.W.mg_none_of X G T.z_tuple
  nstr := PySem.W.mg_none_of X G T.z_str
  nsum := PySem.W.mg_none_of X G T.z_sum
  nsorted := PySem.W.mg_none_of X G T.z_sorted
  nrepr := PySem.W.mg_none_of X G T.z_repr
  nVE := PySem.W.mg_none_of X G T.z_ValueError
  v_MOST_TURNS := T.w_MOST_TURNS.mg X G
end
def Dk.wants : Dk → Nat
  | .pick => 3 | .same => 1 | .tell => 1 | .take => 0 | _ => 2
def spWhole : Sp := fun vs H Q _ => ∃ i : Int, vs = [.int i] ∧ Q (.bl true) H
def spCell (K : PySem.W.Frag) : Sp := fun vs H Q _ => ∃ (a : Addr) (ns : List Int) (k : Nat), vs = [.ref a, .int (k : Int)] ∧ SqL K H a (ns.map V.int) ∧ ∀ i : Int, Q (.int i) H
def spMix : Sp := fun vs H Q _ => ∃ (c : Int) (k : Nat), vs = [.int c, .int (k : Int)] ∧ k ≤ 1000 ∧ ∀ m : Nat, Q (.int (m : Int)) H
section
variable {P : Program} {w : World} {K : PySem.W.Frag} {mg : Str → Option Value} {base : Heap} {C : Dk → Addr} {CE : Xk → Addr}
theorem lenOf {d : Dk} : ∀ vs H Q E, spOf K d vs H Q E → vs.length = ["self", "numbers", "measure"].length := by
  rintro vs H Q E ⟨a, p, ns, m, rfl, _⟩
  rfl
theorem of_sum (T : Txt K mg C CE) : ∃ f fd, Meth K (C .sum) "of" f ∧ FnOk P w K mg base CX0 1 f fd ["self", "numbers", "measure"] (spOf K .sum) ∧ Binds K fd ["self", "numbers", "measure"] [] := by
  refine T.f_of_sum.fn sc_Sum_of (fun _ _ _ _ _ _ us hl => match us, hl with | [_, _, _], _ => rfl) lenOf (fun f cdv A outer s H vs Q E hr h => ?_)
  obtain ⟨a, p, ns, m, rfl, hS, hn, hm, ho, q⟩ := h
  have hn' : 2 ≤ ns.length := hn
  refine ⟨_, (pss_one (ps_ret (pe_op op_mod (pe_op op_add (pe_ix ix_seq (pv 1) pe_int (fun _ _ => rfl)) (pe_ix ix_seq (pv 1) pe_int (fun _ _ => rfl))) (pv 2)))), ?_⟩
  repeat' (first
    | (walk_at "rd1")
    | ((with_reducible show rIx _ (V.ref _) (V.int _) _ _); (first | refine i_ixL hS (at_ints 0 (by omega)) ?_ | refine i_ixL hS (at_ints 1 (by omega)) ?_ | refine i_ixL hS (at_ints 2 (by omega)) ?_))
    | ((with_reducible refine i_mul ?_ ?_); (exact ho rfl))
    | (refine ⟨_, _, rfl, ?_⟩)
    | (with_reducible refine i_iteI (fun e => ?_) (fun e => ?_)))
  exact q
theorem of_less (T : Txt K mg C CE) : ∃ f fd, Meth K (C .less) "of" f ∧ FnOk P w K mg base CX0 1 f fd ["self", "numbers", "measure"] (spOf K .less) ∧ Binds K fd ["self", "numbers", "measure"] [] := by
  refine T.f_of_less.fn sc_Less_of (fun _ _ _ _ _ _ us hl => match us, hl with | [_, _, _], _ => rfl) lenOf (fun f cdv A outer s H vs Q E hr h => ?_)
  obtain ⟨a, p, ns, m, rfl, hS, hn, hm, ho, q⟩ := h
  have hn' : 2 ≤ ns.length := hn
  refine ⟨_, (pss_one (ps_ret (pe_op op_mod (pe_op op_sub (pe_ix ix_seq (pv 1) pe_int (fun _ _ => rfl)) (pe_ix ix_seq (pv 1) pe_int (fun _ _ => rfl))) (pv 2)))), ?_⟩
  repeat' (first
    | (walk_at "rd1")
    | ((with_reducible show rIx _ (V.ref _) (V.int _) _ _); (first | refine i_ixL hS (at_ints 0 (by omega)) ?_ | refine i_ixL hS (at_ints 1 (by omega)) ?_ | refine i_ixL hS (at_ints 2 (by omega)) ?_))
    | ((with_reducible refine i_mul ?_ ?_); (exact ho rfl))
    | (refine ⟨_, _, rfl, ?_⟩)
    | (with_reducible refine i_iteI (fun e => ?_) (fun e => ?_)))
  exact q
theorem of_times (T : Txt K mg C CE) : ∃ f fd, Meth K (C .times) "of" f ∧ FnOk P w K mg base CX0 1 f fd ["self", "numbers", "measure"] (spOf K .times) ∧ Binds K fd ["self", "numbers", "measure"] [] := by
  refine T.f_of_times.fn sc_Times_of (fun _ _ _ _ _ _ us hl => match us, hl with | [_, _, _], _ => rfl) lenOf (fun f cdv A outer s H vs Q E hr h => ?_)
  obtain ⟨a, p, ns, m, rfl, hS, hn, hm, ho, q⟩ := h
  have hn' : 2 ≤ ns.length := hn
  refine ⟨_, (pss_one (ps_ret (pe_op op_mod (pe_op op_mulO (pe_ix ix_seq (pv 1) pe_int (fun _ _ => rfl)) (pe_ix ix_seq (pv 1) pe_int (fun _ _ => rfl))) (pv 2)))), ?_⟩
  repeat' (first
    | (walk_at "rd1")
    | ((with_reducible show rIx _ (V.ref _) (V.int _) _ _); (first | refine i_ixL hS (at_ints 0 (by omega)) ?_ | refine i_ixL hS (at_ints 1 (by omega)) ?_ | refine i_ixL hS (at_ints 2 (by omega)) ?_))
    | ((with_reducible refine i_mul ?_ ?_); (exact ho rfl))
    | (refine ⟨_, _, rfl, ?_⟩)
    | (with_reducible refine i_iteI (fun e => ?_) (fun e => ?_)))
  exact q
theorem of_least (T : Txt K mg C CE) : ∃ f fd, Meth K (C .least) "of" f ∧ FnOk P w K mg base CX0 1 f fd ["self", "numbers", "measure"] (spOf K .least) ∧ Binds K fd ["self", "numbers", "measure"] [] := by
  refine T.f_of_least.fn sc_Least_of (fun _ _ _ _ _ _ us hl => match us, hl with | [_, _, _], _ => rfl) lenOf (fun f cdv A outer s H vs Q E hr h => ?_)
  obtain ⟨a, p, ns, m, rfl, hS, hn, hm, ho, q⟩ := h
  have hn' : 2 ≤ ns.length := hn
  refine ⟨_, (pss_one (ps_ret (pe_callB (call_min2 rfl) rfl T.nmin PyProof.Rows.boot_min (pa_cons (pe_op op_mod (pe_ix ix_seq (pv 1) pe_int (fun _ _ => rfl)) (pv 2)) (pa_cons (pe_op op_mod (pe_ix ix_seq (pv 1) pe_int (fun _ _ => rfl)) (pv 2)) pa_nil (se rfl)) (se rfl)) (he := se rfl) (hpl := nst rfl)))), ?_⟩
  repeat' (first
    | (walk_at "rd1")
    | ((with_reducible show rIx _ (V.ref _) (V.int _) _ _); (first | refine i_ixL hS (at_ints 0 (by omega)) ?_ | refine i_ixL hS (at_ints 1 (by omega)) ?_ | refine i_ixL hS (at_ints 2 (by omega)) ?_))
    | ((with_reducible refine i_mul ?_ ?_); (exact ho rfl))
    | (refine ⟨_, _, rfl, ?_⟩)
    | (with_reducible refine i_iteI (fun e => ?_) (fun e => ?_)))
  exact q
theorem of_most (T : Txt K mg C CE) : ∃ f fd, Meth K (C .most) "of" f ∧ FnOk P w K mg base CX0 1 f fd ["self", "numbers", "measure"] (spOf K .most) ∧ Binds K fd ["self", "numbers", "measure"] [] := by
  refine T.f_of_most.fn sc_Most_of (fun _ _ _ _ _ _ us hl => match us, hl with | [_, _, _], _ => rfl) lenOf (fun f cdv A outer s H vs Q E hr h => ?_)
  obtain ⟨a, p, ns, m, rfl, hS, hn, hm, ho, q⟩ := h
  have hn' : 2 ≤ ns.length := hn
  refine ⟨_, (pss_one (ps_ret (pe_callB (call_max2 rfl) rfl T.nmax PyProof.Rows.boot_max (pa_cons (pe_op op_mod (pe_ix ix_seq (pv 1) pe_int (fun _ _ => rfl)) (pv 2)) (pa_cons (pe_op op_mod (pe_ix ix_seq (pv 1) pe_int (fun _ _ => rfl)) (pv 2)) pa_nil (se rfl)) (se rfl)) (he := se rfl) (hpl := nst rfl)))), ?_⟩
  repeat' (first
    | (walk_at "rd1")
    | ((with_reducible show rIx _ (V.ref _) (V.int _) _ _); (first | refine i_ixL hS (at_ints 0 (by omega)) ?_ | refine i_ixL hS (at_ints 1 (by omega)) ?_ | refine i_ixL hS (at_ints 2 (by omega)) ?_))
    | ((with_reducible refine i_mul ?_ ?_); (exact ho rfl))
    | (refine ⟨_, _, rfl, ?_⟩)
    | (with_reducible refine i_iteI (fun e => ?_) (fun e => ?_)))
  first | exact q | (rw [show max (ns.getD 0 0 % m) (ns.getD 1 0 % m) = (if ns.getD 1 0 % m > ns.getD 0 0 % m then ns.getD 1 0 % m else ns.getD 0 0 % m) by split <;> omega]; exact q)
theorem of_pick (T : Txt K mg C CE) : ∃ f fd, Meth K (C .pick) "of" f ∧ FnOk P w K mg base CX0 1 f fd ["self", "numbers", "measure"] (spOf K .pick) ∧ Binds K fd ["self", "numbers", "measure"] [] := by
  refine T.f_of_pick.fn sc_Pick_of (fun _ _ _ _ _ _ us hl => match us, hl with | [_, _, _], _ => rfl) lenOf (fun f cdv A outer s H vs Q E hr h => ?_)
  obtain ⟨a, p, ns, m, rfl, hS, hn, hm, ho, q⟩ := h
  have hn' : 3 ≤ ns.length := hn
  refine ⟨_, (pss_cons (ps_if (pt_cmpR op_eq (pe_op op_mod (pe_ix ix_seq (pv 1) pe_int (fun _ _ => rfl)) (pv 2)) pe_int (nomark _)) (pss_one (ps_ret (pe_op op_mod (pe_ix ix_seq (pv 1) pe_int (fun _ _ => rfl)) (pv 2)))) pss_nil)
    (pss_one (ps_ret (pe_op op_mod (pe_ix ix_seq (pv 1) pe_int (fun _ _ => rfl)) (pv 2))))), ?_⟩
  repeat' (first
    | (walk_at "rd1")
    | ((with_reducible show rIx _ (V.ref _) (V.int _) _ _); (first | refine i_ixL hS (at_ints 0 (by omega)) ?_ | refine i_ixL hS (at_ints 1 (by omega)) ?_ | refine i_ixL hS (at_ints 2 (by omega)) ?_))
    | ((with_reducible refine i_mul ?_ ?_); (exact ho rfl))
    | (refine ⟨_, _, rfl, ?_⟩)
    | (with_reducible refine i_iteI (fun e => ?_) (fun e => ?_)))
  all_goals
    have q' : Q (.int (if ns.getD 0 0 % m = 0 then ns.getD 2 0 % m else ns.getD 1 0 % m)) H := q
    first
    | (rw [if_pos (by assumption)] at q'; exact q')
    | (rw [if_neg (by assumption)] at q'; exact q')
theorem of_same (T : Txt K mg C CE) : ∃ f fd, Meth K (C .same) "of" f ∧ FnOk P w K mg base CX0 1 f fd ["self", "numbers", "measure"] (spOf K .same) ∧ Binds K fd ["self", "numbers", "measure"] [] := by
  refine T.f_of_same.fn sc_Deed_of (fun _ _ _ _ _ _ us hl => match us, hl with | [_, _, _], _ => rfl) lenOf (fun f cdv A outer s H vs Q E hr h => ?_)
  obtain ⟨a, p, ns, m, rfl, hS, hn, hm, ho, q⟩ := h
  have hn' : 1 ≤ ns.length := hn
  refine ⟨_, (pss_one (ps_ret (pe_op op_mod (pe_ix ix_seq (pv 1) pe_int (fun _ _ => rfl)) (pv 2)))), ?_⟩
  repeat' (first
    | (walk_at "rd1")
    | ((with_reducible show rIx _ (V.ref _) (V.int _) _ _); (first | refine i_ixL hS (at_ints 0 (by omega)) ?_ | refine i_ixL hS (at_ints 1 (by omega)) ?_ | refine i_ixL hS (at_ints 2 (by omega)) ?_))
    | ((with_reducible refine i_mul ?_ ?_); (exact ho rfl))
    | (refine ⟨_, _, rfl, ?_⟩)
    | (with_reducible refine i_iteI (fun e => ?_) (fun e => ?_)))
  exact q
theorem of_tell (T : Txt K mg C CE) : ∃ f fd, Meth K (C .tell) "of" f ∧ FnOk P w K mg base CX0 1 f fd ["self", "numbers", "measure"] (spOf K .tell) ∧ Binds K fd ["self", "numbers", "measure"] [] := by
  refine T.f_of_tell.fn sc_Deed_of (fun _ _ _ _ _ _ us hl => match us, hl with | [_, _, _], _ => rfl) lenOf (fun f cdv A outer s H vs Q E hr h => ?_)
  obtain ⟨a, p, ns, m, rfl, hS, hn, hm, ho, q⟩ := h
  have hn' : 1 ≤ ns.length := hn
  refine ⟨_, (pss_one (ps_ret (pe_op op_mod (pe_ix ix_seq (pv 1) pe_int (fun _ _ => rfl)) (pv 2)))), ?_⟩
  repeat' (first
    | (walk_at "rd1")
    | ((with_reducible show rIx _ (V.ref _) (V.int _) _ _); (first | refine i_ixL hS (at_ints 0 (by omega)) ?_ | refine i_ixL hS (at_ints 1 (by omega)) ?_ | refine i_ixL hS (at_ints 2 (by omega)) ?_))
    | ((with_reducible refine i_mul ?_ ?_); (exact ho rfl))
    | (refine ⟨_, _, rfl, ?_⟩)
    | (with_reducible refine i_iteI (fun e => ?_) (fun e => ?_)))
  exact q
theorem of_take (T : Txt K mg C CE) : ∃ f fd, Meth K (C .take) "of" f ∧ FnOk P w K mg base CX0 1 f fd ["self", "numbers", "measure"] (spOf K .take) ∧ Binds K fd ["self", "numbers", "measure"] [] := by
  refine T.f_of_take.fn sc_Deed_of (fun _ _ _ _ _ _ us hl => match us, hl with | [_, _, _], _ => rfl) lenOf (fun f cdv A outer s H vs Q E hr h => ?_)
  obtain ⟨a, p, ns, m, rfl, hS, hn, hm, ho, q⟩ := h
  have hn' : 1 ≤ ns.length := hn
  refine ⟨_, (pss_one (ps_ret (pe_op op_mod (pe_ix ix_seq (pv 1) pe_int (fun _ _ => rfl)) (pv 2)))), ?_⟩
  repeat' (first
    | (walk_at "rd1")
    | ((with_reducible show rIx _ (V.ref _) (V.int _) _ _); (first | refine i_ixL hS (at_ints 0 (by omega)) ?_ | refine i_ixL hS (at_ints 1 (by omega)) ?_ | refine i_ixL hS (at_ints 2 (by omega)) ?_))
    | ((with_reducible refine i_mul ?_ ?_); (exact ho rfl))
    | (refine ⟨_, _, rfl, ?_⟩)
    | (with_reducible refine i_iteI (fun e => ?_) (fun e => ?_)))
  exact q
theorem m_of (T : Txt K mg C CE) : MethI P w K mg base 1 "of" ["self", "numbers", "measure"] C (spOf K) := by
  refine ⟨fun d => ⟨T.cl d, ?_⟩⟩
  cases d
  · exact of_sum T
  · exact of_less T
  · exact of_times T
  · exact of_least T
  · exact of_most T
  · exact of_pick T
  · exact of_same T
  · exact of_tell T
  · exact of_take T
theorem d_deed (T : Txt K mg C CE) (Kb : K.In base) (G : base.Ns mainGlobals mg) : Df P w K mg base 1 "deed_of" ["word"] (spDeedA C) := by
  refine T.f_deed.df Kb G sc_deed_of (fun _ _ _ _ _ _ us hl => match us, hl with | [_], _ => rfl) (by rintro vs H Q E ⟨d, rfl, _⟩; rfl) (fun f cdv A outer s H vs Q E hr h => ?_)
  refine ⟨_, (pss_cons (ps_if (pt_cmpR op_eq (pv 0) pe_str (nomark _)) (pss_one (ps_ret (pe_makeA T.mk_Sum rfl T.mg_Sum))) pss_nil)
    (pss_cons (ps_if (pt_cmpR op_eq (pv 0) pe_str (nomark _)) (pss_one (ps_ret (pe_makeA T.mk_Less rfl T.mg_Less))) pss_nil)
    (pss_cons (ps_if (pt_cmpR op_eq (pv 0) pe_str (nomark _)) (pss_one (ps_ret (pe_makeA T.mk_Times rfl T.mg_Times))) pss_nil)
    (pss_cons (ps_if (pt_cmpR op_eq (pv 0) pe_str (nomark _)) (pss_one (ps_ret (pe_makeA T.mk_Least rfl T.mg_Least))) pss_nil)
    (pss_cons (ps_if (pt_cmpR op_eq (pv 0) pe_str (nomark _)) (pss_one (ps_ret (pe_makeA T.mk_Most rfl T.mg_Most))) pss_nil)
    (pss_cons (ps_if (pt_cmpR op_eq (pv 0) pe_str (nomark _)) (pss_one (ps_ret (pe_makeA T.mk_Pick rfl T.mg_Pick))) pss_nil)
    (pss_cons (ps_if (pt_cmpR op_eq (pv 0) pe_str (nomark _)) (pss_one (ps_ret (pe_makeA T.mk_Same rfl T.mg_Same))) pss_nil)
    (pss_cons (ps_if (pt_cmpR op_eq (pv 0) pe_str (nomark _)) (pss_one (ps_ret (pe_makeA T.mk_Tell rfl T.mg_Tell))) pss_nil)
    (pss_cons (ps_if (pt_cmpR op_eq (pv 0) pe_str (nomark _)) (pss_one (ps_ret (pe_makeA T.mk_Take rfl T.mg_Take))) pss_nil)
    (pss_one ps_never)))))))))), ?_⟩
  obtain ⟨d, rfl, k⟩ := h
  cases d
  all_goals
    repeat (first
      | (walk_at "rd1")
      | ((with_reducible refine i_iteSe ?_ ?_); (rfl))
      | ((with_reducible refine i_iteSf ?_ ?_); (decide +kernel)))
    exact k
theorem d_whole (T : Txt K mg C CE) (Kb : K.In base) (G : base.Ns mainGlobals mg) : Df P w K mg base 1 "_law_whole" ["_law_found"] spWhole := by
  refine T.f_whole.df Kb G sc_law_whole (fun _ _ _ _ _ _ us hl => match us, hl with | [_], _ => rfl) (by rintro vs H Q E ⟨i, rfl, _⟩; rfl) (fun f cdv A outer s H vs Q E hr h => ?_)
  obtain ⟨i, rfl, q⟩ := h
  refine ⟨_, (pss_one (ps_ret (pe_and (pe_callB call_isi rfl T.nisi PyProof.Rows.boot_isinstance (pa_cons (pv 0) (pa_cons (pe_bltn (v := .ty "int") rfl T.nint PyProof.Rows.boot_int rfl) pa_nil (se rfl)) (se rfl)) (he := se rfl) (hpl := nst rfl)) (pe_one (pe_not (pe_callB call_isi rfl T.nisi PyProof.Rows.boot_isinstance (pa_cons (pv 0) (pa_cons (pe_bltn (v := .ty "bool") rfl T.nbool PyProof.Rows.boot_bool rfl) pa_nil (se rfl)) (se rfl)) (he := se rfl) (hpl := nst rfl))))))), ?_⟩
  walk_at "rd"
  refine ⟨_, _, _, _, rfl, rfl, .int i, T.kII, ?_⟩
  walk_at "rd"
  refine ⟨_, _, _, _, rfl, rfl, .int i, T.kIB, ?_⟩
  walk_at "rd"
  exact q
theorem d_cell (T : Txt K mg C CE) (Kb : K.In base) (G : base.Ns mainGlobals mg) : Df P w K mg base 1 "_law_cell_at" ["_law_script", "_law_k"] (spCell K) := by
  refine T.f_cell.df Kb G sc_law_cell_at (fun _ _ _ _ _ _ us hl => match us, hl with | [_, _], _ => rfl) (by rintro vs H Q E ⟨a, ns, k, rfl, _⟩; rfl) (fun f cdv A outer s H vs Q E hr h => ?_)
  obtain ⟨a, ns, k, rfl, hS, q⟩ := h
  refine ⟨_, (pss_cons (ps_if (pt_cmpR op_lt (pv 1) (pe_callB call_len_seq rfl T.nlen PySem.boot_len (pa_cons (pv 0) pa_nil (se rfl)) (he := se rfl) (hpl := nst rfl)) (nomark _)) (pss_one (ps_ret (pe_ix ix_seq (pv 0) (pv 1) (fun _ _ => rfl)))) pss_nil)
    (pss_one (ps_ret pe_int))), ?_⟩
  walk_at "rd"
  refine ⟨a, _, rfl, .inl hS, ?_⟩
  walk_at "rd"
  refine i_iteD (fun hk => ?_) (fun hk => ?_)
  · walk_at "rd"
    rw [List.length_map] at hk
    refine i_ixL hS (at_ints k (by omega)) ?_
    exact q _
  · walk_at "rd"
    exact q _
theorem mod_b (x : Int) {m : Int} (h : 0 < m) : 0 ≤ x % m ∧ x % m < m := ⟨Int.emod_nonneg x (by omega), Int.emod_lt_of_pos x h⟩
theorem ok_of {a b : Int} (m n : Nat) (a0 : 0 ≤ a) (a1 : a < 2 ^ m) (b0 : 0 ≤ b) (b1 : b < 2 ^ n) (h : m + n ≤ 134217728) : IntMulOk a b := by
  refine mulOk_abs m n ?_ ?_ h
  · have : ((a.natAbs : Nat) : Int) < ((2 ^ m : Nat) : Int) := by
      rw [Int.natCast_pow]; show _ < (2 : Int) ^ m; omega
    exact Int.ofNat_lt.mp this
  · have : ((b.natAbs : Nat) : Int) < ((2 ^ n : Nat) : Int) := by
      rw [Int.natCast_pow]; show _ < (2 : Int) ^ n; omega
    exact Int.ofNat_lt.mp this
theorem d_mix (T : Txt K mg C CE) (Kb : K.In base) (G : base.Ns mainGlobals mg) : Df P w K mg base 1 "_law_mix" ["_law_cell", "_law_k"] spMix := by
  refine T.f_mix.df Kb G sc_law_mix (fun _ _ _ _ _ _ us hl => match us, hl with | [_, _], _ => rfl) (by rintro vs H Q E ⟨c, k, rfl, _⟩; rfl) (fun f cdv A outer s H vs Q E hr h => ?_)
  obtain ⟨c, k, rfl, hk, q⟩ := h
  refine ⟨_, (pss_cons (ps_set (i := 2) sc_law_mix.nd rfl (by first | exact Or.inl rfl | exact Or.inr rfl) (pe_op op_mod (pv 0) (pe_op op_pow pe_int pe_int)))
    (pss_cons (ps_set (i := 2) sc_law_mix.nd rfl (by first | exact Or.inl rfl | exact Or.inr rfl) (pe_op op_mod (pe_op op_mulO (pe_op op_add (pe_op op_add (pe_op op_mulO (pv 2) (pv 2)) (pe_op op_mulO (pe_op op_mulO pe_int (pv 1)) (pv 1))) pe_int) pe_int) (pe_op op_add (pe_op op_pow pe_int pe_int) pe_int)))
    (pss_one (ps_ret (pe_op op_mod (pe_op op_mulO (pv 2) pe_int) (pe_op op_add (pe_op op_pow pe_int pe_int) pe_int)))))), ?_⟩
  walk_at "rd"
  have b := mod_b c (show (0 : Int) < 10 ^ (60 : Int).toNat by decide +kernel)
  have e60 : (10 : Int) ^ (60 : Int).toNat < 2 ^ 200 := by decide +kernel
  generalize c % 10 ^ (60 : Int).toNat = n at *
  obtain ⟨b0, b1⟩ := b
  refine i_mul (ok_of 200 200 b0 (by omega) b0 (by omega) (by decide)) ?_
  walk_at "rd"
  refine i_mul (IntMulOk.of_left (by decide)) ?_
  walk_at "rd"
  have hk2 : (40503 : Int) * (k : Int) < 2 ^ 64 := by omega
  refine i_mul (ok_of 64 64 (by omega) hk2 (by omega) (by omega) (by decide)) ?_
  clear hk2 e60 b1 b0
  walk_at "rd"
  refine i_mul (IntMulOk.of_right (by decide)) ?_
  walk_at "rd"
  have b2 := mod_b ((n * n + 40503 * (k : Int) * (k : Int) + 7919) * 1812433253982451697) (show (0 : Int) < 10 ^ (18 : Int).toNat + 9 by decide +kernel)
  have e18 : (10 : Int) ^ (18 : Int).toNat + 9 < 2 ^ 64 := by decide +kernel
  generalize (n * n + 40503 * (k : Int) * (k : Int) + 7919) * 1812433253982451697 % (10 ^ (18 : Int).toNat + 9) = m2 at *
  refine i_mul (ok_of 64 200 b2.1 (by omega) (by decide) (by decide) (by decide)) ?_
  clear e18 b2
  walk_at "rd"
  have b3 := mod_b (m2 * 739108512309184756019283746561) (show (0 : Int) < 10 ^ (40 : Int).toNat + 121 by decide +kernel)
  generalize m2 * 739108512309184756019283746561 % (10 ^ (40 : Int).toNat + 121) = m3 at *
  obtain ⟨r, rfl⟩ := Int.eq_ofNat_of_zero_le b3.1
  exact q r
theorem line_big : 10000 ≤ sizeLine := by rw [sizeLine_eq]; decide
def spLWants : Sp := fun vs H Q _ => ∃ d : Dk, vs = [.str d.word] ∧ ∀ H2, Same H H2 → Q (.int (d.wants : Nat)) H2
theorem d_lwants (T : Txt K mg C CE) (Kb : K.In base) (G : base.Ns mainGlobals mg) : Df P w K mg base 1 "_law_wants" ["_law_word"] spLWants := by
  refine T.f_wants.df Kb G sc_law_wants (fun _ _ _ _ _ _ us hl => match us, hl with | [_], _ => rfl) (by rintro vs H Q E ⟨d, rfl, _⟩; rfl) (fun f cdv A outer s H vs Q E hr h => ?_)
  refine ⟨_, (pss_cons (ps_if (pt_cmpR op_eq (pv 0) pe_str (nomark _)) (pss_one (ps_ret pe_int)) pss_nil)
    (pss_cons (ps_if (PW.pt (pw_or (pt_cmpR op_eq (pv 0) pe_str (nomark _)) (pw_or1 (pt_cmpR op_eq (pv 0) pe_str (nomark _))))) (pss_one (ps_ret pe_int)) pss_nil)
    (pss_one (ps_ret (pe_ix ix_seq (pe_lstA (pa_cons pe_int (pa_cons pe_int pa_nil (se rfl)) (se rfl))) (pe_callTy call_int1 rfl T.nint PyProof.Rows.boot_int (pa_cons (pe_cmpR op_eq (pv 0) pe_str (nomark _)) pa_nil (se rfl)) (he := se rfl) (hpl := nst rfl)) (fun _ _ => rfl)))))), ?_⟩
  obtain ⟨d, rfl, k⟩ := h
  have e2 : ∀ b : Bool, atI [V.int 2, V.int 3] (if b then 1 else 0) = some (.int (if b then 3 else 2)) := by decide +kernel
  cases d
  all_goals
    repeat (first
      | (walk_at "rd1")
      | ((with_reducible refine i_iteSe ?_ ?_); (rfl))
      | ((with_reducible refine i_iteSf ?_ ?_); (decide +kernel)))
  all_goals first
    | exact k _ (Same.refl _)
    | (refine ⟨by show 2 ≤ sizeLine; decide, fun p H2 hN => ?_⟩
       walk_at "rd"
       refine .inr ⟨_, rfl, ?_⟩
       refine i_ixL hN.lst (e2 _) ?_
       first
         | (rw [show decide (V.str Dk.pick.word = V.str (Str.ofString "pick")) = true by decide +kernel]; exact k _ hN.same)
         | (rw [decide_eq_false (by intro e; exact absurd (V.str.inj e) (by decide +kernel))]; exact k _ hN.same))
def dks : List Dk := [.sum, .less, .times, .least, .most, .pick, .same, .tell, .take]
def wordsV : List V := dks.map fun d => V.str d.word
theorem at_dk {c : Int} (h0 : 0 ≤ c) (h1 : c < 9) : ∃ d : Dk, atI wordsV c = some (.str d.word) := by
  obtain ⟨k, rfl⟩ := Int.eq_ofNat_of_zero_le h0
  have hk : k < 9 := by omega
  refine ⟨dks[k]'hk, atI_nat ?_⟩
  unfold wordsV
  rw [List.getElem?_map, List.getElem?_eq_getElem (show k < dks.length from hk)]; rfl
theorem wants3 (d : Dk) : d.wants ≤ 3 := by cases d <;> decide
theorem max_of (a b : Int) : (if b > a then b else a) = max a b := by split <;> omega
theorem valV_none {κ : Type} [DecidableEq κ] {kvs : List (κ × V)} {k : κ} (h : ¬ k ∈ kvs.map (·.1)) : valV kvs k = none := by
  cases e : valV kvs k with
  | none => rfl
  | some v => exact absurd (valV_in e) h
theorem word_ne {d e : Dk} (h : ¬ d = e) : ¬ d.word = e.word := by
  revert h
  cases d <;> cases e <;> intro h <;> first | exact absurd rfl h | decide +kernel
theorem of_rests {m : Int} (d : Dk) {ns ks : List Int} (h : ∀ i : Nat, ks.getD i 0 % m = ns.getD i 0 % m) : d.of ks m = d.of ns m := by
  have h0 := h 0
  have h1 := h 1
  have h2 := h 2
  cases d <;> simp only [Dk.of]
  · rw [Int.add_emod, h0, h1, ← Int.add_emod]
  · rw [Int.sub_emod, h0, h1, ← Int.sub_emod]
  · rw [Int.mul_emod, h0, h1, ← Int.mul_emod]
  all_goals simp only [h0, h1, h2]
theorem getD_map_mod (ns : List Int) (m : Int) (i : Nat) : (ns.map fun x => x % m).getD i 0 % m = ns.getD i 0 % m := by
  rw [List.getD, List.getD, List.getElem?_map]
  cases ns[i]? with
  | none => rfl
  | some v => exact Int.emod_emod_of_dvd v (Int.dvd_refl m)
theorem map_ints {ns : List Int} {f : Int → Int} {g : V → V} (h : ∀ i, g (.int i) = .int (f i)) : (ns.map V.int).map g = (ns.map f).map V.int := by
  rw [List.map_map, List.map_map]
  exact List.map_congr_left fun x _ => h x
def imod (m : Int) : V → V
  | .int i => .int (i % m)
  | v => v
def spMakes (K : PySem.W.Frag) : Sp := fun vs H Q _ => ∃ (d : Dk) (p : Addr) (ns : List Int) (m : Int), vs = [.str d.word, .ref p, .int m] ∧ SqL K H p (ns.map V.int) ∧ d.need ≤ ns.length ∧ ns.length ≤ 3 ∧ 2 ≤ m ∧ m ≤ 10 ^ 60 ∧ ∀ H2, Same H H2 → Q (.int (d.of ns m)) H2
theorem d_makes (T : Txt K mg C CE) (Kb : K.In base) (G : base.Ns mainGlobals mg) : Df P w K mg base 1 "_law_makes" ["_law_word", "_law_numbers_here", "_law_measure"] (spMakes K) := by
  refine T.f_makes.df Kb G sc_law_makes (fun _ _ _ _ _ _ us hl => match us, hl with | [_, _, _], _ => rfl) (by rintro vs H Q E ⟨d, p, ns, m, rfl, _⟩; rfl) (fun f cdv A outer s H vs Q E hr h => ?_)
  obtain ⟨d, p, ns, m, rfl, hS, hn, hn3, m0, m1, q⟩ := h
  have mp : 0 < m := by omega
  refine ⟨_, (pss_cons (ps_lc (i := 3) sc_law_makes.nd rfl rfl (by with_unfolding_all rfl) (Blk.of (caps := ["_law_measure"]) (ix := [2]) rfl) rfl (pi_list (pv 1)) (fun _ _ _ _ => pf_nil) (fun _ _ _ _ => (pe_op op_mod (pv 0) (pv 1))))
    (pss_cons (ps_if (pt_cmpR op_eq (pv 0) pe_str (nomark _)) (pss_one (ps_ret (pe_op op_mod (pe_op op_add (pe_ix ix_seq (pv 3) pe_int (fun _ _ => rfl)) (pe_ix ix_seq (pv 3) pe_int (fun _ _ => rfl))) (pv 2)))) pss_nil)
    (pss_cons (ps_if (pt_cmpR op_eq (pv 0) pe_str (nomark _)) (pss_one (ps_ret (pe_op op_mod (pe_op op_sub (pe_ix ix_seq (pv 3) pe_int (fun _ _ => rfl)) (pe_ix ix_seq (pv 3) pe_int (fun _ _ => rfl))) (pv 2)))) pss_nil)
    (pss_cons (ps_if (pt_cmpR op_eq (pv 0) pe_str (nomark _)) (pss_one (ps_ret (pe_op op_mod (pe_op op_mulO (pe_ix ix_seq (pv 3) pe_int (fun _ _ => rfl)) (pe_ix ix_seq (pv 3) pe_int (fun _ _ => rfl))) (pv 2)))) pss_nil)
    (pss_cons (ps_if (pt_cmpR op_eq (pv 0) pe_str (nomark _)) (pss_one (ps_ret (pe_ix ix_seq (pv 3) (pe_op op_add pe_int (pe_callTy call_int1 rfl T.nint PyProof.Rows.boot_int (pa_cons (pe_cmpR op_eq (pe_ix ix_seq (pv 3) pe_int (fun _ _ => rfl)) pe_int (nomark _)) pa_nil (se rfl)) (he := se rfl) (hpl := nst rfl))) (fun _ _ => rfl)))) pss_nil)
    (pss_cons (ps_if (pt_cmpR op_eq (pv 0) pe_str (nomark _)) (pss_one (ps_ret (pe_callB (call_min2 rfl) rfl T.nmin PyProof.Rows.boot_min (pa_cons (pe_ix ix_seq (pv 3) pe_int (fun _ _ => rfl)) (pa_cons (pe_ix ix_seq (pv 3) pe_int (fun _ _ => rfl)) pa_nil (se rfl)) (se rfl)) (he := se rfl) (hpl := nst rfl)))) pss_nil)
    (pss_cons (ps_if (pt_cmpR op_eq (pv 0) pe_str (nomark _)) (pss_one (ps_ret (pe_callB (call_max2 rfl) rfl T.nmax PyProof.Rows.boot_max (pa_cons (pe_ix ix_seq (pv 3) pe_int (fun _ _ => rfl)) (pa_cons (pe_ix ix_seq (pv 3) pe_int (fun _ _ => rfl)) pa_nil (se rfl)) (se rfl)) (he := se rfl) (hpl := nst rfl)))) pss_nil)
    (pss_one (ps_ret (pe_ix ix_seq (pv 3) pe_int (fun _ _ => rfl))))))))))), ?_⟩
  walk_at "rd"
  refine i_setLc (i_lc (i_list ?_))
  walk_at "rd"
  have lb := line_big
  have hl3 : (ns.map V.int).length ≤ sizeLine := by rw [List.length_map]; omega
  show ∃ a, _ ∧ _ ∧ _
  refine lcL (ns.map V.int) (imod m) hS hl3 (fun i v H' R hv hs' r => ?_) (fun l H1 hN => ?_)
  · rw [List.getElem?_map] at hv
    cases hni : ns[i]? with
    | none => rw [hni] at hv; cases hv
    | some n =>
      rw [hni] at hv
      cases hv
      walk_at "rd"
      exact r
  walk_at "rd"
  rw [map_ints (f := fun x => x % m) (fun _ => rfl)] at hN
  have hR : SqL K H1 l ((ns.map fun x => x % m).map V.int) := hN.lst
  have q' := q _ hN.same
  clear hN
  have hlen : d.need ≤ (ns.map fun x => x % m).length := by rw [List.length_map]; exact hn
  have hb : ∀ i : Nat, 0 ≤ (ns.map fun x => x % m).getD i 0 ∧ (ns.map fun x => x % m).getD i 0 < m := fun i => by
    rw [List.getD, List.getElem?_map]
    cases ns[i]? with
    | none => exact ⟨Int.le_refl _, mp⟩
    | some v => exact mod_b v mp
  have hof : d.of (ns.map fun x => x % m) m = d.of ns m := of_rests d (getD_map_mod ns m)
  rw [← hof] at q'
  generalize (ns.map fun x => x % m) = rs at *
  have e60 : (10 : Int) ^ 60 < 2 ^ 200 := by decide +kernel
  have b0 := hb 0
  have b1 := hb 1
  have b2 := hb 2
  have e0 := Int.emod_eq_of_lt b0.1 b0.2
  have e1 := Int.emod_eq_of_lt b1.1 b1.2
  have e2 := Int.emod_eq_of_lt b2.1 b2.2
  cases d
  all_goals
    have hlen' : _ ≤ rs.length := hlen
    simp only [Dk.need] at hlen'
    simp only [Dk.of, e0, e1, e2] at q'
    repeat' (first
      | (walk_at "rd1")
      | ((with_reducible refine i_iteSe ?_ ?_); (rfl))
      | ((with_reducible refine i_iteSf ?_ ?_); (decide +kernel))
      | ((with_reducible show rIx _ (V.ref _) (V.int 0) _ _); (refine i_ixL hR (at_ints 0 (by omega)) ?_))
      | ((with_reducible show rIx _ (V.ref _) (V.int 1) _ _); (refine i_ixL hR (at_ints 1 (by omega)) ?_))
      | ((with_reducible refine i_mul ?_ ?_); (exact ok_of 200 200 (by omega) (by omega) (by omega) (by omega) (by decide))))
    all_goals try exact q'
  · refine i_min ?_
    exact q'
  · rw [max_of] at q'
    exact q'
  · refine .inr ⟨_, rfl, ?_⟩
    walk_at "rd"
    by_cases h0 : rs.getD 0 0 = 0
    · rw [if_pos h0] at q'
      rw [decide_eq_true (congrArg V.int h0)]
      refine i_ixL hR (at_ints 2 (by omega)) ?_
      exact q'
    · rw [if_neg h0] at q'
      rw [decide_eq_false (fun z => h0 (V.int.inj z))]
      refine i_ixL hR (at_ints 1 (by omega)) ?_
      exact q'
inductive Rx where
  | num (i : Int) | box (n : Nat)
structure Sx where
  d : Dk
  delay : Nat
  box : Nat
  reads : List Rx
  name : Str
  off : Nat
abbrev Part := List (List Sx)
structure Fx where
  fi : List Int
  fo : List Int
def fedOf (F : Fx) (z : Str) : List Int := if z = Str.ofString "in" then F.fi else F.fo
structure Ms where
  c : Nat
  bs : List Int
  du : Nat → List (Nat × Int)
  told : List (Str × Nat × Int)
def putB (bs : List Int) (x : Nat × Int) : List Int := bs.set x.1 x.2
def landM (t : Nat) (M : Ms) : Ms := { M with bs := (M.du t).foldl putB M.bs, du := fun u => if u = t then [] else M.du u }
def rxV (bs : List Int) : Rx → Int
  | .num i => i
  | .box n => bs.getD n 0
def getsX (F : Fx) (bs : List Int) (s : Sx) (t : Nat) : List Int := if s.d = .take then [(fedOf F s.name).getD t 0] else s.reads.map (rxV bs)
def numX (m : Int) (F : Fx) (later : Nat) (M : Ms) (s : Sx) : Int := s.d.of (getsX F M.bs s (s.off + later)) m
def stepM (m : Int) (F : Fx) (later : Nat) (M : Ms) (s : Sx) : Ms :=
  { M with du := fun u => if u = M.c + s.delay then M.du u ++ [(s.box, numX m F later M s)] else M.du u, told := if s.d = .tell then M.told ++ [(s.name, s.off + later, numX m F later M s)] else M.told }
def tickM (m : Int) (F : Fx) (later : Nat) (M : Ms) (l : List Sx) : Ms := { l.foldl (stepM m F later) (landM M.c M) with c := M.c + 1 }
def partM (m : Int) (F : Fx) (later : Nat) (M : Ms) (p : Part) : Ms := p.foldl (tickM m F later) M
def partsM (m : Int) (F : Fx) (M : Ms) (ps : List (Part × Nat)) : Ms := ps.foldl (fun M x => partM m F x.2 M x.1) M
def finB (M : Ms) : List Int := (List.range 7).foldl (fun bs k => (M.du (M.c + k)).foldl putB bs) M.bs
def Bd (x : Int) : Prop := x.natAbs < 2 ^ 200
def RxOk (nb : Nat) : Rx → Prop
  | .num i => 0 ≤ i ∧ i < 10 ^ 60
  | .box n => n < nb
structure SxOk (nb : Nat) (s : Sx) : Prop where
  many : s.reads.length = s.d.wants
  reads : ∀ r ∈ s.reads, RxOk nb r
  d1 : 1 ≤ s.delay
  d6 : s.delay ≤ 6
  box : s.box < nb
  name : s.name = Str.ofString "in" ∨ s.name = Str.ofString "on"
  off : s.off ≤ 4
structure PartOk (nb : Nat) (p : Part) : Prop where
  len : p.length ≤ 3
  each : ∀ l ∈ p, l.length ≤ 3 ∧ ∀ s ∈ l, SxOk nb s
structure WfM (nb N : Nat) (M : Ms) : Prop where
  len : M.bs.length = nb
  bd : ∀ x ∈ M.bs, Bd x
  du : ∀ t x, x ∈ M.du t → x.1 < nb ∧ Bd x.2
  win : ∀ t, M.du t ≠ [] → M.c ≤ t ∧ t < M.c + 7
  many : ∀ t, (M.du t).length ≤ N
  told : M.told.length ≤ N
theorem puts_len : ∀ (l : List (Nat × Int)) (bs : List Int), (l.foldl putB bs).length = bs.length
  | [], bs => rfl
  | x :: l, bs => by
    show (l.foldl putB (putB bs x)).length = _
    rw [puts_len l]; unfold putB; exact List.length_set
theorem puts_bd : ∀ (l : List (Nat × Int)) (bs : List Int), (∀ x ∈ bs, Bd x) → (∀ x ∈ l, Bd x.2) → ∀ x ∈ l.foldl putB bs, Bd x
  | [], bs, h, _ => h
  | x :: l, bs, h, hl => by
    refine puts_bd l (putB bs x) (fun y hy => ?_) fun y hy => hl y (List.mem_cons_of_mem _ hy)
    unfold putB at hy
    rcases List.mem_or_eq_of_mem_set hy with h1 | h1
    · exact h y h1
    · rw [h1]; exact hl x List.mem_cons_self
theorem WfM.land {nb N : Nat} {M : Ms} (h : WfM nb N M) (t : Nat) : WfM nb N (landM t M) where
  len := by show ((M.du t).foldl putB M.bs).length = nb; rw [puts_len]; exact h.len
  bd := puts_bd _ _ h.bd fun x hx => (h.du t x hx).2
  du := fun u x hx => by
    have hx' : x ∈ (if u = t then [] else M.du u) := hx
    by_cases e : u = t
    · rw [if_pos e] at hx'; simp at hx'
    · rw [if_neg e] at hx'; exact h.du u x hx'
  win := fun u hu => by
    have hu' : (if u = t then [] else M.du u) ≠ [] := hu
    by_cases e : u = t
    · rw [if_pos e] at hu'; exact absurd rfl hu'
    · rw [if_neg e] at hu'; exact h.win u hu'
  many := fun u => by
    show (if u = t then [] else M.du u).length ≤ N
    by_cases e : u = t
    · rw [if_pos e]; exact Nat.zero_le _
    · rw [if_neg e]; exact h.many u
  told := h.told
theorem of_bd {m : Int} (d : Dk) (ns : List Int) (m0 : 0 < m) (m60 : m ≤ 10 ^ 60) : Bd (d.of ns m) := by
  have e60 : (10 : Int) ^ 60 < 2 ^ 200 := by decide +kernel
  have b : ∀ x : Int, 0 ≤ x % m ∧ x % m < m := fun x => mod_b x m0
  have key : ∀ y : Int, 0 ≤ y → y < m → Bd y := fun y h0 h1 => by
    unfold Bd
    have : ((y.natAbs : Nat) : Int) < ((2 ^ 200 : Nat) : Int) := by rw [Int.natCast_pow]; show _ < (2 : Int) ^ 200; omega
    exact Int.ofNat_lt.mp this
  cases d <;> simp only [Dk.of]
  case least =>
    have h0 := b (ns.getD 0 0); have h1 := b (ns.getD 1 0)
    exact key _ (by omega) (by omega)
  case most =>
    have h0 := b (ns.getD 0 0); have h1 := b (ns.getD 1 0)
    exact key _ (by omega) (by omega)
  case pick =>
    split
    · exact key _ (b _).1 (b _).2
    · exact key _ (b _).1 (b _).2
  all_goals exact key _ (b _).1 (b _).2
theorem WfM.step {nb N : Nat} {M : Ms} {m : Int} {F : Fx} {later : Nat} {s : Sx} (h : WfM nb N M) (hs : SxOk nb s) (m0 : 0 < m) (m60 : m ≤ 10 ^ 60) : WfM nb (N + 1) (stepM m F later M s) where
  len := h.len
  bd := h.bd
  du := fun u x hx => by
    have hx' : x ∈ (if u = M.c + s.delay then M.du u ++ [(s.box, numX m F later M s)] else M.du u) := hx
    by_cases e : u = M.c + s.delay
    · rw [if_pos e] at hx'
      rcases List.mem_append.mp hx' with h1 | h1
      · exact h.du u x h1
      · rw [show x = (s.box, numX m F later M s) by simpa using h1]
        exact ⟨hs.box, of_bd _ _ m0 m60⟩
    · rw [if_neg e] at hx'; exact h.du u x hx'
  win := fun u hu => by
    have hu' : (if u = M.c + s.delay then M.du u ++ [(s.box, numX m F later M s)] else M.du u) ≠ [] := hu
    have d1 := hs.d1; have d6 := hs.d6
    by_cases e : u = M.c + s.delay
    · show M.c ≤ u ∧ u < M.c + 7; omega
    · rw [if_neg e] at hu'; exact h.win u hu'
  many := fun u => by
    show (if u = M.c + s.delay then M.du u ++ [(s.box, numX m F later M s)] else M.du u).length ≤ N + 1
    have := h.many u
    split
    · rw [List.length_append]; show _ + 1 ≤ _; omega
    · omega
  told := by
    show (if s.d = .tell then M.told ++ [(s.name, s.off + later, numX m F later M s)] else M.told).length ≤ N + 1
    have := h.told
    split
    · rw [List.length_append]; show _ + 1 ≤ _; omega
    · omega
theorem WfM.mono {nb N N' : Nat} {M : Ms} (h : WfM nb N M) (hN : N ≤ N') : WfM nb N' M := ⟨h.len, h.bd, h.du, h.win, fun t => Nat.le_trans (h.many t) hN, Nat.le_trans h.told hN⟩
theorem step_c (m : Int) (F : Fx) (later : Nat) : ∀ (l : List Sx) (M : Ms), (l.foldl (stepM m F later) M).c = M.c
  | [], M => rfl
  | s :: l, M => by
    show (l.foldl (stepM m F later) (stepM m F later M s)).c = _
    rw [step_c m F later l]; rfl
theorem WfM.steps {nb : Nat} {m : Int} {F : Fx} {later : Nat} (m0 : 0 < m) (m60 : m ≤ 10 ^ 60) : ∀ {l : List Sx} {N : Nat} {M : Ms}, WfM nb N M → (∀ s ∈ l, SxOk nb s) → WfM nb (N + l.length) (l.foldl (stepM m F later) M)
  | [], N, M, h, _ => h
  | s :: l, N, M, h, hl => by
    have := WfM.steps (l := l) (F := F) (later := later) m0 m60 (h.step (F := F) (later := later) (hl s List.mem_cons_self) m0 m60) fun x hx => hl x (List.mem_cons_of_mem _ hx)
    refine this.mono ?_
    rw [List.length_cons]; omega
def After (M : Ms) : Prop := ∀ t, M.du t ≠ [] → M.c < t ∧ t < M.c + 7
theorem After.step {nb : Nat} {M : Ms} {m : Int} {F : Fx} {later : Nat} {s : Sx} (h : After M) (hs : SxOk nb s) : After (stepM m F later M s) := fun u hu => by
  have hu' : (if u = M.c + s.delay then M.du u ++ [(s.box, numX m F later M s)] else M.du u) ≠ [] := hu
  have d1 := hs.d1; have d6 := hs.d6
  by_cases e : u = M.c + s.delay
  · show M.c < u ∧ u < M.c + 7; omega
  · rw [if_neg e] at hu'; exact h u hu'
theorem After.steps {nb : Nat} {m : Int} {F : Fx} {later : Nat} : ∀ {l : List Sx} {M : Ms}, After M → (∀ s ∈ l, SxOk nb s) → After (l.foldl (stepM m F later) M)
  | [], M, h, _ => h
  | s :: l, M, h, hl => After.steps (l := l) (h.step (m := m) (F := F) (later := later) (hl s List.mem_cons_self)) fun x hx => hl x (List.mem_cons_of_mem _ hx)
theorem WfM.after {nb N : Nat} {M : Ms} (h : WfM nb N M) : After (landM M.c M) := fun u hu => by
  have hu' : (if u = M.c then [] else M.du u) ≠ [] := hu
  by_cases e : u = M.c
  · rw [if_pos e] at hu'; exact absurd rfl hu'
  · rw [if_neg e] at hu'
    have := h.win u hu'
    show M.c < u ∧ u < M.c + 7
    omega
theorem WfM.tick {nb N : Nat} {M : Ms} {m : Int} {F : Fx} {later : Nat} {l : List Sx} (h : WfM nb N M) (hl : ∀ s ∈ l, SxOk nb s) (l3 : l.length ≤ 3) (m0 : 0 < m) (m60 : m ≤ 10 ^ 60) : WfM nb (N + 3) (tickM m F later M l) := by
  have h1 := ((h.land M.c).steps (F := F) (later := later) m0 m60 hl).mono (show N + l.length ≤ N + 3 by omega)
  have h2 := h.after.steps (m := m) (F := F) (later := later) hl
  have hc : (l.foldl (stepM m F later) (landM M.c M)).c = M.c := step_c m F later l _
  refine ⟨h1.len, h1.bd, h1.du, fun t ht => ?_, h1.many, h1.told⟩
  have := h2 t ht
  rw [hc] at this
  show M.c + 1 ≤ t ∧ t < M.c + 1 + 7
  omega
theorem WfM.ticks {nb : Nat} {m : Int} {F : Fx} {later : Nat} (m0 : 0 < m) (m60 : m ≤ 10 ^ 60) : ∀ {p : Part} {N : Nat} {M : Ms}, WfM nb N M → (∀ l ∈ p, l.length ≤ 3 ∧ ∀ s ∈ l, SxOk nb s) → WfM nb (N + 3 * p.length) (partM m F later M p)
  | [], N, M, h, _ => h
  | l :: p, N, M, h, hp => by
    have hl := hp l List.mem_cons_self
    have := WfM.ticks (p := p) (F := F) (later := later) m0 m60 (h.tick (F := F) (later := later) hl.2 hl.1 m0 m60) fun x hx => hp x (List.mem_cons_of_mem _ hx)
    refine this.mono ?_
    rw [List.length_cons]; omega
theorem WfM.part {nb N : Nat} {M : Ms} {m : Int} {F : Fx} {later : Nat} {p : Part} (h : WfM nb N M) (hp : PartOk nb p) (m0 : 0 < m) (m60 : m ≤ 10 ^ 60) : WfM nb (N + 9) (partM m F later M p) :=
  (h.ticks (F := F) (later := later) m0 m60 hp.each).mono (by have := hp.len; omega)
theorem lands_eq (du : Nat → List (Nat × Int)) : ∀ (n lo : Nat) (ys : List Nat) (bs : List Int), ys.Pairwise (· < ·) → (∀ t ∈ ys, lo ≤ t ∧ t < lo + n) → (∀ t, lo ≤ t → t < lo + n → du t ≠ [] → t ∈ ys) →
    ys.foldl (fun bs t => (du t).foldl putB bs) bs = (List.range' lo n).foldl (fun bs t => (du t).foldl putB bs) bs
  | 0, lo, ys, bs, _, hy, _ => by
    cases ys with
    | nil => rfl
    | cons y ys => have := hy y List.mem_cons_self; omega
  | n + 1, lo, ys, bs, hp, hy, hd => by
    rw [List.range'_succ, List.foldl_cons]
    cases ys with
    | nil =>
      have e : du lo = [] := by
        by_cases h : du lo = []
        · exact h
        · have := hd lo (Nat.le_refl _) (by omega) h; simp at this
      rw [e]
      exact lands_eq du n (lo + 1) [] bs .nil (fun t h => by simp at h) fun t h1 h2 h3 => hd t (by omega) (by omega) h3
    | cons y ys =>
      have hp' := List.pairwise_cons.mp hp
      have hy0 := hy y List.mem_cons_self
      by_cases e : y = lo
      · subst e
        rw [List.foldl_cons]
        refine lands_eq du n (y + 1) ys _ hp'.2 (fun t ht => ?_) fun t h1 h2 h3 => ?_
        · have := hp'.1 t ht; have := hy t (List.mem_cons_of_mem _ ht); omega
        · rcases List.mem_cons.mp (hd t (by omega) (by omega) h3) with h | h
          · omega
          · exact h
      · have e0 : du lo = [] := by
          by_cases h : du lo = []
          · exact h
          · rcases List.mem_cons.mp (hd lo (Nat.le_refl _) (by omega) h) with h | h
            · exact absurd h.symm e
            · have := hp'.1 lo h; omega
        rw [e0]
        refine lands_eq du n (lo + 1) (y :: ys) bs hp (fun t ht => ?_) fun t h1 h2 h3 => hd t (by omega) (by omega) h3
        have h1 := hy t ht
        rcases List.mem_cons.mp ht with h | h
        · omega
        · have := hp'.1 t h; omega
theorem finB_eq (M : Ms) : finB M = (List.range' M.c 7).foldl (fun bs t => (M.du t).foldl putB bs) M.bs := by
  unfold finB
  rw [List.range'_eq_map_range, List.foldl_map]
theorem nodup_le : ∀ (n lo : Nat) (l : List Nat), l.Nodup → (∀ t ∈ l, lo ≤ t ∧ t < lo + n) → l.length ≤ n
  | 0, lo, l, _, h => by
    cases l with
    | nil => exact Nat.le_refl _
    | cons x l => have := h x List.mem_cons_self; omega
  | n + 1, lo, l, hn, h => by
    have h1 := nodup_le n lo (l.erase (lo + n)) (hn.erase _) fun t ht => by
      have hm := (hn.mem_erase_iff).mp ht
      have := h t hm.2
      have := hm.1
      omega
    have := List.length_erase_le (a := lo + n) (l := l)
    by_cases hm : lo + n ∈ l
    · rw [List.length_erase_of_mem hm] at h1; omega
    · rw [List.erase_of_not_mem hm] at h1; omega
def TK (H H' : Hp) : Prop := ∀ b xs, H b = some (.tup xs) → H' b = some (.tup xs)
theorem TK.of {H H' : Hp} (s : Same H H') : TK H H' := fun b xs e => s b _ e
theorem TK.upd {H : Hp} {x : Addr} {o u : HO} (h : H x = some o) (n : ∀ xs, o ≠ .tup xs) : TK H (L2.upd H x u) := fun b xs e => by
  rw [upd_ne (ne_of e h (Ne.symm (n xs)))]; exact e
def rxD : Rx → PyData
  | .num i => .int i
  | .box n => .tuple [.str (Str.ofString "box"), .int (n : Int)]
def sxD (s : Sx) : PyData := .tuple [.str s.d.word, .int (s.delay : Int), .int (s.box : Int), .list (s.reads.map rxD), .str s.name, .int (s.off : Int)]
def tickD (l : List Sx) : PyData := .list (l.map sxD)
def partD (p : Part) : PyData := .list (p.map tickD)
def numsD (l : List Int) : PyData := .list (l.map PyData.int)
def feedsD (F : Fx) : PyData := .dict [(.str (Str.ofString "in"), numsD F.fi), (.str (Str.ofString "on"), numsD F.fo)]
theorem rpa_len {H : Hp} : ∀ {vs : List V} {ds : List PyData}, RpA H vs ds → vs.length = ds.length := by
  intro vs
  induction vs with
  | nil => intro ds h; cases h; rfl
  | cons v vs ih => intro ds h; cases h with | cons a b => rw [List.length_cons, List.length_cons, ih b]
theorem rpa_get {H : Hp} : ∀ {vs : List V} {ds : List PyData} {i : Nat} {v : V}, RpA H vs ds → vs[i]? = some v → ∃ d, ds[i]? = some d ∧ Rp H v d := by
  intro vs
  induction vs with
  | nil => intro ds i v h e; simp at e
  | cons w vs ih =>
    intro ds i v h e
    cases h with
    | cons a b =>
      cases i with
      | zero => cases e; exact ⟨_, rfl, a⟩
      | succ i =>
        have e' : vs[i]? = some v := by simpa using e
        obtain ⟨d, g1, g2⟩ := ih b e'
        exact ⟨d, by simpa using g1, g2⟩
theorem rpa_snoc {H : Hp} : ∀ {vs : List V} {ds : List PyData} {v : V} {d : PyData}, RpA H vs ds → Rp H v d → RpA H (vs ++ [v]) (ds ++ [d]) := by
  intro vs
  induction vs with
  | nil => intro ds v d h e; cases h; exact .cons e .nil
  | cons w vs ih =>
    intro ds v d h e
    cases h with
    | cons a b => exact .cons a (ih b e)
theorem rpa_ints {H : Hp} : ∀ {l : List Int} {vs : List V}, RpA H vs (l.map PyData.int) → vs = l.map V.int := by
  intro l
  induction l with
  | nil => intro vs h; cases h; rfl
  | cons x l ih =>
    intro vs h
    cases h with
    | cons a b =>
      cases a
      rw [ih b]; rfl
theorem ints_rpa {H : Hp} : ∀ (l : List Int), RpA H (l.map V.int) (l.map PyData.int)
  | [] => .nil
  | x :: l => .cons (.int x) (ints_rpa l)
theorem nums_at {H : Hp} {v : V} {l : List Int} (h : Rp H v (numsD l)) : ∃ a, v = .ref a ∧ H a = some (.lst (l.map V.int)) := by
  unfold numsD at h
  cases h with
  | lst n e r => rw [rpa_ints r] at e; exact ⟨_, rfl, e⟩
theorem list_at {H : Hp} {v : V} {ds : List PyData} (h : Rp H v (.list ds)) : ∃ a vs, v = .ref a ∧ H a = some (.lst vs) ∧ RpA H vs ds := by
  cases h with
  | lst n e r => exact ⟨_, _, rfl, e, r⟩
theorem tup_at {H : Hp} {v : V} {ds : List PyData} (h : Rp H v (.tuple ds)) : ∃ a vs, v = .ref a ∧ H a = some (.tup vs) ∧ RpA H vs ds := by
  cases h with
  | tup e r => exact ⟨_, _, rfl, e, r⟩
theorem str_at {H : Hp} {v : V} {z : Str} (h : Rp H v (.str z)) : v = .str z := by cases h; rfl
theorem int_at {H : Hp} {v : V} {z : Int} (h : Rp H v (.int z)) : v = .int z := by cases h; rfl
theorem rpa_cons {H : Hp} {vs : List V} {d : PyData} {ds : List PyData} (h : RpA H vs (d :: ds)) : ∃ v us, vs = v :: us ∧ Rp H v d ∧ RpA H us ds := by
  cases h with
  | cons a b => exact ⟨_, _, rfl, a, b⟩
theorem rpa_nil {H : Hp} {vs : List V} (h : RpA H vs []) : vs = [] := by cases h; rfl
theorem sx_at {H : Hp} {v : V} {s : Sx} (h : Rp H v (sxD s)) : ∃ p q vs, v = .ref p ∧ H p = some (.tup [.str s.d.word, .int (s.delay : Int), .int (s.box : Int), .ref q, .str s.name, .int (s.off : Int)]) ∧ H q = some (.lst vs) ∧ RpA H vs (s.reads.map rxD) := by
  obtain ⟨p, ws, rfl, hp, r⟩ := tup_at h
  obtain ⟨v1, w1, rfl, a1, r⟩ := rpa_cons r
  obtain ⟨v2, w2, rfl, a2, r⟩ := rpa_cons r
  obtain ⟨v3, w3, rfl, a3, r⟩ := rpa_cons r
  obtain ⟨v4, w4, rfl, a4, r⟩ := rpa_cons r
  obtain ⟨v5, w5, rfl, a5, r⟩ := rpa_cons r
  obtain ⟨v6, w6, rfl, a6, r⟩ := rpa_cons r
  obtain rfl := rpa_nil r
  obtain ⟨q, vs, rfl, hq, rq⟩ := list_at a4
  rw [str_at a1, int_at a2, int_at a3, str_at a5, int_at a6] at hp
  exact ⟨p, q, vs, rfl, hp, hq, rq⟩
theorem key_of {H : Hp} {k : Key} {z : Str} (h : Rp H (L2.kV k) (.str z)) : k = Sum.inr z := by
  have := str_at h
  cases k with
  | inl i => cases this
  | inr y => cases this; rfl
theorem in_on : ¬ Str.ofString "on" = Str.ofString "in" := by decide +kernel
theorem feeds_at {H : Hp} {fd : Addr} {F : Fx} {z : Str} (h : Rp H (.ref fd) (feedsD F)) (hz : z = Str.ofString "in" ∨ z = Str.ofString "on") : ∃ lp, DGet H fd (.str z) (some (.ref lp)) ∧ H lp = some (.lst ((fedOf F z).map V.int)) := by
  unfold feedsD at h
  cases h with
  | @dk a kvs ds hd rk rv =>
    obtain ⟨k1, ks, e1, a1, rk⟩ := rpa_cons rk
    obtain ⟨k2, ks2, e2, a2, rk⟩ := rpa_cons rk
    obtain rfl := rpa_nil rk
    subst e2
    match kvs, e1, hd, rv with
    | [(q1, u1), (q2, u2)], e1, hd, rv =>
      have e1' : [L2.kV q1, L2.kV q2] = [k1, k2] := e1
      rw [List.cons.injEq, List.cons.injEq] at e1'
      obtain ⟨f1, f2, _⟩ := e1'
      rw [← f1] at a1
      rw [← f2] at a2
      have g1 := key_of a1
      have g2 := key_of a2
      subst g1 g2
      obtain ⟨w1, ws, x1, b1, rv⟩ := rpa_cons rv
      obtain ⟨w2, ws2, x2, b2, rv⟩ := rpa_cons rv
      obtain rfl := rpa_nil rv
      subst x2
      have x1' : [u1, u2] = [w1, w2] := x1
      rw [List.cons.injEq, List.cons.injEq] at x1'
      obtain ⟨y1, y2, _⟩ := x1'
      rw [← y1] at b1
      rw [← y2] at b2
      obtain ⟨l1, z1, c1⟩ := nums_at b1
      obtain ⟨l2, z2, c2⟩ := nums_at b2
      subst z1 z2
      rcases hz with e | e <;> subst e
      · refine ⟨l1, ?_, by unfold fedOf; rw [if_pos rfl]; exact c1⟩
        exact DGet.k (k := Sum.inr (Str.ofString "in")) hd
      · refine ⟨l2, ?_, by unfold fedOf; rw [if_neg in_on]; exact c2⟩
        have := DGet.k (k := Sum.inr (Str.ofString "on")) hd
        rwa [show valV [(Sum.inr (Str.ofString "in"), V.ref l1), (Sum.inr (Str.ofString "on"), V.ref l2)] (Sum.inr (Str.ofString "on")) = some (V.ref l2) by rfl] at this
    | [], e1, hd, rv => exact absurd e1 (by simp)
    | [_], e1, hd, rv => exact absurd e1 (by simp)
    | _ :: _ :: _ :: _, e1, hd, rv => exact absurd e1 (by simp)
structure TsAt (H : Hp) (us : List V) (ls : List (List V)) : Prop where
  len : us.length = ls.length
  at_ : ∀ (i : Nat) u l, us[i]? = some u → ls[i]? = some l → ∃ ta, u = .ref ta ∧ H ta = some (.tup l)
theorem TsAt.keep {H H' : Hp} {us : List V} {ls : List (List V)} (k : TK H H') (h : TsAt H us ls) : TsAt H' us ls := ⟨h.len, fun i u l e1 e2 => by
  obtain ⟨ta, e, q⟩ := h.at_ i u l e1 e2
  exact ⟨ta, e, k _ _ q⟩⟩
theorem TsAt.nil {H : Hp} : TsAt H [] [] := ⟨rfl, fun i u l e => by simp at e⟩
theorem TsAt.snoc {H : Hp} {us : List V} {ls : List (List V)} {ta : Addr} {l : List V} (h : TsAt H us ls) (hr : H ta = some (.tup l)) : TsAt H (us ++ [.ref ta]) (ls ++ [l]) := by
  have hl := h.len
  refine ⟨by rw [List.length_append, List.length_append, h.len]; rfl, fun i u l' e1 e2 => ?_⟩
  by_cases hi : i < us.length
  · rw [List.getElem?_append_left hi] at e1
    rw [List.getElem?_append_left (by omega)] at e2
    exact h.at_ i u l' e1 e2
  · rw [List.getElem?_append_right (by omega)] at e1
    rw [List.getElem?_append_right (by omega)] at e2
    have h0 : i - us.length = 0 := by
      by_cases h0 : i - us.length = 0
      · exact h0
      · rw [List.getElem?_eq_none (by simp; omega)] at e1; cases e1
    rw [h0] at e1; rw [show i - ls.length = 0 by omega] at e2
    cases e1; cases e2; exact ⟨ta, rfl, hr⟩
theorem TsAt.get {H : Hp} {us : List V} {ls : List (List V)} (h : TsAt H us ls) {i : Nat} {u : V} (e : us[i]? = some u) : ∃ ta l, ls[i]? = some l ∧ u = .ref ta ∧ H ta = some (.tup l) := by
  have hi : i < ls.length := by rw [← h.len]; exact (List.getElem?_eq_some_iff.mp e).1
  obtain ⟨ta, e1, e2⟩ := h.at_ i u ls[i] e (List.getElem?_eq_getElem hi)
  exact ⟨ta, _, List.getElem?_eq_getElem hi, e1, e2⟩
def prV (x : Nat × Int) : List V := [.int (x.1 : Int), .int x.2]
def tlV (x : Str × Nat × Int) : List V := [.str x.1, .int (x.2.1 : Int), .int x.2.2]
structure Ad where
  x : Addr
  dx : Addr
  bp : Addr
  dd : Addr
  mp : Addr
  fd : Addr
def mkFs (a : Ad) (m : Int) (c : Nat) : List (Str × V) := [(Str.ofString "measure", .int m), (Str.ofString "feeds", .ref a.fd), (Str.ofString "boxes", .ref a.bp), (Str.ofString "tick", .int (c : Int)), (Str.ofString "due", .ref a.dd), (Str.ofString "made", .ref a.mp)]
structure DueAt (H0 H : Hp) (a : Ad) (du : Nat → List (Nat × Int)) (kvs : List (Key × V)) (ns : List Nat) (A : Nat → Addr) : Prop where
  dict : H a.dd = some (.dK kvs)
  keys : kvs.map (·.1) = (ns.map fun n => ((n : Nat) : Int)).map Sum.inl
  nd : ns.Nodup
  mem : ∀ t, t ∈ ns ↔ du t ≠ []
  val : ∀ t ∈ ns, valV kvs (Sum.inl (t : Int)) = some (.ref (A t))
  lst : ∀ t ∈ ns, ∃ us, H (A t) = some (.lst us) ∧ TsAt H us ((du t).map prV)
  fr : ∀ t ∈ ns, H0 (A t) = none ∧ A t ≠ a.bp ∧ A t ≠ a.mp
  inj : ∀ t ∈ ns, ∀ u ∈ ns, A t = A u → t = u
structure MachAt (CM : Addr) (H0 H : Hp) (a : Ad) (m : Int) (M : Ms) : Prop where
  obj : H a.x = some (.ins CM a.dx (mkFs a m M.c))
  bx : H a.bp = some (.lst (M.bs.map V.int))
  made : ∃ us, H a.mp = some (.lst us) ∧ TsAt H us (M.told.map tlV)
  due : ∃ kvs ns A, DueAt H0 H a M.du kvs ns A
  same : Same H0 H
  f1 : H0 a.x = none
  f2 : H0 a.bp = none
  f3 : H0 a.mp = none
  f4 : H0 a.dd = none
  ne : a.bp ≠ a.mp
theorem DueAt.to {H0 H H' : Hp} {a : Ad} {du : Nat → List (Nat × Int)} {kvs : List (Key × V)} {ns : List Nat} {A : Nat → Addr} (h : DueAt H0 H a du kvs ns A) (k : TK H H') (hd : H' a.dd = some (.dK kvs)) (hl : ∀ t ∈ ns, H' (A t) = H (A t)) : DueAt H0 H' a du kvs ns A :=
  ⟨hd, h.keys, h.nd, h.mem, h.val, fun t ht => by
    obtain ⟨us, h1, h2⟩ := h.lst t ht
    exact ⟨us, by rw [hl t ht]; exact h1, h2.keep k⟩, h.fr, h.inj⟩
theorem MachAt.to {CM : Addr} {H0 H H' : Hp} {a : Ad} {m : Int} {M : Ms} (s : Same H H') (h : MachAt CM H0 H a m M) : MachAt CM H0 H' a m M := by
  obtain ⟨us, h1, h2⟩ := h.made
  obtain ⟨kvs, ns, A, hd⟩ := h.due
  refine ⟨s _ _ h.obj, s _ _ h.bx, ⟨us, s _ _ h1, h2.keep (TK.of s)⟩, ⟨kvs, ns, A, hd.to (TK.of s) (s _ _ hd.dict) fun t ht => ?_⟩, h.same.trans s, h.f1, h.f2, h.f3, h.f4, h.ne⟩
  obtain ⟨us, g, _⟩ := hd.lst t ht
  rw [g]; exact s _ _ g
theorem MachAt.boxes {CM : Addr} {H0 H : Hp} {a : Ad} {m : Int} {M : Ms} (h : MachAt CM H0 H a m M) (bs : List Int) : MachAt CM H0 (upd H a.bp (.lst (bs.map V.int))) a m { M with bs := bs } := by
  obtain ⟨us, h1, h2⟩ := h.made
  obtain ⟨kvs, ns, A, hd⟩ := h.due
  have tk : TK H (upd H a.bp (.lst (bs.map V.int))) := TK.upd h.bx (by intro xs z; cases z)
  refine ⟨?_, upd_same, ⟨us, ?_, h2.keep tk⟩, ⟨kvs, ns, A, hd.to tk ?_ fun t ht => ?_⟩, fun b o e => ?_, h.f1, h.f2, h.f3, h.f4, h.ne⟩
  · rw [upd_ne (ne_of h.obj h.bx (by intro z; cases z))]; exact h.obj
  · rw [upd_ne (Ne.symm h.ne)]; exact h1
  · rw [upd_ne (ne_of hd.dict h.bx (by intro z; cases z))]; exact hd.dict
  · exact upd_ne (hd.fr t ht).2.1
  · rw [upd_ne (ne_of_none e h.f2)]; exact h.same _ _ e
theorem MachAt.clock {CM : Addr} {H0 H : Hp} {a : Ad} {m : Int} {M : Ms} (h : MachAt CM H0 H a m M) (c : Nat) : MachAt CM H0 (upd H a.x (.ins CM a.dx (mkFs a m c))) a m { M with c := c } := by
  obtain ⟨us, h1, h2⟩ := h.made
  obtain ⟨kvs, ns, A, hd⟩ := h.due
  have tk : TK H (upd H a.x (.ins CM a.dx (mkFs a m c))) := TK.upd h.obj (by intro xs z; cases z)
  refine ⟨upd_same, ?_, ⟨us, ?_, h2.keep tk⟩, ⟨kvs, ns, A, hd.to tk ?_ fun t ht => ?_⟩, fun b o e => ?_, h.f1, h.f2, h.f3, h.f4, h.ne⟩
  · rw [upd_ne (ne_of h.bx h.obj (by intro z; cases z))]; exact h.bx
  · rw [upd_ne (ne_of h1 h.obj (by intro z; cases z))]; exact h1
  · rw [upd_ne (ne_of hd.dict h.obj (by intro z; cases z))]; exact hd.dict
  · obtain ⟨us, g, _⟩ := hd.lst t ht
    exact upd_ne (ne_of g h.obj (by intro z; cases z))
  · rw [upd_ne (ne_of_none e h.f1)]; exact h.same _ _ e
theorem MachAt.tell {CM : Addr} {H0 H : Hp} {a : Ad} {m : Int} {M : Ms} {ta : Addr} {x : Str × Nat × Int} {us : List V} (h : MachAt CM H0 H a m M) (hm : H a.mp = some (.lst us)) (ht : H ta = some (.tup (tlV x))) : MachAt CM H0 (upd H a.mp (.lst (us ++ [.ref ta]))) a m { M with told := M.told ++ [x] } := by
  obtain ⟨us', h1, h2⟩ := h.made
  rw [hm] at h1
  cases h1
  obtain ⟨kvs, ns, A, hd⟩ := h.due
  have tk : TK H (upd H a.mp (.lst (us ++ [.ref ta]))) := TK.upd hm (by intro xs z; cases z)
  refine ⟨?_, ?_, ⟨_, upd_same, ?_⟩, ⟨kvs, ns, A, hd.to tk ?_ fun t ht => ?_⟩, fun b o e => ?_, h.f1, h.f2, h.f3, h.f4, h.ne⟩
  · rw [upd_ne (ne_of h.obj hm (by intro z; cases z))]; exact h.obj
  · rw [upd_ne h.ne]; exact h.bx
  · show TsAt _ _ ((M.told ++ [x]).map tlV)
    rw [List.map_append]
    exact (h2.snoc ht).keep tk
  · rw [upd_ne (ne_of hd.dict hm (by intro z; cases z))]; exact hd.dict
  · exact upd_ne (hd.fr t ht).2.2
  · rw [upd_ne (ne_of_none e h.f3)]; exact h.same _ _ e
theorem MachAt.push1 {CM : Addr} {H0 H : Hp} {a : Ad} {m : Int} {M : Ms} {kvs : List (Key × V)} {ns : List Nat} {A : Nat → Addr} {t : Nat} {ta : Addr} {x : Nat × Int} {us : List V} (h : MachAt CM H0 H a m M) (hd : DueAt H0 H a M.du kvs ns A) (ht : t ∈ ns) (hu : H (A t) = some (.lst us)) (hx : H ta = some (.tup (prV x))) :
    MachAt CM H0 (upd H (A t) (.lst (us ++ [.ref ta]))) a m { M with du := fun u => if u = t then M.du u ++ [x] else M.du u } := by
  obtain ⟨us0, h1, h2⟩ := h.made
  have tk : TK H (upd H (A t) (.lst (us ++ [.ref ta]))) := TK.upd hu (by intro xs z; cases z)
  have fr := hd.fr t ht
  refine ⟨?_, ?_, ⟨us0, ?_, h2.keep tk⟩, ⟨kvs, ns, A, ?_⟩, fun b o e => ?_, h.f1, h.f2, h.f3, h.f4, h.ne⟩
  · rw [upd_ne (ne_of h.obj hu (by intro z; cases z))]; exact h.obj
  · rw [upd_ne (Ne.symm fr.2.1)]; exact h.bx
  · rw [upd_ne (Ne.symm fr.2.2)]; exact h1
  · refine ⟨?_, hd.keys, hd.nd, fun u => ?_, hd.val, fun u hu' => ?_, hd.fr, hd.inj⟩
    · rw [upd_ne (ne_of hd.dict hu (by intro z; cases z))]; exact hd.dict
    · by_cases e : u = t
      · subst e
        show _ ↔ (if u = u then M.du u ++ [x] else M.du u) ≠ []
        rw [if_pos rfl]
        exact ⟨fun _ => by simp, fun _ => ht⟩
      · show _ ↔ (if u = t then M.du u ++ [x] else M.du u) ≠ []
        rw [if_neg e]; exact hd.mem u
    · by_cases e : u = t
      · subst e
        obtain ⟨us', g1, g2⟩ := hd.lst u ht
        rw [hu] at g1
        cases g1
        refine ⟨_, upd_same, ?_⟩
        show TsAt _ _ ((if u = u then M.du u ++ [x] else M.du u).map prV)
        rw [if_pos rfl, List.map_append]
        exact (g2.snoc hx).keep tk
      · obtain ⟨us', g1, g2⟩ := hd.lst u hu'
        refine ⟨us', ?_, ?_⟩
        · rw [upd_ne (fun z => e (hd.inj u hu' t ht z))]; exact g1
        · show TsAt _ _ ((if u = t then M.du u ++ [x] else M.du u).map prV)
          rw [if_neg e]; exact g2.keep tk
  · rw [upd_ne (ne_of_none e fr.1)]; exact h.same _ _ e
theorem keys_no {kvs : List (Key × V)} {ns : List Nat} (hk : kvs.map (·.1) = (ns.map fun n => ((n : Nat) : Int)).map Sum.inl) {t : Nat} (h : ¬ t ∈ ns) : valV kvs (Sum.inl (t : Int)) = none := by
  refine valV_none fun z => ?_
  rw [hk] at z
  obtain ⟨y, hy, e⟩ := List.mem_map.mp z
  obtain ⟨n, hn, e2⟩ := List.mem_map.mp hy
  have e3 : y = (t : Int) := Sum.inl.inj e
  have : n = t := by omega
  exact h (this ▸ hn)
theorem MachAt.push0 {CM : Addr} {H0 H H2 : Hp} {a : Ad} {m : Int} {M : Ms} {kvs : List (Key × V)} {ns : List Nat} {A : Nat → Addr} {t : Nat} {z ta : Addr} {x : Nat × Int} (h : MachAt CM H0 H a m M) (hd : DueAt H0 H a M.du kvs ns A) (ht : ¬ t ∈ ns) (hz : H z = none)
    (s2 : ∀ b o, b ≠ a.dd → H b = some o → H2 b = some o) (hd2 : H2 a.dd = some (.dK (putK kvs (Sum.inl (t : Int)) (.ref z)))) (hz2 : H2 z = some (.lst [])) (hx : H2 ta = some (.tup (prV x))) :
    MachAt CM H0 (upd H2 z (.lst [.ref ta])) a m { M with du := fun u => if u = t then M.du u ++ [x] else M.du u } := by
  obtain ⟨us0, h1, h2⟩ := h.made
  have tk1 : TK H H2 := fun b xs e => s2 b _ (ne_of e hd.dict (by intro z; cases z)) e
  have tk2 : TK H2 (upd H2 z (.lst [.ref ta])) := TK.upd hz2 (by intro xs z; cases z)
  have tk : TK H (upd H2 z (.lst [.ref ta])) := fun b xs e => tk2 b xs (tk1 b xs e)
  have up : ∀ b o, b ≠ a.dd → H b = some o → upd H2 z (.lst [.ref ta]) b = some o := fun b o n e => by
    rw [upd_ne (ne_of_none e hz)]; exact s2 b o n e
  have hdu : M.du t = [] := by
    by_cases e : M.du t = []
    · exact e
    · exact absurd ((hd.mem t).mpr e) ht
  have hv := keys_no hd.keys ht
  have hA : ∀ u ∈ ns, A u ≠ z := fun u hu e => by
    obtain ⟨us, g, _⟩ := hd.lst u hu
    rw [e, hz] at g; cases g
  refine ⟨up _ _ (ne_of h.obj hd.dict (by intro z; cases z)) h.obj, up _ _ (ne_of h.bx hd.dict (by intro z; cases z)) h.bx, ⟨us0, up _ _ (ne_of h1 hd.dict (by intro z; cases z)) h1, h2.keep tk⟩, ⟨putK kvs (Sum.inl (t : Int)) (.ref z), ns ++ [t], fun u => if u = t then z else A u, ?_⟩, fun b o e => up b o (ne_of_none e h.f4) (h.same _ _ e), h.f1, h.f2, h.f3, h.f4, h.ne⟩
  refine ⟨?_, ?_, ?_, fun u => ?_, fun u hu => ?_, fun u hu => ?_, fun u hu => ?_, fun u hu v hv' e => ?_⟩
  · rw [upd_ne (ne_of hd2 hz2 (by intro z; cases z))]; exact hd2
  · rw [putK_new _ hv, List.map_append, hd.keys, List.map_append, List.map_append]; rfl
  · rw [List.nodup_append]
    refine ⟨hd.nd, by simp, fun a' ha b hb e => ?_⟩
    have : b = t := by simpa using hb
    exact ht (by rw [← this, ← e]; exact ha)
  · show _ ↔ (if u = t then M.du u ++ [x] else M.du u) ≠ []
    by_cases e : u = t
    · subst e
      rw [if_pos rfl]
      exact ⟨fun _ => by simp, fun _ => by simp⟩
    · rw [if_neg e, ← hd.mem u]
      constructor
      · intro h
        rcases List.mem_append.mp h with h | h
        · exact h
        · exact absurd (by simpa using h) e
      · intro h; exact List.mem_append_left _ h
  · rw [valV_put]
    by_cases e : u = t
    · subst e
      rw [if_pos rfl, if_pos rfl]
    · rw [if_neg e, if_neg (fun z => e (by have := Sum.inl.inj z; omega))]
      rcases List.mem_append.mp hu with h | h
      · exact hd.val u h
      · exact absurd (by simpa using h) e
  · show ∃ us, upd H2 z (.lst [.ref ta]) (if u = t then z else A u) = some (.lst us) ∧ TsAt _ us ((if u = t then M.du u ++ [x] else M.du u).map prV)
    by_cases e : u = t
    · rw [if_pos e, if_pos e, e, hdu]
      exact ⟨_, upd_same, (TsAt.nil.snoc hx).keep tk2⟩
    · rw [if_neg e, if_neg e]
      have hu' : u ∈ ns := by
        rcases List.mem_append.mp hu with h | h
        · exact h
        · exact absurd (by simpa using h) e
      obtain ⟨us, g1, g2⟩ := hd.lst u hu'
      exact ⟨us, up _ _ (ne_of g1 hd.dict (by intro z; cases z)) g1, g2.keep tk⟩
  · show H0 (if u = t then z else A u) = none ∧ (if u = t then z else A u) ≠ a.bp ∧ (if u = t then z else A u) ≠ a.mp
    by_cases e : u = t
    · rw [if_pos e]
      exact ⟨h.same.free hz, (fun w => by rw [w, h.bx] at hz; cases hz), (fun w => by rw [w, h1] at hz; cases hz)⟩
    · rw [if_neg e]
      rcases List.mem_append.mp hu with h | h
      · exact hd.fr u h
      · exact absurd (by simpa using h) e
  · have e' : (if u = t then z else A u) = (if v = t then z else A v) := e
    have mu : ¬ u = t → u ∈ ns := fun n => by
      rcases List.mem_append.mp hu with h | h
      · exact h
      · exact absurd (by simpa using h) n
    have mv : ¬ v = t → v ∈ ns := fun n => by
      rcases List.mem_append.mp hv' with h | h
      · exact h
      · exact absurd (by simpa using h) n
    by_cases eu : u = t
    · by_cases ev : v = t
      · rw [eu, ev]
      · rw [if_pos eu, if_neg ev] at e'
        exact absurd e'.symm (hA v (mv ev))
    · by_cases ev : v = t
      · rw [if_neg eu, if_pos ev] at e'
        exact absurd e' (hA u (mu eu))
      · rw [if_neg eu, if_neg ev] at e'
        exact hd.inj u (mu eu) v (mv ev) e'
theorem drop_keys {kvs : List (Key × V)} {ns : List Nat} (hk : kvs.map (·.1) = (ns.map fun n => ((n : Nat) : Int)).map Sum.inl) (t : Nat) : (dropK kvs (Sum.inl (t : Int))).map (·.1) = ((ns.filter fun n => decide (n ≠ t)).map fun n => ((n : Nat) : Int)).map Sum.inl := by
  induction kvs generalizing ns with
  | nil =>
    cases ns with
    | nil => rfl
    | cons n ns => cases hk
  | cons kv kvs ih =>
    cases ns with
    | nil => cases hk
    | cons n ns =>
      rw [List.map_cons, List.map_cons, List.map_cons, List.cons.injEq] at hk
      obtain ⟨e, hk⟩ := hk
      have i := ih hk
      by_cases c : n = t
      · rw [dropK_pos (by rw [e, c]), List.filter_cons_of_neg (by simp [c])]; exact i
      · rw [dropK_neg (by rw [e]; intro z; exact c (by have := Sum.inl.inj z; omega)), List.filter_cons_of_pos (by simp [c]), List.map_cons, List.map_cons, List.map_cons, i, e]
theorem val_cons {kv : Key × V} {kvs : List (Key × V)} {j : Key} : valV (kv :: kvs) j = if kv.1 = j then some kv.2 else valV kvs j := by
  unfold valV
  rw [List.find?_cons]
  by_cases c : kv.1 = j
  · rw [if_pos c]; simp [c]
  · rw [if_neg c]; simp [c]
theorem val_drop {kvs : List (Key × V)} {k j : Key} (h : j ≠ k) : valV (dropK kvs k) j = valV kvs j := by
  induction kvs with
  | nil => rfl
  | cons kv kvs ih =>
    by_cases c : kv.1 = k
    · rw [dropK_pos c, ih, val_cons, if_neg (fun z => h (z.symm.trans c))]
    · rw [dropK_neg c, val_cons, val_cons, ih]
theorem MachAt.out {CM : Addr} {H0 H : Hp} {a : Ad} {m : Int} {M : Ms} {kvs : List (Key × V)} {ns : List Nat} {A : Nat → Addr} (h : MachAt CM H0 H a m M) (hd : DueAt H0 H a M.du kvs ns A) (t : Nat) :
    MachAt CM H0 (upd H a.dd (.dK (dropK kvs (Sum.inl (t : Int))))) a m { M with du := fun u => if u = t then [] else M.du u } := by
  obtain ⟨us0, h1, h2⟩ := h.made
  have tk : TK H (upd H a.dd (.dK (dropK kvs (Sum.inl (t : Int))))) := TK.upd hd.dict (by intro xs z; cases z)
  have mf : ∀ u, u ∈ ns.filter (fun n => decide (n ≠ t)) ↔ u ∈ ns ∧ u ≠ t := fun u => by rw [List.mem_filter]; simp
  refine ⟨?_, ?_, ⟨us0, ?_, h2.keep tk⟩, ⟨dropK kvs (Sum.inl (t : Int)), ns.filter fun n => decide (n ≠ t), A, ?_⟩, fun b o e => ?_, h.f1, h.f2, h.f3, h.f4, h.ne⟩
  · rw [upd_ne (ne_of h.obj hd.dict (by intro z; cases z))]; exact h.obj
  · rw [upd_ne (ne_of h.bx hd.dict (by intro z; cases z))]; exact h.bx
  · rw [upd_ne (ne_of h1 hd.dict (by intro z; cases z))]; exact h1
  · refine ⟨upd_same, drop_keys hd.keys t, hd.nd.filter _, fun u => ?_, fun u hu => ?_, fun u hu => ?_, fun u hu => hd.fr u ((mf u).mp hu).1, fun u hu v hv => hd.inj u ((mf u).mp hu).1 v ((mf v).mp hv).1⟩
    · show _ ↔ (if u = t then [] else M.du u) ≠ []
      rw [mf u, hd.mem u]
      by_cases e : u = t
      · rw [if_pos e]; exact ⟨fun h => absurd e h.2, fun h => absurd rfl h⟩
      · rw [if_neg e]; exact ⟨fun h => h.1, fun h => ⟨h, e⟩⟩
    · have hu' := (mf u).mp hu
      rw [val_drop (fun z => hu'.2 (by have := Sum.inl.inj z; omega))]
      exact hd.val u hu'.1
    · have hu' := (mf u).mp hu
      obtain ⟨us, g1, g2⟩ := hd.lst u hu'.1
      refine ⟨us, ?_, ?_⟩
      · rw [upd_ne (ne_of g1 hd.dict (by intro z; cases z))]; exact g1
      · show TsAt _ _ ((if u = t then [] else M.du u).map prV)
        rw [if_neg hu'.2]; exact g2.keep tk
  · rw [upd_ne (ne_of_none e h.f4)]; exact h.same _ _ e
theorem fs_m {a : Ad} {m : Int} {c : Nat} : (mkFs a m c).lookup (Str.ofString "measure") = some (.int m) := rfl
theorem fs_f {a : Ad} {m : Int} {c : Nat} : (mkFs a m c).lookup (Str.ofString "feeds") = some (.ref a.fd) := rfl
theorem fs_b {a : Ad} {m : Int} {c : Nat} : (mkFs a m c).lookup (Str.ofString "boxes") = some (.ref a.bp) := rfl
theorem fs_t {a : Ad} {m : Int} {c : Nat} : (mkFs a m c).lookup (Str.ofString "tick") = some (.int (c : Int)) := rfl
theorem fs_d {a : Ad} {m : Int} {c : Nat} : (mkFs a m c).lookup (Str.ofString "due") = some (.ref a.dd) := rfl
theorem fs_o {a : Ad} {m : Int} {c : Nat} : (mkFs a m c).lookup (Str.ofString "made") = some (.ref a.mp) := rfl
theorem getsX_take {F : Fx} {bs : List Int} {s : Sx} {t : Nat} (h : s.d = .take) : getsX F bs s t = [(fedOf F s.name).getD t 0] := if_pos h
theorem getsX_not {F : Fx} {bs : List Int} {s : Sx} {t : Nat} (h : ¬ s.d = .take) : getsX F bs s t = s.reads.map (rxV bs) := if_neg h
def spNums (CM : Addr) : Sp := fun vs H Q _ => ∃ (H0 : Hp) (a : Ad) (m : Int) (M : Ms) (F : Fx) (s : Sx) (q : Addr) (ws : List V) (t : Nat), vs = [.ref a.x, .str s.d.word, .ref q, .str s.name, .int (t : Int)] ∧ MachAt CM H0 H a m M ∧ H q = some (.lst ws) ∧ RpA H ws (s.reads.map rxD) ∧ SxOk M.bs.length s ∧ Rp H0 (.ref a.fd) (feedsD F) ∧ t < (fedOf F s.name).length ∧
  ∀ p H2, Same H H2 → H2 p = some (.lst ((getsX F M.bs s t).map V.int)) → Q (.ref p) H2
theorem m_nums (T : Txt K mg C CE) : MethI P w K mg base 1 "numbers_got" ["self", "word", "reads", "name", "turn"] (fun _ : Unit => CE .Machine) (fun _ => spNums (CE .Machine)) := by
  refine ⟨fun _ => ⟨T.i_Machine.cl, ?_⟩⟩
  refine T.f_Machine_numbers_got.fn sc_Machine_numbers_got (fun _ _ _ _ _ _ us hl => match us, hl with | [_, _, _, _, _], _ => rfl) (by rintro vs H Q E ⟨H0, a, m, M, F, s, q, ws, t, rfl, _⟩; rfl) (fun f cdv A outer s H vs Q E hr h => ?_)
  obtain ⟨H0, a, m, M, F, sx, q0, ws, t, rfl, hM, hq0, rws, hok, hf, htl, q⟩ := h
  have lb := line_big
  have w3 := wants3 sx.d
  have hm := hok.many
  have hwl := rpa_len rws
  rw [List.length_map] at hwl
  refine ⟨_, (pss_cons (ps_if (pt_cmpR op_eq (pv 1) pe_str (nomark _)) (pss_one (ps_ret (pe_lstA (pa_cons (pe_ix ix_seq (pe_dget (hu_of hr) (pe_fld (pv 0) rfl) (pv 3) (fun _ _ => rfl)) (pv 4) (fun _ _ => rfl)) pa_nil (se rfl))))) pss_nil)
    (pss_one (ps_ret (pe_lc (Blk.of (caps := ["self"]) (ix := [0]) rfl) rfl (pi_list (pv 2)) (fun _ _ _ _ => pf_nil) (fun _ _ _ _ => (pe_ifExp (pt_val (pe_callB (call_isiK (K := K) rfl) rfl T.nisi PyProof.Rows.boot_isinstance (pa_cons (pv 0) (pa_cons (pe_bltn (v := .ty "int") rfl T.nint PyProof.Rows.boot_int rfl) pa_nil (se rfl)) (se rfl)) (he := se rfl) (hpl := nst rfl))) (pv 0) (pe_ix (ix_seqK (K := K) rfl) (pe_fldK (K := K) rfl (pv 1) rfl) (pe_ix (ix_seqK (K := K) rfl) (pv 0) pe_int (fun _ _ => rfl)) (fun _ _ => rfl)))))))), ?_⟩
  walk_at "rd"
  by_cases ht : sx.d = .take
  · refine i_iteSe (by rw [ht]; rfl) ?_
    obtain ⟨lp, g1, g2⟩ := feeds_at (hf.same hM.same) hok.name
    walk_at "rd"
    refine i_dix ?_
    refine i_fld ?_
    walk_at "rd"
    refine ⟨a.x, _, a.dx, _, .ref a.fd, rfl, hM.obj, T.i_Machine.cl, T.nM_feeds, fs_f, ?_⟩
    walk_at "rd"
    refine ⟨a.fd, _, rfl, g1, ?_⟩
    walk_at "rd"
    refine i_ixL (sqL_inj_of g2) (at_ints t htl) ?_
    walk_at "rd"
    refine ⟨by show 1 ≤ sizeLine; omega, fun p H2 hN => ?_⟩
    refine q p H2 hN.same ?_
    rw [hN.at, getsX_take ht]; rfl
  · refine i_iteSf (word_ne (e := .take) ht) ?_
    walk_at "rd"
    refine i_lc (i_list ?_)
    walk_at "rd"
    show ∃ a, _ ∧ _ ∧ _
    refine lcNL ws (fun D i y H' => ∃ rd, sx.reads[i]? = some rd ∧ y = .int (rxV M.bs rd)) (sqL_inj_of hq0) (by omega) (fun D i y H' H'' _ h => h) (fun D i v H' R hv hD hy s' rr => ?_) (fun D ys H2 hD s2 hHD hyl hP => ?_)
    · obtain ⟨d, hd, hrp⟩ := rpa_get rws hv
      rw [List.getElem?_map] at hd
      have hiw := (List.getElem?_eq_some_iff.mp hv).1
      have hir : i < sx.reads.length := by omega
      have hri := List.getElem?_eq_getElem hir
      rw [hri] at hd
      cases hd
      have rok := hok.reads _ (List.getElem_mem hir)
      have hrp' := hrp.same s'
      generalize sx.reads[i] = rd at *
      cases rd with
      | num k =>
        have e := int_at hrp'
        subst e
        walk_at "rd"
        refine i_isiI T.kII ?_
        walk_at "rd"
        exact rr _ _ (Same.refl _) ⟨_, hri, rfl⟩
      | box n =>
        obtain ⟨ta, us, rfl, hta, ru⟩ := tup_at hrp'
        obtain ⟨v1, u1, rfl, a1, ru⟩ := rpa_cons ru
        obtain ⟨v2, u2, rfl, a2, ru⟩ := rpa_cons ru
        obtain rfl := rpa_nil ru
        rw [str_at a1, int_at a2] at hta
        have hn : n < M.bs.length := rok
        walk_at "rd"
        refine i_isiT hta T.kTI ?_
        walk_at "rd"
        refine i_fld ?_
        walk_at "rd"
        refine ⟨a.x, _, a.dx, _, .ref a.bp, rfl, s' _ _ hM.obj, T.i_Machine.cl, T.nM_boxes, fs_b, ?_⟩
        walk_at "rd"
        refine i_ixT (.inl (.inl hta)) (show atI _ 1 = some (.int (n : Int)) from rfl) ?_
        walk_at "rd"
        refine i_ixL (sqL_inj_of (s' _ _ hM.bx)) (at_ints n hn) ?_
        exact rr _ _ (Same.refl _) ⟨_, hri, rfl⟩
    · refine q D H2 s2 ?_
      rw [hHD, getsX_not ht]
      congr 1; congr 1
      refine List.ext_getElem? fun i => ?_
      rw [List.getElem?_map, List.getElem?_map]
      by_cases hi : i < ys.length
      · obtain ⟨rd, e1, e2⟩ := hP i ys[i] (List.getElem?_eq_getElem hi)
        rw [List.getElem?_eq_getElem hi, e1, e2]; rfl
      · rw [List.getElem?_eq_none (by omega), List.getElem?_eq_none (by omega)]; rfl
theorem ixN_nat {n i : Nat} (h : i < n) : ixN n (i : Int) = some i := by
  unfold ixN
  rw [if_pos (by omega), if_pos (by omega), Int.toNat_natCast]
theorem set_ints {bs : List Int} {i : Nat} {x : Int} : (bs.map V.int).set i (.int x) = (bs.set i x).map V.int := by rw [List.map_set]
theorem fold_next {α β : Type} (f : β → α → β) (b : β) {l : List α} {i : Nat} {x : α} (h : l[i]? = some x) : (l.take (i + 1)).foldl f b = f ((l.take i).foldl f b) x := by
  rw [List.take_add_one, h, List.foldl_append]; rfl
def spLand (CM : Addr) : Sp := fun vs H Q _ => ∃ (H0 : Hp) (a : Ad) (m : Int) (M : Ms) (t : Nat), vs = [.ref a.x, .int (t : Int)] ∧ MachAt CM H0 H a m M ∧ (∀ x ∈ M.du t, x.1 < M.bs.length) ∧ ∀ H2, MachAt CM H0 H2 a m (landM t M) → Q .non H2
theorem m_land (T : Txt K mg C CE) : MethI P w K mg base 1 "land" ["self", "tick"] (fun _ : Unit => CE .Machine) (fun _ => spLand (CE .Machine)) := by
  refine ⟨fun _ => ⟨T.i_Machine.cl, ?_⟩⟩
  refine T.f_Machine_land.fn sc_Machine_land (fun _ _ _ _ _ _ us hl => match us, hl with | [_, _], _ => rfl) (by rintro vs H Q E ⟨H0, a, m, M, t, rfl, _⟩; rfl) (fun f cdv A outer s H vs Q E hr h => ?_)
  obtain ⟨H0, a, m, M, t, rfl, hM, hlt, q⟩ := h
  obtain ⟨kvs, ns, A', hd⟩ := hM.due
  refine ⟨_, (pss_cons (ps_set (i := 2) sc_Machine_land.nd rfl (by first | exact Or.inl rfl | exact Or.inr rfl) (pe_dpop2 (pe_fld (pv 0) rfl) (pv 1) (pe_lstA pa_nil) ⟨rfl, rfl, rfl, rfl⟩))
    (pss_one (ps_for PassesOwn.never rfl (pi_list (pv 2)) (pg_tup rfl (pgs_cons (pg_name (i := 3) sc_Machine_land.nd rfl (by first | exact Or.inl rfl | exact Or.inr rfl)) (pgs_cons (pg_name (i := 4) sc_Machine_land.nd rfl (by first | exact Or.inl rfl | exact Or.inr rfl)) pgs_nil)))
      (pss_one (ps_asg (pv 4) (pg_sub (pe_fld (pv 0) rfl) (pv 3) set_list)))))), ?_⟩
  walk_at "rd"
  refine i_dpop2 ?_
  refine i_fld ?_
  walk_at "rd"
  refine ⟨a.x, _, a.dx, _, .ref a.dd, rfl, hM.obj, T.i_Machine.cl, T.nM_due, fs_d, ?_⟩
  refine ⟨a.dd, rfl, .inl ⟨kvs, .inl hd.dict⟩, ?_⟩
  walk_at "rd"
  refine ⟨by show 0 ≤ sizeLine; exact Nat.zero_le _, fun e H1 hN1 => ?_⟩
  have hM1 := hM.to hN1.same
  refine ⟨kvs, Sum.inl (t : Int), hN1.same _ _ hd.dict, rfl, fun v hv => ?_, fun hn => ?_⟩
  · have ht : t ∈ ns := by
      by_cases h : t ∈ ns
      · exact h
      · rw [keys_no hd.keys h] at hv; cases hv
    have hv' := hd.val t ht
    rw [hv] at hv'
    cases hv'
    have hd1 : DueAt H0 H1 a M.du kvs ns A' := hd.to (TK.of hN1.same) (hN1.same _ _ hd.dict) fun u hu => by
      obtain ⟨us, g, _⟩ := hd.lst u hu
      rw [g]; exact hN1.same _ _ g
    obtain ⟨us, g1, g2⟩ := hd1.lst t ht
    have hM2 := hM1.out hd1 t
    have tk2 : TK H1 (upd H1 a.dd (.dK (dropK kvs (Sum.inl (t : Int))))) := TK.upd hd1.dict (by intro xs z; cases z)
    have g1' : upd H1 a.dd (.dK (dropK kvs (Sum.inl (t : Int)))) (A' t) = some (.lst us) := by
      rw [upd_ne (ne_of g1 hd1.dict (by intro z; cases z))]; exact g1
    have g2' := g2.keep tk2
    have fr := (hd1.fr t ht).2.1
    have l2 := g2.len
    rw [List.length_map] at l2
    generalize upd H1 a.dd (.dK (dropK kvs (Sum.inl (t : Int)))) = H2 at *
    walk_at "rd"
    dsimp only
    refine i_for (i_list ?_)
    walk_at "rd"
    refine ⟨A' t, rfl, ⟨us, sqL_inj_of g1'⟩, ?_⟩
    refine for_list (xs := us) (fun i σ H' => MachAt (CE .Machine) H0 H' a m { M with bs := ((M.du t).take i).foldl putB M.bs, du := fun u => if u = t then [] else M.du u } ∧ H' (A' t) = some (.lst us) ∧ TsAt H' us ((M.du t).map prV) ∧ ∃ x3 x4, σ = [some (.ref a.x), some (.int (t : Int)), some (.ref (A' t)), x3, x4])
      ⟨hM2, g1', g2', none, none, rfl⟩ (fun i σ H' _ h => sqL_inj_of h.2.1) ?_ ?_
    · rintro i u σ H3 hui ⟨hM3, hA3, hT3, x3, x4, rfl⟩
      obtain ⟨ta, l, hl, rfl, hta⟩ := hT3.get hui
      rw [List.getElem?_map] at hl
      have hi : i < (M.du t).length := by rw [← l2]; exact (List.getElem?_eq_some_iff.mp hui).1
      have hgi := List.getElem?_eq_getElem hi
      rw [hgi] at hl
      cases hl
      have hb := hlt _ (List.getElem_mem hi)
      have fn := fold_next putB M.bs hgi
      generalize (M.du t)[i] = pr at *
      obtain ⟨b, n⟩ := pr
      have hta' : H3 ta = some (.tup [.int (b : Int), .int n]) := hta
      refine i_gtup (.inl (.inl hta')) rfl ?_
      walk_at "rd"
      refine i_gsub ?_
      refine i_fld ?_
      walk_at "rd"
      refine ⟨a.x, _, a.dx, _, .ref a.bp, rfl, hM3.obj, T.i_Machine.cl, T.nM_boxes, fs_b, ?_⟩
      walk_at "rd"
      refine ⟨a.bp, _, _, b, rfl, rfl, hM3.bx, ixN_nat (by rw [List.length_map, puts_len]; exact hb), ?_⟩
      rw [set_ints]
      have hM4 := hM3.boxes ((((M.du t).take i).foldl putB M.bs).set b n)
      refine ⟨?_, ?_, hT3.keep (TK.upd hM3.bx (by intro xs z; cases z)), _, _, rfl⟩
      · rw [fn]; exact hM4
      · rw [upd_ne fr]; exact hA3
    · rintro σ H3 ⟨hM3, hA3, hT3, x3, x4, rfl⟩
      rw [l2, List.take_length] at hM3
      exact q H3 hM3
  · have ht : ¬ t ∈ ns := fun h => by rw [hd.val t h] at hn; cases hn
    have hdu : M.du t = [] := by
      by_cases e : M.du t = []
      · exact e
      · exact absurd ((hd.mem t).mpr e) ht
    walk_at "rd"
    dsimp only
    refine i_for (i_list ?_)
    walk_at "rd"
    refine ⟨e, rfl, ⟨[], hN1.lst⟩, ?_⟩
    refine for_list (xs := []) (fun i σ H' => H' = H1) rfl (fun i σ H' _ h => by rw [h]; exact hN1.lst) ?_ ?_
    · rintro i u σ H3 hui _
      simp at hui
    · rintro σ H3 rfl
      refine q _ ?_
      have e2 : landM t M = M := by
        unfold landM
        rw [hdu]
        have : (fun u => if u = t then [] else M.du u) = M.du := by
          funext u
          by_cases e : u = t
          · rw [if_pos e, e, hdu]
          · rw [if_neg e]
        rw [this]; rfl
      rw [e2]; exact hM1
theorem getsX_len {nb : Nat} {F : Fx} {bs : List Int} {s : Sx} {t : Nat} (h : SxOk nb s) : s.d.need ≤ (getsX F bs s t).length := by
  by_cases ht : s.d = .take
  · rw [getsX_take ht, ht]; exact Nat.le_refl 1
  · rw [getsX_not ht, List.length_map, h.many]
    cases e : s.d <;> first | (exact absurd e ht) | decide
theorem getsX_bd {nb : Nat} {F : Fx} {bs : List Int} {s : Sx} {t : Nat} (h : SxOk nb s) (ht : ¬ s.d = .take) (hb : ∀ x ∈ bs, Bd x) (hl : bs.length = nb) (i : Nat) : Bd ((getsX F bs s t).getD i 0) := by
  have b0 : Bd 0 := by unfold Bd; decide
  rw [getsX_not ht, List.getD, List.getElem?_map]
  cases e : s.reads[i]? with
  | none => exact b0
  | some rd =>
    have rok := h.reads rd (List.mem_of_getElem? e)
    show Bd (rxV bs rd)
    cases rd with
    | num k =>
      have hk : 0 ≤ k ∧ k < 10 ^ 60 := rok
      have e60 : (10 : Int) ^ 60 < 2 ^ 200 := by decide +kernel
      unfold Bd
      show k.natAbs < 2 ^ 200
      have : ((k.natAbs : Nat) : Int) < ((2 ^ 200 : Nat) : Int) := by rw [Int.natCast_pow]; show _ < (2 : Int) ^ 200; omega
      exact Int.ofNat_lt.mp this
    | box n =>
      have hn : n < nb := rok
      have hn' : n < bs.length := by omega
      show Bd (bs.getD n 0)
      rw [List.getD, List.getElem?_eq_getElem hn']
      exact hb _ (List.getElem_mem hn')
structure FedOk (F : Fx) (n : Nat) : Prop where
  i : n + 5 ≤ F.fi.length
  o : n + 5 ≤ F.fo.length
theorem FedOk.lt {F : Fx} {n t : Nat} {z : Str} (h : FedOk F n) (ht : t ≤ n + 4) : t < (fedOf F z).length := by
  have h1 := h.i; have h2 := h.o
  unfold fedOf
  split <;> omega
def spDoPart (CM : Addr) : Sp := fun vs H Q _ => ∃ (H0 : Hp) (a : Ad) (m : Int) (M : Ms) (F : Fx) (v : V) (p : Part) (nb N later : Nat), vs = [.ref a.x, v, .int (later : Int)] ∧ MachAt CM H0 H a m M ∧ Rp H0 (.ref a.fd) (feedsD F) ∧ Rp H0 v (partD p) ∧ PartOk nb p ∧ WfM nb N M ∧ FedOk F later ∧ 2 ≤ m ∧ m ≤ 10 ^ 60 ∧ N ≤ 9000 ∧
  ∀ H2, MachAt CM H0 H2 a m (partM m F later M p) → Q .non H2
theorem m_dopart (T : Txt K mg C CE) (Kb : K.In base) (G : base.Ns mainGlobals mg) : MethI P w K mg base 2 "do_part" ["self", "part", "later"] (fun _ : Unit => CE .Machine) (fun _ => spDoPart (CE .Machine)) := by
  have Mnumbers_got : MethI P w K mg base 1 "numbers_got" ["self", "word", "reads", "name", "turn"] (fun _ : Unit => CE .Machine) (fun _ => spNums (CE .Machine)) := m_nums T
  have Mland : MethI P w K mg base 1 "land" ["self", "tick"] (fun _ : Unit => CE .Machine) (fun _ => spLand (CE .Machine)) := m_land T
  have Ddeed_of : Df P w K mg base 1 "deed_of" ["word"] (spDeedA C) := d_deed T Kb G
  have Mof : MethI P w K mg base 1 "of" ["self", "numbers", "measure"] C (spOf K) := m_of T
  refine ⟨fun _ => ⟨T.i_Machine.cl, ?_⟩⟩
  refine T.f_Machine_do_part.fn sc_Machine_do_part (fun _ _ _ _ _ _ us hl => match us, hl with | [_, _, _], _ => rfl) (by rintro vs H Q E ⟨H0, a, m, M, F, v, p, nb, N, later, rfl, _⟩; rfl) (fun f cdv A outer s H vs Q E hr h => ?_)
  obtain ⟨H0, a, m, M, F, v, p, nb, N, later, rfl, hM, hf, hp, hpo, hw, hfe, m2, m60, hN, q⟩ := h
  have m0 : 0 < m := by omega
  have lb := line_big
  obtain ⟨pp, tv, rfl, hpp, rt⟩ := list_at hp
  have ltv := rpa_len rt
  rw [List.length_map] at ltv
  refine ⟨_, (pss_one (ps_for PassesOwn.never rfl (pi_list (pv 1)) (pg_name (i := 3) sc_Machine_do_part.nd rfl (by first | exact Or.inl rfl | exact Or.inr rfl))
      (pss_cons (ps_expr (pe_methI Mland (pv 0) (hr.mono (by decide)) (pa_cons (pe_fld (pv 0) rfl) pa_nil (se rfl)) (hst := se rfl) (hpl := nst rfl)))
    (pss_cons (ps_for PassesOwn.never rfl (pi_list (pv 3)) (pg_tup rfl (pgs_cons (pg_name (i := 4) sc_Machine_do_part.nd rfl (by first | exact Or.inl rfl | exact Or.inr rfl)) (pgs_cons (pg_name (i := 5) sc_Machine_do_part.nd rfl (by first | exact Or.inl rfl | exact Or.inr rfl)) (pgs_cons (pg_name (i := 6) sc_Machine_do_part.nd rfl (by first | exact Or.inl rfl | exact Or.inr rfl)) (pgs_cons (pg_name (i := 7) sc_Machine_do_part.nd rfl (by first | exact Or.inl rfl | exact Or.inr rfl)) (pgs_cons (pg_name (i := 8) sc_Machine_do_part.nd rfl (by first | exact Or.inl rfl | exact Or.inr rfl)) (pgs_cons (pg_name (i := 9) sc_Machine_do_part.nd rfl (by first | exact Or.inl rfl | exact Or.inr rfl)) pgs_nil)))))))
      (pss_cons (ps_set (i := 10) sc_Machine_do_part.nd rfl (by first | exact Or.inl rfl | exact Or.inr rfl) (pe_op op_add (pv 9) (pv 2)))
    (pss_cons (ps_set (i := 11) sc_Machine_do_part.nd rfl (by first | exact Or.inl rfl | exact Or.inr rfl) (pe_methI Mof (pe_callD Ddeed_of (hr.mono (by decide)) rfl (pa_cons (pv 4) pa_nil (se rfl)) (he := se rfl) (hpl := nst rfl)) (hr.mono (by decide)) (pa_cons (pe_methI Mnumbers_got (pv 0) (hr.mono (by decide)) (pa_cons (pv 4) (pa_cons (pv 7) (pa_cons (pv 8) (pa_cons (pv 10) pa_nil (se rfl)) (se rfl)) (se rfl)) (se rfl)) (hst := se rfl) (hpl := nst rfl)) (pa_cons (pe_fld (pv 0) rfl) pa_nil (se rfl)) (se rfl)) (hst := se rfl) (hpl := nst rfl)))
    (pss_cons (ps_expr (pe_bm PySem.F.plainAttrs_list PySem.F.slot_list_append PySem.F.type_list_append mt_append (pe_dsetd (pe_fld (pv 0) rfl) (pe_op op_add (pe_fld (pv 0) rfl) (pv 5)) (pe_lstA pa_nil) ⟨rfl, rfl, rfl, rfl⟩) (pa_cons (pe_tupA (pa_cons (pv 6) (pa_cons (pv 11) pa_nil (se rfl)) (se rfl))) pa_nil (se rfl)) (hs := se rfl) (hplain := nst rfl)))
    (pss_one (ps_if (pt_cmpR op_eq (pv 4) pe_str (nomark _)) (pss_one (ps_expr (pe_bm PySem.F.plainAttrs_list PySem.F.slot_list_append PySem.F.type_list_append mt_append (pe_fld (pv 0) rfl) (pa_cons (pe_tupA (pa_cons (pv 8) (pa_cons (pv 10) (pa_cons (pv 11) pa_nil (se rfl)) (se rfl)) (se rfl))) pa_nil (se rfl)) (hs := se rfl) (hplain := nst rfl)))) pss_nil))))))
    (pss_one (ps_fldaug (pv 0) pe_int in_add)))))), ?_⟩
  walk_at "rd"
  refine i_for (i_list ?_)
  walk_at "rd"
  refine ⟨pp, rfl, ⟨tv, sqL_inj_of (hM.same _ _ hpp)⟩, ?_⟩
  refine for_list (xs := tv) (fun i σ H' => MachAt (CE .Machine) H0 H' a m (partM m F later M (p.take i)) ∧ ∃ x3 x4 x5 x6 x7 x8 x9 xa xb, σ = [some (.ref a.x), some (.ref pp), some (.int (later : Int)), x3, x4, x5, x6, x7, x8, x9, xa, xb])
    ⟨hM, none, none, none, none, none, none, none, none, none, rfl⟩ (fun i σ H' _ h => sqL_inj_of (h.1.same _ _ hpp)) ?_ ?_
  · rintro i u σ H1 hui ⟨hM1, x3, x4, x5, x6, x7, x8, x9, xa, xb, rfl⟩
    have hiv := (List.getElem?_eq_some_iff.mp hui).1
    have hip : i < p.length := by omega
    obtain ⟨d, hd, hrp⟩ := rpa_get rt hui
    have hpi := List.getElem?_eq_getElem hip
    rw [List.getElem?_map, hpi] at hd
    cases hd
    have fn : partM m F later M (p.take (i + 1)) = _ := fold_next (tickM m F later) M hpi
    have hw1 : WfM nb (N + 9) (partM m F later M (p.take i)) := (hw.ticks (F := F) (later := later) m0 m60 fun l hl => hpo.each l (List.mem_of_mem_take hl)).mono (by have := hpo.len; rw [List.length_take]; omega)
    have each := hpo.each _ (List.getElem_mem hip)
    generalize p[i] = l at *
    have fn' : partM m F later M (p.take (i + 1)) = tickM m F later (partM m F later M (p.take i)) l := fn
    generalize partM m F later M (p.take i) = M1 at *
    obtain ⟨sp, sv, rfl, hsp, rs⟩ := list_at hrp
    have lsv := rpa_len rs
    rw [List.length_map] at lsv
    walk_at "rd"
    refine i_methI ?_
    walk_at "rd"
    refine ⟨(), a.x, a.dx, _, rfl, hM1.obj, rfl, ?_⟩
    refine i_cons ?_
    refine i_fld ?_
    walk_at "rd"
    refine ⟨a.x, _, a.dx, _, .int (M1.c : Int), rfl, hM1.obj, T.i_Machine.cl, T.nM_tick, fs_t, ?_⟩
    walk_at "rd"
    refine ⟨H0, a, m, M1, M1.c, rfl, hM1, fun x hx => by rw [hw1.len]; exact (hw1.du _ x hx).1, fun H2 hM2 => ?_⟩
    have hw2 := hw1.land M1.c
    walk_at "rd"
    dsimp only
    refine i_for (i_list ?_)
    walk_at "rd"
    refine ⟨sp, rfl, ⟨sv, sqL_inj_of (hM2.same _ _ hsp)⟩, ?_⟩
    refine for_list (xs := sv) (fun j σ H' => MachAt (CE .Machine) H0 H' a m ((l.take j).foldl (stepM m F later) (landM M1.c M1)) ∧ ∃ x4 x5 x6 x7 x8 x9 xa xb, σ = [some (.ref a.x), some (.ref pp), some (.int (later : Int)), some (.ref sp), x4, x5, x6, x7, x8, x9, xa, xb])
      ⟨hM2, _, _, _, _, _, _, _, _, rfl⟩ (fun i σ H' _ h => sqL_inj_of (h.1.same _ _ hsp)) ?_ ?_
    · rintro j u σ H3 huj ⟨hM3, x4, x5, x6, x7, x8, x9, xa, xb, rfl⟩
      have hjv := (List.getElem?_eq_some_iff.mp huj).1
      have hjl : j < l.length := by omega
      obtain ⟨d, hd, hrp⟩ := rpa_get rs huj
      have hlj := List.getElem?_eq_getElem hjl
      rw [List.getElem?_map, hlj] at hd
      cases hd
      have fn2 := fold_next (stepM m F later) (landM M1.c M1) hlj
      have hw3 : WfM nb (N + 12) ((l.take j).foldl (stepM m F later) (landM M1.c M1)) := (hw2.steps (F := F) (later := later) m0 m60 fun s hs => each.2 s (List.mem_of_mem_take hs)).mono (by have := each.1; rw [List.length_take]; omega)
      have hok := each.2 _ (List.getElem_mem hjl)
      rw [fn2]
      generalize l[j] = sx at *
      generalize (l.take j).foldl (stepM m F later) (landM M1.c M1) = M3 at *
      obtain ⟨tp, rp, rv, rfl, htp, hrl, rr⟩ := sx_at hrp
      have hof := hok.off
      refine i_gtup (.inl (.inl (hM3.same _ _ htp))) rfl ?_
      walk_at "rd"
      have eo : (sx.off : Int) + (later : Int) = ((sx.off + later : Nat) : Int) := (Int.natCast_add _ _).symm
      rw [eo]
      refine i_methI ?_
      walk_at "rd"
      refine ⟨sx.d, rfl, fun y dy H4 hN4 => ?_⟩
      have hM4 := hM3.to hN4.same
      refine ⟨sx.d, y, dy, [], rfl, hN4.at, rfl, ?_⟩
      walk_at "rd"
      refine i_methI ?_
      walk_at "rd"
      refine ⟨(), a.x, a.dx, _, rfl, hM4.obj, rfl, ?_⟩
      walk_at "rd"
      refine ⟨H0, a, m, M3, F, sx, rp, rv, sx.off + later, rfl, hM4, hM4.same _ _ hrl, rr.same hM4.same, by rw [hw3.len]; exact hok, hf, hfe.lt (by omega), fun np H5 s5 hnp => ?_⟩
      have hM5 := hM4.to s5
      walk_at "rd"
      refine i_fld ?_
      walk_at "rd"
      refine ⟨a.x, _, a.dx, _, .int m, rfl, hM5.obj, T.i_Machine.cl, T.nM_measure, fs_m, ?_⟩
      walk_at "rd"
      refine ⟨y, np, getsX F M3.bs sx (sx.off + later), m, rfl, sqL_inj_of hnp, getsX_len hok, m0, fun hti => ?_, ?_⟩
      · have ntk : ¬ sx.d = .take := by rw [hti]; decide
        exact mulOk_abs 200 200 (getsX_bd hok ntk hw3.bd hw3.len 0) (getsX_bd hok ntk hw3.bd hw3.len 1) (by decide)
      have en : sx.d.of (getsX F M3.bs sx (sx.off + later)) m = numX m F later M3 sx := rfl
      rw [en]
      walk_at "rd"
      refine i_dsetd ?_
      refine i_fld ?_
      walk_at "rd"
      obtain ⟨kvs, ns, A', hd5⟩ := hM5.due
      refine ⟨a.x, _, a.dx, _, .ref a.dd, rfl, hM5.obj, T.i_Machine.cl, T.nM_due, fs_d, ?_⟩
      refine ⟨a.dd, rfl, .inl ⟨kvs, .inl hd5.dict⟩, ?_⟩
      walk_at "rd"
      refine i_fld ?_
      walk_at "rd"
      refine ⟨a.x, _, a.dx, _, .int (M3.c : Int), rfl, hM5.obj, T.i_Machine.cl, T.nM_tick, fs_t, ?_⟩
      walk_at "rd"
      refine ⟨by show 0 ≤ sizeLine; exact Nat.zero_le _, fun z H6 hN6 => ?_⟩
      have hk7 : kvs.length ≤ 7 := by
        have h1 := nodup_le 7 M3.c ns hd5.nd fun t ht => hw3.win t ((hd5.mem t).mp ht)
        have h2 := congrArg List.length hd5.keys
        rw [List.length_map, List.length_map, List.length_map] at h2
        omega
      refine ⟨kvs, Sum.inl ((M3.c + sx.delay : Nat) : Int), hN6.same _ _ hd5.dict, (show V.int ((M3.c : Int) + (sx.delay : Int)) = V.int ((M3.c + sx.delay : Nat) : Int) by rw [Int.natCast_add]), by omega, fun v hv => ?_, fun hn => ?_⟩
      · have ht : (M3.c + sx.delay) ∈ ns := by
          by_cases h : (M3.c + sx.delay) ∈ ns
          · exact h
          · rw [keys_no hd5.keys h] at hv; cases hv
        have hv' := hd5.val _ ht
        rw [hv] at hv'
        cases hv'
        have hM6 := hM5.to hN6.same
        obtain ⟨us, g1, g2⟩ := hd5.lst _ ht
        have g16 := hN6.same _ _ g1
        have l2 := g2.len
        rw [List.length_map] at l2
        have hmn := hw3.many (M3.c + sx.delay)
        refine ⟨.inl ⟨rfl, _, sqL_inj_of g16⟩, ?_⟩
        walk_at "rd"
        refine ⟨by show 2 ≤ sizeLine; omega, fun ta H7 hN7 => ?_⟩
        walk_at "rd"
        refine i_append (hN7.same _ _ g16) (by omega) ?_
        have hd7 : DueAt H0 H7 a M3.du kvs ns A' := hd5.to (TK.of (hN6.same.trans hN7.same)) ((hN6.same.trans hN7.same) _ _ hd5.dict) fun u hu => by
          obtain ⟨us, g, _⟩ := hd5.lst u hu
          rw [g]; exact (hN6.same.trans hN7.same) _ _ g
        have hM8 := (hM6.to hN7.same).push1 (x := (sx.box, numX m F later M3 sx)) hd7 ht (hN7.same _ _ g16) hN7.at
        have hts : H7 tp = some (.tup [.str sx.d.word, .int (sx.delay : Int), .int (sx.box : Int), .ref rp, .str sx.name, .int (sx.off : Int)]) := (hM6.to hN7.same).same _ _ htp
        generalize upd H7 (A' (M3.c + sx.delay)) (.lst (us ++ [.ref ta])) = H8 at *
        walk_at "rd"
        dsimp only
        walk_at "rd"
        by_cases hT : sx.d = .tell
        · refine i_iteSe (by rw [hT]; rfl) ?_
          obtain ⟨os, o1, o2⟩ := hM8.made
          have ol := o2.len
          rw [List.length_map] at ol
          have otl := hw3.told
          have ol' : os.length = M3.told.length := ol
          walk_at "rd"
          refine i_fld ?_
          walk_at "rd"
          refine ⟨a.x, _, a.dx, _, .ref a.mp, rfl, hM8.obj, T.i_Machine.cl, T.nM_made, fs_o, ?_⟩
          refine ⟨.inl ⟨rfl, _, sqL_inj_of o1⟩, ?_⟩
          walk_at "rd"
          refine ⟨by show 3 ≤ sizeLine; omega, fun tb H9 hN9 => ?_⟩
          walk_at "rd"
          refine i_append (hN9.same _ _ o1) (by omega) ?_
          have hM9 := (hM8.to hN9.same).tell (x := (sx.name, sx.off + later, numX m F later M3 sx)) (hN9.same _ _ o1) hN9.at
          refine ⟨?_, _, _, _, _, _, _, _, _, rfl⟩
          unfold stepM
          rw [if_pos hT]
          exact hM9
        · refine i_iteSf (word_ne (e := .tell) hT) ?_
          walk_at "rd"
          refine ⟨?_, _, _, _, _, _, _, _, _, rfl⟩
          unfold stepM
          rw [if_neg hT]
          exact hM8
      · have ht : ¬ (M3.c + sx.delay) ∈ ns := fun h => by rw [hd5.val _ h] at hn; cases hn
        refine ⟨.inl ⟨rfl, [], sqL_inj_of (by rw [upd_ne (ne_of hN6.at (hN6.same _ _ hd5.dict) (by intro w; cases w))]; exact hN6.at)⟩, ?_⟩
        walk_at "rd"
        refine ⟨by show 2 ≤ sizeLine; omega, fun ta H7 hN7 => ?_⟩
        have hz7 : H7 z = some (.lst []) := hN7.same _ _ (by rw [upd_ne (ne_of hN6.at (hN6.same _ _ hd5.dict) (by intro w; cases w))]; exact hN6.at)
        walk_at "rd"
        refine i_append hz7 (by show 0 < sizeLine; omega) ?_
        have hM8 := hM5.push0 (x := (sx.box, numX m F later M3 sx)) (H2 := H7) hd5 ht hN6.free (fun b o n e => hN7.same _ _ (by rw [upd_ne n]; exact hN6.same _ _ e)) (hN7.same _ _ upd_same) hz7 hN7.at
        rw [show ([] : List V) ++ [V.ref ta] = [V.ref ta] from rfl]
        generalize upd H7 z (.lst [.ref ta]) = H8 at *
        walk_at "rd"
        dsimp only
        walk_at "rd"
        by_cases hT : sx.d = .tell
        · refine i_iteSe (by rw [hT]; rfl) ?_
          obtain ⟨os, o1, o2⟩ := hM8.made
          have ol := o2.len
          rw [List.length_map] at ol
          have otl := hw3.told
          have ol' : os.length = M3.told.length := ol
          walk_at "rd"
          refine i_fld ?_
          walk_at "rd"
          refine ⟨a.x, _, a.dx, _, .ref a.mp, rfl, hM8.obj, T.i_Machine.cl, T.nM_made, fs_o, ?_⟩
          refine ⟨.inl ⟨rfl, _, sqL_inj_of o1⟩, ?_⟩
          walk_at "rd"
          refine ⟨by show 3 ≤ sizeLine; omega, fun tb H9 hN9 => ?_⟩
          walk_at "rd"
          refine i_append (hN9.same _ _ o1) (by omega) ?_
          have hM9 := (hM8.to hN9.same).tell (x := (sx.name, sx.off + later, numX m F later M3 sx)) (hN9.same _ _ o1) hN9.at
          refine ⟨?_, _, _, _, _, _, _, _, _, rfl⟩
          unfold stepM
          rw [if_pos hT]
          exact hM9
        · refine i_iteSf (word_ne (e := .tell) hT) ?_
          walk_at "rd"
          refine ⟨?_, _, _, _, _, _, _, _, _, rfl⟩
          unfold stepM
          rw [if_neg hT]
          exact hM8
    · rintro σ H3 ⟨hM3, x4, x5, x6, x7, x8, x9, xa, xb, rfl⟩
      rw [lsv, List.take_length] at hM3
      have hc3 : (l.foldl (stepM m F later) (landM M1.c M1)).c = M1.c := step_c m F later l _
      have ob := hM3.obj
      rw [hc3] at ob
      walk_at "rd"
      dsimp only
      refine i_fldaug ?_
      walk_at "rd"
      refine ⟨a.x, _, a.dx, _, .int (M1.c : Int), rfl, ob, T.i_Machine.cl, T.nM_tick, fs_t, ?_⟩
      walk_at "rd"
      refine ⟨_, _, rfl, rfl, a.dx, _, ob, (show 6 < 1000 by decide), ?_⟩
      have hM4 := hM3.clock (M1.c + 1)
      refine ⟨?_, _, _, _, _, _, _, _, _, _, rfl⟩
      rw [fn']
      exact hM4
  · rintro σ H3 ⟨hM3, x3, x4, x5, x6, x7, x8, x9, xa, xb, rfl⟩
    rw [ltv, List.take_length] at hM3
    exact q H3 hM3
theorem MachAt.weak {CM : Addr} {H0 H0' H : Hp} {a : Ad} {m : Int} {M : Ms} (s : Same H0 H0') (h : MachAt CM H0' H a m M) : MachAt CM H0 H a m M := by
  obtain ⟨kvs, ns, A, hd⟩ := h.due
  exact ⟨h.obj, h.bx, h.made, ⟨kvs, ns, A, hd.dict, hd.keys, hd.nd, hd.mem, hd.val, hd.lst, fun t ht => ⟨s.free (hd.fr t ht).1, (hd.fr t ht).2⟩, hd.inj⟩, s.trans h.same, s.free h.f1, s.free h.f2, s.free h.f3, s.free h.f4, h.ne⟩
theorem MachAt.grow {CM : Addr} {H0 H H2 : Hp} {a : Ad} {m : Int} {M : Ms} {D : Addr} {o : HO} (h : MachAt CM H0 H a m M) (n : New H D o H2) : MachAt CM (upd H0 D o) H2 a m M := by
  have h2 := h.to n.same
  obtain ⟨kvs, ns, A, hd⟩ := h2.due
  obtain ⟨kvs0, ns0, A0, hd0⟩ := h.due
  have hD0 : H0 D = none := h.same.free n.free
  have nd : ∀ {b : Addr} {o' : HO}, H b = some o' → b ≠ D := fun e => ne_of_none e n.free
  have fr : ∀ t ∈ ns0, A0 t ≠ D := fun t ht => by
    obtain ⟨us, g, _⟩ := hd0.lst t ht
    exact nd g
  have hd2 : DueAt H0 H2 a M.du kvs0 ns0 A0 := hd0.to (TK.of n.same) (n.same _ _ hd0.dict) fun t ht => by
    obtain ⟨us, g, _⟩ := hd0.lst t ht
    rw [g]; exact n.same _ _ g
  obtain ⟨us, g1, g2⟩ := h.made
  refine ⟨h2.obj, h2.bx, h2.made, ⟨kvs0, ns0, A0, hd2.dict, hd2.keys, hd2.nd, hd2.mem, hd2.val, hd2.lst, fun t ht => ⟨?_, (hd2.fr t ht).2⟩, hd2.inj⟩, fun b o' e => ?_, ?_, ?_, ?_, ?_, h.ne⟩
  · rw [upd_ne (fr t ht)]; exact (hd2.fr t ht).1
  · by_cases hb : b = D
    · subst hb
      rw [upd_same] at e
      cases e; exact n.at
    · rw [upd_ne hb] at e; exact h2.same _ _ e
  · rw [upd_ne (nd h.obj)]; exact h.f1
  · rw [upd_ne (nd h.bx)]; exact h.f2
  · rw [upd_ne (nd g1)]; exact h.f3
  · rw [upd_ne (nd hd0.dict)]; exact h.f4
theorem cast_of {ys : List Int} {ns : List Nat} (h : ys.Perm (ns.map fun n => ((n : Nat) : Int))) : ∃ zs : List Nat, ys = zs.map (fun n => ((n : Nat) : Int)) ∧ zs.Perm ns := by
  refine ⟨ys.map Int.toNat, ?_, ?_⟩
  · rw [List.map_map]
    have : ∀ y ∈ ys, ((fun n : Nat => (n : Int)) ∘ Int.toNat) y = y := fun y hy => by
      obtain ⟨n, _, e⟩ := List.mem_map.mp ((h.mem_iff).mp hy)
      show ((y.toNat : Nat) : Int) = y
      omega
    rw [List.map_congr_left this, List.map_id'']
    intro x; rfl
  · have h2 := h.map Int.toNat
    rw [List.map_map] at h2
    have : ∀ n ∈ ns, (Int.toNat ∘ fun n : Nat => (n : Int)) n = n := fun n _ => Int.toNat_natCast n
    rw [List.map_congr_left this, List.map_id''] at h2
    · exact h2
    · intro x; rfl
def spLandAll (CM : Addr) : Sp := fun vs H Q _ => ∃ (H0 : Hp) (a : Ad) (m : Int) (M : Ms) (nb N : Nat), vs = [.ref a.x] ∧ MachAt CM H0 H a m M ∧ WfM nb N M ∧ ∀ H2 M2, MachAt CM H0 H2 a m M2 → M2.bs = finB M → M2.told = M.told → Q .non H2
theorem m_landall (T : Txt K mg C CE) : MethI P w K mg base 2 "land_all" ["self"] (fun _ : Unit => CE .Machine) (fun _ => spLandAll (CE .Machine)) := by
  have Mland : MethI P w K mg base 1 "land" ["self", "tick"] (fun _ : Unit => CE .Machine) (fun _ => spLand (CE .Machine)) := m_land T
  refine ⟨fun _ => ⟨T.i_Machine.cl, ?_⟩⟩
  refine T.f_Machine_land_all.fn sc_Machine_land_all (fun _ _ _ _ _ _ us hl => match us, hl with | [_], _ => rfl) (by rintro vs H Q E ⟨H0, a, m, M, nb, N, rfl, _⟩; rfl) (fun f cdv A outer s H vs Q E hr h => ?_)
  obtain ⟨H0, a, m, M, nb, N, rfl, hM, hw, q⟩ := h
  obtain ⟨kvs, ns, A', hd⟩ := hM.due
  have n7 := nodup_le 7 M.c ns hd.nd fun t ht => hw.win t ((hd.mem t).mp ht)
  have hk7 : kvs.length ≤ 7 := by
    have h2 := congrArg List.length hd.keys
    rw [List.length_map, List.length_map, List.length_map] at h2
    omega
  refine ⟨_, (pss_one (ps_for PassesOwn.never rfl (pi_list (pe_callB (call_sortI rfl) rfl T.nsorted PyProof.Rows.boot_sorted (pa_cons (pe_fld (pv 0) rfl) pa_nil (se rfl)) (he := se rfl) (hpl := nst rfl))) (pg_name (i := 1) sc_Machine_land_all.nd rfl (by first | exact Or.inl rfl | exact Or.inr rfl))
      (pss_one (ps_expr (pe_methI Mland (pv 0) (hr.mono (by decide)) (pa_cons (pv 1) pa_nil (se rfl)) (hst := se rfl) (hpl := nst rfl)))))), ?_⟩
  walk_at "rd"
  refine i_for (i_list ?_)
  walk_at "rd"
  refine i_fld ?_
  walk_at "rd"
  refine ⟨a.x, _, a.dx, _, .ref a.dd, rfl, hM.obj, T.i_Machine.cl, T.nM_due, fs_d, ?_⟩
  walk_at "rd"
  refine i_sortI hd.dict hd.keys (by omega) fun D ys H1 hp hs hN => ?_
  obtain ⟨zs, rfl, hz⟩ := cast_of hp
  have hznd : zs.Nodup := hz.symm.nodup hd.nd
  have hzp : zs.Pairwise (· < ·) := by
    have h1 : zs.Pairwise (fun a b => ((a : Nat) : Int) ≤ (b : Int)) := List.pairwise_map.mp hs
    have h2 : zs.Pairwise (· ≠ ·) := hznd
    exact (h1.and h2).imp fun ⟨x, y⟩ => by omega
  have hM1 := hM.grow hN
  have hD0 : upd H0 D (.lst (List.map V.int (zs.map fun n => ((n : Nat) : Int)))) D = some (.lst (List.map V.int (zs.map fun n => ((n : Nat) : Int)))) := upd_same
  have s0 : Same H0 (upd H0 D (.lst (List.map V.int (zs.map fun n => ((n : Nat) : Int))))) := Same.new (hM.same.free hN.free)
  generalize upd H0 D (.lst (List.map V.int (zs.map fun n => ((n : Nat) : Int)))) = G0 at *
  refine ⟨D, rfl, ⟨_, hN.lst⟩, ?_⟩
  refine for_list (xs := List.map V.int (zs.map fun n => ((n : Nat) : Int))) (fun i σ H' => ∃ M2, MachAt (CE .Machine) G0 H' a m M2 ∧ M2.bs = (zs.take i).foldl (fun bs t => (M.du t).foldl putB bs) M.bs ∧ M2.told = M.told ∧ M2.bs.length = nb ∧ (∀ k t, i ≤ k → zs[k]? = some t → M2.du t = M.du t) ∧ ∃ x1, σ = [some (.ref a.x), x1])
    ⟨M, hM1, rfl, rfl, hw.len, fun _ _ _ _ => rfl, none, rfl⟩ (fun i σ H' _ h => by obtain ⟨M2, h, _⟩ := h; exact sqL_inj_of (h.same _ _ hD0)) ?_ ?_
  · rintro i u σ H3 hui ⟨M2, hM2, e1, e2, e3, e4, x1, rfl⟩
    rw [List.getElem?_map, List.getElem?_map] at hui
    cases hzi : zs[i]? with
    | none => rw [hzi] at hui; cases hui
    | some t =>
      rw [hzi] at hui
      cases hui
      have edu := e4 i t (Nat.le_refl _) hzi
      walk_at "rd"
      refine i_methI ?_
      walk_at "rd"
      refine ⟨(), a.x, a.dx, _, rfl, hM2.obj, rfl, ?_⟩
      walk_at "rd"
      refine ⟨G0, a, m, M2, t, rfl, hM2, fun x hx => by rw [e3]; rw [edu] at hx; exact (hw.du t x hx).1, fun H4 hM4 => ?_⟩
      refine ⟨landM t M2, hM4, ?_, e2, ?_, fun k u hk hu => ?_, _, rfl⟩
      · show (M2.du t).foldl putB M2.bs = _
        rw [edu, e1, fold_next _ _ hzi]
      · show ((M2.du t).foldl putB M2.bs).length = nb
        rw [puts_len]; exact e3
      · show (if u = t then [] else M2.du u) = M.du u
        have hne : u ≠ t := fun e => by
          subst e
          have hk' := (List.getElem?_eq_some_iff.mp hu)
          have hi' := (List.getElem?_eq_some_iff.mp hzi)
          obtain ⟨a1, a2⟩ := hk'
          obtain ⟨b1, b2⟩ := hi'
          have := (List.pairwise_iff_getElem.mp hzp) i k b1 a1 (by omega)
          omega
        rw [if_neg hne]; exact e4 k u (by omega) hu
  · rintro σ H3 ⟨M2, hM2, e1, e2, e3, e4, x1, rfl⟩
    rw [List.length_map, List.length_map, List.take_length] at e1
    refine q H3 M2 (hM2.weak s0) ?_ e2
    rw [e1, finB_eq]
    refine lands_eq M.du 7 M.c zs M.bs hzp (fun t ht => hw.win t ((hd.mem t).mp ((hz.mem_iff).mp ht))) fun t h1 h2 h3 => (hz.mem_iff).mpr ((hd.mem t).mpr h3)
def spMInit (CM : Addr) : Sp := fun vs H Q _ => ∃ (H0 : Hp) (x dx fd bq : Addr) (m : Int) (bs : List Int), vs = [.ref x, .int m, .ref fd, .ref bq] ∧ H x = some (.ins CM dx []) ∧ Same H0 H ∧ H0 x = none ∧ H0 bq = some (.lst (bs.map V.int)) ∧
  ∀ a H2, a.x = x → a.fd = fd → MachAt CM H0 H2 a m ⟨0, bs, fun _ => [], []⟩ → Q .non H2
theorem mk_mach (T : Txt K mg C CE) : MkI P w K mg base 1 (CE .Machine) ["self", "measure", "feeds", "boxes"] (spMInit (CE .Machine)) := by
  refine T.i_Machine.mki sc_Machine___init__ (fun _ _ _ _ _ _ us hl => match us, hl with | [_, _, _, _], _ => rfl) (by rintro vs H Q E ⟨H0, x, dx, fd, bq, m, bs, rfl, _⟩; rfl) (fun f cdv A outer s H vs Q E hr h => ?_)
  obtain ⟨H0, x, dx, fd, bq, m, bs, rfl, hx, hs, hx0, hbq, q⟩ := h
  have su : ∀ {H' : Hp} {o : HO}, Same H0 H' → Same H0 (upd H' x o) := fun s b u e => by rw [upd_ne (ne_of_none e hx0)]; exact s _ _ e
  refine ⟨_, (pss_cons (ps_fld (pv 0) (pv 1) (by with_unfolding_all rfl))
    (pss_cons (ps_fld (pv 0) (pv 2) (by with_unfolding_all rfl))
    (pss_cons (ps_fld (pv 0) (pe_callTy call_listA rfl T.nlist PyProof.Rows.boot_list (pa_cons (pv 3) pa_nil (se rfl)) (he := se rfl) (hpl := nst rfl)) (by with_unfolding_all rfl))
    (pss_cons (ps_fld (pv 0) pe_int (by with_unfolding_all rfl))
    (pss_cons (ps_fld (pv 0) pe_dnewK (by with_unfolding_all rfl))
    (pss_one (ps_fld (pv 0) (pe_lstA pa_nil) (by with_unfolding_all rfl)))))))), ?_⟩
  walk_at "rd"
  refine i_setFld ?_
  walk_at "rd"
  refine ⟨x, _, dx, [], rfl, hx, T.i_Machine.cl, T.nM_measure, by show 0 < 1000; decide, ?_⟩
  have hs1 := su (o := .ins (CE .Machine) dx (putF (Str.ofString "measure") (.int m) [])) hs
  have hx1 : upd H x (.ins (CE .Machine) dx (putF (Str.ofString "measure") (.int m) [])) x = some (.ins (CE .Machine) dx [(Str.ofString "measure", .int m)]) := upd_same
  generalize upd H x (.ins (CE .Machine) dx (putF (Str.ofString "measure") (.int m) [])) = H1 at *
  walk_at "rd"
  dsimp only
  refine i_setFld ?_
  walk_at "rd"
  refine ⟨x, _, dx, _, rfl, hx1, T.i_Machine.cl, T.nM_feeds, (show 1 < 1000 by decide), ?_⟩
  have hs2 := su (o := .ins (CE .Machine) dx (putF (Str.ofString "feeds") (.ref fd) [(Str.ofString "measure", .int m)])) hs1
  have hx2 : upd H1 x (.ins (CE .Machine) dx (putF (Str.ofString "feeds") (.ref fd) [(Str.ofString "measure", .int m)])) x = some (.ins (CE .Machine) dx [(Str.ofString "measure", .int m), (Str.ofString "feeds", .ref fd)]) := upd_same
  generalize upd H1 x (.ins (CE .Machine) dx (putF (Str.ofString "feeds") (.ref fd) [(Str.ofString "measure", .int m)])) = H2 at *
  walk_at "rd"
  dsimp only
  refine i_setFld ?_
  walk_at "rd"
  refine i_listAL (sqL_inj_of (hs2 _ _ hbq)) fun bp H3 hN3 => ?_
  walk_at "rd"
  refine ⟨x, _, dx, _, rfl, hN3.same _ _ hx2, T.i_Machine.cl, T.nM_boxes, (show 2 < 1000 by decide), ?_⟩
  have hbx : bp ≠ x := fun z => by have := hN3.free; rw [z, hx2] at this; cases this
  have hs3 := su (o := .ins (CE .Machine) dx (putF (Str.ofString "boxes") (.ref bp) [(Str.ofString "measure", .int m), (Str.ofString "feeds", .ref fd)])) (hs2.trans hN3.same)
  have hx3 : upd H3 x (.ins (CE .Machine) dx (putF (Str.ofString "boxes") (.ref bp) [(Str.ofString "measure", .int m), (Str.ofString "feeds", .ref fd)])) x = some (.ins (CE .Machine) dx [(Str.ofString "measure", .int m), (Str.ofString "feeds", .ref fd), (Str.ofString "boxes", .ref bp)]) := upd_same
  have hb3 : upd H3 x (.ins (CE .Machine) dx (putF (Str.ofString "boxes") (.ref bp) [(Str.ofString "measure", .int m), (Str.ofString "feeds", .ref fd)])) bp = some (.lst (bs.map V.int)) := by rw [upd_ne hbx]; exact hN3.at
  have hb0 : H0 bp = none := hs2.free hN3.free
  generalize upd H3 x (.ins (CE .Machine) dx (putF (Str.ofString "boxes") (.ref bp) [(Str.ofString "measure", .int m), (Str.ofString "feeds", .ref fd)])) = H4 at *
  walk_at "rd"
  dsimp only
  refine i_setFld ?_
  walk_at "rd"
  refine ⟨x, _, dx, _, rfl, hx3, T.i_Machine.cl, T.nM_tick, (show 3 < 1000 by decide), ?_⟩
  have hs4 := su (o := .ins (CE .Machine) dx (putF (Str.ofString "tick") (.int 0) [(Str.ofString "measure", .int m), (Str.ofString "feeds", .ref fd), (Str.ofString "boxes", .ref bp)])) hs3
  have hx4 : upd H4 x (.ins (CE .Machine) dx (putF (Str.ofString "tick") (.int 0) [(Str.ofString "measure", .int m), (Str.ofString "feeds", .ref fd), (Str.ofString "boxes", .ref bp)])) x = some (.ins (CE .Machine) dx [(Str.ofString "measure", .int m), (Str.ofString "feeds", .ref fd), (Str.ofString "boxes", .ref bp), (Str.ofString "tick", .int 0)]) := upd_same
  have hb4 : upd H4 x (.ins (CE .Machine) dx (putF (Str.ofString "tick") (.int 0) [(Str.ofString "measure", .int m), (Str.ofString "feeds", .ref fd), (Str.ofString "boxes", .ref bp)])) bp = some (.lst (bs.map V.int)) := by rw [upd_ne hbx]; exact hb3
  generalize upd H4 x (.ins (CE .Machine) dx (putF (Str.ofString "tick") (.int 0) [(Str.ofString "measure", .int m), (Str.ofString "feeds", .ref fd), (Str.ofString "boxes", .ref bp)])) = H5 at *
  walk_at "rd"
  dsimp only
  refine i_setFld ?_
  refine i_dnew fun dd hdd => ?_
  have sd : Same H5 (upd H5 dd (.dK [])) := Same.new hdd
  have hdx : dd ≠ x := fun z => by rw [z, hx4] at hdd; cases hdd
  have hd0 : H0 dd = none := hs4.free hdd
  have hdat : upd H5 dd (.dK []) dd = some (.dK []) := upd_same
  generalize upd H5 dd (.dK []) = H6 at *
  walk_at "rd"
  refine ⟨x, _, dx, _, rfl, sd _ _ hx4, T.i_Machine.cl, T.nM_due, (show 4 < 1000 by decide), ?_⟩
  have hs5 := su (o := .ins (CE .Machine) dx (putF (Str.ofString "due") (.ref dd) [(Str.ofString "measure", .int m), (Str.ofString "feeds", .ref fd), (Str.ofString "boxes", .ref bp), (Str.ofString "tick", .int 0)])) (hs4.trans sd)
  have hx5 : upd H6 x (.ins (CE .Machine) dx (putF (Str.ofString "due") (.ref dd) [(Str.ofString "measure", .int m), (Str.ofString "feeds", .ref fd), (Str.ofString "boxes", .ref bp), (Str.ofString "tick", .int 0)])) x = some (.ins (CE .Machine) dx [(Str.ofString "measure", .int m), (Str.ofString "feeds", .ref fd), (Str.ofString "boxes", .ref bp), (Str.ofString "tick", .int 0), (Str.ofString "due", .ref dd)]) := upd_same
  have hb5 : upd H6 x (.ins (CE .Machine) dx (putF (Str.ofString "due") (.ref dd) [(Str.ofString "measure", .int m), (Str.ofString "feeds", .ref fd), (Str.ofString "boxes", .ref bp), (Str.ofString "tick", .int 0)])) bp = some (.lst (bs.map V.int)) := by rw [upd_ne hbx]; exact sd _ _ hb4
  have hd5 : upd H6 x (.ins (CE .Machine) dx (putF (Str.ofString "due") (.ref dd) [(Str.ofString "measure", .int m), (Str.ofString "feeds", .ref fd), (Str.ofString "boxes", .ref bp), (Str.ofString "tick", .int 0)])) dd = some (.dK []) := by rw [upd_ne hdx]; exact hdat
  generalize upd H6 x (.ins (CE .Machine) dx (putF (Str.ofString "due") (.ref dd) [(Str.ofString "measure", .int m), (Str.ofString "feeds", .ref fd), (Str.ofString "boxes", .ref bp), (Str.ofString "tick", .int 0)])) = H7 at *
  walk_at "rd"
  dsimp only
  refine i_setFld ?_
  walk_at "rd"
  refine ⟨by show 0 ≤ sizeLine; exact Nat.zero_le _, fun mp H8 hN8 => ?_⟩
  walk_at "rd"
  refine ⟨x, _, dx, _, rfl, hN8.same _ _ hx5, T.i_Machine.cl, T.nM_made, (show 5 < 1000 by decide), ?_⟩
  have hmx : mp ≠ x := fun z => by have := hN8.free; rw [z, hx5] at this; cases this
  have hbm : bp ≠ mp := fun z => by have := hN8.free; rw [← z, hb5] at this; cases this
  refine q ⟨x, dx, bp, dd, mp, fd⟩ _ rfl rfl ⟨upd_same, ?_, ⟨[], ?_, .nil⟩, ⟨[], [], fun _ => dd, ?_⟩, su (hs5.trans hN8.same), hx0, hb0, hs5.free hN8.free, hd0, hbm⟩
  · rw [upd_ne hbx]; exact hN8.same _ _ hb5
  · rw [upd_ne hmx]; exact hN8.at
  · refine ⟨?_, rfl, .nil, fun t => ⟨fun h => by simp at h, fun h => absurd rfl h⟩, fun t h => by simp at h, fun t h => by simp at h, fun t h => by simp at h, fun t h => by simp at h⟩
    rw [upd_ne hdx]; exact hN8.same _ _ hd5
structure Sh where
  held : Nat
  stages : Nat
  shorts : List Part
  ahead : Part
  middle : Part
  tails : List Part
structure ShOk (nb : Nat) (S : Sh) : Prop where
  h1 : 1 ≤ S.held
  h3 : S.held ≤ 3
  s1 : 1 ≤ S.stages
  s3 : S.stages ≤ 3
  ls : S.shorts.length = S.stages - 1
  lt : S.tails.length = S.held
  sh : ∀ p ∈ S.shorts, PartOk nb p
  ah : PartOk nb S.ahead
  mi : PartOk nb S.middle
  ta : ∀ p ∈ S.tails, PartOk nb p
def partsOf (S : Sh) (n : Nat) : List (Part × Nat) :=
  if n + 1 < S.stages then [(S.shorts.getD n [], 0)]
  else [(S.ahead, 0)] ++ ((List.range ((n + 1 - S.stages) / S.held)).map fun x => (S.middle, S.held * x)) ++ [(S.tails.getD ((n + 1 - S.stages) % S.held) [], S.held * ((n + 1 - S.stages) / S.held))]
def mkSh (pace : Int) (S : Sh) (v1 v2 v3 v4 : V) : List (Str × V) := [(Str.ofString "pace", .int pace), (Str.ofString "held", .int (S.held : Int)), (Str.ofString "stages", .int (S.stages : Int)), (Str.ofString "shorts", v1), (Str.ofString "ahead", v2), (Str.ofString "middle", v3), (Str.ofString "tails", v4)]
structure ShV (H : Hp) (S : Sh) (v1 v2 v3 v4 : V) : Prop where
  sh : Rp H v1 (.list (S.shorts.map partD))
  ah : Rp H v2 (partD S.ahead)
  mi : Rp H v3 (partD S.middle)
  ta : Rp H v4 (.list (S.tails.map partD))
theorem ShV.same {H H' : Hp} {S : Sh} {v1 v2 v3 v4 : V} (s : Same H H') (h : ShV H S v1 v2 v3 v4) : ShV H' S v1 v2 v3 v4 := ⟨h.sh.same s, h.ah.same s, h.mi.same s, h.ta.same s⟩
def spSheet (CS : Addr) : Sp := fun vs H Q _ => ∃ (H0 : Hp) (x dx : Addr) (pace : Int) (S : Sh) (v1 v2 v3 v4 : V), vs = [.ref x, .int pace, .int (S.held : Int), .int (S.stages : Int), v1, v2, v3, v4] ∧ H x = some (.ins CS dx []) ∧ Same H0 H ∧ H0 x = none ∧
  ∀ H2, Same H0 H2 → H2 x = some (.ins CS dx (mkSh pace S v1 v2 v3 v4)) → Q .non H2
theorem mk_sheet (T : Txt K mg C CE) : MkI P w K mg base 1 (CE .Sheet) ["self", "pace", "held", "stages", "shorts", "ahead", "middle", "tails"] (spSheet (CE .Sheet)) := by
  refine T.i_Sheet.mki sc_Sheet___init__ (fun _ _ _ _ _ _ us hl => match us, hl with | [_, _, _, _, _, _, _, _], _ => rfl) (by rintro vs H Q E ⟨H0, x, dx, pace, S, v1, v2, v3, v4, rfl, _⟩; rfl) (fun f cdv A outer s H vs Q E hr h => ?_)
  obtain ⟨H0, x, dx, pace, S, v1, v2, v3, v4, rfl, hx, hs, hx0, q⟩ := h
  have su : ∀ {H' : Hp} {o : HO}, Same H0 H' → Same H0 (upd H' x o) := fun s b u e => by rw [upd_ne (ne_of_none e hx0)]; exact s _ _ e
  have key : ∀ {H' : Hp} {fs : List (Str × V)} {f : Str} {v : V} {R : Hp → Prop}, Same H0 H' → H' x = some (.ins (CE .Sheet) dx fs) → (∀ H2, Same H0 H2 → H2 x = some (.ins (CE .Sheet) dx (putF f v fs)) → R H2) → R (upd H' x (.ins (CE .Sheet) dx (putF f v fs))) := fun s _ k => k _ (su s) upd_same
  refine ⟨_, (pss_cons (ps_fld (pv 0) (pv 1) (by with_unfolding_all rfl))
    (pss_cons (ps_fld (pv 0) (pv 2) (by with_unfolding_all rfl))
    (pss_cons (ps_fld (pv 0) (pv 3) (by with_unfolding_all rfl))
    (pss_cons (ps_fld (pv 0) (pv 4) (by with_unfolding_all rfl))
    (pss_cons (ps_fld (pv 0) (pv 5) (by with_unfolding_all rfl))
    (pss_cons (ps_fld (pv 0) (pv 6) (by with_unfolding_all rfl))
    (pss_one (ps_fld (pv 0) (pv 7) (by with_unfolding_all rfl))))))))), ?_⟩
  walk_at "rd"
  refine i_setFld ?_
  walk_at "rd"
  refine ⟨x, _, dx, [], rfl, hx, T.i_Sheet.cl, T.nS_pace, by show 0 < 1000; decide, ?_⟩
  refine key (R := fun H2 => Ends.nx _ _ H2) hs hx fun H1 s1 x1 => ?_
  walk_at "rd"
  dsimp only
  refine i_setFld ?_
  walk_at "rd"
  refine ⟨x, _, dx, _, rfl, x1, T.i_Sheet.cl, T.nS_held, (show 1 < 1000 by decide), ?_⟩
  refine key (R := fun H2 => Ends.nx _ _ H2) s1 x1 fun H2 s2 x2 => ?_
  walk_at "rd"
  dsimp only
  refine i_setFld ?_
  walk_at "rd"
  refine ⟨x, _, dx, _, rfl, x2, T.i_Sheet.cl, T.nS_stages, (show 2 < 1000 by decide), ?_⟩
  refine key (R := fun H2 => Ends.nx _ _ H2) s2 x2 fun H3 s3 x3 => ?_
  walk_at "rd"
  dsimp only
  refine i_setFld ?_
  walk_at "rd"
  refine ⟨x, _, dx, _, rfl, x3, T.i_Sheet.cl, T.nS_shorts, (show 3 < 1000 by decide), ?_⟩
  refine key (R := fun H2 => Ends.nx _ _ H2) s3 x3 fun H4 s4 x4 => ?_
  walk_at "rd"
  dsimp only
  refine i_setFld ?_
  walk_at "rd"
  refine ⟨x, _, dx, _, rfl, x4, T.i_Sheet.cl, T.nS_ahead, (show 4 < 1000 by decide), ?_⟩
  refine key (R := fun H2 => Ends.nx _ _ H2) s4 x4 fun H5 s5 x5 => ?_
  walk_at "rd"
  dsimp only
  refine i_setFld ?_
  walk_at "rd"
  refine ⟨x, _, dx, _, rfl, x5, T.i_Sheet.cl, T.nS_middle, (show 5 < 1000 by decide), ?_⟩
  refine key (R := fun H2 => Ends.nx _ _ H2) s5 x5 fun H6 s6 x6 => ?_
  walk_at "rd"
  dsimp only
  refine i_setFld ?_
  walk_at "rd"
  refine ⟨x, _, dx, _, rfl, x6, T.i_Sheet.cl, T.nS_tails, (show 6 < 1000 by decide), ?_⟩
  refine key (R := fun H2 => Ends.nx _ _ H2) s6 x6 fun H7 s7 x7 => ?_
  exact q H7 s7 x7
def spCTurns : Sp := fun vs H Q _ => ∃ n : Nat, vs = [.int (n : Int)] ∧ n ≤ 300 ∧ Q .non H
theorem d_cturns (T : Txt K mg C CE) (Kb : K.In base) (G : base.Ns mainGlobals mg) : Df P w K mg base 1 "check_turns" ["turns"] spCTurns := by
  refine T.f_cturns.df Kb G sc_check_turns (fun _ _ _ _ _ _ us hl => match us, hl with | [_], _ => rfl) (by rintro vs H Q E ⟨m, rfl, _⟩; rfl) (fun f cdv A outer s H vs Q E hr h => ?_)
  obtain ⟨n, rfl, hn, q⟩ := h
  refine ⟨_, (pss_one (ps_if (pt_not (pt_chain op_le op_le pe_int (pv 0) (pe_val T.v_MOST_TURNS rfl))) (pss_one ps_never) pss_nil)), ?_⟩
  walk_at "rd"
  refine i_iteDt (by omega) ?_
  walk_at "rd"
  rw [decide_eq_true (show (n : Int) ≤ 300 by omega)]
  walk_at "rd"
  exact q
def spCTurnsX (CE : Xk → Addr) : Sp := fun vs H Q E => ∃ n : Int, vs = [.int n] ∧ (n < 0 ∨ 300 < n) ∧ E (.ref (CE .BadTurns)) none H
theorem d_cturnsX (T : Txt K mg C CE) (Kb : K.In base) (G : base.Ns mainGlobals mg) : DfX P w K mg base 1 "check_turns" ["turns"] (spCTurnsX CE) := by
  refine T.f_cturns.dfX Kb G sc_check_turns (fun _ _ _ _ _ _ us hl => match us, hl with | [_], _ => rfl) (by rintro vs H Q E ⟨m, rfl, _⟩; rfl) (fun f cdv A outer s H vs Q E hr h => ?_)
  obtain ⟨n, rfl, hn, q⟩ := h
  refine ⟨_, (pss_one (ps_if (pt_not (pt_chain op_le op_le pe_int (pv 0) (pe_val T.v_MOST_TURNS rfl))) (pss_one (ps_raise (ES := fun _ c d H' => E c d H') T.x_BadTurns rfl (fun _ _ z => z) rfl (pa_cons pe_str pa_nil (se rfl)) (he := se rfl) (hpl := nst rfl))) pss_nil)), ?_⟩
  walk_at "rd"
  refine i_iteD (fun h0 => ?_) (fun h0 => ?_)
  · walk_at "rd"
    rw [decide_eq_false (show ¬ n ≤ 300 by omega)]
    walk_at "rd"
    exact ⟨by show 1 ≤ sizeLine; decide, q⟩
  · walk_at "rd"
    exact ⟨by show 1 ≤ sizeLine; decide, q⟩
def M0 (bs : List Int) : Ms := ⟨0, bs, fun _ => [], []⟩
theorem wf0 {nb : Nat} {bs : List Int} (hl : bs.length = nb) (hb : ∀ x ∈ bs, Bd x) : WfM nb 0 (M0 bs) := ⟨hl, hb, fun t x h => by simp [M0] at h, fun t h => absurd rfl h, fun t => Nat.le_refl _, Nat.le_refl _⟩
theorem WfM.parts {nb : Nat} {m : Int} {F : Fx} (m0 : 0 < m) (m60 : m ≤ 10 ^ 60) : ∀ {ps : List (Part × Nat)} {N : Nat} {M : Ms}, WfM nb N M → (∀ x ∈ ps, PartOk nb x.1) → WfM nb (N + 9 * ps.length) (partsM m F M ps)
  | [], N, M, h, _ => h
  | x :: ps, N, M, h, hp => by
    have := WfM.parts (F := F) m0 m60 (ps := ps) (h.part (F := F) (later := x.2) (hp x List.mem_cons_self) m0 m60) fun y hy => hp y (List.mem_cons_of_mem _ hy)
    refine this.mono ?_
    rw [List.length_cons]; omega
theorem partsM_snoc (m : Int) (F : Fx) (M : Ms) (ps : List (Part × Nat)) (x : Part × Nat) : partsM m F M (ps ++ [x]) = partM m F x.2 (partsM m F M ps) x.1 := by
  unfold partsM
  rw [List.foldl_append]; rfl
def endM (m : Int) (F : Fx) (bs : List Int) (S : Sh) (n : Nat) : Ms := partsM m F (M0 bs) (partsOf S n)
structure RunIn (CS : Addr) (H : Hp) (m : Int) (sh fd bq : Addr) (S : Sh) (F : Fx) (bs : List Int) (nb n : Nat) : Prop where
  ex : ∃ dx pace v1 v2 v3 v4, H sh = some (.ins CS dx (mkSh pace S v1 v2 v3 v4)) ∧ ShV H S v1 v2 v3 v4
  ok : ShOk nb S
  fed : Rp H (.ref fd) (feedsD F)
  bxs : H bq = some (.lst (bs.map V.int))
  len : bs.length = nb
  bd : ∀ x ∈ bs, Bd x
  m2 : 2 ≤ m
  m60 : m ≤ 10 ^ 60
  fo : FedOk F n
def spRun (CS : Addr) : Sp := fun vs H Q _ => ∃ (m : Int) (sh fd bq : Addr) (S : Sh) (F : Fx) (bs : List Int) (nb n : Nat), vs = [.int m, .ref sh, .int (n : Int), .ref fd, .ref bq] ∧ RunIn CS H m sh fd bq S F bs nb n ∧ n ≤ 300 ∧
  ∀ p mp bp us H2, Same H H2 → H2 p = some (.tup [.ref mp, .ref bp]) → H2 mp = some (.lst us) → TsAt H2 us ((endM m F bs S n).told.map tlV) → H2 bp = some (.lst ((finB (endM m F bs S n)).map V.int)) → Q (.ref p) H2
theorem at_rp {H : Hp} {vs : List V} {ps : List Part} {i : Nat} (h : RpA H vs (ps.map partD)) (hi : i < ps.length) : ∃ v, atI vs (i : Int) = some v ∧ Rp H v (partD (ps.getD i [])) := by
  have hl := rpa_len h
  rw [List.length_map] at hl
  have hiv : i < vs.length := by omega
  obtain ⟨d, hd, hr⟩ := rpa_get h (List.getElem?_eq_getElem hiv)
  rw [List.getElem?_map, List.getElem?_eq_getElem hi] at hd
  cases hd
  refine ⟨_, atI_nat (List.getElem?_eq_getElem hiv), ?_⟩
  rw [List.getD, List.getElem?_eq_getElem hi]; exact hr
theorem d_run (T : Txt K mg C CE) (Kb : K.In base) (G : base.Ns mainGlobals mg) : Df P w K mg base 3 "run" ["measure", "sheet", "turns", "feeds", "boxes"] (spRun (CE .Sheet)) := by
  have Dcheck_turns : Df P w K mg base 1 "check_turns" ["turns"] spCTurns := d_cturns T Kb G
  have MMachine : MkI P w K mg base 1 (CE .Machine) ["self", "measure", "feeds", "boxes"] (spMInit (CE .Machine)) := mk_mach T
  have Mdo_part : MethI P w K mg base 2 "do_part" ["self", "part", "later"] (fun _ : Unit => CE .Machine) (fun _ => spDoPart (CE .Machine)) := m_dopart T Kb G
  have Mland_all : MethI P w K mg base 2 "land_all" ["self"] (fun _ : Unit => CE .Machine) (fun _ => spLandAll (CE .Machine)) := m_landall T
  refine T.f_run.df Kb G sc_run (fun _ _ _ _ _ _ us hl => match us, hl with | [_, _, _, _, _], _ => rfl) (by rintro vs H Q E ⟨m, sh, fd, bq, S, F, bs, nb, n, rfl, _⟩; rfl) (fun f cdv A outer s H vs Q E hr h => ?_)
  obtain ⟨m, sh, fd, bq, S, F, bs, nb, n, rfl, hR, hn, q⟩ := h
  obtain ⟨dxs, pace, v1, v2, v3, v4, hsh, hV⟩ := hR.ex
  have m0 : 0 < m := by have := hR.m2; omega
  have m2 := hR.m2
  have m60 := hR.m60
  have lb := line_big
  have h1 := hR.ok.h1; have h3 := hR.ok.h3; have s1 := hR.ok.s1; have s3 := hR.ok.s3
  have w0 := wf0 (nb := nb) hR.len hR.bd
  refine ⟨_, (pss_cons (ps_expr (pe_callD Dcheck_turns (hr.mono (by decide)) rfl (pa_cons (pv 2) pa_nil (se rfl)) (he := se rfl) (hpl := nst rfl)))
    (pss_cons (ps_set (i := 5) sc_run.nd rfl (by first | exact Or.inl rfl | exact Or.inr rfl) (pe_makeI MMachine (hr.mono (by decide)) rfl T.mg_Machine (pa_cons (pv 0) (pa_cons (pv 3) (pa_cons (pv 4) pa_nil (se rfl)) (se rfl)) (se rfl)) (he := se rfl) (hpl := nst rfl)))
    (pss_cons (ps_set (i := 6) sc_run.nd rfl (by first | exact Or.inl rfl | exact Or.inr rfl) (pe_op op_add (pe_op op_sub (pv 2) (pe_fld (pv 1) rfl)) pe_int))
    (pss_cons (ps_join (ps_if (pt_cmpR op_lt (pv 6) pe_int (nomark _)) (pss_one (ps_expr (pe_methI Mdo_part (pv 5) (hr.mono (by decide)) (pa_cons (pe_ix ix_seq (pe_fld (pv 1) rfl) (pv 2) (fun _ _ => rfl)) (pa_cons pe_int pa_nil (se rfl)) (se rfl)) (hst := se rfl) (hpl := nst rfl)))) (pss_cons (ps_set (i := 7) sc_run.nd rfl (by first | exact Or.inl rfl | exact Or.inr rfl) (pe_op op_fdiv (pv 6) (pe_fld (pv 1) rfl)))
    (pss_cons (ps_expr (pe_methI Mdo_part (pv 5) (hr.mono (by decide)) (pa_cons (pe_fld (pv 1) rfl) (pa_cons pe_int pa_nil (se rfl)) (se rfl)) (hst := se rfl) (hpl := nst rfl)))
    (pss_cons (ps_for PassesOwn.never rfl (pi_range1 rfl T.nrange (pa_cons (pv 7) pa_nil (se rfl))) (pg_name (i := 8) sc_run.nd rfl (by first | exact Or.inl rfl | exact Or.inr rfl))
      (pss_one (ps_expr (pe_methI Mdo_part (pv 5) (hr.mono (by decide)) (pa_cons (pe_fld (pv 1) rfl) (pa_cons (pe_op op_mulO (pe_fld (pv 1) rfl) (pv 8)) pa_nil (se rfl)) (se rfl)) (hst := se rfl) (hpl := nst rfl)))))
    (pss_one (ps_expr (pe_methI Mdo_part (pv 5) (hr.mono (by decide)) (pa_cons (pe_ix ix_seq (pe_fld (pv 1) rfl) (pe_op op_mod (pv 6) (pe_fld (pv 1) rfl)) (fun _ _ => rfl)) (pa_cons (pe_op op_mulO (pe_fld (pv 1) rfl) (pv 7)) pa_nil (se rfl)) (se rfl)) (hst := se rfl) (hpl := nst rfl)))))))))
    (pss_cons (ps_expr (pe_methI0 Mland_all (pv 5) (hr.mono (by decide))))
    (pss_one (ps_ret (pe_tupA (pa_cons (pe_fld (pv 5) rfl) (pa_cons (pe_fld (pv 5) rfl) pa_nil (se rfl)) (se rfl)))))))))), ?_⟩
  walk_at "rd"
  refine ⟨n, rfl, hn, ?_⟩
  walk_at "rd"
  dsimp only
  refine i_makeI ?_
  walk_at "rd"
  refine fun x dx hx hdx hne => ?_
  have hs1 : Same H (upd (upd H dx (.own x)) x (.ins (CE .Machine) dx [])) := fun b o e => by rw [upd_ne (ne_of_none e hx), upd_ne (ne_of_none e hdx)]; exact e
  refine ⟨H, x, dx, fd, bq, m, bs, rfl, upd_same, hs1, hx, hR.bxs, fun a H1 ex ef hM1 => ?_⟩
  subst ex ef
  refine ⟨rfl, ?_⟩
  have hM1' : MachAt (CE .Machine) H H1 a m (M0 bs) := hM1
  walk_at "rd"
  dsimp only
  refine i_fld ?_
  walk_at "rd"
  refine ⟨sh, _, dxs, _, .int (S.stages : Int), rfl, hM1.same _ _ hsh, T.i_Sheet.cl, T.nS_stages, rfl, ?_⟩
  walk_at "rd"
  refine i_join (fun σ' H' => MachAt (CE .Machine) H H' a m (endM m F bs S n) ∧ ∃ x6 x7 x8, σ' = [some (.int m), some (.ref sh), some (.int (n : Int)), some (.ref a.fd), some (.ref bq), some (.ref a.x), x6, x7, x8]) ?_ ?_
  · walk_at "rd"
    refine i_iteD (fun hlt => ?_) (fun hge => ?_)
    · have hlt' : n + 1 < S.stages := by omega
      have epo : partsOf S n = [(S.shorts.getD n [], 0)] := if_pos hlt'
      have hnl : n < S.shorts.length := by rw [hR.ok.ls]; omega
      walk_at "rd"
      refine i_methI ?_
      walk_at "rd"
      refine ⟨(), a.x, a.dx, _, rfl, hM1.obj, rfl, ?_⟩
      refine i_cons ?_
      walk_at "rd"
      refine i_fld ?_
      walk_at "rd"
      refine ⟨sh, _, dxs, _, v1, rfl, hM1.same _ _ hsh, T.i_Sheet.cl, T.nS_shorts, rfl, ?_⟩
      obtain ⟨p1, us1, rfl, hp1, r1⟩ := list_at hV.sh
      walk_at "rd"
      obtain ⟨pv, g1, g2⟩ := at_rp r1 hnl
      refine i_ixL (sqL_inj_of (hM1.same _ _ hp1)) g1 ?_
      walk_at "rd"
      refine ⟨H, a, m, M0 bs, F, pv, S.shorts.getD n [], nb, 0, 0, rfl, hM1', hR.fed, g2, hR.ok.sh _ (by rw [List.getD, List.getElem?_eq_getElem hnl]; exact List.getElem_mem hnl), w0, ⟨by have := hR.fo.i; omega, by have := hR.fo.o; omega⟩, m2, m60, Nat.zero_le _, fun H2 hM2 => ?_⟩
      refine ⟨?_, _, _, _, rfl⟩
      unfold endM
      rw [epo]
      exact hM2
    · have hge' : ¬ n + 1 < S.stages := by omega
      have epo : partsOf S n = [(S.ahead, 0)] ++ ((List.range ((n + 1 - S.stages) / S.held)).map fun x => (S.middle, S.held * x)) ++ [(S.tails.getD ((n + 1 - S.stages) % S.held) [], S.held * ((n + 1 - S.stages) / S.held))] := if_neg hge'
      have eo : (n : Int) - (S.stages : Int) + 1 = ((n + 1 - S.stages : Nat) : Int) := by omega
      rw [eo]
      have hov : n + 1 - S.stages ≤ n := by omega
      generalize n + 1 - S.stages = ov at *
      have hmul : S.held * (ov / S.held) ≤ ov := Nat.mul_div_le ov S.held
      have hdiv : ov / S.held ≤ ov := Nat.div_le_self _ _
      walk_at "rd"
      refine i_fld ?_
      walk_at "rd"
      refine ⟨sh, _, dxs, _, .int (S.held : Int), rfl, hM1.same _ _ hsh, T.i_Sheet.cl, T.nS_held, rfl, ?_⟩
      walk_at "rd"
      refine i_div (by omega) ?_
      rw [← Int.natCast_ediv]
      have hml0 : ov % S.held < S.held := Nat.mod_lt _ (by omega)
      have hmr : (ov : Int) % (S.held : Int) = ((ov % S.held : Nat) : Int) := (Int.natCast_emod _ _).symm
      generalize ov / S.held = qd at *
      generalize ov % S.held = rd at *
      walk_at "rd"
      dsimp only
      refine i_methI ?_
      walk_at "rd"
      refine ⟨(), a.x, a.dx, _, rfl, hM1.obj, rfl, ?_⟩
      refine i_cons ?_
      refine i_fld ?_
      walk_at "rd"
      refine ⟨sh, _, dxs, _, v2, rfl, hM1.same _ _ hsh, T.i_Sheet.cl, T.nS_ahead, rfl, ?_⟩
      walk_at "rd"
      refine ⟨H, a, m, M0 bs, F, v2, S.ahead, nb, 0, 0, rfl, hM1', hR.fed, hV.ah, hR.ok.ah, w0, ⟨by have := hR.fo.i; omega, by have := hR.fo.o; omega⟩, m2, m60, Nat.zero_le _, fun H2 hM2 => ?_⟩
      have hM2' : MachAt (CE .Machine) H H2 a m (partsM m F (M0 bs) ([(S.ahead, 0)] ++ ((List.range 0).map fun x => (S.middle, S.held * x)))) := hM2
      walk_at "rd"
      dsimp only
      refine i_for (i_rng1 ?_)
      walk_at "rd"
      refine ⟨_, rfl, by omega, by omega, ?_⟩
      rw [Int.toNat_natCast]
      have allok : ∀ k, ∀ x ∈ ([(S.ahead, 0)] ++ ((List.range k).map fun x => (S.middle, S.held * x)) : List (Part × Nat)), PartOk nb x.1 := fun k x hx => by
        rcases List.mem_append.mp hx with h | h
        · rw [show x = (S.ahead, 0) by simpa using h]; exact hR.ok.ah
        · obtain ⟨y, _, e⟩ := List.mem_map.mp h
          rw [← e]; exact hR.ok.mi
      have wfk : ∀ k, k ≤ 301 → WfM nb 3000 (partsM m F (M0 bs) ([(S.ahead, 0)] ++ ((List.range k).map fun x => (S.middle, S.held * x)))) := fun k hk => (w0.parts (F := F) m0 m60 (allok k)).mono (by
        rw [List.length_append, List.length_map, List.length_range]; show 0 + 9 * (1 + k) ≤ 3000; omega)
      refine for_range (lo := 0) (n := qd) (fun i σ H' => MachAt (CE .Machine) H H' a m (partsM m F (M0 bs) ([(S.ahead, 0)] ++ ((List.range i).map fun x => (S.middle, S.held * x)))) ∧ ∃ x8, σ = [some (.int m), some (.ref sh), some (.int (n : Int)), some (.ref a.fd), some (.ref bq), some (.ref a.x), some (.int (ov : Int)), some (.int (qd : Int)), x8])
        ⟨hM2', none, rfl⟩ ?_ ?_
      · rintro i σ H3 hi ⟨hM3, x8, rfl⟩
        have e0 : (0 : Int) + (i : Int) = (i : Int) := Int.zero_add _
        rw [e0]
        have hil : S.held * i ≤ ov := Nat.le_trans (Nat.mul_le_mul_left _ (Nat.le_of_lt hi)) hmul
        walk_at "rd"
        refine i_methI ?_
        walk_at "rd"
        refine ⟨(), a.x, a.dx, _, rfl, hM3.obj, rfl, ?_⟩
        refine i_cons ?_
        refine i_fld ?_
        walk_at "rd"
        refine ⟨sh, _, dxs, _, v3, rfl, hM3.same _ _ hsh, T.i_Sheet.cl, T.nS_middle, rfl, ?_⟩
        walk_at "rd"
        refine i_fld ?_
        walk_at "rd"
        refine ⟨sh, _, dxs, _, .int (S.held : Int), rfl, hM3.same _ _ hsh, T.i_Sheet.cl, T.nS_held, rfl, ?_⟩
        walk_at "rd"
        refine i_mul (ok_of 64 64 (by omega) (by omega) (by omega) (by omega) (by decide)) ?_
        rw [← Int.natCast_mul]
        walk_at "rd"
        refine ⟨H, a, m, _, F, v3, S.middle, nb, 3000, S.held * i, rfl, hM3, hR.fed, hV.mi, hR.ok.mi, wfk i (by omega), ⟨by have := hR.fo.i; omega, by have := hR.fo.o; omega⟩, m2, m60, by decide, fun H4 hM4 => ?_⟩
        refine ⟨?_, _, rfl⟩
        rw [List.range_succ, List.map_append, ← List.append_assoc, show List.map (fun x => (S.middle, S.held * x)) [i] = [(S.middle, S.held * i)] from rfl, partsM_snoc]
        exact hM4
      · rintro σ H3 ⟨hM3, x8, rfl⟩
        walk_at "rd"
        dsimp only
        refine i_methI ?_
        walk_at "rd"
        refine ⟨(), a.x, a.dx, _, rfl, hM3.obj, rfl, ?_⟩
        refine i_cons ?_
        walk_at "rd"
        refine i_fld ?_
        walk_at "rd"
        refine ⟨sh, _, dxs, _, v4, rfl, hM3.same _ _ hsh, T.i_Sheet.cl, T.nS_tails, rfl, ?_⟩
        obtain ⟨p4, us4, rfl, hp4, r4⟩ := list_at hV.ta
        walk_at "rd"
        refine i_fld ?_
        walk_at "rd"
        refine ⟨sh, _, dxs, _, .int (S.held : Int), rfl, hM3.same _ _ hsh, T.i_Sheet.cl, T.nS_held, rfl, ?_⟩
        walk_at "rd"
        have hml : rd < S.tails.length := by rw [hR.ok.lt]; exact hml0
        obtain ⟨pv, g1, g2⟩ := at_rp r4 hml
        rw [hmr]
        refine i_ixL (sqL_inj_of (hM3.same _ _ hp4)) g1 ?_
        walk_at "rd"
        refine i_fld ?_
        walk_at "rd"
        refine ⟨sh, _, dxs, _, .int (S.held : Int), rfl, hM3.same _ _ hsh, T.i_Sheet.cl, T.nS_held, rfl, ?_⟩
        walk_at "rd"
        refine i_mul (ok_of 64 64 (by omega) (by omega) (by omega) (by omega) (by decide)) ?_
        rw [← Int.natCast_mul]
        walk_at "rd"
        refine ⟨H, a, m, _, F, pv, S.tails.getD rd [], nb, 3000, S.held * qd, rfl, hM3, hR.fed, g2, hR.ok.ta _ (by rw [List.getD, List.getElem?_eq_getElem hml]; exact List.getElem_mem hml), wfk _ (by omega), ⟨by have := hR.fo.i; omega, by have := hR.fo.o; omega⟩, m2, m60, by decide, fun H4 hM4 => ?_⟩
        refine ⟨?_, _, _, _, rfl⟩
        unfold endM
        rw [epo, partsM_snoc]
        exact hM4
  · rintro σ' H2 ⟨hM2, x6, x7, x8, rfl⟩
    have hwe : WfM nb 3000 (endM m F bs S n) := by
      refine (w0.parts (F := F) (ps := partsOf S n) m0 m60 fun x hx => ?_).mono ?_
      · unfold partsOf at hx
        split at hx
        · rename_i hlt
          have hnl : n < S.shorts.length := by rw [hR.ok.ls]; omega
          rw [show x = (S.shorts.getD n [], 0) by simpa using hx]
          show PartOk nb (S.shorts.getD n [])
          rw [List.getD, List.getElem?_eq_getElem hnl]; exact hR.ok.sh _ (List.getElem_mem hnl)
        · rcases List.mem_append.mp hx with h | h
          · rcases List.mem_append.mp h with h | h
            · rw [show x = (S.ahead, 0) by simpa using h]; exact hR.ok.ah
            · obtain ⟨y, _, e⟩ := List.mem_map.mp h
              rw [← e]; exact hR.ok.mi
          · have hml : (n + 1 - S.stages) % S.held < S.tails.length := by rw [hR.ok.lt]; exact Nat.mod_lt _ (by omega)
            rw [show x = _ from List.mem_singleton.mp h]
            show PartOk nb (S.tails.getD _ [])
            rw [List.getD, List.getElem?_eq_getElem hml]; exact hR.ok.ta _ (List.getElem_mem hml)
      · unfold partsOf
        split
        · show 0 + 9 * 1 ≤ 3000; omega
        · rw [List.length_append, List.length_append, List.length_map, List.length_range]
          have := Nat.div_le_self (n + 1 - S.stages) S.held
          show 0 + 9 * (1 + _ + 1) ≤ 3000; omega
    walk_at "rd"
    dsimp only
    refine i_methI ?_
    walk_at "rd"
    refine ⟨(), a.x, a.dx, _, rfl, hM2.obj, rfl, ?_⟩
    walk_at "rd"
    refine ⟨H, a, m, _, nb, 3000, rfl, hM2, hwe, fun H3 M3 hM3 e1 e2 => ?_⟩
    obtain ⟨us, g1, g2⟩ := hM3.made
    have g3 := hM3.bx
    rw [e2] at g2
    rw [e1] at g3
    walk_at "rd"
    dsimp only
    walk_at "rd"
    refine i_fld ?_
    walk_at "rd"
    refine ⟨a.x, _, a.dx, _, .ref a.mp, rfl, hM3.obj, T.i_Machine.cl, T.nM_made, fs_o, ?_⟩
    walk_at "rd"
    refine i_fld ?_
    walk_at "rd"
    refine ⟨a.x, _, a.dx, _, .ref a.bp, rfl, hM3.obj, T.i_Machine.cl, T.nM_boxes, fs_b, ?_⟩
    walk_at "rd"
    refine ⟨by show 2 ≤ sizeLine; omega, fun p H4 hN4 => ?_⟩
    exact q p a.mp a.bp us H4 (hM3.same.trans hN4.same) hN4.at (hN4.same _ _ g1) (g2.keep (TK.of hN4.same)) (hN4.same _ _ g3)
def spRunX (CE : Xk → Addr) : Sp := fun vs H Q E => ∃ (m : Int) (sh fd bq : Addr) (n : Int), vs = [.int m, .ref sh, .int n, .ref fd, .ref bq] ∧ (n < 0 ∨ 300 < n) ∧ E (.ref (CE .BadTurns)) none H
theorem d_runX (T : Txt K mg C CE) (Kb : K.In base) (G : base.Ns mainGlobals mg) : DfX P w K mg base 3 "run" ["measure", "sheet", "turns", "feeds", "boxes"] (spRunX CE) := by
  have Dcheck_turns : Df P w K mg base 1 "check_turns" ["turns"] spCTurns := d_cturns T Kb G
  have Dcheck_turnsX : DfX P w K mg base 1 "check_turns" ["turns"] (spCTurnsX CE) := d_cturnsX T Kb G
  have MMachine : MkI P w K mg base 1 (CE .Machine) ["self", "measure", "feeds", "boxes"] (spMInit (CE .Machine)) := mk_mach T
  have Mdo_part : MethI P w K mg base 2 "do_part" ["self", "part", "later"] (fun _ : Unit => CE .Machine) (fun _ => spDoPart (CE .Machine)) := m_dopart T Kb G
  have Mland_all : MethI P w K mg base 2 "land_all" ["self"] (fun _ : Unit => CE .Machine) (fun _ => spLandAll (CE .Machine)) := m_landall T
  refine T.f_run.dfX Kb G sc_run (fun _ _ _ _ _ _ us hl => match us, hl with | [_, _, _, _, _], _ => rfl) (by rintro vs H Q E ⟨m, sh, fd, bq, n, rfl, _⟩; rfl) (fun f cdv A outer s H vs Q E hr h => ?_)
  obtain ⟨m, sh, fd, bq, n, rfl, hn, q⟩ := h
  refine ⟨_, (pss_cons (ps_expr (pe_callOr (ES := fun _ c d H' => E c d H') Dcheck_turns Dcheck_turnsX (hr.mono (by decide)) (hr.mono (by decide)) (fun _ _ z => z) rfl (pa_cons (pv 2) pa_nil (se rfl)) (he := se rfl) (hpl := nst rfl)))
    (pss_cons (ps_set (i := 5) sc_run.nd rfl (by first | exact Or.inl rfl | exact Or.inr rfl) (pe_makeI MMachine (hr.mono (by decide)) rfl T.mg_Machine (pa_cons (pv 0) (pa_cons (pv 3) (pa_cons (pv 4) pa_nil (se rfl)) (se rfl)) (se rfl)) (he := se rfl) (hpl := nst rfl)))
    (pss_cons (ps_set (i := 6) sc_run.nd rfl (by first | exact Or.inl rfl | exact Or.inr rfl) (pe_op op_add (pe_op op_sub (pv 2) (pe_fld (pv 1) rfl)) pe_int))
    (pss_cons (ps_join (ps_if (pt_cmpR op_lt (pv 6) pe_int (nomark _)) (pss_one (ps_expr (pe_methI Mdo_part (pv 5) (hr.mono (by decide)) (pa_cons (pe_ix ix_seq (pe_fld (pv 1) rfl) (pv 2) (fun _ _ => rfl)) (pa_cons pe_int pa_nil (se rfl)) (se rfl)) (hst := se rfl) (hpl := nst rfl)))) (pss_cons (ps_set (i := 7) sc_run.nd rfl (by first | exact Or.inl rfl | exact Or.inr rfl) (pe_op op_fdiv (pv 6) (pe_fld (pv 1) rfl)))
    (pss_cons (ps_expr (pe_methI Mdo_part (pv 5) (hr.mono (by decide)) (pa_cons (pe_fld (pv 1) rfl) (pa_cons pe_int pa_nil (se rfl)) (se rfl)) (hst := se rfl) (hpl := nst rfl)))
    (pss_cons (ps_for (passes_own own_cxX) rfl (pi_range1 rfl T.nrange (pa_cons (pv 7) pa_nil (se rfl))) (pg_name (i := 8) sc_run.nd rfl (by first | exact Or.inl rfl | exact Or.inr rfl))
      (pss_one (ps_expr (pe_methI Mdo_part (pv 5) (hr.mono (by decide)) (pa_cons (pe_fld (pv 1) rfl) (pa_cons (pe_op op_mulO (pe_fld (pv 1) rfl) (pv 8)) pa_nil (se rfl)) (se rfl)) (hst := se rfl) (hpl := nst rfl)))))
    (pss_one (ps_expr (pe_methI Mdo_part (pv 5) (hr.mono (by decide)) (pa_cons (pe_ix ix_seq (pe_fld (pv 1) rfl) (pe_op op_mod (pv 6) (pe_fld (pv 1) rfl)) (fun _ _ => rfl)) (pa_cons (pe_op op_mulO (pe_fld (pv 1) rfl) (pv 7)) pa_nil (se rfl)) (se rfl)) (hst := se rfl) (hpl := nst rfl)))))))))
    (pss_cons (ps_expr (pe_methI0 Mland_all (pv 5) (hr.mono (by decide))))
    (pss_one (ps_ret (pe_tupA (pa_cons (pe_fld (pv 5) rfl) (pa_cons (pe_fld (pv 5) rfl) pa_nil (se rfl)) (se rfl)))))))))), ?_⟩
  walk_at "rd"
  refine i_callOr ?_
  walk_at "rd"
  exact .inr ⟨n, rfl, hn, q⟩
def dueOf (pend : List (Nat × Nat × Int)) (t : Nat) : List (Nat × Int) := (pend.filter fun x => decide (x.1 = t)).map (·.2)
theorem dueOf_snoc (pend : List (Nat × Nat × Int)) (x : Nat × Nat × Int) (t : Nat) : dueOf (pend ++ [x]) t = if t = x.1 then dueOf pend t ++ [x.2] else dueOf pend t := by
  unfold dueOf
  rw [List.filter_append, List.map_append]
  by_cases e : t = x.1
  · rw [if_pos e, List.filter_cons_of_pos (by simp [e])]; rfl
  · rw [if_neg e, List.filter_cons_of_neg (by simp; exact fun z => e z.symm)]; simp
theorem mem_dueOf {pend : List (Nat × Nat × Int)} {x : Nat × Nat × Int} (h : x ∈ pend) : x.2 ∈ dueOf pend x.1 :=
  List.mem_map.mpr ⟨x, List.mem_filter.mpr ⟨h, by simp⟩, rfl⟩
theorem dueOf_later {pend : List (Nat × Nat × Int)} {c : Nat} (h : ∀ x ∈ pend, c ≤ x.1) (t : Nat) : dueOf (pend.filter fun x => decide (c < x.1)) t = if t = c then [] else dueOf pend t := by
  unfold dueOf
  rw [List.filter_filter]
  by_cases e : t = c
  · rw [if_pos e]
    have : (pend.filter fun a => decide (a.1 = t) && decide (c < a.1)) = [] := by
      rw [List.filter_eq_nil_iff]
      intro a _
      simp; omega
    rw [this]; rfl
  · rw [if_neg e]
    congr 1
    refine List.filter_congr fun x hx => ?_
    have := h x hx
    by_cases e2 : x.1 = t
    · simp [e2]; omega
    · simp [e2]
def peV (x : Nat × Nat × Int) : List V := [.int (x.1 : Int), .int (x.2.1 : Int), .int x.2.2]
def spLanded : Sp := fun vs H Q _ => ∃ (dp bp : Addr) (t : Nat) (us : List V) (pend : List (Nat × Nat × Int)) (bs : List Int), vs = [.ref dp, .int (t : Int), .ref bp] ∧ H dp = some (.lst us) ∧ TsAt H us (pend.map peV) ∧ H bp = some (.lst (bs.map V.int)) ∧ dp ≠ bp ∧ (∀ x ∈ pend, x.2.1 < bs.length) ∧
  ∀ H2, SameB bp H H2 → H2 bp = some (.lst (((dueOf pend t).foldl putB bs).map V.int)) → Q .non H2
theorem d_landed (T : Txt K mg C CE) (Kb : K.In base) (G : base.Ns mainGlobals mg) : Df P w K mg base 1 "_law_landed" ["_law_due", "_law_clock", "_law_boxes"] spLanded := by
  refine T.f_landed.df Kb G sc_law_landed (fun _ _ _ _ _ _ us hl => match us, hl with | [_, _, _], _ => rfl) (by rintro vs H Q E ⟨dp, bp, t, us, pend, bs, rfl, _⟩; rfl) (fun f cdv A outer s H vs Q E hr h => ?_)
  obtain ⟨dp, bp, t, us, pend, bs, rfl, hdp, hT, hbp, hne, hin, q⟩ := h
  have l2 := hT.len
  rw [List.length_map] at l2
  refine ⟨_, (pss_one (ps_for PassesOwn.never rfl (pi_list (pv 0)) (pg_tup rfl (pgs_cons (pg_name (i := 3) sc_law_landed.nd rfl (by first | exact Or.inl rfl | exact Or.inr rfl)) (pgs_cons (pg_name (i := 4) sc_law_landed.nd rfl (by first | exact Or.inl rfl | exact Or.inr rfl)) (pgs_cons (pg_name (i := 5) sc_law_landed.nd rfl (by first | exact Or.inl rfl | exact Or.inr rfl)) pgs_nil))))
      (pss_one (ps_if (pt_cmpR op_eq (pv 3) (pv 1) (nomark _)) (pss_one (ps_asg (pv 5) (pg_sub (pv 2) (pv 4) set_list))) pss_nil)))), ?_⟩
  walk_at "rd"
  refine i_for (i_list ?_)
  walk_at "rd"
  refine ⟨dp, rfl, ⟨us, sqL_inj_of hdp⟩, ?_⟩
  refine for_list (xs := us) (fun i σ H' => SameB bp H H' ∧ H' bp = some (.lst (((dueOf (pend.take i) t).foldl putB bs).map V.int)) ∧ ∃ x3 x4 x5, σ = [some (.ref dp), some (.int (t : Int)), some (.ref bp), x3, x4, x5])
    ⟨fun b u n e => e, hbp, none, none, none, rfl⟩ (fun i σ H' _ h => sqL_inj_of (h.1 _ _ hne hdp)) ?_ ?_
  · rintro i u σ H1 hui ⟨sb, hb1, x3, x4, x5, rfl⟩
    obtain ⟨ta, l, hl, rfl, hta⟩ := hT.get hui
    rw [List.getElem?_map] at hl
    have hi : i < pend.length := by rw [← l2]; exact (List.getElem?_eq_some_iff.mp hui).1
    have hgi := List.getElem?_eq_getElem hi
    rw [hgi] at hl
    cases hl
    have hb := hin _ (List.getElem_mem hi)
    rw [List.take_add_one, hgi, show Option.toList (some pend[i]) = [pend[i]] from rfl, dueOf_snoc]
    generalize pend[i] = pr at *
    obtain ⟨t', b, n⟩ := pr
    have hta' : H1 ta = some (.tup [.int (t' : Int), .int (b : Int), .int n]) := sb _ _ (ne_of hta hbp (by intro z; cases z)) hta
    refine i_gtup (.inl (.inl hta')) rfl ?_
    walk_at "rd"
    refine i_iteI (fun e => ?_) (fun e => ?_)
    · have e' : t = t' := by omega
      walk_at "rd"
      refine i_gsub ?_
      walk_at "rd"
      refine ⟨bp, _, _, b, rfl, rfl, hb1, ixN_nat (by rw [List.length_map, puts_len]; exact hb), ?_⟩
      rw [set_ints]
      refine ⟨fun b' u' n' e' => by rw [upd_ne n']; exact sb _ _ n' e', ?_, _, _, _, rfl⟩
      rw [upd_same, if_pos e', List.foldl_append]; rfl
    · have e' : ¬ t = t' := fun z => e (by omega)
      walk_at "rd"
      refine ⟨sb, ?_, _, _, _, rfl⟩
      rw [if_neg e']; exact hb1
  · rintro σ H1 ⟨sb, hb1, x3, x4, x5, rfl⟩
    rw [l2, List.take_length] at hb1
    exact q H1 sb hb1
def spBegun : Sp := fun vs H Q _ => ∃ (v : V) (ba : Nat) (fd bp : Addr) (m : Int) (s : Sx) (F : Fx) (bs : List Int), vs = [v, .int (ba : Int), .ref fd, .ref bp, .int m] ∧ Rp H v (sxD s) ∧ Rp H (.ref fd) (feedsD F) ∧ H bp = some (.lst (bs.map V.int)) ∧ SxOk bs.length s ∧ FedOk F ba ∧ 2 ≤ m ∧ m ≤ 10 ^ 60 ∧
  ∀ H2, Same H H2 → Q (.int (s.d.of (getsX F bs s (s.off + ba)) m)) H2
theorem d_begun (T : Txt K mg C CE) (Kb : K.In base) (G : base.Ns mainGlobals mg) : Df P w K mg base 2 "_law_begun" ["_law_step_here", "_law_base", "_law_feeds", "_law_boxes", "_law_measure"] spBegun := by
  have D_law_makes : Df P w K mg base 1 "_law_makes" ["_law_word", "_law_numbers_here", "_law_measure"] (spMakes K) := d_makes T Kb G
  refine T.f_begun.df Kb G sc_law_begun (fun _ _ _ _ _ _ us hl => match us, hl with | [_, _, _, _, _], _ => rfl) (by rintro vs H Q E ⟨v, ba, fd, bp, m, s, F, bs, rfl, _⟩; rfl) (fun f cdv A outer s H vs Q E hr h => ?_)
  obtain ⟨v, ba, fd, bp, m, sx, F, bs, rfl, hv, hf, hbp, hok, hfe, m2, m60, q⟩ := h
  obtain ⟨p, rp, rv, rfl, hp, hrp, rr⟩ := sx_at hv
  have lb := line_big
  have hof := hok.off
  have w3 := wants3 sx.d
  have hmn := hok.many
  have lrv := rpa_len rr
  rw [List.length_map] at lrv
  have need := getsX_len (F := F) (bs := bs) (t := sx.off + ba) hok
  refine ⟨_, (pss_cons (ps_if (pt_cmpR op_eq (pe_ix ix_seq (pv 0) pe_int (fun _ _ => rfl)) pe_str (nomark _)) (pss_one (ps_ret (pe_callD D_law_makes (hr.mono (by decide)) rfl (pa_cons pe_str (pa_cons (pe_lstA (pa_cons (pe_ix ix_seq (pe_dget (hu_of hr) (pv 2) (pe_ix ix_seq (pv 0) pe_int (fun _ _ => rfl)) (fun _ _ => rfl)) (pe_op op_add (pv 1) (pe_ix ix_seq (pv 0) pe_int (fun _ _ => rfl))) (fun _ _ => rfl)) pa_nil (se rfl))) (pa_cons (pv 4) pa_nil (se rfl)) (se rfl)) (se rfl)) (he := se rfl) (hpl := nst rfl)))) pss_nil)
    (pss_cons (ps_set (i := 5) sc_law_begun.nd rfl (by first | exact Or.inl rfl | exact Or.inr rfl) (pe_lstA pa_nil))
    (pss_cons (ps_for PassesOwn.never rfl (pi_list (pe_ix ix_seq (pv 0) pe_int (fun _ _ => rfl))) (pg_name (i := 6) sc_law_begun.nd rfl (by first | exact Or.inl rfl | exact Or.inr rfl))
      (pss_one (ps_if (pt_val (pe_callB call_isi rfl T.nisi PyProof.Rows.boot_isinstance (pa_cons (pv 6) (pa_cons (pe_bltn (v := .ty "tuple") rfl T.ntuple PyProof.Rows.boot_tuple rfl) pa_nil (se rfl)) (se rfl)) (he := se rfl) (hpl := nst rfl))) (pss_one (ps_expr (pe_bm PySem.F.plainAttrs_list PySem.F.slot_list_append PySem.F.type_list_append mt_append (pv 5) (pa_cons (pe_ix ix_seq (pv 3) (pe_ix ix_seq (pv 6) pe_int (fun _ _ => rfl)) (fun _ _ => rfl)) pa_nil (se rfl)) (hs := se rfl) (hplain := nst rfl)))) (pss_one (ps_expr (pe_bm PySem.F.plainAttrs_list PySem.F.slot_list_append PySem.F.type_list_append mt_append (pv 5) (pa_cons (pv 6) pa_nil (se rfl)) (hs := se rfl) (hplain := nst rfl)))))))
    (pss_one (ps_ret (pe_callD D_law_makes (hr.mono (by decide)) rfl (pa_cons (pe_ix ix_seq (pv 0) pe_int (fun _ _ => rfl)) (pa_cons (pv 5) (pa_cons (pv 4) pa_nil (se rfl)) (se rfl)) (se rfl)) (he := se rfl) (hpl := nst rfl))))))), ?_⟩
  walk_at "rd"
  refine i_ixT (.inl (.inl hp)) (show atI _ 0 = some (.str sx.d.word) from rfl) ?_
  walk_at "rd"
  by_cases ht : sx.d = .take
  · refine i_iteSe (by rw [ht]; rfl) ?_
    obtain ⟨lp, g1, g2⟩ := feeds_at hf hok.name
    walk_at "rd"
    refine i_dix ?_
    walk_at "rd"
    refine i_ixT (.inl (.inl hp)) (show atI _ 4 = some (.str sx.name) from rfl) ?_
    refine ⟨fd, _, rfl, g1, ?_⟩
    walk_at "rd"
    refine i_ixT (.inl (.inl hp)) (show atI _ 5 = some (.int (sx.off : Int)) from rfl) ?_
    walk_at "rd"
    have eo : (ba : Int) + (sx.off : Int) = ((sx.off + ba : Nat) : Int) := by omega
    rw [eo]
    refine i_ixL (sqL_inj_of g2) (at_ints (sx.off + ba) (hfe.lt (by omega))) ?_
    walk_at "rd"
    refine ⟨by show 1 ≤ sizeLine; omega, fun np H1 hN1 => ?_⟩
    walk_at "rd"
    have eg := getsX_take (F := F) (bs := bs) (t := sx.off + ba) ht
    refine ⟨.take, np, getsX F bs sx (sx.off + ba), m, rfl, by rw [eg]; exact hN1.lst, by rw [eg]; exact Nat.le_refl 1, by rw [eg]; show 1 ≤ 3; decide, m2, m60, fun H2 s2 => ?_⟩
    rw [← ht]
    exact q H2 (hN1.same.trans s2)
  · refine i_iteSf (word_ne (e := .take) ht) ?_
    have eg := getsX_not (F := F) (bs := bs) (t := sx.off + ba) ht
    walk_at "rd"
    refine ⟨by show 0 ≤ sizeLine; exact Nat.zero_le _, fun D H1 hN1 => ?_⟩
    walk_at "rd"
    dsimp only
    refine i_for (i_list ?_)
    walk_at "rd"
    refine i_ixT (.inl (.inl (hN1.same _ _ hp))) (show atI _ 3 = some (.ref rp) from rfl) ?_
    refine ⟨rp, rfl, ⟨rv, sqL_inj_of (hN1.same _ _ hrp)⟩, ?_⟩
    refine for_list (xs := rv) (fun i σ H' => Same H H' ∧ H' D = some (.lst (((sx.reads.take i).map (rxV bs)).map V.int)) ∧ ∃ x6, σ = [some (.ref p), some (.int (ba : Int)), some (.ref fd), some (.ref bp), some (.int m), some (.ref D), x6])
      ⟨hN1.same, hN1.at, none, rfl⟩ (fun i σ H' _ h => sqL_inj_of (h.1 _ _ hrp)) ?_ ?_
    · rintro i u σ H2 hui ⟨s2, hD2, x6, rfl⟩
      obtain ⟨d, hd, hru⟩ := rpa_get rr hui
      have hir : i < sx.reads.length := by rw [← lrv]; exact (List.getElem?_eq_some_iff.mp hui).1
      have hri := List.getElem?_eq_getElem hir
      rw [List.getElem?_map, hri] at hd
      cases hd
      have rok := hok.reads _ (List.getElem_mem hir)
      have hru' := hru.same s2
      have hsz : (((sx.reads.take i).map (rxV bs)).map V.int).length < sizeLine := by rw [List.length_map, List.length_map, List.length_take]; omega
      have sup : ∀ {o : HO}, Same H (upd H2 D o) := fun {o} b u e => by rw [upd_ne (ne_of_none e hN1.free)]; exact s2 _ _ e
      rw [List.take_add_one, hri, show Option.toList (some sx.reads[i]) = [sx.reads[i]] from rfl, List.map_append, List.map_append]
      generalize sx.reads[i] = rd at *
      cases rd with
      | num k =>
        have e := int_at hru'
        subst e
        walk_at "rd"
        refine ⟨_, _, _, _, rfl, rfl, .int k, T.kIT, ?_⟩
        walk_at "rd"
        refine ⟨.inl ⟨rfl, _, sqL_inj_of hD2⟩, ?_⟩
        walk_at "rd"
        refine i_append hD2 hsz ?_
        exact ⟨sup, upd_same, _, rfl⟩
      | box n =>
        obtain ⟨ta, us, rfl, hta, ru⟩ := tup_at hru'
        obtain ⟨v1, u1, rfl, a1, ru⟩ := rpa_cons ru
        obtain ⟨v2, u2, rfl, a2, ru⟩ := rpa_cons ru
        obtain rfl := rpa_nil ru
        rw [str_at a1, int_at a2] at hta
        have hn : n < bs.length := rok
        walk_at "rd"
        refine i_isiT hta T.kTT ?_
        walk_at "rd"
        refine ⟨.inl ⟨rfl, _, sqL_inj_of hD2⟩, ?_⟩
        walk_at "rd"
        refine i_ixT (.inl (.inl hta)) (show atI _ 1 = some (.int (n : Int)) from rfl) ?_
        walk_at "rd"
        refine i_ixL (sqL_inj_of (s2 _ _ hbp)) (at_ints n hn) ?_
        walk_at "rd"
        refine i_append hD2 hsz ?_
        exact ⟨sup, upd_same, _, rfl⟩
    · rintro σ H2 ⟨s2, hD2, x6, rfl⟩
      rw [lrv, List.take_length, ← eg] at hD2
      walk_at "rd"
      dsimp only
      walk_at "rd"
      refine i_ixT (.inl (.inl (s2 _ _ hp))) (show atI _ 0 = some (.str sx.d.word) from rfl) ?_
      walk_at "rd"
      refine ⟨sx.d, D, getsX F bs sx (sx.off + ba), m, rfl, sqL_inj_of hD2, need, by rw [eg, List.length_map]; omega, m2, m60, fun H3 s3 => ?_⟩
      exact q H3 (s2.trans s3)
structure PsAt (H : Hp) (pa : Addr) (ps : List (Part × Nat)) : Prop where
  ex : ∃ us, H pa = some (.lst us) ∧ us.length = ps.length ∧ ∀ (i : Nat) u x, us[i]? = some u → ps[i]? = some x → ∃ ta pv, u = .ref ta ∧ H ta = some (.tup [pv, .int (x.2 : Int)]) ∧ Rp H pv (partD x.1)
structure LawAt (H0 H : Hp) (dp bp tp : Addr) (M : Ms) (pend : List (Nat × Nat × Int)) : Prop where
  due : ∃ us, H dp = some (.lst us) ∧ TsAt H us (pend.map peV)
  bx : H bp = some (.lst (M.bs.map V.int))
  told : ∃ us, H tp = some (.lst us) ∧ TsAt H us (M.told.map tlV)
  du : ∀ t, M.du t = dueOf pend t
  win : ∀ x ∈ pend, M.c ≤ x.1
  same : Same H0 H
  f1 : H0 dp = none
  f2 : H0 bp = none
  f3 : H0 tp = none
  n1 : dp ≠ bp
  n2 : dp ≠ tp
  n3 : bp ≠ tp
theorem LawAt.to {H0 H H' : Hp} {dp bp tp : Addr} {M : Ms} {pend : List (Nat × Nat × Int)} (s : Same H H') (h : LawAt H0 H dp bp tp M pend) : LawAt H0 H' dp bp tp M pend := by
  obtain ⟨us, a1, a2⟩ := h.due
  obtain ⟨ws, b1, b2⟩ := h.told
  exact ⟨⟨us, s _ _ a1, a2.keep (TK.of s)⟩, s _ _ h.bx, ⟨ws, s _ _ b1, b2.keep (TK.of s)⟩, h.du, h.win, h.same.trans s, h.f1, h.f2, h.f3, h.n1, h.n2, h.n3⟩
theorem LawAt.boxes {H0 H H' : Hp} {dp bp tp : Addr} {M : Ms} {pend : List (Nat × Nat × Int)} {bs : List Int} (h : LawAt H0 H dp bp tp M pend) (sb : SameB bp H H') (hb : H' bp = some (.lst (bs.map V.int))) : LawAt H0 H' dp bp tp { M with bs := bs } pend := by
  obtain ⟨us, a1, a2⟩ := h.due
  obtain ⟨ws, b1, b2⟩ := h.told
  have tk : TK H H' := fun b xs e => sb b _ (ne_of e h.bx (by intro z; cases z)) e
  exact ⟨⟨us, sb _ _ h.n1 a1, a2.keep tk⟩, hb, ⟨ws, sb _ _ (Ne.symm h.n3) b1, b2.keep tk⟩, h.du, h.win, fun b o e => sb b o (ne_of_none e h.f2) (h.same _ _ e), h.f1, h.f2, h.f3, h.n1, h.n2, h.n3⟩
theorem filt_map {α β : Type} (l : List α) (p : α → Bool) (q : Nat → Bool) (g : Nat → β) (r : α → β) (h : ∀ i x, l[i]? = some x → q i = p x ∧ g i = r x) : ((List.range l.length).filter q).map g = (l.filter p).map r := by
  induction l generalizing q g with
  | nil => rfl
  | cons a l ih =>
    rw [List.length_cons, List.range_succ_eq_map, List.filter_cons, List.filter_cons]
    have h0 := h 0 a rfl
    rw [h0.1]
    have ih' := ih (q ∘ Nat.succ) (g ∘ Nat.succ) fun i x hx => h (i + 1) x (by simpa using hx)
    have e : (List.map Nat.succ (List.range l.length)).filter q = ((List.range l.length).filter (q ∘ Nat.succ)).map Nat.succ := List.filter_map
    cases p a with
    | true =>
      rw [if_pos rfl, if_pos rfl, List.map_cons, List.map_cons, h0.2, e, List.map_map, ih']
    | false =>
      rw [if_neg (by decide), if_neg (by decide), e, List.map_map, ih']
def spDone : Sp := fun vs H Q _ => ∃ (m : Int) (pa fd bq : Addr) (ps : List (Part × Nat)) (F : Fx) (bs : List Int) (nb : Nat), vs = [.int m, .ref pa, .ref fd, .ref bq] ∧ PsAt H pa ps ∧ Rp H (.ref fd) (feedsD F) ∧ H bq = some (.lst (bs.map V.int)) ∧ bs.length = nb ∧ (∀ x ∈ bs, Bd x) ∧ (∀ x ∈ ps, PartOk nb x.1 ∧ FedOk F x.2) ∧ ps.length ≤ 310 ∧ 2 ≤ m ∧ m ≤ 10 ^ 60 ∧
  ∀ p tp bp us H2, Same H H2 → H2 p = some (.lst [.ref tp, .ref bp]) → H2 tp = some (.lst us) → TsAt H2 us ((partsM m F (M0 bs) ps).told.map tlV) → H2 bp = some (.lst ((finB (partsM m F (M0 bs) ps)).map V.int)) → Q (.ref p) H2
theorem d_done (T : Txt K mg C CE) (Kb : K.In base) (G : base.Ns mainGlobals mg) : Df P w K mg base 3 "_law_done" ["_law_measure", "_law_parts_here", "_law_feeds", "_law_boxes"] spDone := by
  have D_law_landed : Df P w K mg base 1 "_law_landed" ["_law_due", "_law_clock", "_law_boxes"] spLanded := d_landed T Kb G
  have D_law_begun : Df P w K mg base 2 "_law_begun" ["_law_step_here", "_law_base", "_law_feeds", "_law_boxes", "_law_measure"] spBegun := d_begun T Kb G
  refine T.f_done.df Kb G sc_law_done (fun _ _ _ _ _ _ us hl => match us, hl with | [_, _, _, _], _ => rfl) (by rintro vs H Q E ⟨m, pa, fd, bq, ps, F, bs, nb, rfl, _⟩; rfl) (fun f cdv A outer s H vs Q E hr h => ?_)
  obtain ⟨m, pa, fd, bq, ps, F, bs, nb, rfl, hps, hf, hbq, hbl, hbd, hpo, hpl, m2, m60, q⟩ := h
  obtain ⟨pu, hpa, lpu, hpu⟩ := hps.ex
  have m0 : 0 < m := by omega
  have lb := line_big
  have w0 := wf0 (nb := nb) hbl hbd
  refine ⟨_, (pss_cons (ps_set (i := 3) sc_law_done.nd rfl (by first | exact Or.inl rfl | exact Or.inr rfl) (pe_callTy call_listA rfl T.nlist PyProof.Rows.boot_list (pa_cons (pv 3) pa_nil (se rfl)) (he := se rfl) (hpl := nst rfl)))
    (pss_cons (ps_set (i := 4) sc_law_done.nd rfl (by first | exact Or.inl rfl | exact Or.inr rfl) pe_int)
    (pss_cons (ps_set (i := 5) sc_law_done.nd rfl (by first | exact Or.inl rfl | exact Or.inr rfl) (pe_lstA pa_nil))
    (pss_cons (ps_set (i := 6) sc_law_done.nd rfl (by first | exact Or.inl rfl | exact Or.inr rfl) (pe_lstA pa_nil))
    (pss_cons (ps_for PassesOwn.never rfl (pi_list (pv 1)) (pg_tup rfl (pgs_cons (pg_name (i := 7) sc_law_done.nd rfl (by first | exact Or.inl rfl | exact Or.inr rfl)) (pgs_cons (pg_name (i := 8) sc_law_done.nd rfl (by first | exact Or.inl rfl | exact Or.inr rfl)) pgs_nil)))
      (pss_one (ps_for PassesOwn.never rfl (pi_list (pv 7)) (pg_name (i := 9) sc_law_done.nd rfl (by first | exact Or.inl rfl | exact Or.inr rfl))
      (pss_cons (ps_expr (pe_callD D_law_landed (hr.mono (by decide)) rfl (pa_cons (pv 5) (pa_cons (pv 4) (pa_cons (pv 3) pa_nil (se rfl)) (se rfl)) (se rfl)) (he := se rfl) (hpl := nst rfl)))
    (pss_cons (ps_lc (i := 5) sc_law_done.nd rfl rfl (by with_unfolding_all rfl) (Blk.of (caps := ["_law_clock"]) (ix := [4]) rfl) rfl (pi_list (pv 5)) (fun _ _ _ _ => (pf_one (pt_cmpR op_gt (pe_ix (ix_seqK (K := K) rfl) (pv 0) pe_int (fun _ _ => rfl)) (pv 1) (nomark _)))) (fun _ _ _ _ => (pv 0)))
    (pss_cons (ps_for PassesOwn.never rfl (pi_list (pv 9)) (pg_name (i := 10) sc_law_done.nd rfl (by first | exact Or.inl rfl | exact Or.inr rfl))
      (pss_cons (ps_set (i := 11) sc_law_done.nd rfl (by first | exact Or.inl rfl | exact Or.inr rfl) (pe_callD D_law_begun (hr.mono (by decide)) rfl (pa_cons (pv 10) (pa_cons (pv 8) (pa_cons (pv 2) (pa_cons (pv 3) (pa_cons (pv 0) pa_nil (se rfl)) (se rfl)) (se rfl)) (se rfl)) (se rfl)) (he := se rfl) (hpl := nst rfl)))
    (pss_cons (ps_expr (pe_bm PySem.F.plainAttrs_list PySem.F.slot_list_append PySem.F.type_list_append mt_append (pv 5) (pa_cons (pe_tupA (pa_cons (pe_op op_add (pv 4) (pe_ix ix_seq (pv 10) pe_int (fun _ _ => rfl))) (pa_cons (pe_ix ix_seq (pv 10) pe_int (fun _ _ => rfl)) (pa_cons (pv 11) pa_nil (se rfl)) (se rfl)) (se rfl))) pa_nil (se rfl)) (hs := se rfl) (hplain := nst rfl)))
    (pss_one (ps_if (pt_cmpR op_eq (pe_ix ix_seq (pv 10) pe_int (fun _ _ => rfl)) pe_str (nomark _)) (pss_one (ps_expr (pe_bm PySem.F.plainAttrs_list PySem.F.slot_list_append PySem.F.type_list_append mt_append (pv 6) (pa_cons (pe_tupA (pa_cons (pe_ix ix_seq (pv 10) pe_int (fun _ _ => rfl)) (pa_cons (pe_op op_add (pv 8) (pe_ix ix_seq (pv 10) pe_int (fun _ _ => rfl))) (pa_cons (pv 11) pa_nil (se rfl)) (se rfl)) (se rfl))) pa_nil (se rfl)) (hs := se rfl) (hplain := nst rfl)))) pss_nil)))))
    (pss_one (ps_set (i := 4) sc_law_done.nd rfl (by first | exact Or.inl rfl | exact Or.inr rfl) (pe_op op_add (pv 4) pe_int)))))))))
    (pss_cons (ps_for PassesOwn.never rfl (pi_range1 rfl T.nrange (pa_cons pe_int pa_nil (se rfl))) (pg_name (i := 12) sc_law_done.nd rfl (by first | exact Or.inl rfl | exact Or.inr rfl))
      (pss_one (ps_expr (pe_callD D_law_landed (hr.mono (by decide)) rfl (pa_cons (pv 5) (pa_cons (pe_op op_add (pv 4) (pv 12)) (pa_cons (pv 3) pa_nil (se rfl)) (se rfl)) (se rfl)) (he := se rfl) (hpl := nst rfl)))))
    (pss_one (ps_ret (pe_lstA (pa_cons (pv 6) (pa_cons (pv 3) pa_nil (se rfl)) (se rfl))))))))))), ?_⟩
  walk_at "rd"
  refine i_listAL (sqL_inj_of hbq) fun bp H1 hN1 => ?_
  walk_at "rd"
  try dsimp only
  walk_at "rd"
  try dsimp only
  walk_at "rd"
  refine ⟨by show 0 ≤ sizeLine; exact Nat.zero_le _, fun dp H2 hN2 => ?_⟩
  walk_at "rd"
  try dsimp only
  walk_at "rd"
  refine ⟨by show 0 ≤ sizeLine; exact Nat.zero_le _, fun tp H3 hN3 => ?_⟩
  walk_at "rd"
  try dsimp only
  have hL : LawAt H H3 dp bp tp (M0 bs) [] := by
    refine ⟨⟨[], hN3.same _ _ hN2.at, .nil⟩, hN3.same _ _ (hN2.same _ _ hN1.at), ⟨[], hN3.at, .nil⟩, fun t => rfl, fun x h => by simp at h, (hN1.same.trans hN2.same).trans hN3.same, hN1.same.free hN2.free, hN1.free, (hN1.same.trans hN2.same).free hN3.free, ?_, ?_, ?_⟩
    · exact fun z => by have := hN2.free; rw [z, hN1.at] at this; cases this
    · exact fun z => by have := hN3.free; rw [← z, hN2.at] at this; cases this
    · exact fun z => by have := hN3.free; rw [← z, hN2.same _ _ hN1.at] at this; cases this
  refine i_for (i_list ?_)
  walk_at "rd"
  refine ⟨pa, rfl, ⟨pu, sqL_inj_of (hL.same _ _ hpa)⟩, ?_⟩
  refine for_list (xs := pu) (fun i σ H' => ∃ dp pend x7 x8 x9 xa xb xc, LawAt H H' dp bp tp (partsM m F (M0 bs) (ps.take i)) pend ∧ pend.length ≤ 9 * i ∧ σ = [some (.int m), some (.ref pa), some (.ref fd), some (.ref bp), some (.int ((partsM m F (M0 bs) (ps.take i)).c : Int)), some (.ref dp), some (.ref tp), x7, x8, x9, xa, xb, xc])
    ⟨dp, [], none, none, none, none, none, none, hL, Nat.zero_le _, rfl⟩ (fun i σ H' _ h => by obtain ⟨_, _, _, _, _, _, _, _, h, _⟩ := h; exact sqL_inj_of (h.same _ _ hpa)) ?_ ?_
  · rintro i u σ H4 hui ⟨dp4, pend4, x7, x8, x9, xa, xb, xc, hL4, hp4, rfl⟩
    have hip : i < ps.length := by rw [← lpu]; exact (List.getElem?_eq_some_iff.mp hui).1
    have hpi := List.getElem?_eq_getElem hip
    obtain ⟨ta, pv, rfl, hta, hpv⟩ := hpu i u ps[i] hui hpi
    have pok := hpo _ (List.getElem_mem hip)
    have fn : partsM m F (M0 bs) (ps.take (i + 1)) = partM m F ps[i].2 (partsM m F (M0 bs) (ps.take i)) ps[i].1 := fold_next _ _ hpi
    have hw4 : WfM nb (9 * i) (partsM m F (M0 bs) (ps.take i)) := (w0.parts (F := F) m0 m60 fun x hx => (hpo x (List.mem_of_mem_take hx)).1).mono (by rw [List.length_take]; omega)
    rw [fn]
    generalize ps[i] = px at *
    obtain ⟨pt, ba⟩ := px
    generalize partsM m F (M0 bs) (ps.take i) = M4 at *
    obtain ⟨pp, tv, rfl, hpp, rt⟩ := list_at hpv
    have ltv : tv.length = pt.length := by rw [rpa_len rt, List.length_map]
    have plen : pt.length ≤ 3 := pok.1.len
    have hba : FedOk F ba := pok.2
    refine i_gtup (.inl (.inl (hL4.same _ _ hta))) rfl ?_
    walk_at "rd"
    refine i_for (i_list ?_)
    walk_at "rd"
    refine ⟨pp, rfl, ⟨tv, sqL_inj_of (hL4.same _ _ hpp)⟩, ?_⟩
    refine for_list (xs := tv) (fun k σ H' => ∃ dp pend x9 xa xb xc, LawAt H H' dp bp tp (partM m F ba M4 (pt.take k)) pend ∧ pend.length ≤ 9 * i + 3 * k ∧ σ = [some (.int m), some (.ref pa), some (.ref fd), some (.ref bp), some (.int ((partM m F ba M4 (pt.take k)).c : Int)), some (.ref dp), some (.ref tp), some (.ref pp), some (.int (ba : Int)), x9, xa, xb, xc])
      ⟨dp4, pend4, _, _, _, _, hL4, by omega, rfl⟩ (fun i σ H' _ h => by obtain ⟨_, _, _, _, _, _, h, _⟩ := h; exact sqL_inj_of (h.same _ _ hpp)) ?_ ?_
    · rintro k u σ H5 huk ⟨dp5, pend5, y9, ya, yb, yc, hL5, hp5, rfl⟩
      have hkp : k < pt.length := by have := (List.getElem?_eq_some_iff.mp huk).1; omega
      have hpk := List.getElem?_eq_getElem hkp
      obtain ⟨d, hd, hrp⟩ := rpa_get rt huk
      rw [List.getElem?_map, hpk] at hd
      cases hd
      have fn5 : partM m F ba M4 (pt.take (k + 1)) = tickM m F ba (partM m F ba M4 (pt.take k)) pt[k] := fold_next _ _ hpk
      have hw5 : WfM nb (9 * i + 3 * k) (partM m F ba M4 (pt.take k)) := (hw4.ticks (F := F) (later := ba) m0 m60 fun l hl => pok.1.each l (List.mem_of_mem_take hl)).mono (by rw [List.length_take]; omega)
      have each := pok.1.each _ (List.getElem_mem hkp)
      rw [fn5]
      generalize pt[k] = l at *
      generalize partM m F ba M4 (pt.take k) = M5 at *
      obtain ⟨sp, sv, rfl, hsp, rs⟩ := list_at hrp
      have lsv := rpa_len rs
      rw [List.length_map] at lsv
      obtain ⟨us5, a1, a2⟩ := hL5.due
      have al := a2.len
      rw [List.length_map] at al
      walk_at "rd"
      refine ⟨dp5, bp, M5.c, us5, pend5, M5.bs, rfl, a1, a2, hL5.bx, hL5.n1, fun x hx => ?_, fun H6 sb6 hb6 => ?_⟩
      · rw [hw5.len]
        have := mem_dueOf hx
        rw [← hL5.du] at this
        exact (hw5.du _ _ this).1
      rw [← hL5.du] at hb6
      have hL6 := hL5.boxes sb6 hb6
      obtain ⟨us6, c1, c2⟩ := hL6.due
      walk_at "rd"
      try dsimp only
      refine i_setLc (i_lc (i_list ?_))
      walk_at "rd"
      refine ⟨dp5, rfl, ⟨us6, sqL_inj_of c1⟩, ?_⟩
      have cl := c2.len
      rw [List.length_map] at cl
      refine lcF (LcIt.lst (sqL_inj_of c1)) (fun j => decide (M5.c < (pend5.getD j (0, 0, 0)).1)) (fun j => us6.getD j .non) (by omega) (fun j H' R hj s' r => ?_) (fun j H' R hj hpj s' r => ?_) (fun dp7 H7 hN7 => ?_)
      · have huj := List.getElem?_eq_getElem hj
        obtain ⟨tb, lj, e1, e2, e3⟩ := c2.get huj
        rw [List.getElem?_map] at e1
        have hjp : j < pend5.length := by omega
        rw [List.getElem?_eq_getElem hjp] at e1
        cases e1
        have ev : us6.getD j V.non = us6[j] := by rw [List.getD, huj]; rfl
        have ep : pend5.getD j (0, 0, 0) = pend5[j] := by rw [List.getD, List.getElem?_eq_getElem hjp]; rfl
        rw [ev, e2]
        rw [ep] at r
        have e3' : H' tb = some (.tup [.int (pend5[j].1 : Int), .int (pend5[j].2.1 : Int), .int pend5[j].2.2]) := s' _ _ e3
        walk_at "rd"
        refine i_ixT (.inl (.inl e3')) (show atI _ 0 = some (.int (pend5[j].1 : Int)) from rfl) ?_
        walk_at "rd"
        have er : decide ((M5.c : Int) < (pend5[j].1 : Int)) = decide (M5.c < pend5[j].1) := by
          by_cases h : M5.c < pend5[j].1
          · rw [decide_eq_true h, decide_eq_true (by omega)]
          · rw [decide_eq_false h, decide_eq_false (by omega)]
        first
          | (rw [er]; exact r)
          | (rw [show decide ((pend5[j].1 : Int) > (M5.c : Int)) = decide (M5.c < pend5[j].1) from er]; exact r)
          | exact er ▸ r
      · walk_at "rd"
        exact r
      have hff : ((List.range us6.length).filter fun j => decide (M5.c < (pend5.getD j (0, 0, 0)).1)).map (fun j => us6.getD j .non) = ((List.range pend5.length).filter fun j => decide (M5.c < (pend5.getD j (0, 0, 0)).1)).map (fun j => us6.getD j .non) := by rw [cl]
      have hT7 : TsAt H7 (((List.range us6.length).filter fun j => decide (M5.c < (pend5.getD j (0, 0, 0)).1)).map fun j => us6.getD j .non) ((pend5.filter fun x => decide (M5.c < x.1)).map peV) := by
        have e2 : (pend5.filter fun x => decide (M5.c < x.1)).map peV = ((List.range pend5.length).filter fun j => decide (M5.c < (pend5.getD j (0, 0, 0)).1)).map (fun j => peV (pend5.getD j (0, 0, 0))) :=
          (filt_map pend5 (fun x => decide (M5.c < x.1)) (fun j => decide (M5.c < (pend5.getD j (0, 0, 0)).1)) (fun j => peV (pend5.getD j (0, 0, 0))) peV fun j x hx => by
            have : pend5.getD j (0, 0, 0) = x := by rw [List.getD, hx]; rfl
            exact ⟨by show decide (M5.c < (pend5.getD j (0, 0, 0)).1) = _; rw [this], by show peV (pend5.getD j (0, 0, 0)) = _; rw [this]⟩).symm
        rw [hff, e2]
        refine ⟨by rw [List.length_map, List.length_map], fun j u l' g1 g2 => ?_⟩
        rw [List.getElem?_map] at g1 g2
        cases hj : ((List.range pend5.length).filter fun j => decide (M5.c < (pend5.getD j (0, 0, 0)).1))[j]? with
        | none => rw [hj] at g1; cases g1
        | some jj =>
          rw [hj] at g1 g2
          cases g1
          cases g2
          have hjj : jj < pend5.length := List.mem_range.mp (List.mem_filter.mp (List.mem_of_getElem? hj)).1
          have hju : jj < us6.length := by omega
          obtain ⟨tb, lj, e1, e2, e3⟩ := c2.get (List.getElem?_eq_getElem hju)
          rw [List.getElem?_map, List.getElem?_eq_getElem hjj] at e1
          cases e1
          refine ⟨tb, ?_, ?_⟩
          · show us6.getD jj V.non = _
            rw [List.getD, List.getElem?_eq_getElem hju]; exact e2
          · show _ = some (HO.tup (peV (pend5.getD jj (0, 0, 0))))
            rw [List.getD, List.getElem?_eq_getElem hjj]; exact hN7.same _ _ e3
      have hL7 : LawAt H H7 dp7 bp tp (landM M5.c M5) (pend5.filter fun x => decide (M5.c < x.1)) := by
        obtain ⟨ws, b1, b2⟩ := hL6.told
        refine ⟨⟨_, hN7.at, hT7⟩, hN7.same _ _ hL6.bx, ⟨ws, hN7.same _ _ b1, b2.keep (TK.of hN7.same)⟩, fun t => ?_, fun x hx => ?_, hL6.same.trans hN7.same, hL6.same.free hN7.free, hL6.f2, hL6.f3, ?_, ?_, hL6.n3⟩
        · rw [dueOf_later hL5.win t, ← hL5.du]; rfl
        · exact hL5.win x (List.mem_filter.mp hx).1
        · exact fun z => by have := hN7.free; rw [z, hL6.bx] at this; cases this
        · exact fun z => by have := hN7.free; rw [z, b1] at this; cases this
      have hp7 : (pend5.filter fun x => decide (M5.c < x.1)).length ≤ 9 * i + 3 * k := Nat.le_trans (List.length_filter_le _ _) hp5
      have hgt : ∀ x ∈ pend5.filter (fun x => decide (M5.c < x.1)), M5.c < x.1 := fun x hx => by simpa using (List.mem_filter.mp hx).2
      have hw7 := hw5.land M5.c
      clear hff hT7
      generalize pend5.filter (fun x => decide (M5.c < x.1)) = pend7 at *
      try dsimp only
      walk_at "rd"
      try dsimp only
      refine i_for (i_list ?_)
      walk_at "rd"
      refine ⟨sp, rfl, ⟨sv, sqL_inj_of (hL7.same _ _ hsp)⟩, ?_⟩
      refine for_list (xs := sv) (fun j σ H' => ∃ pend xa xb xc, LawAt H H' dp7 bp tp ((l.take j).foldl (stepM m F ba) (landM M5.c M5)) pend ∧ pend.length ≤ 9 * i + 3 * k + j ∧ (∀ x ∈ pend, M5.c < x.1) ∧ σ = [some (.int m), some (.ref pa), some (.ref fd), some (.ref bp), some (.int (M5.c : Int)), some (.ref dp7), some (.ref tp), some (.ref pp), some (.int (ba : Int)), some (.ref sp), xa, xb, xc])
        ⟨pend7, _, _, _, hL7, hp7, hgt, rfl⟩ (fun i σ H' _ h => by obtain ⟨_, _, _, _, h, _⟩ := h; exact sqL_inj_of (h.same _ _ hsp)) ?_ ?_
      · rintro j u σ H8 huj ⟨pend8, za, zb, zc, hL8, hp8, hg8, rfl⟩
        have hjl : j < l.length := by have := (List.getElem?_eq_some_iff.mp huj).1; omega
        have hlj := List.getElem?_eq_getElem hjl
        obtain ⟨d, hd, hrp⟩ := rpa_get rs huj
        rw [List.getElem?_map, hlj] at hd
        cases hd
        have fn8 := fold_next (stepM m F ba) (landM M5.c M5) hlj
        have hw8 : WfM nb (9 * i + 3 * k + 3) ((l.take j).foldl (stepM m F ba) (landM M5.c M5)) := (hw7.steps (F := F) (later := ba) m0 m60 fun s hs => each.2 s (List.mem_of_mem_take hs)).mono (by have := each.1; rw [List.length_take]; omega)
        have hok := each.2 _ (List.getElem_mem hjl)
        have hc8 : ((l.take j).foldl (stepM m F ba) (landM M5.c M5)).c = M5.c := step_c m F ba _ _
        rw [fn8]
        generalize l[j] = sx at *
        generalize (l.take j).foldl (stepM m F ba) (landM M5.c M5) = M8 at *
        obtain ⟨sa, rp, rv, rfl, hsa, hrl, rr⟩ := sx_at hrp
        have lim : 9 * i + 3 * k + 3 + 3 ≤ 9000 := by omega
        obtain ⟨us8, a81, a82⟩ := hL8.due
        have al8 := a82.len
        rw [List.length_map] at al8
        walk_at "rd"
        refine ⟨.ref sa, ba, fd, bp, m, sx, F, M8.bs, rfl, hrp.same hL8.same, hf.same hL8.same, hL8.bx, by rw [hw8.len]; exact hok, hba, m2, m60, fun H9 s9 => ?_⟩
        have en : sx.d.of (getsX F M8.bs sx (sx.off + ba)) m = numX m F ba M8 sx := rfl
        rw [en]
        have hL9 := hL8.to s9
        walk_at "rd"
        try dsimp only
        walk_at "rd"
        refine ⟨.inl ⟨rfl, _, sqL_inj_of (s9 _ _ a81)⟩, ?_⟩
        walk_at "rd"
        refine i_ixT (.inl (.inl (hL9.same _ _ hsa))) (show atI _ 1 = some (.int (sx.delay : Int)) from rfl) ?_
        walk_at "rd"
        refine i_ixT (.inl (.inl (hL9.same _ _ hsa))) (show atI _ 2 = some (.int (sx.box : Int)) from rfl) ?_
        walk_at "rd"
        refine ⟨by show 3 ≤ sizeLine; omega, fun tb HA hNA => ?_⟩
        have hLA := hL9.to hNA.same
        have dA := (s9.trans hNA.same) _ _ a81
        walk_at "rd"
        refine i_append dA (by omega) ?_
        have tkA : TK HA (upd HA dp7 (.lst (us8 ++ [.ref tb]))) := TK.upd dA (by intro xs z; cases z)
        have hLB : LawAt H (upd HA dp7 (.lst (us8 ++ [.ref tb]))) dp7 bp tp { M8 with du := fun u => if u = M8.c + sx.delay then M8.du u ++ [(sx.box, numX m F ba M8 sx)] else M8.du u } (pend8 ++ [(M5.c + sx.delay, sx.box, numX m F ba M8 sx)]) := by
          obtain ⟨ws, b1, b2⟩ := hLA.told
          refine ⟨⟨_, upd_same, ?_⟩, ?_, ⟨ws, ?_, b2.keep tkA⟩, fun t => ?_, fun x hx => ?_, fun b o e => ?_, hLA.f1, hLA.f2, hLA.f3, hLA.n1, hLA.n2, hLA.n3⟩
          · rw [List.map_append]
            refine ((a82.keep (TK.of (s9.trans hNA.same))).snoc ?_).keep tkA
            rw [hNA.at]
            show _ = some (HO.tup [V.int ((M5.c + sx.delay : Nat) : Int), V.int (sx.box : Int), V.int (numX m F ba M8 sx)])
            rw [Int.natCast_add]
          · rw [upd_ne (Ne.symm hLA.n1)]; exact hLA.bx
          · rw [upd_ne (Ne.symm hLA.n2)]; exact b1
          · rw [dueOf_snoc, ← hLA.du t, ← hc8]
          · show M8.c ≤ x.1
            rw [hc8]
            rcases List.mem_append.mp hx with h | h
            · exact Nat.le_of_lt (hg8 x h)
            · rw [show x = _ from List.mem_singleton.mp h]; exact Nat.le_add_right _ _
          · rw [upd_ne (ne_of_none e hLA.f1)]; exact hLA.same _ _ e
        have hpB : (pend8 ++ [(M5.c + sx.delay, sx.box, numX m F ba M8 sx)]).length ≤ 9 * i + 3 * k + (j + 1) := by rw [List.length_append]; show _ + 1 ≤ _; omega
        have hgB : ∀ x ∈ pend8 ++ [(M5.c + sx.delay, sx.box, numX m F ba M8 sx)], M5.c < x.1 := fun x hx => by
          rcases List.mem_append.mp hx with h | h
          · exact hg8 x h
          · have := hok.d1
            rw [show x = _ from List.mem_singleton.mp h]; show M5.c < M5.c + sx.delay; omega
        generalize upd HA dp7 (.lst (us8 ++ [.ref tb])) = HB at *
        walk_at "rd"
        try dsimp only
        walk_at "rd"
        refine i_ixT (.inl (.inl (hLB.same _ _ hsa))) (show atI _ 0 = some (.str sx.d.word) from rfl) ?_
        walk_at "rd"
        by_cases hT : sx.d = .tell
        · refine i_iteSe (by rw [hT]; rfl) ?_
          obtain ⟨os, o1, o2⟩ := hLB.told
          have ol := o2.len
          rw [List.length_map] at ol
          have ol' : os.length = M8.told.length := ol
          have otl := hw8.told
          walk_at "rd"
          refine ⟨.inl ⟨rfl, _, sqL_inj_of o1⟩, ?_⟩
          walk_at "rd"
          refine i_ixT (.inl (.inl (hLB.same _ _ hsa))) (show atI _ 4 = some (.str sx.name) from rfl) ?_
          walk_at "rd"
          refine i_ixT (.inl (.inl (hLB.same _ _ hsa))) (show atI _ 5 = some (.int (sx.off : Int)) from rfl) ?_
          walk_at "rd"
          refine ⟨by show 3 ≤ sizeLine; omega, fun tc HC hNC => ?_⟩
          have hLC := hLB.to hNC.same
          walk_at "rd"
          refine i_append (hNC.same _ _ o1) (by omega) ?_
          refine ⟨_, _, _, _, ?_, hpB, hgB, rfl⟩
          have tkC : TK HC (upd HC tp (.lst (os ++ [.ref tc]))) := TK.upd (hNC.same _ _ o1) (by intro xs z; cases z)
          obtain ⟨qs, q1, q2⟩ := hLC.due
          have est : stepM m F ba M8 sx = { M8 with du := fun u => if u = M8.c + sx.delay then M8.du u ++ [(sx.box, numX m F ba M8 sx)] else M8.du u, told := M8.told ++ [(sx.name, sx.off + ba, numX m F ba M8 sx)] } := by unfold stepM; rw [if_pos hT]
          rw [est]
          refine ⟨⟨qs, ?_, q2.keep tkC⟩, ?_, ⟨_, upd_same, ?_⟩, hLC.du, hLC.win, fun b o e => ?_, hLC.f1, hLC.f2, hLC.f3, hLC.n1, hLC.n2, hLC.n3⟩
          · rw [upd_ne hLC.n2]; exact q1
          · rw [upd_ne hLC.n3]; exact hLC.bx
          · show TsAt _ _ ((M8.told ++ [(sx.name, sx.off + ba, numX m F ba M8 sx)]).map tlV)
            rw [List.map_append]
            refine ((o2.keep (TK.of hNC.same)).snoc ?_).keep tkC
            rw [hNC.at]
            show _ = some (HO.tup [V.str sx.name, V.int ((sx.off + ba : Nat) : Int), V.int (numX m F ba M8 sx)])
            rw [Int.natCast_add, Int.add_comm]
          · rw [upd_ne (ne_of_none e hLC.f3)]; exact hLC.same _ _ e
        · refine i_iteSf (word_ne (e := .tell) hT) ?_
          walk_at "rd"
          refine ⟨_, _, _, _, ?_, hpB, hgB, rfl⟩
          unfold stepM
          rw [if_neg hT]
          exact hLB
      · rintro σ H8 ⟨pend8, za, zb, zc, hL8, hp8, hg8, rfl⟩
        rw [lsv] at hp8
        rw [lsv, List.take_length] at hL8
        have l3 := each.1
        walk_at "rd"
        try dsimp only
        walk_at "rd"
        have hp8' : pend8.length ≤ 9 * i + 3 * (k + 1) := by omega
        refine ⟨dp7, pend8, some (.ref sp), za, zb, zc, ?_, hp8', ?_⟩
        · exact ⟨hL8.due, hL8.bx, hL8.told, hL8.du, fun x hx => hg8 x hx, hL8.same, hL8.f1, hL8.f2, hL8.f3, hL8.n1, hL8.n2, hL8.n3⟩
        · rfl
    · rintro σ H5 ⟨dp5, pend5, y9, ya, yb, yc, hL5, hp5, rfl⟩
      rw [ltv] at hp5
      rw [ltv, List.take_length] at hL5
      have hp5' : pend5.length ≤ 9 * (i + 1) := by omega
      refine ⟨dp5, pend5, some (.ref pp), some (.int (ba : Int)), y9, ya, yb, yc, hL5, hp5', ?_⟩
      rw [ltv, List.take_length]
  · rintro σ H4 ⟨dp4, pend4, x7, x8, x9, xa, xb, xc, hL4, hp4, rfl⟩
    rw [lpu, List.take_length] at hL4
    rw [lpu, List.take_length]
    have hw4 : WfM nb (9 * ps.length) (partsM m F (M0 bs) ps) := (w0.parts (F := F) m0 m60 fun x hx => (hpo x hx).1).mono (by omega)
    generalize partsM m F (M0 bs) ps = M4 at *
    walk_at "rd"
    try dsimp only
    refine i_for (i_rng1 ?_)
    walk_at "rd"
    refine ⟨_, rfl, by decide, by decide, ?_⟩
    rw [show (7 : Int).toNat = 7 from rfl]
    obtain ⟨us4, a1, a2⟩ := hL4.due
    refine for_range (lo := 0) (n := 7) (fun k σ H' => LawAt H H' dp4 bp tp { M4 with bs := (List.range k).foldl (fun bs k => (M4.du (M4.c + k)).foldl putB bs) M4.bs } pend4 ∧ ∃ xc, σ = [some (.int m), some (.ref pa), some (.ref fd), some (.ref bp), some (.int (M4.c : Int)), some (.ref dp4), some (.ref tp), x7, x8, x9, xa, xb, xc])
      ⟨hL4, _, rfl⟩ ?_ ?_
    · rintro k σ H5 hk ⟨hL5, yc, rfl⟩
      have e0 : (0 : Int) + (k : Int) = (k : Int) := Int.zero_add _
      rw [e0]
      obtain ⟨us5, c1, c2⟩ := hL5.due
      walk_at "rd"
      rw [← Int.natCast_add]
      refine ⟨dp4, bp, M4.c + k, us5, pend4, _, rfl, c1, c2, hL5.bx, hL5.n1, fun x hx => ?_, fun H6 sb6 hb6 => ?_⟩
      · have := mem_dueOf hx
        rw [← hL4.du] at this
        have hl : ∀ k, ((List.range k).foldl (fun bs k => (M4.du (M4.c + k)).foldl putB bs) M4.bs).length = nb := fun k => by
          induction k with
          | zero => exact hw4.len
          | succ k ih => rw [List.range_succ, List.foldl_append]; show ((M4.du (M4.c + k)).foldl putB _).length = nb; rw [puts_len]; exact ih
        rw [hl k]
        exact (hw4.du _ _ this).1
      rw [← hL4.du] at hb6
      have hL6 := hL5.boxes sb6 hb6
      refine ⟨?_, _, rfl⟩
      rw [List.range_succ, List.foldl_append]
      exact hL6
    · rintro σ H5 ⟨hL5, yc, rfl⟩
      obtain ⟨ws, b1, b2⟩ := hL5.told
      walk_at "rd"
      try dsimp only
      walk_at "rd"
      refine ⟨by show 2 ≤ sizeLine; omega, fun p H6 hN6 => ?_⟩
      exact q p tp bp ws H6 (hL5.same.trans hN6.same) hN6.at (hN6.same _ _ b1) (b2.keep (TK.of hN6.same)) (hN6.same _ _ hL5.bx)
structure PsX (H0 H : Hp) (us : List V) (ps : List (Part × Nat)) : Prop where
  len : us.length = ps.length
  at_ : ∀ (i : Nat) u x, us[i]? = some u → ps[i]? = some x → ∃ ta pv, u = .ref ta ∧ H ta = some (.tup [pv, .int (x.2 : Int)]) ∧ Rp H0 pv (partD x.1)
theorem PsX.keep {H0 H H' : Hp} {us : List V} {ps : List (Part × Nat)} (k : TK H H') (h : PsX H0 H us ps) : PsX H0 H' us ps := ⟨h.len, fun i u x e1 e2 => by
  obtain ⟨ta, pv, e, q, r⟩ := h.at_ i u x e1 e2
  exact ⟨ta, pv, e, k _ _ q, r⟩⟩
theorem PsX.snoc {H0 H : Hp} {us : List V} {ps : List (Part × Nat)} {ta : Addr} {pv : V} {x : Part × Nat} (h : PsX H0 H us ps) (ht : H ta = some (.tup [pv, .int (x.2 : Int)])) (hr : Rp H0 pv (partD x.1)) : PsX H0 H (us ++ [.ref ta]) (ps ++ [x]) := by
  have hl := h.len
  refine ⟨by rw [List.length_append, List.length_append, h.len]; rfl, fun i u x' e1 e2 => ?_⟩
  by_cases hi : i < us.length
  · rw [List.getElem?_append_left hi] at e1
    rw [List.getElem?_append_left (by omega)] at e2
    exact h.at_ i u x' e1 e2
  · rw [List.getElem?_append_right (by omega)] at e1
    rw [List.getElem?_append_right (by omega)] at e2
    have h0 : i - us.length = 0 := by
      by_cases h0 : i - us.length = 0
      · exact h0
      · rw [List.getElem?_eq_none (by simp; omega)] at e1; cases e1
    rw [h0] at e1; rw [show i - ps.length = 0 by omega] at e2
    cases e1; cases e2; exact ⟨ta, pv, rfl, ht, hr⟩
theorem PsX.nil {H0 H : Hp} : PsX H0 H [] [] := ⟨rfl, fun i u l e => by simp at e⟩
theorem PsX.at {H0 H : Hp} {us : List V} {ps : List (Part × Nat)} {pa : Addr} (h : PsX H0 H us ps) (s : Same H0 H) (hp : H pa = some (.lst us)) : PsAt H pa ps := ⟨us, hp, h.len, fun i u x e1 e2 => by
  obtain ⟨ta, pv, e, q, r⟩ := h.at_ i u x e1 e2
  exact ⟨ta, pv, e, q, r.same s⟩⟩
def spParts : Sp := fun vs H Q _ => ∃ (S : Sh) (v1 v2 v3 v4 : V) (nb n : Nat), vs = [.int (S.held : Int), .int (S.stages : Int), v1, v2, v3, v4, .int (n : Int)] ∧ ShV H S v1 v2 v3 v4 ∧ ShOk nb S ∧ n ≤ 300 ∧ ∀ pa H2, Same H H2 → PsAt H2 pa (partsOf S n) → Q (.ref pa) H2
theorem d_parts (T : Txt K mg C CE) (Kb : K.In base) (G : base.Ns mainGlobals mg) : Df P w K mg base 1 "_law_parts" ["_law_held", "_law_stages", "_law_shorts", "_law_ahead", "_law_middle", "_law_tails", "_law_turns"] spParts := by
  refine T.f_parts.df Kb G sc_law_parts (fun _ _ _ _ _ _ us hl => match us, hl with | [_, _, _, _, _, _, _], _ => rfl) (by rintro vs H Q E ⟨S, v1, v2, v3, v4, nb, n, rfl, _⟩; rfl) (fun f cdv A outer s H vs Q E hr h => ?_)
  obtain ⟨S, v1, v2, v3, v4, nb, n, rfl, hV, hok, hn, q⟩ := h
  have lb := line_big
  have h1 := hok.h1; have h3 := hok.h3; have s1 := hok.s1; have s3 := hok.s3
  refine ⟨_, (pss_cons (ps_set (i := 7) sc_law_parts.nd rfl (by first | exact Or.inl rfl | exact Or.inr rfl) (pe_op op_add (pe_op op_sub (pv 6) (pv 1)) pe_int))
    (pss_cons (ps_if (pt_cmpR op_lt (pv 7) pe_int (nomark _)) (pss_one (ps_ret (pe_lstA (pa_cons (pe_tupA (pa_cons (pe_ix ix_seq (pv 2) (pv 6) (fun _ _ => rfl)) (pa_cons pe_int pa_nil (se rfl)) (se rfl))) pa_nil (se rfl))))) pss_nil)
    (pss_cons (ps_set (i := 8) sc_law_parts.nd rfl (by first | exact Or.inl rfl | exact Or.inr rfl) (pe_lstA (pa_cons (pe_tupA (pa_cons (pv 3) (pa_cons pe_int pa_nil (se rfl)) (se rfl))) pa_nil (se rfl))))
    (pss_cons (ps_for PassesOwn.never rfl (pi_range1 rfl T.nrange (pa_cons (pe_op op_fdiv (pv 7) (pv 0)) pa_nil (se rfl))) (pg_name (i := 9) sc_law_parts.nd rfl (by first | exact Or.inl rfl | exact Or.inr rfl))
      (pss_one (ps_expr (pe_bm PySem.F.plainAttrs_list PySem.F.slot_list_append PySem.F.type_list_append mt_append (pv 8) (pa_cons (pe_tupA (pa_cons (pv 4) (pa_cons (pe_op op_mulO (pv 0) (pv 9)) pa_nil (se rfl)) (se rfl))) pa_nil (se rfl)) (hs := se rfl) (hplain := nst rfl)))))
    (pss_one (ps_ret (pe_op op_catA (pv 8) (pe_lstA (pa_cons (pe_tupA (pa_cons (pe_ix ix_seq (pv 5) (pe_op op_mod (pv 7) (pv 0)) (fun _ _ => rfl)) (pa_cons (pe_op op_mulO (pv 0) (pe_op op_fdiv (pv 7) (pv 0))) pa_nil (se rfl)) (se rfl))) pa_nil (se rfl)))))))))), ?_⟩
  walk_at "rd"
  try dsimp only
  walk_at "rd"
  refine i_iteD (fun hlt => ?_) (fun hge => ?_)
  · have hlt' : n + 1 < S.stages := by omega
    have epo : partsOf S n = [(S.shorts.getD n [], 0)] := if_pos hlt'
    have hnl : n < S.shorts.length := by rw [hok.ls]; omega
    obtain ⟨p1, us1, rfl, hp1, r1⟩ := list_at hV.sh
    obtain ⟨pv, g1, g2⟩ := at_rp r1 hnl
    walk_at "rd"
    refine i_ixL (sqL_inj_of hp1) g1 ?_
    walk_at "rd"
    refine ⟨by show 2 ≤ sizeLine; omega, fun ta H1 hN1 => ?_⟩
    walk_at "rd"
    refine ⟨by show 1 ≤ sizeLine; omega, fun pa H2 hN2 => ?_⟩
    have s2 := hN1.same.trans hN2.same
    refine q pa H2 s2 ?_
    rw [epo]
    have hx : PsX H H2 ([] ++ [.ref ta]) ([] ++ [(S.shorts.getD n [], 0)]) := PsX.nil.snoc (hN2.same _ _ hN1.at) g2
    exact hx.at s2 hN2.at
  · have hge' : ¬ n + 1 < S.stages := by omega
    have epo : partsOf S n = [(S.ahead, 0)] ++ ((List.range ((n + 1 - S.stages) / S.held)).map fun x => (S.middle, S.held * x)) ++ [(S.tails.getD ((n + 1 - S.stages) % S.held) [], S.held * ((n + 1 - S.stages) / S.held))] := if_neg hge'
    have eo : (n : Int) - (S.stages : Int) + 1 = ((n + 1 - S.stages : Nat) : Int) := by omega
    rw [eo]
    have hov : n + 1 - S.stages ≤ n := by omega
    generalize n + 1 - S.stages = ov at *
    have hmul : S.held * (ov / S.held) ≤ ov := Nat.mul_div_le ov S.held
    have hdiv : ov / S.held ≤ ov := Nat.div_le_self _ _
    walk_at "rd"
    refine ⟨by show 2 ≤ sizeLine; omega, fun ta H1 hN1 => ?_⟩
    walk_at "rd"
    refine ⟨by show 1 ≤ sizeLine; omega, fun D H2 hN2 => ?_⟩
    have s2 := hN1.same.trans hN2.same
    have hx2 : PsX H H2 ([] ++ [.ref ta]) ([] ++ [(S.ahead, 0)]) := PsX.nil.snoc (hN2.same _ _ hN1.at) hV.ah
    have hx2' : PsX H H2 [.ref ta] ([(S.ahead, 0)] ++ ((List.range 0).map fun x => (S.middle, S.held * x))) := by
      rw [show List.range 0 = [] from rfl]; exact hx2
    have hD0 : H D = none := hN1.same.free hN2.free
    walk_at "rd"
    try dsimp only
    refine i_for (i_rng1 ?_)
    walk_at "rd"
    refine i_div (by omega) ?_
    have hdr : (ov : Int) / (S.held : Int) = ((ov / S.held : Nat) : Int) := (Int.natCast_ediv _ _).symm
    rw [hdr]
    have hml0 : ov % S.held < S.held := Nat.mod_lt _ (by omega)
    have hmr : (ov : Int) % (S.held : Int) = ((ov % S.held : Nat) : Int) := (Int.natCast_emod _ _).symm
    generalize ov % S.held = rd at *
    generalize ov / S.held = qd at *
    walk_at "rd"
    refine ⟨_, rfl, by omega, by omega, ?_⟩
    rw [Int.toNat_natCast]
    refine for_range (lo := 0) (n := qd) (fun i σ H' => Same H H' ∧ (∃ us, H' D = some (.lst us) ∧ PsX H H' us ([(S.ahead, 0)] ++ ((List.range i).map fun x => (S.middle, S.held * x)))) ∧ ∃ x9, σ = [some (.int (S.held : Int)), some (.int (S.stages : Int)), some v1, some v2, some v3, some v4, some (.int (n : Int)), some (.int (ov : Int)), some (.ref D), x9])
      ⟨s2, ⟨_, hN2.at, hx2'⟩, none, rfl⟩ ?_ ?_
    · rintro i σ H3 hi ⟨s3', ⟨us, hD3, hx3⟩, x9, rfl⟩
      have e0 : (0 : Int) + (i : Int) = (i : Int) := Int.zero_add _
      rw [e0]
      have hul := hx3.len
      rw [List.length_append, List.length_map, List.length_range] at hul
      have hul' : us.length = 1 + i := hul
      walk_at "rd"
      refine ⟨.inl ⟨rfl, _, sqL_inj_of hD3⟩, ?_⟩
      walk_at "rd"
      refine i_mul (ok_of 64 64 (by omega) (by omega) (by omega) (by omega) (by decide)) ?_
      rw [← Int.natCast_mul]
      walk_at "rd"
      refine ⟨by show 2 ≤ sizeLine; omega, fun tb H4 hN4 => ?_⟩
      walk_at "rd"
      refine i_append (hN4.same _ _ hD3) (by omega) ?_
      have tk : TK H4 (upd H4 D (.lst (us ++ [.ref tb]))) := TK.upd (hN4.same _ _ hD3) (by intro xs z; cases z)
      refine ⟨fun b o e => by rw [upd_ne (ne_of_none e hD0)]; exact hN4.same _ _ (s3' _ _ e), ⟨_, upd_same, ?_⟩, _, rfl⟩
      rw [List.range_succ, List.map_append, ← List.append_assoc, show List.map (fun x => (S.middle, S.held * x)) [i] = [(S.middle, S.held * i)] from rfl]
      exact ((hx3.keep (TK.of hN4.same)).snoc hN4.at hV.mi).keep tk
    · rintro σ H3 ⟨s3', ⟨us, hD3, hx3⟩, x9, rfl⟩
      have hul := hx3.len
      rw [List.length_append, List.length_map, List.length_range] at hul
      have hul' : us.length = 1 + qd := hul
      have hml : rd < S.tails.length := by rw [hok.lt]; exact hml0
      obtain ⟨p4, us4, rfl, hp4, r4⟩ := list_at hV.ta
      obtain ⟨pv, g1, g2⟩ := at_rp r4 hml
      walk_at "rd"
      try dsimp only
      walk_at "rd"
      rw [hmr]
      refine i_ixL (sqL_inj_of (s3' _ _ hp4)) g1 ?_
      walk_at "rd"
      refine i_div (by omega) ?_
      rw [hdr]
      refine i_mul (ok_of 64 64 (by omega) (by omega) (by omega) (by omega) (by decide)) ?_
      rw [← Int.natCast_mul]
      walk_at "rd"
      refine ⟨by show 2 ≤ sizeLine; omega, fun tb H4 hN4 => ?_⟩
      walk_at "rd"
      refine ⟨by show 1 ≤ sizeLine; omega, fun E1 H5 hN5 => ?_⟩
      refine i_catA (hN5.same _ _ (hN4.same _ _ hD3)) hN5.at (by show us.length + 1 ≤ sizeLine; omega) fun pa H6 hN6 => ?_
      have s6 := (hN4.same.trans hN5.same).trans hN6.same
      refine q pa H6 (s3'.trans s6) ?_
      rw [epo]
      have hx6 := (hx3.keep (TK.of s6)).snoc (x := (S.tails.getD rd [], S.held * qd)) ((hN5.same.trans hN6.same) _ _ hN4.at) g2
      exact hx6.at (s3'.trans s6) hN6.at
def out (H H2 : Hp) : Hp := fun b => match H b with
  | some _ => none
  | none => H2 b
def hid (l : List Addr) (H : Hp) : Hp := fun b => if b ∈ l then none else H b
theorem out_eq {H H2 : Hp} {b : Addr} (h : H b = none) : out H H2 b = H2 b := by unfold out; rw [h]
theorem out_none {H H2 : Hp} {b : Addr} {o u : HO} (h : H b = some o) : out H H2 b = some u → False := fun e => by unfold out at e; rw [h] at e; cases e
theorem hid_eq {l : List Addr} {H : Hp} {b : Addr} (h : ¬ b ∈ l) : hid l H b = H b := if_neg h
theorem out_of {H H2 : Hp} {b : Addr} {o : HO} (e : out H H2 b = some o) : H b = none ∧ H2 b = some o := by
  cases h : H b with
  | none => rw [out_eq h] at e; exact ⟨rfl, e⟩
  | some u => exact (out_none h e).elim
theorem hid_of {l : List Addr} {H : Hp} {b : Addr} {o : HO} (e : hid l H b = some o) : ¬ b ∈ l ∧ H b = some o := by
  unfold hid at e
  by_cases h : b ∈ l
  · rw [if_pos h] at e; cases e
  · rw [if_neg h] at e; exact ⟨h, e⟩
theorem out_same {H H2 : Hp} : Same (out H H2) H2 := fun b o e => (out_of e).2
theorem hid_up {l : List Addr} {H H1 H2 : Hp} (s : Same H H1) (h : ∀ b ∈ l, ∃ o, H1 b = some o) : Same (out H1 H2) (hid l (out H H2)) := fun b o e => by
  obtain ⟨e1, e2⟩ := out_of e
  rw [hid_eq (fun m => by obtain ⟨u, hu⟩ := h b m; rw [e1] at hu; cases hu), out_eq (s.free e1)]; exact e2
theorem hid_to {l : List Addr} {H H1 H2 : Hp} (s : Same H1 H2) : Same (hid l (out H H1)) (hid l (out H H2)) := fun b o e => by
  obtain ⟨m, e1⟩ := hid_of e
  obtain ⟨e2, e3⟩ := out_of e1
  rw [hid_eq m, out_eq e2]; exact s _ _ e3
theorem hid_upd {l : List Addr} {H H1 : Hp} {D : Addr} {o : HO} (h : D ∈ l) : Same (hid l (out H H1)) (hid l (out H (upd H1 D o))) := fun b u e => by
  obtain ⟨m, e1⟩ := hid_of e
  obtain ⟨e2, e3⟩ := out_of e1
  rw [hid_eq m, out_eq e2, upd_ne (fun z => by rw [z] at m; exact m h)]; exact e3
theorem hid_new {l : List Addr} {H H1 H2 : Hp} {E : Addr} (h : H1 E = none) (s : Same H1 H2) : Same (hid l (out H H1)) (hid (E :: l) (out H H2)) := fun b o e => by
  obtain ⟨m, e1⟩ := hid_of e
  obtain ⟨e2, e3⟩ := out_of e1
  rw [hid_eq (fun z => by
    rcases List.mem_cons.mp z with w | w
    · rw [w, h] at e3; cases e3
    · exact m w), out_eq e2]; exact s _ _ e3
theorem hid_less {x : Addr} {l : List Addr} {H : Hp} : Same (hid (x :: l) H) (hid l H) := fun b o e => by
  obtain ⟨m, e1⟩ := hid_of e
  rw [hid_eq (fun z => m (List.mem_cons_of_mem _ z))]; exact e1
theorem hid_nil {H H2 : Hp} : Same (hid [] (out H H2)) (out H H2) := fun b o e => (hid_of e).2
theorem hid_at {l : List Addr} {H H2 : Hp} {b : Addr} {o : HO} (h : ¬ b ∈ l) (h0 : H b = none) (e : H2 b = some o) : hid l (out H H2) b = some o := by rw [hid_eq h, out_eq h0]; exact e
def spStep (K : PySem.W.Frag) : Sp := fun vs H Q _ => ∃ (a : Addr) (ns : List Int) (number nb : Nat), vs = [.ref a, .int (number : Int), .int (nb : Int)] ∧ SqL K H a (ns.map V.int) ∧ 1 ≤ nb ∧ nb ≤ 6 ∧ ∀ s v H2, Same H H2 → Rp (out H H2) v (sxD s) → SxOk nb s → Q v H2
theorem d_step (T : Txt K mg C CE) (Kb : K.In base) (G : base.Ns mainGlobals mg) : Df P w K mg base 2 "_law_step" ["_law_script", "_law_number", "_law_boxes"] (spStep K) := by
  have D_law_cell_at : Df P w K mg base 1 "_law_cell_at" ["_law_script", "_law_k"] (spCell K) := d_cell T Kb G
  have D_law_wants : Df P w K mg base 1 "_law_wants" ["_law_word"] spLWants := d_lwants T Kb G
  refine T.f_step.df Kb G sc_law_step (fun _ _ _ _ _ _ us hl => match us, hl with | [_, _, _], _ => rfl) (by rintro vs H Q E ⟨a, ns, number, nb, rfl, _⟩; rfl) (fun f cdv A outer s H vs Q E hr h => ?_)
  obtain ⟨a, ns, number, nb, rfl, hS, n1, n6, q⟩ := h
  have lb := line_big
  refine ⟨_, (pss_cons (ps_set (i := 3) sc_law_step.nd rfl (by first | exact Or.inl rfl | exact Or.inr rfl) (pe_ix ix_seq (pe_lstA (pa_cons pe_str (pa_cons pe_str (pa_cons pe_str (pa_cons pe_str (pa_cons pe_str (pa_cons pe_str (pa_cons pe_str (pa_cons pe_str (pa_cons pe_str pa_nil (se rfl)) (se rfl)) (se rfl)) (se rfl)) (se rfl)) (se rfl)) (se rfl)) (se rfl)) (se rfl))) (pe_op op_mod (pv 1) pe_int) (fun _ _ => rfl)))
    (pss_cons (ps_set (i := 4) sc_law_step.nd rfl (by first | exact Or.inl rfl | exact Or.inr rfl) (pe_lstB pa_nil))
    (pss_cons (ps_for PassesOwn.never rfl (pi_range1 rfl T.nrange (pa_cons (pe_callD D_law_wants (hr.mono (by decide)) rfl (pa_cons (pv 3) pa_nil (se rfl)) (he := se rfl) (hpl := nst rfl)) pa_nil (se rfl))) (pg_name (i := 5) sc_law_step.nd rfl (by first | exact Or.inl rfl | exact Or.inr rfl))
      (pss_cons (ps_set (i := 6) sc_law_step.nd rfl (by first | exact Or.inl rfl | exact Or.inr rfl) (pe_op op_fdivB (pv 1) (pe_ix ix_seq (pe_lstA (pa_cons (pe_op op_pow pe_int pe_int) (pa_cons (pe_op op_pow pe_int pe_int) (pa_cons (pe_op op_pow pe_int pe_int) pa_nil (se rfl)) (se rfl)) (se rfl))) (pv 5) (fun _ _ => rfl))))
    (pss_one (ps_if (pt_cmpR op_eq (pe_op op_mod (pv 6) pe_int) pe_int (nomark _)) (pss_one (ps_expr (pe_bm PySem.F.plainAttrs_list PySem.F.slot_list_append PySem.F.type_list_append mt_append (pv 4) (pa_cons (pe_op op_mod (pe_callD D_law_cell_at (hr.mono (by decide)) rfl (pa_cons (pv 0) (pa_cons (pe_op op_mod (pe_op op_fdiv (pv 6) pe_int) pe_int) pa_nil (se rfl)) (se rfl)) (he := se rfl) (hpl := nst rfl)) (pe_op op_pow pe_int pe_int)) pa_nil (se rfl)) (hs := se rfl) (hplain := nst rfl)))) (pss_one (ps_expr (pe_bm PySem.F.plainAttrs_list PySem.F.slot_list_append PySem.F.type_list_append mt_append (pv 4) (pa_cons (pe_tupA (pa_cons pe_str (pa_cons (pe_op op_mod (pe_op op_fdiv (pv 6) pe_int) (pv 2)) pa_nil (se rfl)) (se rfl))) pa_nil (se rfl)) (hs := se rfl) (hplain := nst rfl))))))))
    (pss_cons (ps_set (i := 7) sc_law_step.nd rfl (by first | exact Or.inl rfl | exact Or.inr rfl) (pe_ix ix_seq (pe_lstA (pa_cons pe_str (pa_cons pe_str pa_nil (se rfl)) (se rfl))) (pe_op op_mod (pe_op op_fdiv (pv 1) pe_int) pe_int) (fun _ _ => rfl)))
    (pss_one (ps_ret (pe_tupA (pa_cons (pv 3) (pa_cons (pe_op op_add pe_int (pe_op op_mod (pe_op op_fdiv (pv 1) pe_int) pe_int)) (pa_cons (pe_op op_mod (pe_op op_fdiv (pv 1) pe_int) (pv 2)) (pa_cons (pv 4) (pa_cons (pv 7) (pa_cons (pe_op op_mod (pe_op op_fdiv (pv 1) pe_int) pe_int) pa_nil (se rfl)) (se rfl)) (se rfl)) (se rfl)) (se rfl)) (se rfl))))))))), ?_⟩
  walk_at "rd"
  refine ⟨by show 9 ≤ sizeLine; omega, fun wp H1 hN1 => ?_⟩
  walk_at "rd"
  have b9 := mod_b (number : Int) (show (0 : Int) < 9 by decide)
  obtain ⟨d, hd⟩ := at_dk b9.1 b9.2
  refine i_ixL hN1.lst hd ?_
  walk_at "rd"
  try dsimp only
  walk_at "rd"
  refine ⟨by show 0 ≤ sizeLine; omega, fun D H2 hDs hN2 => ?_⟩
  have s2 := hN1.same.trans hN2.same
  have hD0 : H D = none := hN1.same.free hN2.free
  have w3 := wants3 d
  walk_at "rd"
  try dsimp only
  refine i_for (i_rng1 ?_)
  walk_at "rd"
  refine ⟨d, rfl, fun H3 s3 => ?_⟩
  walk_at "rd"
  refine ⟨_, rfl, by omega, by omega, ?_⟩
  rw [Int.toNat_natCast]
  have s23 := s2.trans s3
  refine for_range (lo := 0) (n := d.wants) (fun i σ H' => Same H H' ∧ (∃ us rs, H' D = some (.lst us) ∧ RpA (hid [D] (out H H')) us (rs.map rxD) ∧ rs.length = i ∧ ∀ r ∈ rs, RxOk nb r) ∧ ∃ x5 x6 x7, σ = [some (.ref a), some (.int (number : Int)), some (.int (nb : Int)), some (.str d.word), some (.ref D), x5, x6, x7])
    ⟨s23, ⟨[], [], s3 _ _ hN2.at, .nil, rfl, fun r h => by simp at h⟩, none, none, none, rfl⟩ ?_ ?_
  · rintro i σ H4 hi ⟨s4, ⟨us, rs, hD4, hra, hrl, hrok⟩, x5, x6, x7, rfl⟩
    have e0 : (0 : Int) + (i : Int) = (i : Int) := Int.zero_add _
    rw [e0]
    have hul := rpa_len hra
    rw [List.length_map] at hul
    walk_at "rd"
    refine ⟨by show 3 ≤ sizeLine; omega, fun pw H5 hN5 => ?_⟩
    walk_at "rd"
    have h3 : ∃ c : Int, atI [V.int (10 ^ (4 : Int).toNat), V.int (10 ^ (8 : Int).toNat), V.int (10 ^ (12 : Int).toNat)] (i : Int) = some (.int c) ∧ 0 < c ∧ c.natAbs.log2 < 9000 := by
      have : i = 0 ∨ i = 1 ∨ i = 2 := by omega
      rcases this with e | e | e <;> subst e
      · exact ⟨_, rfl, by decide +kernel, by decide +kernel⟩
      · exact ⟨_, rfl, by decide +kernel, by decide +kernel⟩
      · exact ⟨_, rfl, by decide +kernel, by decide +kernel⟩
    obtain ⟨c, hc, hc0, hcl⟩ := h3
    refine i_ixL hN5.lst hc ?_
    refine i_divB ⟨hc0, hcl⟩ ?_
    obtain ⟨dg, hdg⟩ := Int.eq_ofNat_of_zero_le (Int.ediv_nonneg (Int.natCast_nonneg number) (Int.le_of_lt hc0))
    rw [hdg]
    have hD5 := hN5.same _ _ hD4
    have s5 := s4.trans hN5.same
    have hra5 := hra.same (hid_to (l := [D]) (H := H) hN5.same)
    walk_at "rd"
    try dsimp only
    walk_at "rd"
    refine i_iteI (fun e => ?_) (fun e => ?_)
    · walk_at "rd"
      refine ⟨.inl ⟨rfl, _, sqL_inj_of hD5⟩, ?_⟩
      walk_at "rd"
      have ec : (dg : Int) / 4 % 63 = ((dg / 4 % 63 : Nat) : Int) := by omega
      rw [ec]
      refine ⟨a, ns, dg / 4 % 63, rfl, s5.seq hS, fun cv => ?_⟩
      walk_at "rd"
      refine i_append hD5 (by omega) ?_
      have bc := mod_b cv (show (0 : Int) < 10 ^ (60 : Int).toNat by decide +kernel)
      refine ⟨fun b o e => by rw [upd_ne (ne_of_none e hD0)]; exact s5 _ _ e, ⟨_, rs ++ [.num (cv % 10 ^ (60 : Int).toNat)], upd_same, ?_, by rw [List.length_append, hrl]; rfl, fun r hr => ?_⟩, _, _, _, rfl⟩
      · rw [List.map_append]
        exact rpa_snoc (hra5.same (hid_upd (List.mem_singleton.mpr rfl))) (.int _)
      · rcases List.mem_append.mp hr with h | h
        · exact hrok r h
        · rw [show r = _ from List.mem_singleton.mp h]; exact ⟨bc.1, bc.2⟩
    · walk_at "rd"
      refine ⟨.inl ⟨rfl, _, sqL_inj_of hD5⟩, ?_⟩
      walk_at "rd"
      have nb0 : (0 : Int) < (nb : Int) := by omega
      first | (refine i_mod nb0 ?_) | skip
      have eb : (dg : Int) / 4 % (nb : Int) = ((dg / 4 % nb : Nat) : Int) := by rw [Int.natCast_emod, Int.natCast_ediv]; rfl
      rw [eb]
      walk_at "rd"
      refine ⟨by show 2 ≤ sizeLine; omega, fun tb H6 hN6 => ?_⟩
      have hD6 := hN6.same _ _ hD5
      have tD : tb ≠ D := fun z => by have := hN6.free; rw [z, hD5] at this; cases this
      walk_at "rd"
      refine i_append hD6 (by omega) ?_
      refine ⟨fun b o e => by rw [upd_ne (ne_of_none e hD0)]; exact hN6.same _ _ (s5 _ _ e), ⟨_, rs ++ [.box (dg / 4 % nb)], upd_same, ?_, by rw [List.length_append, hrl]; rfl, fun r hr => ?_⟩, _, _, _, rfl⟩
      · rw [List.map_append]
        refine RpA.same (hid_upd (List.mem_singleton.mpr rfl)) (rpa_snoc (hra5.same (hid_to hN6.same)) ?_)
        exact .tup (hid_at (by simpa using tD) (s5.free hN6.free) hN6.at) (.cons (.str _) (.cons (.int _) .nil))
      · rcases List.mem_append.mp hr with h | h
        · exact hrok r h
        · rw [show r = _ from List.mem_singleton.mp h]; exact Nat.mod_lt _ (by omega)
  · rintro σ H4 ⟨s4, ⟨us, rs, hD4, hra, hrl, hrok⟩, x5, x6, x7, rfl⟩
    walk_at "rd"
    try dsimp only
    walk_at "rd"
    refine ⟨by show 2 ≤ sizeLine; omega, fun np H5 hN5 => ?_⟩
    walk_at "rd"
    have hnm : ∃ z : Str, atI [V.str (Str.ofString "in"), V.str (Str.ofString "on")] ((number : Int) / 400 % 2) = some (.str z) ∧ (z = Str.ofString "in" ∨ z = Str.ofString "on") := by
      have : (number : Int) / 400 % 2 = 0 ∨ (number : Int) / 400 % 2 = 1 := by omega
      rcases this with e | e <;> rw [e]
      · exact ⟨_, rfl, .inl rfl⟩
      · exact ⟨_, rfl, .inr rfl⟩
    obtain ⟨z, hz, hzz⟩ := hnm
    refine i_ixL hN5.lst hz ?_
    walk_at "rd"
    try dsimp only
    walk_at "rd"
    have nb0 : (0 : Int) < (nb : Int) := by omega
    first | (refine i_mod nb0 ?_) | skip
    walk_at "rd"
    refine ⟨by show 6 ≤ sizeLine; omega, fun tp H6 hN6 => ?_⟩
    have s6 := s4.trans (hN5.same.trans hN6.same)
    have e1 : (1 : Int) + (number : Int) / 9 % 6 = ((1 + number / 9 % 6 : Nat) : Int) := by omega
    have e2 : (number : Int) / 54 % (nb : Int) = ((number / 54 % nb : Nat) : Int) := by rw [Int.natCast_emod, Int.natCast_ediv]; rfl
    have e3 : (number : Int) / 800 % 5 = ((number / 800 % 5 : Nat) : Int) := by omega
    have hat := hN6.at
    rw [e1, e2, e3] at hat
    refine q ⟨d, 1 + number / 9 % 6, number / 54 % nb, rs, z, number / 800 % 5⟩ _ H6 s6 ?_ ⟨hrl, hrok, by show 1 ≤ 1 + number / 9 % 6; omega, by show 1 + number / 9 % 6 ≤ 6; omega, Nat.mod_lt _ (by omega), hzz, by show number / 800 % 5 ≤ 4; omega⟩
    have hra6 : RpA (out H H6) us (rs.map rxD) := (hra.same (hid_to (hN5.same.trans hN6.same))).same (hid_less.trans hid_nil)
    refine .tup (by rw [out_eq ((s4.trans hN5.same).free hN6.free)]; exact hat) (.cons (.str _) (.cons (.int _) (.cons (.int _) (.cons ?_ (.cons (.str _) (.cons (.int _) .nil))))))
    exact .lst hDs (by rw [out_eq hD0]; exact (hN5.same.trans hN6.same) _ _ hD4) hra6
def spPart (K : PySem.W.Frag) : Sp := fun vs H Q _ => ∃ (a : Addr) (ns : List Int) (at_ nb : Nat), vs = [.ref a, .int (at_ : Int), .int (nb : Int)] ∧ SqL K H a (ns.map V.int) ∧ at_ ≤ 9 ∧ 1 ≤ nb ∧ nb ≤ 6 ∧ ∀ p v H2, Same H H2 → Rp (out H H2) v (partD p) → PartOk nb p → Q v H2
theorem d_part (T : Txt K mg C CE) (Kb : K.In base) (G : base.Ns mainGlobals mg) : Df P w K mg base 3 "_law_part" ["_law_script", "_law_at", "_law_boxes"] (spPart K) := by
  have D_law_cell_at : Df P w K mg base 1 "_law_cell_at" ["_law_script", "_law_k"] (spCell K) := d_cell T Kb G
  have D_law_mix : Df P w K mg base 1 "_law_mix" ["_law_cell", "_law_k"] spMix := d_mix T Kb G
  have D_law_step : Df P w K mg base 2 "_law_step" ["_law_script", "_law_number", "_law_boxes"] (spStep K) := d_step T Kb G
  refine T.f_part.df Kb G sc_law_part (fun _ _ _ _ _ _ us hl => match us, hl with | [_, _, _], _ => rfl) (by rintro vs H Q E ⟨a, ns, at_, nb, rfl, _⟩; rfl) (fun f cdv A outer s H vs Q E hr h => ?_)
  obtain ⟨a, ns, at_, nb, rfl, hS, h9, n1, n6, q⟩ := h
  have lb := line_big
  refine ⟨_, (pss_cons (ps_set (i := 3) sc_law_part.nd rfl (by first | exact Or.inl rfl | exact Or.inr rfl) (pe_lstB pa_nil))
    (pss_cons (ps_for PassesOwn.never rfl (pi_range1 rfl T.nrange (pa_cons (pe_op op_mod (pe_callD D_law_mix (hr.mono (by decide)) rfl (pa_cons (pe_callD D_law_cell_at (hr.mono (by decide)) rfl (pa_cons (pv 0) (pa_cons (pv 1) pa_nil (se rfl)) (se rfl)) (he := se rfl) (hpl := nst rfl)) (pa_cons (pe_op op_add pe_int (pv 1)) pa_nil (se rfl)) (se rfl)) (he := se rfl) (hpl := nst rfl)) pe_int) pa_nil (se rfl))) (pg_name (i := 4) sc_law_part.nd rfl (by first | exact Or.inl rfl | exact Or.inr rfl))
      (pss_cons (ps_set (i := 5) sc_law_part.nd rfl (by first | exact Or.inl rfl | exact Or.inr rfl) (pe_callD D_law_mix (hr.mono (by decide)) rfl (pa_cons (pe_callD D_law_cell_at (hr.mono (by decide)) rfl (pa_cons (pv 0) (pa_cons (pv 1) pa_nil (se rfl)) (se rfl)) (he := se rfl) (hpl := nst rfl)) (pa_cons (pe_op op_add (pe_op op_add pe_int (pe_op op_mulO pe_int (pv 1))) (pv 4)) pa_nil (se rfl)) (se rfl)) (he := se rfl) (hpl := nst rfl)))
    (pss_cons (ps_set (i := 6) sc_law_part.nd rfl (by first | exact Or.inl rfl | exact Or.inr rfl) (pe_lstB pa_nil))
    (pss_cons (ps_for PassesOwn.never rfl (pi_range1 rfl T.nrange (pa_cons (pe_op op_mod (pv 5) pe_int) pa_nil (se rfl))) (pg_name (i := 7) sc_law_part.nd rfl (by first | exact Or.inl rfl | exact Or.inr rfl))
      (pss_one (ps_expr (pe_bm PySem.F.plainAttrs_list PySem.F.slot_list_append PySem.F.type_list_append mt_append (pv 6) (pa_cons (pe_callD D_law_step (hr.mono (by decide)) rfl (pa_cons (pv 0) (pa_cons (pe_callD D_law_mix (hr.mono (by decide)) rfl (pa_cons (pe_op op_mod (pe_op op_fdiv (pv 5) pe_int) (pe_op op_pow pe_int pe_int)) (pa_cons (pv 7) pa_nil (se rfl)) (se rfl)) (he := se rfl) (hpl := nst rfl)) (pa_cons (pv 2) pa_nil (se rfl)) (se rfl)) (se rfl)) (he := se rfl) (hpl := nst rfl)) pa_nil (se rfl)) (hs := se rfl) (hplain := nst rfl)))))
    (pss_one (ps_expr (pe_bm PySem.F.plainAttrs_list PySem.F.slot_list_append PySem.F.type_list_append mt_append (pv 3) (pa_cons (pv 6) pa_nil (se rfl)) (hs := se rfl) (hplain := nst rfl))))))))
    (pss_one (ps_ret (pv 3))))), ?_⟩
  walk_at "rd"
  refine ⟨by show 0 ≤ sizeLine; omega, fun D H1 hDs hN1 => ?_⟩
  have hD0 := hN1.free
  walk_at "rd"
  try dsimp only
  refine i_for (i_rng1 ?_)
  walk_at "rd"
  refine ⟨a, ns, at_, rfl, hN1.same.seq hS, fun c => ?_⟩
  walk_at "rd"
  refine ⟨c, 60 + at_, rfl, by omega, fun mx => ?_⟩
  walk_at "rd"
  have e4 : (mx : Int) % 4 = ((mx % 4 : Nat) : Int) := by omega
  rw [e4]
  have l4 : mx % 4 ≤ 3 := by omega
  generalize mx % 4 = n at *
  refine ⟨_, rfl, by omega, by omega, ?_⟩
  rw [Int.toNat_natCast]
  refine for_range (lo := 0) (n := n) (fun i σ H' => Same H H' ∧ (∃ us p, H' D = some (.lst us) ∧ RpA (hid [D] (out H H')) us (p.map tickD) ∧ p.length = i ∧ ∀ l ∈ p, l.length ≤ 3 ∧ ∀ s ∈ l, SxOk nb s) ∧ ∃ x4 x5 x6 x7, σ = [some (.ref a), some (.int (at_ : Int)), some (.int (nb : Int)), some (.ref D), x4, x5, x6, x7])
    ⟨hN1.same, ⟨[], [], hN1.at, .nil, rfl, fun r h => by simp at h⟩, none, none, none, none, rfl⟩ ?_ ?_
  · rintro i σ H2 hi ⟨s2, ⟨us, p, hD2, hra, hpl, hok⟩, x4, x5, x6, x7, rfl⟩
    have e0 : (0 : Int) + (i : Int) = (i : Int) := Int.zero_add _
    rw [e0]
    have hul := rpa_len hra
    rw [List.length_map] at hul
    walk_at "rd"
    refine ⟨a, ns, at_, rfl, s2.seq hS, fun c2 => ?_⟩
    walk_at "rd"
    refine i_mul (ok_of 64 64 (by omega) (by omega) (by omega) (by omega) (by decide)) ?_
    walk_at "rd"
    refine ⟨c2, 80 + 4 * at_ + i, by rw [show (80 : Int) + 4 * (at_ : Int) + (i : Int) = ((80 + 4 * at_ + i : Nat) : Int) by omega]; rfl, by omega, fun many => ?_⟩
    walk_at "rd"
    try dsimp only
    walk_at "rd"
    refine ⟨by show 0 ≤ sizeLine; omega, fun E1 H3 hEs hN3 => ?_⟩
    have s3 := s2.trans hN3.same
    have hE0 : H E1 = none := s2.free hN3.free
    have hD3 := hN3.same _ _ hD2
    have hED : E1 ≠ D := fun z => by have := hN3.free; rw [z, hD2] at this; cases this
    have hra3 := hra.same (hid_new (l := [D]) (H := H) hN3.free hN3.same)
    walk_at "rd"
    try dsimp only
    refine i_for (i_rng1 ?_)
    walk_at "rd"
    have e4 : (many : Int) % 4 = ((many % 4 : Nat) : Int) := by omega
    rw [e4]
    have l4' : many % 4 ≤ 3 := by omega
    generalize many % 4 = n2 at *
    refine ⟨_, rfl, by omega, by omega, ?_⟩
    rw [Int.toNat_natCast]
    refine for_range (lo := 0) (n := n2) (fun j σ H' => Same H H' ∧ H' D = some (.lst us) ∧ RpA (hid [E1, D] (out H H')) us (p.map tickD) ∧ (∃ ws l, H' E1 = some (.lst ws) ∧ RpA (hid [E1, D] (out H H')) ws (l.map sxD) ∧ l.length = j ∧ ∀ s ∈ l, SxOk nb s) ∧ ∃ x7, σ = [some (.ref a), some (.int (at_ : Int)), some (.int (nb : Int)), some (.ref D), some (.int (i : Int)), some (.int (many : Int)), some (.ref E1), x7])
      ⟨s3, hD3, hra3, ⟨[], [], hN3.at, .nil, rfl, fun r h => by simp at h⟩, _, rfl⟩ ?_ ?_
    · rintro j σ H4 hj ⟨s4, hD4, hra4, ⟨ws, l, hE4, hwa, hll, hlok⟩, x7, rfl⟩
      have e0 : (0 : Int) + (j : Int) = (j : Int) := Int.zero_add _
      rw [e0]
      have hwl := rpa_len hwa
      rw [List.length_map] at hwl
      walk_at "rd"
      refine ⟨.inl ⟨rfl, _, sqL_inj_of hE4⟩, ?_⟩
      walk_at "rd"
      refine ⟨_, j, rfl, by omega, fun mm => ?_⟩
      walk_at "rd"
      refine ⟨a, ns, mm, nb, rfl, s4.seq hS, n1, n6, fun sx v H5 s5 hv sok => ?_⟩
      walk_at "rd"
      have hE5 := s5 _ _ hE4
      refine i_append hE5 (by omega) ?_
      have hD5 : upd H5 E1 (.lst (ws ++ [v])) D = some (.lst us) := by rw [upd_ne (Ne.symm hED)]; exact s5 _ _ hD4
      refine ⟨fun b o e => by rw [upd_ne (ne_of_none e hE0)]; exact s5 _ _ (s4 _ _ e), hD5, ?_, ⟨_, l ++ [sx], upd_same, ?_, by rw [List.length_append, hll]; rfl, fun s hs => ?_⟩, _, rfl⟩
      · exact RpA.same (hid_upd (by simp)) (hra4.same (hid_to s5))
      · rw [List.map_append]
        refine RpA.same (hid_upd (by simp)) (rpa_snoc (hwa.same (hid_to s5)) (hv.same (hid_up s4 fun b hb => ?_)))
        rcases List.mem_cons.mp hb with e | e
        · subst e; exact ⟨_, hE4⟩
        · rw [show b = D from List.mem_singleton.mp e]; exact ⟨_, hD4⟩
      · rcases List.mem_append.mp hs with h | h
        · exact hlok s h
        · rw [show s = _ from List.mem_singleton.mp h]; exact sok
    · rintro σ H4 ⟨s4, hD4, hra4, ⟨ws, l, hE4, hwa, hll, hlok⟩, x7, rfl⟩
      walk_at "rd"
      try dsimp only
      walk_at "rd"
      refine ⟨.inl ⟨rfl, _, sqL_inj_of hD4⟩, ?_⟩
      walk_at "rd"
      refine i_append hD4 (by omega) ?_
      refine ⟨fun b o e => by rw [upd_ne (ne_of_none e hD0)]; exact s4 _ _ e, ⟨_, p ++ [l], upd_same, ?_, by rw [List.length_append, hpl]; rfl, fun l' hl' => ?_⟩, _, _, _, _, rfl⟩
      · rw [List.map_append]
        refine RpA.same (hid_upd (by simp)) (rpa_snoc (hra4.same hid_less) ?_)
        exact .lst hEs (hid_at (by simpa using hED) hE0 hE4) (hwa.same hid_less)
      · rcases List.mem_append.mp hl' with h | h
        · exact hok l' h
        · rw [show l' = _ from List.mem_singleton.mp h]; exact ⟨by omega, hlok⟩
  · rintro σ H2 ⟨s2, ⟨us, p, hD2, hra, hpl, hok⟩, x4, x5, x6, x7, rfl⟩
    walk_at "rd"
    refine q p _ H2 s2 ?_ ⟨by omega, hok⟩
    exact .lst hDs (by rw [out_eq hD0]; exact hD2) (hra.same (hid_less.trans hid_nil))
def Sm60 (x : Int) : Prop := x.natAbs < 10 ^ 60
theorem sm_bd {x : Int} (h : Sm60 x) : Bd x := Nat.lt_trans h (by decide +kernel)
def spNumbers (K : PySem.W.Frag) : Sp := fun vs H Q _ => ∃ (a : Addr) (ns : List Int) (at_ many : Nat), vs = [.ref a, .int (at_ : Int), .int (many : Int)] ∧ SqL K H a (ns.map V.int) ∧ many ≤ 400 ∧ ∀ D l H2, Same H H2 → H D = none → D ≠ sysModules → H2 D = some (.lst (List.map V.int l)) → l.length = many → (∀ x ∈ l, Sm60 x) → Q (.ref D) H2
theorem d_numbers (T : Txt K mg C CE) (Kb : K.In base) (G : base.Ns mainGlobals mg) : Df P w K mg base 2 "_law_numbers" ["_law_script", "_law_at", "_law_many"] (spNumbers K) := by
  have D_law_cell_at : Df P w K mg base 1 "_law_cell_at" ["_law_script", "_law_k"] (spCell K) := d_cell T Kb G
  refine T.f_numbers.df Kb G sc_law_numbers (fun _ _ _ _ _ _ us hl => match us, hl with | [_, _, _], _ => rfl) (by rintro vs H Q E ⟨a, ns, at_, many, rfl, _⟩; rfl) (fun f cdv A outer s H vs Q E hr h => ?_)
  obtain ⟨a, ns, at_, many, rfl, hS, h400, q⟩ := h
  have lb := line_big
  refine ⟨_, (pss_cons (ps_set (i := 3) sc_law_numbers.nd rfl (by first | exact Or.inl rfl | exact Or.inr rfl) (pe_lstB pa_nil))
    (pss_cons (ps_for PassesOwn.never rfl (pi_range1 rfl T.nrange (pa_cons (pv 2) pa_nil (se rfl))) (pg_name (i := 4) sc_law_numbers.nd rfl (by first | exact Or.inl rfl | exact Or.inr rfl))
      (pss_cons (ps_set (i := 5) sc_law_numbers.nd rfl (by first | exact Or.inl rfl | exact Or.inr rfl) (pe_op op_mod (pe_callD D_law_cell_at (hr.mono (by decide)) rfl (pa_cons (pv 0) (pa_cons (pe_op op_mod (pe_op op_add (pv 1) (pv 4)) pe_int) pa_nil (se rfl)) (se rfl)) (he := se rfl) (hpl := nst rfl)) (pe_op op_pow pe_int pe_int)))
    (pss_cons (ps_join (ps_if (pt_cmpR op_eq (pe_op op_mod (pe_op op_add (pv 5) (pv 4)) pe_int) pe_int (nomark _)) (pss_one (ps_set (i := 5) sc_law_numbers.nd rfl (by first | exact Or.inl rfl | exact Or.inr rfl) (pe_un un_neg (pv 5)))) pss_nil))
    (pss_one (ps_expr (pe_bm PySem.F.plainAttrs_list PySem.F.slot_list_append PySem.F.type_list_append mt_append (pv 3) (pa_cons (pv 5) pa_nil (se rfl)) (hs := se rfl) (hplain := nst rfl)))))))
    (pss_one (ps_ret (pv 3))))), ?_⟩
  walk_at "rd"
  refine ⟨by show 0 ≤ sizeLine; omega, fun D H1 hDs hN1 => ?_⟩
  have hD0 := hN1.free
  walk_at "rd"
  try dsimp only
  refine i_for (i_rng1 ?_)
  walk_at "rd"
  refine ⟨_, rfl, by omega, by omega, ?_⟩
  rw [Int.toNat_natCast]
  refine for_range (lo := 0) (n := many) (fun i σ H' => Same H H' ∧ (∃ l, H' D = some (.lst (List.map V.int l)) ∧ l.length = i ∧ ∀ x ∈ l, Sm60 x) ∧ ∃ x4 x5, σ = [some (.ref a), some (.int (at_ : Int)), some (.int (many : Int)), some (.ref D), x4, x5])
    ⟨hN1.same, ⟨[], hN1.at, rfl, fun r h => by simp at h⟩, none, none, rfl⟩ ?_ ?_
  · rintro i σ H2 hi ⟨s2, ⟨l, hD2, hll, hlok⟩, x4, x5, rfl⟩
    have e0 : (0 : Int) + (i : Int) = (i : Int) := Int.zero_add _
    rw [e0]
    walk_at "rd"
    have ec : ((at_ : Int) + (i : Int)) % 63 = (((at_ + i) % 63 : Nat) : Int) := by omega
    rw [ec]
    refine ⟨a, ns, (at_ + i) % 63, rfl, s2.seq hS, fun c => ?_⟩
    walk_at "rd"
    have bc := mod_b c (show (0 : Int) < 10 ^ (60 : Int).toNat by decide +kernel)
    have e60 : (10 : Int) ^ (60 : Int).toNat = ((10 ^ 60 : Nat) : Int) := by rw [Int.natCast_pow]; rfl
    generalize c % 10 ^ (60 : Int).toNat = cv at *
    rw [e60] at bc
    have hc1 : Sm60 cv := by unfold Sm60; omega
    have hc2 : Sm60 (-cv) := by unfold Sm60; omega
    try dsimp only
    refine i_join (fun σ' H' => H' = H2 ∧ ∃ y : Int, Sm60 y ∧ σ' = [some (.ref a), some (.int (at_ : Int)), some (.int (many : Int)), some (.ref D), some (.int (i : Int)), some (.int y)]) ?_ ?_
    · walk_at "rd"
      refine i_iteI (fun _ => ?_) (fun _ => ?_)
      · walk_at "rd"
        exact ⟨rfl, -cv, hc2, rfl⟩
      · walk_at "rd"
        exact ⟨rfl, cv, hc1, rfl⟩
    rintro σ' H' ⟨rfl, y, hy, rfl⟩
    walk_at "rd"
    refine ⟨.inl ⟨rfl, _, sqL_inj_of hD2⟩, ?_⟩
    walk_at "rd"
    refine i_append hD2 (by rw [List.length_map]; omega) ?_
    refine ⟨fun b o e => by rw [upd_ne (ne_of_none e hD0)]; exact s2 _ _ e, ⟨l ++ [y], by rw [upd_same, List.map_append]; rfl, by rw [List.length_append, hll]; rfl, fun x hx => ?_⟩, _, _, rfl⟩
    rcases List.mem_append.mp hx with h | h
    · exact hlok x h
    · rw [show x = _ from List.mem_singleton.mp h]; exact hy
  · rintro σ H2 ⟨s2, ⟨l, hD2, hll, hlok⟩, x4, x5, rfl⟩
    walk_at "rd"
    exact q D l H2 s2 hD0 hDs hD2 hll hlok
theorem kX (T : Txt K mg C CE) {e : Xk} (he : e = .BadTurns) (f : Xk) (h1 : f ≠ .LapError) (h2 : f ≠ .Sheet) (h3 : f ≠ .Machine) : PySem.W.kitOne K (.ref (CE e)) (.ref (CE f)) = some (decide (f = e)) := by
  subst he
  exact T.kX_BadTurns f h1 h2 h3
def alpha : List Xk := [.BadArms, .BadBack, .BadCount, .BadDelay, .BadHold, .BadName, .BadNumber, .BadPlan, .BadRows, .BadText, .BadTurns, .BadWidth, .NoArm, .NoDeed, .NoMeasure, .NoRow, .Short, .TooEarly, .Twice, .Unfit]
def spClasses (CE : Xk → Addr) : Sp := fun vs H Q _ => ∃ (e : Addr) (x : Xk), vs = [.ref e] ∧ x = .BadTurns ∧ H e = some (excO e (CE x) none) ∧ ∀ H2, Same H H2 → Q (.int 10) H2
theorem d_classes (T : Txt K mg C CE) (Kb : K.In base) (G : base.Ns mainGlobals mg) : Df P w K mg base 1 "_law_classes" ["_law_kept"] (spClasses CE) := by
  refine T.f_classes.df Kb G sc_law_classes (fun _ _ _ _ _ _ us hl => match us, hl with | [_], _ => rfl) (by rintro vs H Q E ⟨e, x, rfl, _⟩; rfl) (fun f cdv A outer s H vs Q E hr h => ?_)
  obtain ⟨e, x, rfl, hx, he, q⟩ := h
  have xc : XCls K (CE x) := by rw [hx]; exact T.x_BadTurns.xc
  have kv : PySem.W.kitOne K (.ref (CE x)) (.type "ValueError") = some true := by rw [hx]; exact T.kV_BadTurns
  have kl : PySem.W.kitOne K (.ref (CE x)) (.ref (CE .LapError)) = some true := by rw [hx]; exact T.kL_BadTurns
  refine ⟨_, (pss_cons (ps_set (i := 1) sc_law_classes.nd rfl (by first | exact Or.inl rfl | exact Or.inr rfl) (pe_lstA (pa_cons (pe_callB call_isiX rfl T.nisi PyProof.Rows.boot_isinstance (pa_cons (pv 0) (pa_cons (pe_glob (v := .ref _) rfl (T.mg_BadArms) rfl) pa_nil (se rfl)) (se rfl)) (he := se rfl) (hpl := nst rfl)) (pa_cons (pe_callB call_isiX rfl T.nisi PyProof.Rows.boot_isinstance (pa_cons (pv 0) (pa_cons (pe_glob (v := .ref _) rfl (T.mg_BadBack) rfl) pa_nil (se rfl)) (se rfl)) (he := se rfl) (hpl := nst rfl)) (pa_cons (pe_callB call_isiX rfl T.nisi PyProof.Rows.boot_isinstance (pa_cons (pv 0) (pa_cons (pe_glob (v := .ref _) rfl (T.mg_BadCount) rfl) pa_nil (se rfl)) (se rfl)) (he := se rfl) (hpl := nst rfl)) pa_nil (se rfl)) (se rfl)) (se rfl))))
    (pss_cons (ps_set (i := 1) sc_law_classes.nd rfl (by first | exact Or.inl rfl | exact Or.inr rfl) (pe_op op_catA (pv 1) (pe_lstA (pa_cons (pe_callB call_isiX rfl T.nisi PyProof.Rows.boot_isinstance (pa_cons (pv 0) (pa_cons (pe_glob (v := .ref _) rfl (T.mg_BadDelay) rfl) pa_nil (se rfl)) (se rfl)) (he := se rfl) (hpl := nst rfl)) (pa_cons (pe_callB call_isiX rfl T.nisi PyProof.Rows.boot_isinstance (pa_cons (pv 0) (pa_cons (pe_glob (v := .ref _) rfl (T.mg_BadHold) rfl) pa_nil (se rfl)) (se rfl)) (he := se rfl) (hpl := nst rfl)) pa_nil (se rfl)) (se rfl)))))
    (pss_cons (ps_set (i := 1) sc_law_classes.nd rfl (by first | exact Or.inl rfl | exact Or.inr rfl) (pe_op op_catA (pv 1) (pe_lstA (pa_cons (pe_callB call_isiX rfl T.nisi PyProof.Rows.boot_isinstance (pa_cons (pv 0) (pa_cons (pe_glob (v := .ref _) rfl (T.mg_BadName) rfl) pa_nil (se rfl)) (se rfl)) (he := se rfl) (hpl := nst rfl)) (pa_cons (pe_callB call_isiX rfl T.nisi PyProof.Rows.boot_isinstance (pa_cons (pv 0) (pa_cons (pe_glob (v := .ref _) rfl (T.mg_BadNumber) rfl) pa_nil (se rfl)) (se rfl)) (he := se rfl) (hpl := nst rfl)) pa_nil (se rfl)) (se rfl)))))
    (pss_cons (ps_set (i := 1) sc_law_classes.nd rfl (by first | exact Or.inl rfl | exact Or.inr rfl) (pe_op op_catA (pv 1) (pe_lstA (pa_cons (pe_callB call_isiX rfl T.nisi PyProof.Rows.boot_isinstance (pa_cons (pv 0) (pa_cons (pe_glob (v := .ref _) rfl (T.mg_BadPlan) rfl) pa_nil (se rfl)) (se rfl)) (he := se rfl) (hpl := nst rfl)) (pa_cons (pe_callB call_isiX rfl T.nisi PyProof.Rows.boot_isinstance (pa_cons (pv 0) (pa_cons (pe_glob (v := .ref _) rfl (T.mg_BadRows) rfl) pa_nil (se rfl)) (se rfl)) (he := se rfl) (hpl := nst rfl)) (pa_cons (pe_callB call_isiX rfl T.nisi PyProof.Rows.boot_isinstance (pa_cons (pv 0) (pa_cons (pe_glob (v := .ref _) rfl (T.mg_BadText) rfl) pa_nil (se rfl)) (se rfl)) (he := se rfl) (hpl := nst rfl)) pa_nil (se rfl)) (se rfl)) (se rfl)))))
    (pss_cons (ps_set (i := 1) sc_law_classes.nd rfl (by first | exact Or.inl rfl | exact Or.inr rfl) (pe_op op_catA (pv 1) (pe_lstA (pa_cons (pe_callB call_isiX rfl T.nisi PyProof.Rows.boot_isinstance (pa_cons (pv 0) (pa_cons (pe_glob (v := .ref _) rfl (T.mg_BadTurns) rfl) pa_nil (se rfl)) (se rfl)) (he := se rfl) (hpl := nst rfl)) (pa_cons (pe_callB call_isiX rfl T.nisi PyProof.Rows.boot_isinstance (pa_cons (pv 0) (pa_cons (pe_glob (v := .ref _) rfl (T.mg_BadWidth) rfl) pa_nil (se rfl)) (se rfl)) (he := se rfl) (hpl := nst rfl)) (pa_cons (pe_callB call_isiX rfl T.nisi PyProof.Rows.boot_isinstance (pa_cons (pv 0) (pa_cons (pe_glob (v := .ref _) rfl (T.mg_NoArm) rfl) pa_nil (se rfl)) (se rfl)) (he := se rfl) (hpl := nst rfl)) pa_nil (se rfl)) (se rfl)) (se rfl)))))
    (pss_cons (ps_set (i := 1) sc_law_classes.nd rfl (by first | exact Or.inl rfl | exact Or.inr rfl) (pe_op op_catA (pv 1) (pe_lstA (pa_cons (pe_callB call_isiX rfl T.nisi PyProof.Rows.boot_isinstance (pa_cons (pv 0) (pa_cons (pe_glob (v := .ref _) rfl (T.mg_NoDeed) rfl) pa_nil (se rfl)) (se rfl)) (he := se rfl) (hpl := nst rfl)) (pa_cons (pe_callB call_isiX rfl T.nisi PyProof.Rows.boot_isinstance (pa_cons (pv 0) (pa_cons (pe_glob (v := .ref _) rfl (T.mg_NoMeasure) rfl) pa_nil (se rfl)) (se rfl)) (he := se rfl) (hpl := nst rfl)) (pa_cons (pe_callB call_isiX rfl T.nisi PyProof.Rows.boot_isinstance (pa_cons (pv 0) (pa_cons (pe_glob (v := .ref _) rfl (T.mg_NoRow) rfl) pa_nil (se rfl)) (se rfl)) (he := se rfl) (hpl := nst rfl)) pa_nil (se rfl)) (se rfl)) (se rfl)))))
    (pss_cons (ps_set (i := 1) sc_law_classes.nd rfl (by first | exact Or.inl rfl | exact Or.inr rfl) (pe_op op_catA (pv 1) (pe_lstA (pa_cons (pe_callB call_isiX rfl T.nisi PyProof.Rows.boot_isinstance (pa_cons (pv 0) (pa_cons (pe_glob (v := .ref _) rfl (T.mg_Short) rfl) pa_nil (se rfl)) (se rfl)) (he := se rfl) (hpl := nst rfl)) (pa_cons (pe_callB call_isiX rfl T.nisi PyProof.Rows.boot_isinstance (pa_cons (pv 0) (pa_cons (pe_glob (v := .ref _) rfl (T.mg_TooEarly) rfl) pa_nil (se rfl)) (se rfl)) (he := se rfl) (hpl := nst rfl)) (pa_cons (pe_callB call_isiX rfl T.nisi PyProof.Rows.boot_isinstance (pa_cons (pv 0) (pa_cons (pe_glob (v := .ref _) rfl (T.mg_Twice) rfl) pa_nil (se rfl)) (se rfl)) (he := se rfl) (hpl := nst rfl)) pa_nil (se rfl)) (se rfl)) (se rfl)))))
    (pss_cons (ps_set (i := 1) sc_law_classes.nd rfl (by first | exact Or.inl rfl | exact Or.inr rfl) (pe_op op_catA (pv 1) (pe_lstA (pa_cons (pe_callB call_isiX rfl T.nisi PyProof.Rows.boot_isinstance (pa_cons (pv 0) (pa_cons (pe_glob (v := .ref _) rfl (T.mg_Unfit) rfl) pa_nil (se rfl)) (se rfl)) (he := se rfl) (hpl := nst rfl)) pa_nil (se rfl)))))
    (pss_cons (ps_if (PW.pt (pw_or (pt_not (pt_val (pe_callB call_isiX rfl T.nisi PyProof.Rows.boot_isinstance (pa_cons (pv 0) (pa_cons (pe_glob (v := .ref _) rfl (T.mg_LapError) rfl) pa_nil (se rfl)) (se rfl)) (he := se rfl) (hpl := nst rfl)))) (pw_or1 (pt_not (pt_val (pe_callB call_isiX rfl T.nisi PyProof.Rows.boot_isinstance (pa_cons (pv 0) (pa_cons (pe_bltn (v := .ty "ValueError") rfl T.nVE boot_ValueError rfl) pa_nil (se rfl)) (se rfl)) (he := se rfl) (hpl := nst rfl))))))) (pss_one (ps_ret (pe_un un_neg pe_int))) pss_nil)
    (pss_cons (ps_if (pt_cmpR op_ne (pe_callB (call_sum rfl) rfl T.nsum boot_sum0 (pa_cons (pe_lc (Blk.of (caps := []) (ix := []) rfl) rfl (pi_list (pv 1)) (fun _ _ _ _ => pf_nil) (fun _ _ _ _ => (pe_callTy call_int1 rfl T.nint PyProof.Rows.boot_int (pa_cons (pv 0) pa_nil (se rfl)) (he := se rfl) (hpl := nst rfl)))) pa_nil (se rfl)) (he := se rfl) (hpl := nst rfl)) pe_int (nomark _)) (pss_one (ps_ret (pe_un un_neg pe_int))) pss_nil)
    (pss_one (ps_ret (pe_bm PySem.F.plainAttrs_list PySem.F.slot_list_index PySem.F.type_list_index mt_indexV (pv 1) (pa_cons pe_bl pa_nil (se rfl)) (hs := se rfl) (hplain := nst rfl)))))))))))))), ?_⟩
  walk_at "rd"
  refine ⟨_, _, none, _, _, rfl, rfl, he, .inl rfl, xc, kX T hx .BadArms (by decide) (by decide) (by decide), ?_⟩
  walk_at "rd"
  refine ⟨_, _, none, _, _, rfl, rfl, he, .inl rfl, xc, kX T hx .BadBack (by decide) (by decide) (by decide), ?_⟩
  walk_at "rd"
  refine ⟨_, _, none, _, _, rfl, rfl, he, .inl rfl, xc, kX T hx .BadCount (by decide) (by decide) (by decide), ?_⟩
  walk_at "rd"
  refine ⟨by show 3 ≤ sizeLine; decide, fun r0 H0 hM0 => ?_⟩
  have s0 : Same H H0 := hM0.same
  walk_at "rd"
  have he0 := s0 _ _ he
  refine ⟨_, _, none, _, _, rfl, rfl, he0, .inl rfl, xc, kX T hx .BadDelay (by decide) (by decide) (by decide), ?_⟩
  walk_at "rd"
  refine ⟨_, _, none, _, _, rfl, rfl, he0, .inl rfl, xc, kX T hx .BadHold (by decide) (by decide) (by decide), ?_⟩
  walk_at "rd"
  refine ⟨by show 2 ≤ sizeLine; decide, fun q0 G0 hL0 => ?_⟩
  refine i_catA (hL0.same _ _ hM0.at) hL0.at (by show 5 ≤ sizeLine; decide) fun r1 H1 hM1 => ?_
  have s1 : Same H H1 := (s0.trans hL0.same).trans hM1.same
  walk_at "rd"
  have he1 := s1 _ _ he
  refine ⟨_, _, none, _, _, rfl, rfl, he1, .inl rfl, xc, kX T hx .BadName (by decide) (by decide) (by decide), ?_⟩
  walk_at "rd"
  refine ⟨_, _, none, _, _, rfl, rfl, he1, .inl rfl, xc, kX T hx .BadNumber (by decide) (by decide) (by decide), ?_⟩
  walk_at "rd"
  refine ⟨by show 2 ≤ sizeLine; decide, fun q1 G1 hL1 => ?_⟩
  refine i_catA (hL1.same _ _ hM1.at) hL1.at (by show 7 ≤ sizeLine; decide) fun r2 H2 hM2 => ?_
  have s2 : Same H H2 := (s1.trans hL1.same).trans hM2.same
  walk_at "rd"
  have he2 := s2 _ _ he
  refine ⟨_, _, none, _, _, rfl, rfl, he2, .inl rfl, xc, kX T hx .BadPlan (by decide) (by decide) (by decide), ?_⟩
  walk_at "rd"
  refine ⟨_, _, none, _, _, rfl, rfl, he2, .inl rfl, xc, kX T hx .BadRows (by decide) (by decide) (by decide), ?_⟩
  walk_at "rd"
  refine ⟨_, _, none, _, _, rfl, rfl, he2, .inl rfl, xc, kX T hx .BadText (by decide) (by decide) (by decide), ?_⟩
  walk_at "rd"
  refine ⟨by show 3 ≤ sizeLine; decide, fun q2 G2 hL2 => ?_⟩
  refine i_catA (hL2.same _ _ hM2.at) hL2.at (by show 10 ≤ sizeLine; decide) fun r3 H3 hM3 => ?_
  have s3 : Same H H3 := (s2.trans hL2.same).trans hM3.same
  walk_at "rd"
  have he3 := s3 _ _ he
  refine ⟨_, _, none, _, _, rfl, rfl, he3, .inl rfl, xc, kX T hx .BadTurns (by decide) (by decide) (by decide), ?_⟩
  walk_at "rd"
  refine ⟨_, _, none, _, _, rfl, rfl, he3, .inl rfl, xc, kX T hx .BadWidth (by decide) (by decide) (by decide), ?_⟩
  walk_at "rd"
  refine ⟨_, _, none, _, _, rfl, rfl, he3, .inl rfl, xc, kX T hx .NoArm (by decide) (by decide) (by decide), ?_⟩
  walk_at "rd"
  refine ⟨by show 3 ≤ sizeLine; decide, fun q3 G3 hL3 => ?_⟩
  refine i_catA (hL3.same _ _ hM3.at) hL3.at (by show 13 ≤ sizeLine; decide) fun r4 H4 hM4 => ?_
  have s4 : Same H H4 := (s3.trans hL3.same).trans hM4.same
  walk_at "rd"
  have he4 := s4 _ _ he
  refine ⟨_, _, none, _, _, rfl, rfl, he4, .inl rfl, xc, kX T hx .NoDeed (by decide) (by decide) (by decide), ?_⟩
  walk_at "rd"
  refine ⟨_, _, none, _, _, rfl, rfl, he4, .inl rfl, xc, kX T hx .NoMeasure (by decide) (by decide) (by decide), ?_⟩
  walk_at "rd"
  refine ⟨_, _, none, _, _, rfl, rfl, he4, .inl rfl, xc, kX T hx .NoRow (by decide) (by decide) (by decide), ?_⟩
  walk_at "rd"
  refine ⟨by show 3 ≤ sizeLine; decide, fun q4 G4 hL4 => ?_⟩
  refine i_catA (hL4.same _ _ hM4.at) hL4.at (by show 16 ≤ sizeLine; decide) fun r5 H5 hM5 => ?_
  have s5 : Same H H5 := (s4.trans hL4.same).trans hM5.same
  walk_at "rd"
  have he5 := s5 _ _ he
  refine ⟨_, _, none, _, _, rfl, rfl, he5, .inl rfl, xc, kX T hx .Short (by decide) (by decide) (by decide), ?_⟩
  walk_at "rd"
  refine ⟨_, _, none, _, _, rfl, rfl, he5, .inl rfl, xc, kX T hx .TooEarly (by decide) (by decide) (by decide), ?_⟩
  walk_at "rd"
  refine ⟨_, _, none, _, _, rfl, rfl, he5, .inl rfl, xc, kX T hx .Twice (by decide) (by decide) (by decide), ?_⟩
  walk_at "rd"
  refine ⟨by show 3 ≤ sizeLine; decide, fun q5 G5 hL5 => ?_⟩
  refine i_catA (hL5.same _ _ hM5.at) hL5.at (by show 19 ≤ sizeLine; decide) fun r6 H6 hM6 => ?_
  have s6 : Same H H6 := (s5.trans hL5.same).trans hM6.same
  walk_at "rd"
  have he6 := s6 _ _ he
  refine ⟨_, _, none, _, _, rfl, rfl, he6, .inl rfl, xc, kX T hx .Unfit (by decide) (by decide) (by decide), ?_⟩
  walk_at "rd"
  refine ⟨by show 1 ≤ sizeLine; decide, fun q6 G6 hL6 => ?_⟩
  refine i_catA (hL6.same _ _ hM6.at) hL6.at (by show 20 ≤ sizeLine; decide) fun r7 H7 hM7 => ?_
  have s7 : Same H H7 := (s6.trans hL6.same).trans hM7.same
  walk_at "rd"
  have heL := s7 _ _ he
  have hf : H7 r7 = some (.lst (List.map V.bl (alpha.map fun f => decide (f = x)))) := hM7.at
  refine ⟨_, _, none, _, _, rfl, rfl, heL, .inl rfl, xc, kl, ?_⟩
  walk_at "rd"
  refine ⟨_, _, none, _, _, rfl, rfl, heL, .inl rfl, xc, kv, ?_⟩
  walk_at "rd"
  refine i_lc (i_list ?_)
  walk_at "rd"
  refine lcL (List.map V.bl (alpha.map fun f => decide (f = x))) (fun v => match v with | .bl b => .int (if b then 1 else 0) | v => v) (sqL_inj_of hf) (by rw [List.length_map, List.length_map]; show 20 ≤ sizeLine; decide) (fun i v H' R hv s r => ?_) (fun D HD hND => ?_)
  · rw [List.getElem?_map] at hv
    cases hb : (alpha.map fun f => decide (f = x))[i]? with
    | none => rw [hb] at hv; cases hv
    | some b =>
      rw [hb] at hv
      have ev : V.bl b = v := Option.some.inj hv
      subst ev
      walk_at "rd"
      refine .inr ⟨b, rfl, ?_⟩
      exact r
  have eint : (List.map V.bl (alpha.map fun f => decide (f = x))).map (fun v => match v with | .bl b => V.int (if b then 1 else 0) | v => v) = List.map V.int (alpha.map fun f => if decide (f = x) then (1 : Int) else 0) := by
    rw [List.map_map, List.map_map, List.map_map]; rfl
  rw [eint] at hND
  walk_at "rd"
  refine i_sum hND.lst ?_
  have esum : (alpha.map fun f => if decide (f = x) then (1 : Int) else 0).sum = 1 := by
    subst hx; decide
  rw [esum]
  walk_at "rd"
  rw [decide_eq_true (rfl : V.int 1 = V.int 1)]
  walk_at "rd"
  refine ⟨.inl ⟨rfl, _, sqL_inj_of (hND.same _ _ hf)⟩, ?_⟩
  walk_at "rd"
  have hix : ∃ j : Nat, (j : Int) = 10 ∧ j < 20 ∧ (∀ y, (List.map V.bl (alpha.map fun f => decide (f = x)))[j]? = some y → eqV y (.bl true) = true) ∧ (∀ i y, i < j → (List.map V.bl (alpha.map fun f => decide (f = x)))[i]? = some y → eqV y (.bl true) = false) := by
    have key : ∀ (bs : List Bool) (j : Nat), bs[j]? = some true → (∀ i, i < j → bs[i]? = some false) → (∀ y, (List.map V.bl bs)[j]? = some y → eqV y (.bl true) = true) ∧ (∀ i y, i < j → (List.map V.bl bs)[i]? = some y → eqV y (.bl true) = false) := by
      intro bs j h1 h2
      constructor
      · intro y hy
        rw [List.getElem?_map, h1] at hy
        cases hy; rfl
      · intro i y hi hy
        rw [List.getElem?_map, h2 i hi] at hy
        cases hy; rfl
    subst hx
    exact ⟨10, rfl, by decide, key _ 10 (by decide) (by decide)⟩
  obtain ⟨j, hj, hj20, ja, jb⟩ := hix
  refine ⟨_, _, .bl true, j, rfl, rfl, rfl, by rw [List.all_map]; exact List.all_eq_true.mpr fun _ _ => rfl, sqL_inj_of (hND.same _ _ hf), by rw [List.length_map, List.length_map]; exact hj20, ja, jb, by rw [List.length_map, List.length_map]; show 20 ≤ 1000; decide, ?_⟩
  rw [hj]
  exact q _ (s7.trans hND.same)
theorem drels_of {K : PySem.W.Frag} {H : Hp} : ∀ (ds : List DV) (xs : List V), ds.length = xs.length → (∀ (i : Nat) d x, ds[i]? = some d → xs[i]? = some x → DRel K H d x) → DRels K H ds xs
  | [], [], _, _ => by simp only [DRels]
  | d :: ds, x :: xs, hl, h => by
    simp only [DRels]
    exact ⟨h 0 d x rfl rfl, drels_of ds xs (by simpa using hl) fun i d' x' e1 e2 => h (i + 1) d' x' e1 e2⟩
  | [], _ :: _, hl, _ => by simp at hl
  | _ :: _, [], hl, _ => by simp at hl
def spAlikeL : Sp := fun vs H Q _ => ∃ (p q : Addr) (l : List Int), vs = [.ref p, .ref q] ∧ H p = some (.lst (List.map V.int l)) ∧ H q = some (.lst (List.map V.int l)) ∧ l.length ≤ 400 ∧ Q (.bl true) H
theorem d_alikeL (T : Txt K mg C CE) (Kb : K.In base) (G : base.Ns mainGlobals mg) : Df P w K mg base 2 "_law_alike" ["_law_found", "_law_due"] spAlikeL := by
  have D_law_whole : Df P w K mg base 1 "_law_whole" ["_law_found"] spWhole := d_whole T Kb G
  refine T.f_alike.df Kb G sc_law_alike (fun _ _ _ _ _ _ us hl => match us, hl with | [_, _], _ => rfl) (by rintro vs H Q E ⟨p, q, l, rfl, _⟩; rfl) (fun f cdv A outer s H vs Q E hr h => ?_)
  obtain ⟨p, p', l, rfl, hp, hp', hl, q⟩ := h
  refine ⟨_, (pss_cons (ps_if (PW.pt (pw_or (pt_not (pt_val (pe_callB call_isi rfl T.nisi PyProof.Rows.boot_isinstance (pa_cons (pv 0) (pa_cons (pe_bltn (v := .ty "list") rfl T.nlist PyProof.Rows.boot_list rfl) pa_nil (se rfl)) (se rfl)) (he := se rfl) (hpl := nst rfl)))) (pw_or1 (pt_cmpR op_ne (pe_callB call_len_seq rfl T.nlen PySem.boot_len (pa_cons (pv 0) pa_nil (se rfl)) (he := se rfl) (hpl := nst rfl)) (pe_callB call_len_seq rfl T.nlen PySem.boot_len (pa_cons (pv 1) pa_nil (se rfl)) (he := se rfl) (hpl := nst rfl)) (nomark _))))) (pss_one (ps_ret pe_bl)) pss_nil)
    (pss_cons (ps_for PassesOwn.never rfl (pi_range1 rfl T.nrange (pa_cons (pe_callB call_len_seq rfl T.nlen PySem.boot_len (pa_cons (pv 1) pa_nil (se rfl)) (he := se rfl) (hpl := nst rfl)) pa_nil (se rfl))) (pg_name (i := 2) sc_law_alike.nd rfl (by first | exact Or.inl rfl | exact Or.inr rfl))
      (pss_one (ps_if (PW.pt (pw_or (pt_not (pt_val (pe_callD D_law_whole (hr.mono (by decide)) rfl (pa_cons (pe_ix ix_seq (pv 0) (pv 2) (fun _ _ => rfl)) pa_nil (se rfl)) (he := se rfl) (hpl := nst rfl)))) (pw_or1 (pt_cmpR op_ne (pe_ix ix_seq (pv 0) (pv 2) (fun _ _ => rfl)) (pe_ix ix_seq (pv 1) (pv 2) (fun _ _ => rfl)) (nomark _))))) (pss_one (ps_ret pe_bl)) pss_nil)))
    (pss_one (ps_ret pe_bl)))), ?_⟩
  have hlm : (List.map V.int l).length = l.length := List.length_map _
  walk_at "rd"
  refine i_isiL hp T.kLL ?_
  walk_at "rd"
  refine ⟨_, _, rfl, .inl (sqL_inj_of hp), ?_⟩
  walk_at "rd"
  refine ⟨_, _, rfl, .inl (sqL_inj_of hp'), ?_⟩
  walk_at "rd"
  rw [decide_eq_true (rfl : V.int ((List.map V.int l).length : Int) = V.int ((List.map V.int l).length : Int))]
  walk_at "rd"
  refine i_for (i_rng1 ?_)
  walk_at "rd"
  refine ⟨_, _, rfl, .inl (sqL_inj_of hp'), ?_⟩
  refine ⟨_, rfl, by omega, by omega, ?_⟩
  rw [Int.toNat_natCast]
  refine for_range (lo := 0) (n := (List.map V.int l).length) (fun i σ H' => H' = H ∧ ∃ x, σ = [some (.ref p), some (.ref p'), x]) ⟨rfl, none, rfl⟩ ?_ ?_
  · rintro i σ H' hi ⟨rfl, x, rfl⟩
    have e0 : (0 : Int) + (i : Int) = (i : Int) := Int.zero_add _
    rw [e0]
    have hil : i < l.length := by omega
    walk_at "rd"
    refine i_ixL (sqL_inj_of hp) (at_ints i hil) ?_
    walk_at "rd"
    refine ⟨_, rfl, ?_⟩
    walk_at "rd"
    refine i_ixL (sqL_inj_of hp) (at_ints i hil) ?_
    walk_at "rd"
    refine i_ixL (sqL_inj_of hp') (at_ints i hil) ?_
    walk_at "rd"
    rw [decide_eq_true (rfl : V.int (l.getD i 0) = V.int (l.getD i 0))]
    walk_at "rd"
    exact ⟨rfl, _, rfl⟩
  · rintro σ H' ⟨rfl, x, rfl⟩
    walk_at "rd"
    exact q
def tlDV (x : Str × Nat × Int) : DV := .t [.f (.str x.1), .f (.int (x.2.1 : Int)), .f (.int x.2.2)]
theorem ts_drel {K : PySem.W.Frag} {H : Hp} {us : List V} {l : List (Str × Nat × Int)} (h : TsAt H us (l.map tlV)) : DRels K H (l.map tlDV) us := by
  have hl := h.len
  rw [List.length_map] at hl
  refine drels_of _ _ (by rw [List.length_map]; exact hl.symm) fun i d x e1 e2 => ?_
  obtain ⟨ta, l', g1, g2, g3⟩ := h.get e2
  rw [List.getElem?_map] at e1 g1
  cases hx : l[i]? with
  | none => rw [hx] at e1; cases e1
  | some y =>
    rw [hx] at e1 g1
    cases e1
    cases g1
    subst g2
    simp only [tlDV, DRel, DRels]
    exact ⟨ta, _, rfl, .inl (.inl g3), ⟨rfl, rfl⟩, ⟨rfl, rfl⟩, ⟨rfl, rfl⟩, trivial⟩
theorem deps_tl : ∀ l : List (Str × Nat × Int), deps (l.map tlDV) ≤ 1
  | [] => by simp [deps]
  | x :: l => by
    have := deps_tl l
    rw [List.map_cons]
    simp only [deps, tlDV, dep]
    omega
def spPair : Sp := fun vs H Q _ => ∃ (p mp bp dq tp bq : Addr) (us ws : List V) (l : List (Str × Nat × Int)) (bs : List Int), vs = [.ref p, .ref dq] ∧ H p = some (.tup [.ref mp, .ref bp]) ∧ H mp = some (.lst us) ∧ TsAt H us (l.map tlV) ∧ H bp = some (.lst (List.map V.int bs)) ∧ H dq = some (.lst [.ref tp, .ref bq]) ∧ H tp = some (.lst ws) ∧ TsAt H ws (l.map tlV) ∧ H bq = some (.lst (List.map V.int bs)) ∧ bs.length ≤ 400 ∧ l.length ≤ 5000 ∧ Q (.bl true) H
theorem d_pair (T : Txt K mg C CE) (Kb : K.In base) (G : base.Ns mainGlobals mg) : Df P w K mg base 3 "_law_pair_alike" ["_law_found", "_law_due"] spPair := by
  have D_law_alike : Df P w K mg base 2 "_law_alike" ["_law_found", "_law_due"] spAlikeL := d_alikeL T Kb G
  have D_law_whole : Df P w K mg base 1 "_law_whole" ["_law_found"] spWhole := d_whole T Kb G
  refine T.f_pair.df Kb G sc_law_pair_alike (fun _ _ _ _ _ _ us hl => match us, hl with | [_, _], _ => rfl) (by rintro vs H Q E ⟨p, mp, bp, dq, tp, bq, us, ws, l, bs, rfl, _⟩; rfl) (fun f cdv A outer s H vs Q E hr h => ?_)
  obtain ⟨p, mp, bp, dq, tp, bq, us, ws, l, bs, rfl, hp, hmp, hT1, hbp, hdq, htp, hT2, hbq, hbl, hll, q⟩ := h
  have lus := hT1.len
  rw [List.length_map] at lus
  refine ⟨_, (pss_cons (ps_if (PW.pt (pw_or (pt_not (pt_val (pe_callB call_isi rfl T.nisi PyProof.Rows.boot_isinstance (pa_cons (pv 0) (pa_cons (pe_bltn (v := .ty "tuple") rfl T.ntuple PyProof.Rows.boot_tuple rfl) pa_nil (se rfl)) (se rfl)) (he := se rfl) (hpl := nst rfl)))) (pw_or (pt_cmpR op_ne (pe_callB call_len_seq rfl T.nlen PySem.boot_len (pa_cons (pv 0) pa_nil (se rfl)) (he := se rfl) (hpl := nst rfl)) pe_int (nomark _)) (pw_or1 (pt_not (pt_val (pe_callB call_isi rfl T.nisi PyProof.Rows.boot_isinstance (pa_cons (pe_ix ix_seq (pv 0) pe_int (fun _ _ => rfl)) (pa_cons (pe_bltn (v := .ty "list") rfl T.nlist PyProof.Rows.boot_list rfl) pa_nil (se rfl)) (se rfl)) (he := se rfl) (hpl := nst rfl)))))))) (pss_one (ps_ret pe_bl)) pss_nil)
    (pss_cons (ps_for PassesOwn.never rfl (pi_list (pe_ix ix_seq (pv 0) pe_int (fun _ _ => rfl))) (pg_name (i := 2) sc_law_pair_alike.nd rfl (by first | exact Or.inl rfl | exact Or.inr rfl))
      (pss_cons (ps_if (PW.pt (pw_or (pt_not (pt_val (pe_callB call_isi rfl T.nisi PyProof.Rows.boot_isinstance (pa_cons (pv 2) (pa_cons (pe_bltn (v := .ty "tuple") rfl T.ntuple PyProof.Rows.boot_tuple rfl) pa_nil (se rfl)) (se rfl)) (he := se rfl) (hpl := nst rfl)))) (pw_or (pt_cmpR op_ne (pe_callB call_len_seq rfl T.nlen PySem.boot_len (pa_cons (pv 2) pa_nil (se rfl)) (he := se rfl) (hpl := nst rfl)) pe_int (nomark _)) (pw_or1 (pt_not (pt_val (pe_callB call_isi rfl T.nisi PyProof.Rows.boot_isinstance (pa_cons (pe_ix ix_seq (pv 2) pe_int (fun _ _ => rfl)) (pa_cons (pe_bltn (v := .ty "str") rfl T.nstr PyProof.Rows.boot_str rfl) pa_nil (se rfl)) (se rfl)) (he := se rfl) (hpl := nst rfl)))))))) (pss_one (ps_ret pe_bl)) pss_nil)
    (pss_one (ps_if (PW.pt (pw_or (pt_not (pt_val (pe_callD D_law_whole (hr.mono (by decide)) rfl (pa_cons (pe_ix ix_seq (pv 2) pe_int (fun _ _ => rfl)) pa_nil (se rfl)) (he := se rfl) (hpl := nst rfl)))) (pw_or1 (pt_not (pt_val (pe_callD D_law_whole (hr.mono (by decide)) rfl (pa_cons (pe_ix ix_seq (pv 2) pe_int (fun _ _ => rfl)) pa_nil (se rfl)) (he := se rfl) (hpl := nst rfl))))))) (pss_one (ps_ret pe_bl)) pss_nil))))
    (pss_one (ps_ret (pe_and (pe_cmpR (op_eqD hr.units) (pe_ix ix_seq (pv 0) pe_int (fun _ _ => rfl)) (pe_ix ix_seq (pv 1) pe_int (fun _ _ => rfl)) (nomark _)) (pe_one (pe_callD D_law_alike (hr.mono (by decide)) rfl (pa_cons (pe_ix ix_seq (pv 0) pe_int (fun _ _ => rfl)) (pa_cons (pe_ix ix_seq (pv 1) pe_int (fun _ _ => rfl)) pa_nil (se rfl)) (se rfl)) (he := se rfl) (hpl := nst rfl)))))))), ?_⟩
  walk_at "rd"
  refine i_isiT hp T.kTT ?_
  walk_at "rd"
  refine ⟨_, _, rfl, .inr (.inl (.inl hp)), ?_⟩
  walk_at "rd"
  rw [decide_eq_true (show V.int (([V.ref mp, V.ref bp].length : Nat) : Int) = V.int 2 from rfl)]
  walk_at "rd"
  refine i_ixT (.inl (.inl hp)) (show atI _ 0 = some (.ref mp) from rfl) ?_
  walk_at "rd"
  refine i_isiL hmp T.kLL ?_
  walk_at "rd"
  try dsimp only
  refine i_for (i_list ?_)
  walk_at "rd"
  refine i_ixT (.inl (.inl hp)) (show atI _ 0 = some (.ref mp) from rfl) ?_
  refine ⟨mp, rfl, ⟨us, sqL_inj_of hmp⟩, ?_⟩
  refine for_list (xs := us) (fun i σ H' => H' = H ∧ ∃ x, σ = [some (.ref p), some (.ref dq), x]) ⟨rfl, none, rfl⟩ (fun i σ H' _ h => by rw [h.1]; exact sqL_inj_of hmp) ?_ ?_
  · rintro i u σ H' hui ⟨rfl, x, rfl⟩
    obtain ⟨ta, l', g1, rfl, hta⟩ := hT1.get hui
    rw [List.getElem?_map] at g1
    have hil : i < l.length := by rw [← lus]; exact (List.getElem?_eq_some_iff.mp hui).1
    rw [List.getElem?_eq_getElem hil] at g1
    cases g1
    generalize l[i] = tl at *
    have hta' : H' ta = some (.tup [.str tl.1, .int (tl.2.1 : Int), .int tl.2.2]) := hta
    walk_at "rd"
    refine i_isiT hta' T.kTT ?_
    walk_at "rd"
    refine ⟨_, _, rfl, .inr (.inl (.inl hta')), ?_⟩
    walk_at "rd"
    rw [decide_eq_true (show V.int (([V.str tl.1, V.int (tl.2.1 : Int), V.int tl.2.2].length : Nat) : Int) = V.int 3 from rfl)]
    walk_at "rd"
    refine i_ixT (.inl (.inl hta')) (show atI _ 0 = some (.str tl.1) from rfl) ?_
    walk_at "rd"
    refine ⟨_, _, _, _, rfl, rfl, .str tl.1, T.kSS, ?_⟩
    walk_at "rd"
    try dsimp only
    walk_at "rd"
    refine i_ixT (.inl (.inl hta')) (show atI _ 1 = some (.int (tl.2.1 : Int)) from rfl) ?_
    walk_at "rd"
    refine ⟨_, rfl, ?_⟩
    walk_at "rd"
    refine i_ixT (.inl (.inl hta')) (show atI _ 2 = some (.int tl.2.2) from rfl) ?_
    walk_at "rd"
    refine ⟨_, rfl, ?_⟩
    walk_at "rd"
    exact ⟨rfl, _, rfl⟩
  · rintro σ H' ⟨rfl, x, rfl⟩
    walk_at "rd"
    try dsimp only
    walk_at "rd"
    refine i_ixT (.inl (.inl hp)) (show atI _ 0 = some (.ref mp) from rfl) ?_
    walk_at "rd"
    refine i_ixL (sqL_inj_of hdq) (show atI _ 0 = some (.ref tp) from rfl) ?_
    have d1 : DRel K H' (.l (l.map tlDV)) (.ref mp) := by simp only [DRel]; exact ⟨mp, us, rfl, sqL_inj_of hmp, ts_drel hT1⟩
    have d2 : DRel K H' (.l (l.map tlDV)) (.ref tp) := by simp only [DRel]; exact ⟨tp, ws, rfl, sqL_inj_of htp, ts_drel hT2⟩
    have dd : dep (.l (l.map tlDV)) ≤ 20 := by have := deps_tl l; simp only [dep]; omega
    have d0 : 0 < dep (.l (l.map tlDV)) := by simp only [dep]; omega
    refine ⟨_, _, d1, d2, dd, d0, d0, ?_⟩
    rw [if_neg (by decide), deq_self _ K H' _ d1]
    walk_at "rd"
    refine i_ixT (.inl (.inl hp)) (show atI _ 1 = some (.ref bp) from rfl) ?_
    walk_at "rd"
    refine i_ixL (sqL_inj_of hdq) (show atI _ 1 = some (.ref bq) from rfl) ?_
    walk_at "rd"
    refine ⟨bp, bq, bs, rfl, hbp, hbq, hbl, ?_⟩
    walk_at "rd"
    exact q
structure Shw (k W : Nat) (x : PyData) : Prop where
  s : x.showable = true
  d : x.depth ≤ k
  l : x.leavesShort 62 = true
  w : x.weight ≤ W
structure ShwA (k W : Nat) (ds : List PyData) : Prop where
  s : PyData.showableAll ds = true
  d : PyData.depthAll ds ≤ k
  l : PyData.leavesShortAll 62 ds = true
  w : PyData.weightAll ds ≤ W
theorem shw_int {x : Int} {k : Nat} (h : x.natAbs < 2 ^ k) (hk : k ≤ 200) (h60 : x.natAbs < 10 ^ 60) : Shw 0 k (.int x) := by
  have hlog : x ≠ 0 → x.natAbs.log2 < k := fun h0 => (Nat.log2_lt (by omega)).mpr h
  refine ⟨?_, ?_, ?_, ?_⟩
  · simp only [PyData.showable, decide_eq_true_eq]
    by_cases h0 : x = 0
    · subst h0; decide
    · have := hlog h0; omega
  · simp only [PyData.depth]; exact Nat.le_refl _
  · simp only [PyData.leavesShort, decide_eq_true_eq]
    have e := int_text_length_le10 (k := 60) (by decide) h60
    show (Str.ofString (toString x)).length ≤ 62
    rw [ofString_length]; omega
  · simp only [PyData.weight]
    by_cases h0 : x = 0
    · subst h0; exact Nat.zero_le _
    · rw [if_neg (by simpa using h0)]
      have := hlog h0; omega
theorem shw_60 {x : Int} (h : Sm60 x) : Shw 0 200 (.int x) := shw_int (Nat.lt_trans h (by decide +kernel)) (Nat.le_refl _) h
theorem shw_small {n : Nat} (h : n < 8) : Shw 0 3 (.int (n : Int)) := shw_int (by rw [Int.natAbs_natCast]; exact h) (by decide) (by rw [Int.natAbs_natCast]; exact Nat.lt_trans h (by decide))
theorem shw_str {z : Str} {w : Nat} (h : z.cps.size ≤ w) (hc : (z.cps.toList.all fun c => decide (c < 16 ^ 8)) = true) : Shw 0 w (.str z) :=
  ⟨by simp only [PyData.showable], by simp only [PyData.depth]; exact Nat.le_refl _, by simp only [PyData.leavesShort]; exact hc, by simp only [PyData.weight]; exact h⟩
theorem Shw.mono {k k' W W' : Nat} {d : PyData} (h : Shw k W d) (hk : k ≤ k') (hw : W ≤ W') : Shw k' W' d := ⟨h.s, Nat.le_trans h.d hk, h.l, Nat.le_trans h.w hw⟩
theorem shwA_nil {k : Nat} : ShwA k 0 [] := ⟨by simp only [PyData.showableAll], by simp only [PyData.depthAll]; exact Nat.zero_le _, by simp only [PyData.leavesShortAll], by simp only [PyData.weightAll]; exact Nat.le_refl _⟩
theorem shwA_cons {k w W : Nat} {d : PyData} {ds : List PyData} (h : Shw k w d) (r : ShwA k W ds) : ShwA k (w + 1 + W) (d :: ds) :=
  ⟨by simp only [PyData.showableAll, h.s, r.s, Bool.and_self], by simp only [PyData.depthAll]; exact Nat.max_le.mpr ⟨h.d, r.d⟩, by simp only [PyData.leavesShortAll, h.l, r.l, Bool.and_self], by simp only [PyData.weightAll]; have := h.w; have := r.w; omega⟩
theorem shwA_all {k w : Nat} : ∀ {ds : List PyData}, (∀ d ∈ ds, Shw k w d) → ShwA k (ds.length * (w + 1)) ds
  | [], _ => by rw [List.length_nil, Nat.zero_mul]; exact shwA_nil
  | d :: ds, h => by
    have := shwA_cons (h d List.mem_cons_self) (shwA_all (ds := ds) fun x hx => h x (List.mem_cons_of_mem _ hx))
    rw [List.length_cons, Nat.add_mul, Nat.one_mul, Nat.add_comm (ds.length * (w + 1))]
    exact this
theorem ShwA.mono {k W W' : Nat} {ds : List PyData} (h : ShwA k W ds) (hw : W ≤ W') : ShwA k W' ds := ⟨h.s, h.d, h.l, Nat.le_trans h.w hw⟩
theorem ShwA.list {k W : Nat} {ds : List PyData} (h : ShwA k W ds) : Shw (k + 1) W (.list ds) := ⟨by simp only [PyData.showable]; exact h.s, by simp only [PyData.depth]; have := h.d; omega, by simp only [PyData.leavesShort]; exact h.l, by simp only [PyData.weight]; exact h.w⟩
theorem ShwA.tuple {k W : Nat} {ds : List PyData} (h : ShwA k W ds) : Shw (k + 1) W (.tuple ds) := ⟨by simp only [PyData.showable]; exact h.s, by simp only [PyData.depth]; have := h.d; omega, by simp only [PyData.leavesShort]; exact h.l, by simp only [PyData.weight]; exact h.w⟩
theorem shw_many {α : Type} {k w n : Nat} {f : α → PyData} {l : List α} (hl : l.length ≤ n) (h : ∀ x ∈ l, Shw k w (f x)) : Shw (k + 1) (n * (w + 1)) (.list (l.map f)) := by
  have := shwA_all (k := k) (w := w) (ds := l.map f) fun d hd => by
    obtain ⟨x, hx, e⟩ := List.mem_map.mp hd
    rw [← e]; exact h x hx
  refine (this.mono ?_).list
  rw [List.length_map]
  exact Nat.mul_le_mul_right _ hl
theorem shw_rx {nb : Nat} (n6 : nb ≤ 6) {r : Rx} (h : RxOk nb r) : Shw 1 200 (rxD r) := by
  cases r with
  | num i =>
    have hi : 0 ≤ i ∧ i < 10 ^ 60 := h
    have e60 : (10 : Int) ^ 60 = ((10 ^ 60 : Nat) : Int) := by rw [Int.natCast_pow]; rfl
    refine (shw_60 ?_).mono (by decide) (Nat.le_refl _)
    unfold Sm60
    rw [e60] at hi
    omega
  | box n =>
    have hn : n < nb := h
    have := (shwA_cons ((shw_str (z := Str.ofString "box") (w := 3) (by decide +kernel) (by decide +kernel)).mono (Nat.zero_le 0) (Nat.le_refl _)) (shwA_cons (shw_small (n := n) (by omega)) shwA_nil)).tuple
    exact this.mono (by decide) (by decide)
theorem word_str (d : Dk) : Shw 0 5 (.str d.word) := by cases d <;> exact shw_str (by decide +kernel) (by decide +kernel)
theorem shw_sx {nb : Nat} (n6 : nb ≤ 6) {s : Sx} (h : SxOk nb s) : Shw 3 626 (sxD s) := by
  have w3 := wants3 s.d
  have hr := shw_many (n := 3) (f := rxD) (l := s.reads) (by rw [h.many]; exact w3) fun r hr => shw_rx n6 (h.reads r hr)
  have d6 := h.d6; have hb := h.box; have ho := h.off
  have hn : Shw 0 2 (.str s.name) := by rcases h.name with e | e <;> rw [e] <;> exact shw_str (by decide +kernel) (by decide +kernel)
  have := (shwA_cons ((word_str s.d).mono (Nat.zero_le 2) (Nat.le_refl _)) (shwA_cons ((shw_small (n := s.delay) (by omega)).mono (Nat.zero_le 2) (Nat.le_refl _)) (shwA_cons ((shw_small (n := s.box) (by omega)).mono (Nat.zero_le 2) (Nat.le_refl _)) (shwA_cons hr (shwA_cons (hn.mono (Nat.zero_le 2) (Nat.le_refl _)) (shwA_cons ((shw_small (n := s.off) (by omega)).mono (Nat.zero_le 2) (Nat.le_refl _)) shwA_nil)))))).tuple
  exact this.mono (by decide) (by decide)
theorem shw_part {nb : Nat} (n6 : nb ≤ 6) {p : Part} (h : PartOk nb p) : Shw 5 5646 (partD p) :=
  (shw_many (n := 3) (f := tickD) h.len fun l hl => (shw_many (n := 3) (f := sxD) (h.each l hl).1 fun s hs => shw_sx n6 ((h.each l hl).2 s hs))).mono (by decide) (by decide)
theorem shw_nums {l : List Int} {n : Nat} (hl : l.length ≤ n) (h : ∀ x ∈ l, Sm60 x) : Shw 1 (n * 201) (numsD l) := shw_many hl fun x hx => shw_60 (h x hx)
def allD (S : Sh) (F : Fx) (bs : List Int) : PyData := .list [.list (S.shorts.map partD), partD S.ahead, partD S.middle, .list (S.tails.map partD), feedsD F, numsD bs]
theorem shw_all {nb : Nat} (n6 : nb ≤ 6) {S : Sh} {F : Fx} {bs : List Int} (hS : ShOk nb S) (hi : F.fi.length ≤ 326) (ho : F.fo.length ≤ 331) (hb : bs.length ≤ 6) (fi : ∀ x ∈ F.fi, Sm60 x) (fo : ∀ x ∈ F.fo, Sm60 x) (fb : ∀ x ∈ bs, Sm60 x) : Shw 40 180000 (allD S F bs) := by
  have a1 := (shw_many (n := 2) (f := partD) (l := S.shorts) (by have := hS.ls; have := hS.s3; omega) fun p hp => shw_part n6 (hS.sh p hp)).mono (show 6 ≤ 39 by decide) (Nat.le_refl _)
  have a2 := (shw_part n6 hS.ah).mono (show 5 ≤ 39 by decide) (Nat.le_refl _)
  have a3 := (shw_part n6 hS.mi).mono (show 5 ≤ 39 by decide) (Nat.le_refl _)
  have a4 := (shw_many (n := 3) (f := partD) (l := S.tails) (by have := hS.lt; have := hS.h3; omega) fun p hp => shw_part n6 (hS.ta p hp)).mono (show 6 ≤ 39 by decide) (Nat.le_refl _)
  have b1 := shw_nums hi fi
  have b2 := shw_nums ho fo
  have z1 := shw_str (z := Str.ofString "in") (w := 2) (by decide +kernel) (by decide +kernel)
  have z2 := shw_str (z := Str.ofString "on") (w := 2) (by decide +kernel) (by decide +kernel)
  have a5 : Shw 39 132100 (feedsD F) := by
    refine ⟨?_, ?_, ?_, ?_⟩
    · simp only [feedsD, PyData.showable, PyData.showableKv, z1.s, z2.s, b1.s, b2.s, Bool.and_self]
    · have := b1.d; have := b2.d; have := z1.d; have := z2.d
      simp only [feedsD, PyData.depth, PyData.depthKv] at *
      omega
    · show PyData.leavesShortKv 62 [(.str (Str.ofString "in"), numsD F.fi), (.str (Str.ofString "on"), numsD F.fo)] = true
      simp only [PyData.leavesShortKv, z1.l, z2.l, b1.l, b2.l, Bool.and_self]
    · have h1 := b1.w; have h2 := b2.w; have h3 := z1.w; have h4 := z2.w
      show PyData.weightKv [(.str (Str.ofString "in"), numsD F.fi), (.str (Str.ofString "on"), numsD F.fo)] ≤ 132100
      simp only [PyData.weightKv]
      omega
  have a6 := (shw_nums hb fb).mono (show 1 ≤ 39 by decide) (Nat.le_refl _)
  exact (shwA_cons a1 (shwA_cons a2 (shwA_cons a3 (shwA_cons a4 (shwA_cons a5 (shwA_cons a6 shwA_nil)))))).list.mono (by decide) (by decide)
theorem shw_size {d : PyData} (h : Shw 40 180000 d) : d.shown.length ≤ sizeLine := by
  have h1 := PyData.shown_le 62 (by decide) d h.l
  have h2 := h.w
  rw [sizeLine_eq]
  omega
theorem lcNB {J : It} {n : Nat} {xs : Nat → V} {te : TE} {cs : St} {H1 : Hp} {Q : Addr → Hp → Prop} (L : LcIt J n H1 xs) (Pe : Addr → Nat → V → Hp → Prop) (hz : n ≤ sizeLine)
    (hm : ∀ D i y H H', SameB D H H' → Pe D i y H → Pe D i y H')
    (hx : ∀ (D : Addr) (i : Nat) (H' : Hp) (R : VK), i < n → H1 D = none → (∃ ys, H' D = some (.lst ys)) → Same H1 H' → (∀ y H'', Same H' H'' → Pe D i y H'' → R y H'') → te (some (xs i) :: cs) H' R)
    (q : ∀ D ys H2, H1 D = none → D ≠ sysModules → Same H1 H2 → H2 D = some (.lst ys) → ys.length = n → (∀ i y, ys[i]? = some y → Pe D i y H2) → Q D H2) :
    ∀ D, H1 D = none → D ≠ sysModules → ∃ W : Nat → Nat → List V → Hp → Prop, (∃ m, W 0 m [] (upd H1 D (.lst []))) ∧ ∀ i m ys H, W i m ys H →
      H D = some (.lst ys) ∧ ((J.stop i H ∧ Q D H) ∨ (J.go i H ∧ ys.length < sizeLine ∧ ∀ x H', J.yld i H x H' → tYes (some x :: cs) H' fun b H2 =>
        if b = true then te (some x :: cs) H2 fun y H3 => H3 D = some (.lst ys) ∧ ∃ m', m' < m ∧ W (i + 1) m' (ys ++ [y]) (upd H3 D (.lst (ys ++ [y]))) else ∃ m', m' < m ∧ W (i + 1) m' ys H2)) := by
  intro D hD hs
  obtain ⟨W, w0, turn⟩ := lcN (Q := fun D H => D ≠ sysModules → Q D H) L Pe hz hm hx (fun D ys H2 h1 h2 h3 h4 h5 h6 => q D ys H2 h1 h6 h2 h3 h4 h5) D hD
  refine ⟨W, w0, fun i m ys H h => ?_⟩
  obtain ⟨a, b⟩ := turn i m ys H h
  refine ⟨a, ?_⟩
  rcases b with ⟨c, d⟩ | b
  · exact .inl ⟨c, d hs⟩
  · exact .inr b
theorem i_disp {trs : List (TE × TE)} {σ : St} {H : Hp} {Q : VK} (q : ∀ p, H p = none → tPairs trs σ (upd H p (.dK [])) fun ps H2 => H2 p = some (.dK []) ∧ ∃ kvs : List (Key × V), ps = kvs.map (fun kv => (L2.kV kv.1, kv.2)) ∧ kvs.length ≤ 15 ∧ Q (.ref p) (upd H2 p (.dK (mergeK [] kvs)))) : tDisp trs σ H Q := q
theorem i_pair {tk tv : TE} {r : List (TE × TE)} {σ : St} {H : Hp} {Q : List (V × V) → Hp → Prop} (q : tk σ H fun x H1 => tv σ H1 fun y H2 => tPairs r σ H2 fun ps H3 => Q ((x, y) :: ps) H3) : tPairs ((tk, tv) :: r) σ H Q := q
theorem i_pnil {σ : St} {H : Hp} {Q : List (V × V) → Hp → Prop} (q : Q [] H) : tPairs [] σ H Q := q
theorem parts_list {H : Hp} {nb : Nat} : ∀ {ys : List V}, (∀ (i : Nat) (y : V), ys[i]? = some y → ∃ p, Rp H y (partD p) ∧ PartOk nb p) → ∃ ps : List Part, RpA H ys (ps.map partD) ∧ ps.length = ys.length ∧ ∀ p ∈ ps, PartOk nb p
  | [], _ => ⟨[], .nil, rfl, fun p h => by simp at h⟩
  | y :: ys, h => by
    obtain ⟨p, h1, h2⟩ := h 0 y rfl
    obtain ⟨ps, g1, g2, g3⟩ := parts_list (ys := ys) fun i z hz => h (i + 1) z (by simpa using hz)
    refine ⟨p :: ps, .cons h1 g1, by rw [List.length_cons, List.length_cons, g2], fun x hx => ?_⟩
    rcases List.mem_cons.mp hx with e | e
    · rw [e]; exact h2
    · exact g3 x e
theorem hidB {D : Addr} {H H' : Hp} (s : SameB D H H') : Same (hid [D] H) (hid [D] H') := fun b o e => by
  obtain ⟨m, e1⟩ := hid_of e
  rw [hid_eq m]; exact s b o (by simpa using m) e1
theorem out_hid {D : Addr} {H H' : Hp} {o : HO} (h : H D = some o) : Same (out H H') (hid [D] H') := fun b u e => by
  obtain ⟨e1, e2⟩ := out_of e
  rw [hid_eq (by
    intro m
    rw [List.mem_singleton.mp m, h] at e1; cases e1)]; exact e2
theorem hid_same {D : Addr} {H : Hp} : Same (hid [D] H) H := fun b o e => (hid_of e).2
theorem parts_ok {nb : Nat} {S : Sh} {n : Nat} (hok : ShOk nb S) : (∀ x ∈ partsOf S n, PartOk nb x.1 ∧ x.2 ≤ n) ∧ (partsOf S n).length ≤ n + 3 := by
  have h1 := hok.h1; have s1 := hok.s1
  constructor
  · intro x hx
    unfold partsOf at hx
    split at hx
    · rename_i hlt
      have hnl : n < S.shorts.length := by rw [hok.ls]; omega
      rw [show x = (S.shorts.getD n [], 0) by simpa using hx]
      refine ⟨?_, Nat.zero_le _⟩
      show PartOk nb (S.shorts.getD n [])
      rw [List.getD, List.getElem?_eq_getElem hnl]; exact hok.sh _ (List.getElem_mem hnl)
    · have hmul : S.held * ((n + 1 - S.stages) / S.held) ≤ n + 1 - S.stages := Nat.mul_div_le _ _
      rcases List.mem_append.mp hx with h | h
      · rcases List.mem_append.mp h with h | h
        · rw [show x = (S.ahead, 0) by simpa using h]; exact ⟨hok.ah, Nat.zero_le _⟩
        · obtain ⟨y, hy, e⟩ := List.mem_map.mp h
          rw [← e]
          refine ⟨hok.mi, ?_⟩
          have := Nat.mul_le_mul_left S.held (Nat.le_of_lt (List.mem_range.mp hy))
          show S.held * y ≤ n
          omega
      · have hml : (n + 1 - S.stages) % S.held < S.tails.length := by rw [hok.lt]; exact Nat.mod_lt _ (by omega)
        rw [show x = _ from List.mem_singleton.mp h]
        refine ⟨?_, by show S.held * _ ≤ n; omega⟩
        show PartOk nb (S.tails.getD _ [])
        rw [List.getD, List.getElem?_eq_getElem hml]; exact hok.ta _ (List.getElem_mem hml)
  · unfold partsOf
    split
    · show 1 ≤ n + 3; omega
    · rw [List.length_append, List.length_append, List.length_map, List.length_range]
      have := Nat.div_le_self (n + 1 - S.stages) S.held
      show 1 + _ + 1 ≤ n + 3; omega
theorem at_turns {c e : Int} {n : Nat} (he : 0 ≤ e) : ∃ mv : Int, atI [V.int (-1), V.int 301, V.int (-(n : Int) - 1), V.int (301 + e)] (c % 4) = some (.int mv) ∧ (mv < 0 ∨ 300 < mv) := by
  have b := mod_b c (show (0 : Int) < 4 by decide)
  have h4 : c % 4 = 0 ∨ c % 4 = 1 ∨ c % 4 = 2 ∨ c % 4 = 3 := by omega
  rcases h4 with h | h | h | h <;> rw [h]
  · exact ⟨_, rfl, by omega⟩
  · exact ⟨_, rfl, by omega⟩
  · exact ⟨_, rfl, by omega⟩
  · exact ⟨_, rfl, by omega⟩
theorem finB_len {nb N : Nat} {M : Ms} (h : WfM nb N M) : (finB M).length = nb := by
  unfold finB
  have : ∀ k, ((List.range k).foldl (fun bs k => (M.du (M.c + k)).foldl putB bs) M.bs).length = nb := fun k => by
    induction k with
    | zero => exact h.len
    | succ k ih => rw [List.range_succ, List.foldl_append]; show ((M.du (M.c + k)).foldl putB _).length = nb; rw [puts_len]; exact ih
  exact this 7
theorem st_eq {t : TS} {D : Ends} {σ σ' : St} {H : Hp} (e : σ = σ') (q : t D σ' H) : t D σ H := e ▸ q
def spLaw (K : PySem.W.Frag) (ns : List Int) : Sp := fun vs H Q _ => ∃ a : Addr, vs = [.ref a] ∧ SqL K H a (ns.map V.int) ∧ ∀ H', Q (.bl true) H'
theorem ok_law {f : Addr} {fd : FuncData} (T : Txt K mg C CE) (F : Fun K "law" "law" st_law f fd) (Kb : K.In base) (G : base.Ns mainGlobals mg) {ns : List Int} (hl : ns.length ≤ 63) (hb : ∀ i ∈ ns, Builtin.Int.intBits i ≤ 1048576) : FnOk P w K mg base CX0 8 f fd ["_law_script"] (spLaw K ns) := by
  have D_law_cell_at : Df P w K mg base 1 "_law_cell_at" ["_law_script", "_law_k"] (spCell K) := d_cell T Kb G
  have D_law_mix : Df P w K mg base 1 "_law_mix" ["_law_cell", "_law_k"] spMix := d_mix T Kb G
  have D_law_part : Df P w K mg base 3 "_law_part" ["_law_script", "_law_at", "_law_boxes"] (spPart K) := d_part T Kb G
  have D_law_numbers : Df P w K mg base 2 "_law_numbers" ["_law_script", "_law_at", "_law_many"] (spNumbers K) := d_numbers T Kb G
  have D_law_parts : Df P w K mg base 1 "_law_parts" ["_law_held", "_law_stages", "_law_shorts", "_law_ahead", "_law_middle", "_law_tails", "_law_turns"] spParts := d_parts T Kb G
  have D_law_done : Df P w K mg base 3 "_law_done" ["_law_measure", "_law_parts_here", "_law_feeds", "_law_boxes"] spDone := d_done T Kb G
  have D_law_classes : Df P w K mg base 1 "_law_classes" ["_law_kept"] (spClasses CE) := d_classes T Kb G
  have D_law_pair_alike : Df P w K mg base 3 "_law_pair_alike" ["_law_found", "_law_due"] spPair := d_pair T Kb G
  have MSheet : MkI P w K mg base 1 (CE .Sheet) ["self", "pace", "held", "stages", "shorts", "ahead", "middle", "tails"] (spSheet (CE .Sheet)) := mk_sheet T
  have Drun : Df P w K mg base 3 "run" ["measure", "sheet", "turns", "feeds", "boxes"] (spRun (CE .Sheet)) := d_run T Kb G
  have DrunX : DfX P w K mg base 3 "run" ["measure", "sheet", "turns", "feeds", "boxes"] (spRunX CE) := d_runX T Kb G
  refine (F.ok sc_law (k := 7) (by rintro vs H Q E ⟨a, rfl, _⟩; rfl) (fun cdv A outer s H vs Q E hr h => ?_)).mono (by decide)
  obtain ⟨a, rfl, hS, q⟩ := h
  refine ⟨_, (pss_cons (ps_set (i := 1) sc_law.nd rfl (by first | exact Or.inl rfl | exact Or.inr rfl) (pe_callD D_law_mix (hr.mono (by decide)) rfl (pa_cons (pe_callD D_law_cell_at (hr.mono (by decide)) rfl (pa_cons (pv 0) (pa_cons pe_int pa_nil (se rfl)) (se rfl)) (he := se rfl) (hpl := nst rfl)) (pa_cons pe_int pa_nil (se rfl)) (se rfl)) (he := se rfl) (hpl := nst rfl)))
    (pss_cons (ps_set (i := 2) sc_law.nd rfl (by first | exact Or.inl rfl | exact Or.inr rfl) (pe_op op_add pe_int (pe_op op_mod (pv 1) pe_int)))
    (pss_cons (ps_set (i := 3) sc_law.nd rfl (by first | exact Or.inl rfl | exact Or.inr rfl) (pe_op op_add pe_int (pe_op op_mod (pe_op op_fdiv (pv 1) pe_int) pe_int)))
    (pss_cons (ps_set (i := 4) sc_law.nd rfl (by first | exact Or.inl rfl | exact Or.inr rfl) (pe_op op_add pe_int (pe_op op_mod (pe_op op_fdiv (pv 1) pe_int) pe_int)))
    (pss_cons (ps_set (i := 5) sc_law.nd rfl (by first | exact Or.inl rfl | exact Or.inr rfl) (pe_op op_mod (pe_op op_fdiv (pv 1) pe_int) pe_int))
    (pss_cons (ps_join (ps_if (pt_cmpR op_eq (pe_op op_mod (pe_op op_fdivB (pv 1) (pe_op op_pow pe_int pe_int)) pe_int) pe_int (nomark _)) (pss_one (ps_set (i := 5) sc_law.nd rfl (by first | exact Or.inl rfl | exact Or.inr rfl) pe_int)) pss_nil))
    (pss_cons (ps_set (i := 6) sc_law.nd rfl (by first | exact Or.inl rfl | exact Or.inr rfl) (pe_op op_add pe_int (pe_op op_mod (pe_callD D_law_cell_at (hr.mono (by decide)) rfl (pa_cons (pv 0) (pa_cons pe_int pa_nil (se rfl)) (se rfl)) (he := se rfl) (hpl := nst rfl)) (pe_op op_sub (pe_op op_pow pe_int pe_int) pe_int))))
    (pss_cons (ps_join (ps_if (pt_cmpR op_eq (pe_op op_mod (pe_op op_fdiv (pv 1) pe_int) pe_int) pe_int (nomark _)) (pss_one (ps_set (i := 6) sc_law.nd rfl (by first | exact Or.inl rfl | exact Or.inr rfl) (pe_op op_add pe_int (pe_op op_mod (pe_op op_fdiv (pv 1) pe_int) pe_int)))) pss_nil))
    (pss_cons (ps_lcB (i := 7) sc_law.nd rfl rfl (by with_unfolding_all rfl) (Blk.of (caps := ["_law_script", "_law_boxes"]) (ix := [0, 2]) rfl) rfl (pi_range1 rfl T.nrange (pa_cons (pe_op op_sub (pv 4) pe_int) pa_nil (se rfl))) (fun _ _ _ _ => pf_nil) (fun _ _ _ _ => (pe_callD D_law_part (hr.mono (by decide)) rfl (pa_cons (pv 1) (pa_cons (pe_op op_add pe_int (pv 0)) (pa_cons (pv 2) pa_nil (se rfl)) (se rfl)) (se rfl)) (he := se rfl) (hpl := nst rfl))))
    (pss_cons (ps_set (i := 8) sc_law.nd rfl (by first | exact Or.inl rfl | exact Or.inr rfl) (pe_callD D_law_part (hr.mono (by decide)) rfl (pa_cons (pv 0) (pa_cons pe_int (pa_cons (pv 2) pa_nil (se rfl)) (se rfl)) (se rfl)) (he := se rfl) (hpl := nst rfl)))
    (pss_cons (ps_set (i := 9) sc_law.nd rfl (by first | exact Or.inl rfl | exact Or.inr rfl) (pe_callD D_law_part (hr.mono (by decide)) rfl (pa_cons (pv 0) (pa_cons pe_int (pa_cons (pv 2) pa_nil (se rfl)) (se rfl)) (se rfl)) (he := se rfl) (hpl := nst rfl)))
    (pss_cons (ps_lcB (i := 10) sc_law.nd rfl rfl (by with_unfolding_all rfl) (Blk.of (caps := ["_law_script", "_law_boxes"]) (ix := [0, 2]) rfl) rfl (pi_range1 rfl T.nrange (pa_cons (pv 3) pa_nil (se rfl))) (fun _ _ _ _ => pf_nil) (fun _ _ _ _ => (pe_callD D_law_part (hr.mono (by decide)) rfl (pa_cons (pv 1) (pa_cons (pe_op op_add pe_int (pv 0)) (pa_cons (pv 2) pa_nil (se rfl)) (se rfl)) (se rfl)) (he := se rfl) (hpl := nst rfl))))
    (pss_cons (ps_set (i := 11) sc_law.nd rfl (by first | exact Or.inl rfl | exact Or.inr rfl) (pe_disp (pps_cons pe_str (pe_callD D_law_numbers (hr.mono (by decide)) rfl (pa_cons (pv 0) (pa_cons pe_int (pa_cons (pe_op op_add pe_int (pv 5)) pa_nil (se rfl)) (se rfl)) (se rfl)) (he := se rfl) (hpl := nst rfl)) (pps_cons pe_str (pe_callD D_law_numbers (hr.mono (by decide)) rfl (pa_cons (pv 0) (pa_cons pe_int (pa_cons (pe_op op_add pe_int (pv 5)) pa_nil (se rfl)) (se rfl)) (se rfl)) (he := se rfl) (hpl := nst rfl)) pps_nil)) rfl rfl (by decide) (by decide)))
    (pss_cons (ps_set (i := 12) sc_law.nd rfl (by first | exact Or.inl rfl | exact Or.inr rfl) (pe_callD D_law_numbers (hr.mono (by decide)) rfl (pa_cons (pv 0) (pa_cons pe_int (pa_cons (pv 2) pa_nil (se rfl)) (se rfl)) (se rfl)) (he := se rfl) (hpl := nst rfl)))
    (pss_cons (ps_set (i := 13) sc_law.nd rfl (by first | exact Or.inl rfl | exact Or.inr rfl) (pe_makeI MSheet (hr.mono (by decide)) rfl T.mg_Sheet (pa_cons (pe_op op_add pe_int (pe_op op_mod (pe_op op_fdiv (pv 1) (pe_op op_pow pe_int pe_int)) pe_int)) (pa_cons (pv 3) (pa_cons (pv 4) (pa_cons (pv 7) (pa_cons (pv 8) (pa_cons (pv 9) (pa_cons (pv 10) pa_nil (se rfl)) (se rfl)) (se rfl)) (se rfl)) (se rfl)) (se rfl)) (se rfl)) (he := se rfl) (hpl := nst rfl)))
    (pss_cons (ps_set (i := 14) sc_law.nd rfl (by first | exact Or.inl rfl | exact Or.inr rfl) (pe_callB (call_repr hr.gd hr.units) rfl T.nrepr PyProof.Rows.boot_repr (pa_cons (pe_lstB (pa_cons (pv 7) (pa_cons (pv 8) (pa_cons (pv 9) (pa_cons (pv 10) (pa_cons (pv 11) (pa_cons (pv 12) pa_nil (se rfl)) (se rfl)) (se rfl)) (se rfl)) (se rfl)) (se rfl))) pa_nil (se rfl)) (he := se rfl) (hpl := nst rfl)))
    (pss_cons (ps_set (i := 15) sc_law.nd rfl (by first | exact Or.inl rfl | exact Or.inr rfl) (pe_callD D_law_done (hr.mono (by decide)) rfl (pa_cons (pv 6) (pa_cons (pe_callD D_law_parts (hr.mono (by decide)) rfl (pa_cons (pv 3) (pa_cons (pv 4) (pa_cons (pv 7) (pa_cons (pv 8) (pa_cons (pv 9) (pa_cons (pv 10) (pa_cons (pv 5) pa_nil (se rfl)) (se rfl)) (se rfl)) (se rfl)) (se rfl)) (se rfl)) (se rfl)) (he := se rfl) (hpl := nst rfl)) (pa_cons (pv 11) (pa_cons (pv 12) pa_nil (se rfl)) (se rfl)) (se rfl)) (se rfl)) (he := se rfl) (hpl := nst rfl)))
    (pss_cons (ps_join (ps_if (pt_cmpR op_eq (pe_op op_mod (pe_op op_fdiv (pv 1) (pe_op op_pow pe_int pe_int)) pe_int) pe_int (nomark _)) (pss_one (ps_set (i := 5) sc_law.nd rfl (by first | exact Or.inl rfl | exact Or.inr rfl) (pe_ix ix_seq (pe_lstA (pa_cons (pe_un un_neg pe_int) (pa_cons pe_int (pa_cons (pe_op op_sub (pe_un un_neg (pv 5)) pe_int) (pa_cons (pe_op op_add pe_int (pe_op op_fdiv (pv 1) (pe_op op_pow pe_int pe_int))) pa_nil (se rfl)) (se rfl)) (se rfl)) (se rfl))) (pe_op op_mod (pe_op op_fdiv (pv 1) pe_int) pe_int) (fun _ _ => rfl)))) pss_nil))
    (pss_cons (ps_set (i := 16) sc_law.nd rfl (by first | exact Or.inl rfl | exact Or.inr rfl) pe_non)
    (pss_cons (ps_set (i := 17) sc_law.nd rfl (by first | exact Or.inl rfl | exact Or.inr rfl) pe_non)
    (pss_cons (ps_join (ps_try (i := 18) ⟨rfl, rfl⟩ rfl sc_law.nd rfl rfl T.lapB T.lapT rfl T.mg_LapError (fun _ ES => (pss_one (ps_set (i := 17) sc_law.nd rfl (by first | exact Or.inl rfl | exact Or.inr rfl) (pe_callOr (ES := ES) Drun DrunX (hr.mono (by decide)) (hr.mono (by decide)) (fun _ _ z => z) rfl (pa_cons (pv 6) (pa_cons (pv 13) (pa_cons (pv 5) (pa_cons (pv 11) (pa_cons (pv 12) pa_nil (se rfl)) (se rfl)) (se rfl)) (se rfl)) (se rfl)) (he := se rfl) (hpl := nst rfl))))) (fun _ _ => (pss_one (ps_set (i := 16) sc_law.nd rfl (by first | exact Or.inl rfl | exact Or.inr rfl) (pv 18))))))
    (pss_cons (ps_if (PW.pt (pw_or (pt_cmpR op_lt (pv 5) pe_int (nomark _)) (pw_or1 (pt_cmpR op_gt (pv 5) pe_int (nomark _))))) (pss_one (ps_ret (pe_cmpR op_eq (pe_callD D_law_classes (hr.mono (by decide)) rfl (pa_cons (pv 16) pa_nil (se rfl)) (he := se rfl) (hpl := nst rfl)) pe_int (nomark _)))) pss_nil)
    (pss_cons (ps_if (PW.pt (pw_or (pt_cmpR op_notN (pv 16) pe_non (nomark _)) (pw_or1 (pt_cmpR op_ne (pe_callB (call_repr hr.gd hr.units) rfl T.nrepr PyProof.Rows.boot_repr (pa_cons (pe_lstB (pa_cons (pv 7) (pa_cons (pv 8) (pa_cons (pv 9) (pa_cons (pv 10) (pa_cons (pv 11) (pa_cons (pv 12) pa_nil (se rfl)) (se rfl)) (se rfl)) (se rfl)) (se rfl)) (se rfl))) pa_nil (se rfl)) (he := se rfl) (hpl := nst rfl)) (pv 14) (nomark _))))) (pss_one (ps_ret pe_bl)) pss_nil)
    (pss_one (ps_ret (pe_callD D_law_pair_alike (hr.mono (by decide)) rfl (pa_cons (pv 17) (pa_cons (pv 15) pa_nil (se rfl)) (se rfl)) (he := se rfl) (hpl := nst rfl))))))))))))))))))))))))))), ?_⟩
  refine st_eq (σ' := [some (.ref a), none, none, none, none, none, none, none, none, none, none, none, none, none, none, none, none, none, none]) rfl ?_
  have lb := line_big
  clear hl hb
  walk_at "rd"
  refine ⟨a, ns, 0, rfl, hS, fun c => ?_⟩
  walk_at "rd"
  refine ⟨c, 0, rfl, by decide, fun hd => ?_⟩
  walk_at "rd"
  try dsimp only
  walk_at "rd"
  have eb : (1 : Int) + (hd : Int) % 6 = ((1 + hd % 6 : Nat) : Int) := by omega
  have eh : (1 : Int) + (hd : Int) / 6 % 3 = ((1 + hd / 6 % 3 : Nat) : Int) := by omega
  have es : (1 : Int) + (hd : Int) / 18 % 3 = ((1 + hd / 18 % 3 : Nat) : Int) := by omega
  have et : (hd : Int) / 54 % 15 = ((hd / 54 % 15 : Nat) : Int) := by omega
  rw [eb, eh, es, et]
  have nb1 : 1 ≤ 1 + hd % 6 := by omega
  have nb6 : 1 + hd % 6 ≤ 6 := by omega
  have he1 : 1 ≤ 1 + hd / 6 % 3 := by omega
  have he3 : 1 + hd / 6 % 3 ≤ 3 := by omega
  have st1 : 1 ≤ 1 + hd / 18 % 3 := by omega
  have st3 : 1 + hd / 18 % 3 ≤ 3 := by omega
  have tn14 : hd / 54 % 15 ≤ 300 := by omega
  clear eb eh es et
  generalize 1 + hd % 6 = nb at *
  generalize 1 + hd / 6 % 3 = he at *
  generalize 1 + hd / 18 % 3 = sg at *
  generalize hd / 54 % 15 = tn at *
  try dsimp only
  refine i_join (fun σ' H' => H' = H ∧ ∃ n : Nat, n ≤ 300 ∧ σ' = [some (.ref a), some (.int (hd : Int)), some (.int (nb : Int)), some (.int (he : Int)), some (.int (sg : Int)), some (.int (n : Int)), none, none, none, none, none, none, none, none, none, none, none, none, none]) ?_ ?_
  · walk_at "rd"
    refine i_divB (by decide +kernel) ?_
    walk_at "rd"
    refine i_iteI (fun _ => ?_) (fun _ => ?_)
    · walk_at "rd"
      exact ⟨rfl, 300, Nat.le_refl _, rfl⟩
    · walk_at "rd"
      exact ⟨rfl, tn, tn14, rfl⟩
  rintro σ1 H1 ⟨rfl, n, hn, rfl⟩
  walk_at "rd"
  refine ⟨a, ns, 1, rfl, hS, fun c1 => ?_⟩
  walk_at "rd"
  have bm := mod_b c1 (show (0 : Int) < 10 ^ (60 : Int).toNat - 1 by decide +kernel)
  have e60 : (10 : Int) ^ (60 : Int).toNat = 10 ^ 60 := rfl
  generalize c1 % (10 ^ (60 : Int).toNat - 1) = cm at *
  rw [e60] at bm
  try dsimp only
  refine i_join (fun σ' H' => H' = H1 ∧ ∃ m : Int, 2 ≤ m ∧ m ≤ 10 ^ 60 ∧ σ' = [some (.ref a), some (.int (hd : Int)), some (.int (nb : Int)), some (.int (he : Int)), some (.int (sg : Int)), some (.int (n : Int)), some (.int m), none, none, none, none, none, none, none, none, none, none, none, none]) ?_ ?_
  · walk_at "rd"
    refine i_iteI (fun _ => ?_) (fun _ => ?_)
    · walk_at "rd"
      have b30 := mod_b ((hd : Int) / 2430) (show (0 : Int) < 30 by decide)
      have e32 : (32 : Int) ≤ 10 ^ 60 := by decide +kernel
      exact ⟨rfl, 2 + (hd : Int) / 2430 % 30, by omega, by omega, rfl⟩
    · walk_at "rd"
      exact ⟨rfl, _, by omega, by omega, rfl⟩
  rintro σ2 H2 ⟨rfl, m, m2, m60, rfl⟩
  clear bm
  walk_at "rd"
  refine i_setLc (i_lcB (i_rng1 ?_))
  walk_at "rd"
  have e1 : (sg : Int) - 1 = ((sg - 1 : Nat) : Int) := by omega
  rw [e1]
  refine ⟨_, rfl, by omega, by omega, ?_⟩
  rw [Int.toNat_natCast]
  refine lcNB (n := sg - 1) LcIt.rng (fun D i y H' => ∃ p, Rp (hid [D] H') y (partD p) ∧ PartOk nb p) (by omega) (fun D i y H' H'' s' ⟨p, h1, h2⟩ => ⟨p, h1.same (hidB s'), h2⟩) (fun D i H' R hi hD ⟨ys, hy⟩ s' rr => ?_) (fun D1 ys1 H3 hD1 hs1 s3 hl1 hy1 hP1 => ?_)
  · have e0 : (0 : Int) + (i : Int) = (i : Int) := Int.zero_add _
    rw [e0]
    walk_at "rd"
    refine ⟨a, ns, 2 + i, nb, rfl, s'.seq hS, by omega, nb1, nb6, fun p v H4 s4 hv ok => ?_⟩
    exact rr v H4 s4 ⟨p, hv.same (out_hid hy), ok⟩
  obtain ⟨shs, r1, l1, ok1⟩ := parts_list (nb := nb) (H := H3) fun i y hi => by
    obtain ⟨p, h1, h2⟩ := hP1 i y hi
    exact ⟨p, h1.same hid_same, h2⟩
  have R1 : Rp H3 (.ref D1) (.list (shs.map partD)) := .lst hs1 hl1 r1
  clear hP1 r1 hl1 hD1
  walk_at "rd"
  try dsimp only
  walk_at "rd"
  refine ⟨a, ns, 5, nb, rfl, s3.seq hS, by decide, nb1, nb6, fun ah v2 H4 s4 hv2 ok2 => ?_⟩
  have R2 := hv2.same out_same
  have t4 := s3.trans s4
  clear hv2
  walk_at "rd"
  try dsimp only
  walk_at "rd"
  refine ⟨a, ns, 6, nb, rfl, t4.seq hS, by decide, nb1, nb6, fun mi v3 H5 s5 hv3 ok3 => ?_⟩
  have R3 := hv3.same out_same
  have t5 := t4.trans s5
  clear hv3
  walk_at "rd"
  try dsimp only
  refine i_setLc (i_lcB (i_rng1 ?_))
  walk_at "rd"
  refine ⟨_, rfl, by omega, by omega, ?_⟩
  rw [Int.toNat_natCast]
  refine lcNB (n := he) LcIt.rng (fun D i y H' => ∃ p, Rp (hid [D] H') y (partD p) ∧ PartOk nb p) (by omega) (fun D i y H' H'' s' ⟨p, h1, h2⟩ => ⟨p, h1.same (hidB s'), h2⟩) (fun D i H' R hi hD ⟨ys, hy⟩ s' rr => ?_) (fun D4 ys4 H6 hD4 hs4 s6 hl4 hy4 hP4 => ?_)
  · have e0 : (0 : Int) + (i : Int) = (i : Int) := Int.zero_add _
    rw [e0]
    walk_at "rd"
    refine ⟨a, ns, 7 + i, nb, rfl, (t5.trans s').seq hS, by omega, nb1, nb6, fun p v H4 s4 hv ok => ?_⟩
    exact rr v H4 s4 ⟨p, hv.same (out_hid hy), ok⟩
  obtain ⟨tls, r4, l4, ok4⟩ := parts_list (nb := nb) (H := H6) fun i y hi => by
    obtain ⟨p, h1, h2⟩ := hP4 i y hi
    exact ⟨p, h1.same hid_same, h2⟩
  have R4 : Rp H6 (.ref D4) (.list (tls.map partD)) := .lst hs4 hl4 r4
  clear hP4 r4 hl4 hD4
  have t6 := t5.trans s6
  walk_at "rd"
  try dsimp only
  walk_at "rd"
  refine i_disp fun fd hfd => ?_
  have s7 : Same H6 (upd H6 fd (.dK [])) := Same.new hfd
  have hfd7 : upd H6 fd (.dK []) fd = some (.dK []) := upd_same
  generalize upd H6 fd (.dK []) = H7 at *
  have t7 := t6.trans s7
  refine i_pair ?_
  walk_at "rd"
  refine ⟨a, ns, 10, 26 + n, by rw [show (26 : Int) + (n : Int) = ((26 + n : Nat) : Int) by omega]; rfl, t7.seq hS, by omega, fun p1 fi H8 s8 hp10 hp1s hp1 hfl hfs => ?_⟩
  refine i_pair ?_
  walk_at "rd"
  refine ⟨a, ns, 30, 31 + n, by rw [show (31 : Int) + (n : Int) = ((31 + n : Nat) : Int) by omega]; rfl, (t7.trans s8).seq hS, by omega, fun p2 fo H9 s9 hp20 hp2s hp2 hol hos => ?_⟩
  refine i_pnil ?_
  have hfd9 := (s8.trans s9) _ _ hfd7
  refine ⟨hfd9, [(Sum.inr (Str.ofString "in"), .ref p1), (Sum.inr (Str.ofString "on"), .ref p2)], rfl, by show 2 ≤ 15; decide, ?_⟩
  have em : mergeK [] [((Sum.inr (Str.ofString "in") : Key), V.ref p1), (Sum.inr (Str.ofString "on"), .ref p2)] = [(Sum.inr (Str.ofString "in"), .ref p1), (Sum.inr (Str.ofString "on"), .ref p2)] := rfl
  rw [em]
  have n1 : p1 ≠ fd := ne_of ((s9 _ _ hp1)) hfd9 (by intro z; cases z)
  have n2 : p2 ≠ fd := ne_of hp2 hfd9 (by intro z; cases z)
  have s10 : Same H6 (upd H9 fd (.dK [(Sum.inr (Str.ofString "in"), .ref p1), (Sum.inr (Str.ofString "on"), .ref p2)])) := fun b o e => by
    rw [upd_ne (ne_of_none e hfd)]; exact ((s7.trans s8).trans s9) _ _ e
  have R5 : Rp (upd H9 fd (.dK [(Sum.inr (Str.ofString "in"), .ref p1), (Sum.inr (Str.ofString "on"), .ref p2)])) (.ref fd) (feedsD ⟨fi, fo⟩) := by
    refine .dk upd_same (.cons (.str _) (.cons (.str _) .nil)) (.cons (.lst hp1s (by rw [upd_ne n1]; exact s9 _ _ hp1) (ints_rpa fi)) (.cons (.lst hp2s (by rw [upd_ne n2]; exact hp2) (ints_rpa fo)) .nil))
  generalize upd H9 fd (.dK [(Sum.inr (Str.ofString "in"), .ref p1), (Sum.inr (Str.ofString "on"), .ref p2)]) = H10 at *
  clear hfd9 n1 n2 hfd7 s7 t7 s8 s9 hp1 hp2 em hp10 hp20
  have t10 := t6.trans s10
  walk_at "rd"
  try dsimp only
  walk_at "rd"
  refine ⟨a, ns, 20, nb, rfl, t10.seq hS, by omega, fun fq bs H11 s11 hfq0 hfqs hfq hbl hbs => ?_⟩
  have R6 : Rp H11 (.ref fq) (numsD bs) := .lst hfqs hfq (ints_rpa bs)
  walk_at "rd"
  try dsimp only
  have hV11 : ShV H11 ⟨he, sg, shs, ah, mi, tls⟩ (.ref D1) v2 v3 (.ref D4) := ⟨R1.same (((((s4.trans s5).trans s6).trans s10).trans s11)), R2.same (((s5.trans s6).trans s10).trans s11), R3.same ((s6.trans s10).trans s11), R4.same (s10.trans s11)⟩
  have R511 := R5.same s11
  have hok : ShOk nb ⟨he, sg, shs, ah, mi, tls⟩ := ⟨he1, he3, st1, st3, by show shs.length = sg - 1; rw [l1, hy1], by show tls.length = he; rw [l4, hy4], ok1, ok2, ok3, ok4⟩
  have t11 := t10.trans s11
  clear R1 R2 R3 R4 R5 s3 s4 s5 s6 s10 s11 t4 t5 t6 t10 ok1 ok2 ok3 ok4 l1 l4 hy1 hy4 hs1 hs4 hfq0 hfqs
  refine i_makeI ?_
  walk_at "rd"
  refine fun x dx hx hdx hne => ?_
  have sx1 : Same H11 (upd (upd H11 dx (.own x)) x (.ins (CE .Sheet) dx [])) := fun b o e => by rw [upd_ne (ne_of_none e hx), upd_ne (ne_of_none e hdx)]; exact e
  refine ⟨H11, x, dx, _, ⟨he, sg, shs, ah, mi, tls⟩, .ref D1, v2, v3, .ref D4, rfl, upd_same, sx1, hx, fun H12 s12 hx12 => ⟨rfl, ?_⟩⟩
  have hV := hV11.same s12
  have RF := R511.same s12
  have RB := R6.same s12
  have hfq12 := s12 _ _ hfq
  clear hV11 R511 R6 sx1 hx hdx hne hfq
  have t12 := t11.trans s12
  walk_at "rd"
  try dsimp only
  walk_at "rd"
  refine ⟨by show 6 ≤ sizeLine; omega, fun L1 H13 hL1 hN13 => ?_⟩
  have fb : ∀ x ∈ bs, Bd x := fun x h => sm_bd (hbs x h)
  have hsa := shw_all nb6 (F := ⟨fi, fo⟩) hok (by show fi.length ≤ 326; omega) (by show fo.length ≤ 331; omega) (by omega) hfs hos hbs
  have rl : ∀ {H' : Hp} {L : Addr}, L ≠ sysModules → Same H12 H' → H' L = some (.lst [.ref D1, v2, v3, .ref D4, .ref fd, .ref fq]) → Rp H' (.ref L) (allD ⟨he, sg, shs, ah, mi, tls⟩ ⟨fi, fo⟩ bs) := fun h1 h2 h3 =>
    .lst h1 h3 (.cons (hV.sh.same h2) (.cons (hV.ah.same h2) (.cons (hV.mi.same h2) (.cons (hV.ta.same h2) (.cons (RF.same h2) (.cons (RB.same h2) .nil))))))
  walk_at "rd"
  refine i_repr (rl hL1 hN13.same hN13.at) hsa.s hsa.d (shw_size hsa) ?_
  walk_at "rd"
  try dsimp only
  have hVD := hV.same hN13.same
  walk_at "rd"
  refine ⟨⟨he, sg, shs, ah, mi, tls⟩, .ref D1, v2, v3, .ref D4, nb, n, rfl, hVD, hok, hn, fun pa H14 s14 hpa => ?_⟩
  walk_at "rd"
  have s24 := hN13.same.trans s14
  have pok := parts_ok (n := n) hok
  refine ⟨m, pa, fd, fq, partsOf ⟨he, sg, shs, ah, mi, tls⟩ n, ⟨fi, fo⟩, bs, nb, rfl, hpa, RF.same s24, s24 _ _ hfq12, hbl, fb, fun x hx => ⟨(pok.1 x hx).1, ⟨by have := (pok.1 x hx).2; show x.2 + 5 ≤ fi.length; omega, by have := (pok.1 x hx).2; show x.2 + 5 ≤ fo.length; omega⟩⟩, by have := pok.2; omega, m2, m60, fun dq tp bp us H15 s15 hdq htp hts hbp => ?_⟩
  have s25 := s24.trans s15
  walk_at "rd"
  try dsimp only
  refine i_join (fun σ' H' => ∃ mv : Int, Same H15 H' ∧ (mv = (n : Int) ∨ (mv < 0 ∨ 300 < mv)) ∧ σ' = [some (.ref a), some (.int (hd : Int)), some (.int (nb : Int)), some (.int (he : Int)), some (.int (sg : Int)), some (.int mv), some (.int m), some (.ref D1), some v2, some v3, some (.ref D4), some (.ref fd), some (.ref fq), some (.ref x), some (.str (PyData.shown (allD ⟨he, sg, shs, ah, mi, tls⟩ ⟨fi, fo⟩ bs))), some (.ref dq), none, none, none]) ?_ ?_
  · walk_at "rd"
    refine i_iteI (fun _ => ?_) (fun _ => ?_)
    · walk_at "rd"
      refine ⟨by show 4 ≤ sizeLine; omega, fun ml H16 hN16 => ?_⟩
      walk_at "rd"
      obtain ⟨mv, hmv, hbad⟩ := at_turns (c := (hd : Int) / 90) (e := (hd : Int) / 10 ^ (8 : Int).toNat) (n := n) (Int.ediv_nonneg (Int.natCast_nonneg hd) (by decide +kernel))
      refine i_ixL hN16.lst hmv ?_
      walk_at "rd"
      exact ⟨mv, hN16.same, .inr hbad, rfl⟩
    · walk_at "rd"
      exact ⟨(n : Int), Same.refl _, .inl rfl, rfl⟩
  rintro σ3 H16 ⟨mv, s16, hmv, rfl⟩
  have s26 := s25.trans s16
  walk_at "rd"
  try dsimp only
  walk_at "rd"
  try dsimp only
  refine i_join (fun σ' H' => Same H16 H' ∧ ∃ vc vf, σ' = [some (.ref a), some (.int (hd : Int)), some (.int (nb : Int)), some (.int (he : Int)), some (.int (sg : Int)), some (.int mv), some (.int m), some (.ref D1), some v2, some v3, some (.ref D4), some (.ref fd), some (.ref fq), some (.ref x), some (.str (PyData.shown (allD ⟨he, sg, shs, ah, mi, tls⟩ ⟨fi, fo⟩ bs))), some (.ref dq), some vc, some vf, none] ∧
    (((mv < 0 ∨ 300 < mv) ∧ ∃ e, vc = .ref e ∧ H' e = some (excO e (CE .BadTurns) none)) ∨ (mv = (n : Int) ∧ vc = .non ∧ ∃ p mp bp us, vf = .ref p ∧ H' p = some (.tup [.ref mp, .ref bp]) ∧ H' mp = some (.lst us) ∧ TsAt H' us ((endM m ⟨fi, fo⟩ bs ⟨he, sg, shs, ah, mi, tls⟩ n).told.map tlV) ∧ H' bp = some (.lst ((finB (endM m ⟨fi, fo⟩ bs ⟨he, sg, shs, ah, mi, tls⟩ n)).map V.int))))) ?_ ?_
  · walk_at "rd"
    refine i_try ?_
    walk_at "rd"
    refine i_callOr ?_
    walk_at "rd"
    rcases hmv with rfl | hbad
    · refine .inl ⟨m, x, fd, fq, ⟨he, sg, shs, ah, mi, tls⟩, ⟨fi, fo⟩, bs, nb, n, rfl, ⟨⟨dx, _, _, _, _, _, s26 _ _ hx12, hV.same s26⟩, hok, RF.same s26, s26 _ _ hfq12, hbl, fb, m2, m60, ⟨by show n + 5 ≤ fi.length; omega, by show n + 5 ≤ fo.length; omega⟩⟩, hn, fun p mp bp us H17 s17 h1 h2 h3 h4 => ?_⟩
      walk_at "rd"
      exact ⟨s17, _, _, rfl, .inr ⟨rfl, rfl, p, mp, bp, us, rfl, h1, h2, h3, h4⟩⟩
    · refine .inr ⟨m, x, fd, fq, mv, rfl, hbad, ?_⟩
      refine ⟨_, rfl, T.x_BadTurns.xc, T.m_BadTurns, fun e H17 hN17 => ?_⟩
      walk_at "rd"
      refine ⟨⟨_, rfl⟩, ?_⟩
      walk_at "rd"
      exact ⟨hN17.same, _, _, rfl, .inl ⟨hbad, e, rfl, hN17.at⟩⟩
  rintro σ4 H17 ⟨s17, vc, vf, rfl, hc⟩
  walk_at "rd"
  rcases hc with ⟨hbad, e, rfl, hex⟩ | ⟨rfl, rfl, p, mp, bp2, us2, rfl, h1, h2, h3, h4⟩
  · have fin : ∀ H18 : Hp, Q (.bl (decide (V.int 10 = V.int 10))) H18 := fun H18 => by
      rw [decide_eq_true (rfl : V.int 10 = V.int 10)]; exact q H18
    refine i_iteD (fun h0 => ?_) (fun h0 => ?_)
    · walk_at "rd"
      refine ⟨e, .BadTurns, rfl, rfl, hex, fun H18 s18 => ?_⟩
      walk_at "rd"
      exact fin H18
    · walk_at "rd"
      refine i_iteD (fun h1 => ?_) (fun h1 => ?_)
      · walk_at "rd"
        refine ⟨e, .BadTurns, rfl, rfl, hex, fun H18 s18 => ?_⟩
        walk_at "rd"
        exact fin H18
      · exfalso; omega
  · have s27 := s26.trans s17
    refine i_iteDf (by omega) ?_
    walk_at "rd"
    refine i_iteDf (by omega) ?_
    walk_at "rd"
    try dsimp only
    walk_at "rd"
    refine ⟨rfl, ?_⟩
    rw [decide_eq_true (rfl : V.non = V.non)]
    walk_at "rd"
    refine ⟨by show 6 ≤ sizeLine; omega, fun L2' H18 hL2 hN18 => ?_⟩
    walk_at "rd"
    refine i_repr (rl hL2 (s27.trans hN18.same) hN18.at) hsa.s hsa.d (shw_size hsa) ?_
    walk_at "rd"
    rw [decide_eq_true (rfl : V.str (PyData.shown (allD ⟨he, sg, shs, ah, mi, tls⟩ ⟨fi, fo⟩ bs)) = V.str (PyData.shown (allD ⟨he, sg, shs, ah, mi, tls⟩ ⟨fi, fo⟩ bs)))]
    walk_at "rd"
    try dsimp only
    walk_at "rd"
    have s18 := (s16.trans s17).trans hN18.same
    have we : WfM nb 3000 (endM m ⟨fi, fo⟩ bs ⟨he, sg, shs, ah, mi, tls⟩ n) := ((wf0 (nb := nb) hbl fb).parts (F := ⟨fi, fo⟩) (ps := partsOf ⟨he, sg, shs, ah, mi, tls⟩ n) (by omega) m60 fun x hx => (pok.1 x hx).1).mono (by have := pok.2; omega)
    have ltd := we.told
    have lfb : (finB (endM m ⟨fi, fo⟩ bs ⟨he, sg, shs, ah, mi, tls⟩ n)).length ≤ 400 := by
      rw [finB_len we]; omega
    refine ⟨p, mp, bp2, dq, tp, bp, us2, us, (endM m ⟨fi, fo⟩ bs ⟨he, sg, shs, ah, mi, tls⟩ n).told, finB (endM m ⟨fi, fo⟩ bs ⟨he, sg, shs, ah, mi, tls⟩ n), rfl, hN18.same _ _ h1, hN18.same _ _ h2, h3.keep (TK.of hN18.same), hN18.same _ _ h4, s18 _ _ hdq, s18 _ _ htp, hts.keep (TK.of s18), s18 _ _ hbp, lfb, by omega, ?_⟩
    exact q H18
def Cof (a1 a2 a3 a4 a5 a6 a7 a8 a9 : Addr) : Dk → Addr
  | .sum => a1
  | .less => a2
  | .times => a3
  | .least => a4
  | .most => a5
  | .pick => a6
  | .same => a7
  | .tell => a8
  | .take => a9
def Eof (b1 b2 b3 b4 b5 b6 b7 b8 b9 b10 b11 b12 b13 b14 b15 b16 b17 b18 b19 b20 b21 b22 b23 : Addr) : Xk → Addr
  | .LapError => b1
  | .NoDeed => b2
  | .NoMeasure => b3
  | .BadRows => b4
  | .BadName => b5
  | .Twice => b6
  | .BadCount => b7
  | .BadNumber => b8
  | .NoRow => b9
  | .BadBack => b10
  | .TooEarly => b11
  | .BadTurns => b12
  | .Short => b13
  | .BadWidth => b14
  | .BadArms => b15
  | .NoArm => b16
  | .BadDelay => b17
  | .BadHold => b18
  | .BadPlan => b19
  | .Unfit => b20
  | .BadText => b21
  | .Sheet => b22
  | .Machine => b23
theorem tp0_mk {K : PySem.W.Frag} {a1 a2 a3 a4 a5 a6 a7 a8 a9 b1 b2 b3 b4 b5 b6 b7 b8 b9 b10 b11 b12 b13 b14 b15 b16 b17 b18 b19 b20 b21 b22 b23 : Addr}
    (c_Sum : HasC K "Sum" a1)
    (c_Less : HasC K "Less" a2)
    (c_Times : HasC K "Times" a3)
    (c_Least : HasC K "Least" a4)
    (c_Most : HasC K "Most" a5)
    (c_Pick : HasC K "Pick" a6)
    (c_Same : HasC K "Same" a7)
    (c_Tell : HasC K "Tell" a8)
    (c_Take : HasC K "Take" a9)
    (g_LapError : PySem.W.nsIn K mainGlobals "LapError" = some (some (.ref b1)))
    (g_NoDeed : PySem.W.nsIn K mainGlobals "NoDeed" = some (some (.ref b2)))
    (g_NoMeasure : PySem.W.nsIn K mainGlobals "NoMeasure" = some (some (.ref b3)))
    (g_BadRows : PySem.W.nsIn K mainGlobals "BadRows" = some (some (.ref b4)))
    (g_BadName : PySem.W.nsIn K mainGlobals "BadName" = some (some (.ref b5)))
    (g_Twice : PySem.W.nsIn K mainGlobals "Twice" = some (some (.ref b6)))
    (g_BadCount : PySem.W.nsIn K mainGlobals "BadCount" = some (some (.ref b7)))
    (g_BadNumber : PySem.W.nsIn K mainGlobals "BadNumber" = some (some (.ref b8)))
    (g_NoRow : PySem.W.nsIn K mainGlobals "NoRow" = some (some (.ref b9)))
    (g_BadBack : PySem.W.nsIn K mainGlobals "BadBack" = some (some (.ref b10)))
    (g_TooEarly : PySem.W.nsIn K mainGlobals "TooEarly" = some (some (.ref b11)))
    (g_BadTurns : PySem.W.nsIn K mainGlobals "BadTurns" = some (some (.ref b12)))
    (g_Short : PySem.W.nsIn K mainGlobals "Short" = some (some (.ref b13)))
    (g_BadWidth : PySem.W.nsIn K mainGlobals "BadWidth" = some (some (.ref b14)))
    (g_BadArms : PySem.W.nsIn K mainGlobals "BadArms" = some (some (.ref b15)))
    (g_NoArm : PySem.W.nsIn K mainGlobals "NoArm" = some (some (.ref b16)))
    (g_BadDelay : PySem.W.nsIn K mainGlobals "BadDelay" = some (some (.ref b17)))
    (g_BadHold : PySem.W.nsIn K mainGlobals "BadHold" = some (some (.ref b18)))
    (g_BadPlan : PySem.W.nsIn K mainGlobals "BadPlan" = some (some (.ref b19)))
    (g_Unfit : PySem.W.nsIn K mainGlobals "Unfit" = some (some (.ref b20)))
    (g_BadText : PySem.W.nsIn K mainGlobals "BadText" = some (some (.ref b21)))
    (g_Sheet : PySem.W.nsIn K mainGlobals "Sheet" = some (some (.ref b22)))
    (g_Machine : PySem.W.nsIn K mainGlobals "Machine" = some (some (.ref b23))) : Tp0 K (Cof a1 a2 a3 a4 a5 a6 a7 a8 a9) (Eof b1 b2 b3 b4 b5 b6 b7 b8 b9 b10 b11 b12 b13 b14 b15 b16 b17 b18 b19 b20 b21 b22 b23) :=
  ⟨c_Sum, c_Less, c_Times, c_Least, c_Most, c_Pick, c_Same, c_Tell, c_Take, g_LapError, g_NoDeed, g_NoMeasure, g_BadRows, g_BadName, g_Twice, g_BadCount, g_BadNumber, g_NoRow, g_BadBack, g_TooEarly, g_BadTurns, g_Short, g_BadWidth, g_BadArms, g_NoArm, g_BadDelay, g_BadHold, g_BadPlan, g_Unfit, g_BadText, g_Sheet, g_Machine⟩
theorem tp1_mk {K : PySem.W.Frag} {a1 a2 a3 a4 a5 a6 a7 a8 a9 b1 b2 b3 b4 b5 b6 b7 b8 b9 b10 b11 b12 b13 b14 b15 b16 b17 b18 b19 b20 b21 b22 b23 : Addr}
    (f_of_sum : HasM K a1 "of" "Sum.of" st_Sum_of)
    (f_of_less : HasM K a2 "of" "Less.of" st_Less_of)
    (f_of_times : HasM K a3 "of" "Times.of" st_Times_of)
    (f_of_least : HasM K a4 "of" "Least.of" st_Least_of)
    (f_of_most : HasM K a5 "of" "Most.of" st_Most_of)
    (f_of_pick : HasM K a6 "of" "Pick.of" st_Pick_of)
    (f_of_same : HasM K a7 "of" "Deed.of" st_Deed_of)
    (f_of_tell : HasM K a8 "of" "Deed.of" st_Deed_of)
    (f_of_take : HasM K a9 "of" "Deed.of" st_Deed_of)
    (x_BadTurns : HasX K "BadTurns" b12)
    (m_BadTurns : PySem.W.mroIn K b12 (.ref b1) = some true)
    (lapB : PySem.W.mroIn K b1 (.type "BaseException") = some true)
    (lapT : PySem.W.typeIn K (.ref b1) = some (.type "type"))
    (i_Sheet : HasCI K "Sheet" b22 "Sheet.__init__" st_Sheet___init__)
    (i_Machine : HasCI K "Machine" b23 "Machine.__init__" st_Machine___init__)
    (f_Machine_do_part : HasM K b23 "do_part" "Machine.do_part" st_Machine_do_part)
    (f_Machine_numbers_got : HasM K b23 "numbers_got" "Machine.numbers_got" st_Machine_numbers_got)
    (f_Machine_land : HasM K b23 "land" "Machine.land" st_Machine_land)
    (f_Machine_land_all : HasM K b23 "land_all" "Machine.land_all" st_Machine_land_all)
    (w_MOST_TURNS : HasV K "MOST_TURNS" (.int 300))
    (f_deed : HasF K "deed_of" st_deed_of)
    (f_cturns : HasF K "check_turns" st_check_turns)
    (f_run : HasF K "run" st_run)
    (f_cell : HasF K "_law_cell_at" st_law_cell_at)
    (f_whole : HasF K "_law_whole" st_law_whole)
    (f_alike : HasF K "_law_alike" st_law_alike)
    (f_mix : HasF K "_law_mix" st_law_mix)
    (f_wants : HasF K "_law_wants" st_law_wants)
    (f_makes : HasF K "_law_makes" st_law_makes)
    (f_landed : HasF K "_law_landed" st_law_landed)
    (f_begun : HasF K "_law_begun" st_law_begun)
    (f_done : HasF K "_law_done" st_law_done)
    (f_parts : HasF K "_law_parts" st_law_parts)
    (f_classes : HasF K "_law_classes" st_law_classes)
    (f_step : HasF K "_law_step" st_law_step)
    (f_part : HasF K "_law_part" st_law_part) : Tp1 K (Cof a1 a2 a3 a4 a5 a6 a7 a8 a9) (Eof b1 b2 b3 b4 b5 b6 b7 b8 b9 b10 b11 b12 b13 b14 b15 b16 b17 b18 b19 b20 b21 b22 b23) :=
  ⟨f_of_sum, f_of_less, f_of_times, f_of_least, f_of_most, f_of_pick, f_of_same, f_of_tell, f_of_take, x_BadTurns, m_BadTurns, lapB, lapT, i_Sheet, i_Machine, f_Machine_do_part, f_Machine_numbers_got, f_Machine_land, f_Machine_land_all, w_MOST_TURNS, f_deed, f_cturns, f_run, f_cell, f_whole, f_alike, f_mix, f_wants, f_makes, f_landed, f_begun, f_done, f_parts, f_classes, f_step, f_part⟩
theorem tp2_mk {K : PySem.W.Frag} {a1 a2 a3 a4 a5 a6 a7 a8 a9 b1 b2 b3 b4 b5 b6 b7 b8 b9 b10 b11 b12 b13 b14 b15 b16 b17 b18 b19 b20 b21 b22 b23 : Addr}
    (f_numbers : HasF K "_law_numbers" st_law_numbers)
    (f_pair : HasF K "_law_pair_alike" st_law_pair_alike)
    (z_len : PySem.W.nsIn K mainGlobals "len" = some none)
    (z_isinstance : PySem.W.nsIn K mainGlobals "isinstance" = some none)
    (z_int : PySem.W.nsIn K mainGlobals "int" = some none)
    (z_bool : PySem.W.nsIn K mainGlobals "bool" = some none)
    (z_range : PySem.W.nsIn K mainGlobals "range" = some none)
    (z_min : PySem.W.nsIn K mainGlobals "min" = some none)
    (z_max : PySem.W.nsIn K mainGlobals "max" = some none)
    (z_list : PySem.W.nsIn K mainGlobals "list" = some none)
    (z_tuple : PySem.W.nsIn K mainGlobals "tuple" = some none)
    (z_str : PySem.W.nsIn K mainGlobals "str" = some none)
    (z_sum : PySem.W.nsIn K mainGlobals "sum" = some none)
    (z_sorted : PySem.W.nsIn K mainGlobals "sorted" = some none)
    (z_repr : PySem.W.nsIn K mainGlobals "repr" = some none)
    (z_ValueError : PySem.W.nsIn K mainGlobals "ValueError" = some none)
    (kII : PySem.W.kitOne K (.type "int") (.type "int") = some true)
    (kIB : PySem.W.kitOne K (.type "int") (.type "bool") = some false)
    (kTT : PySem.W.kitOne K (.type "tuple") (.type "tuple") = some true)
    (kTI : PySem.W.kitOne K (.type "tuple") (.type "int") = some false)
    (kIT : PySem.W.kitOne K (.type "int") (.type "tuple") = some false)
    (kLL : PySem.W.kitOne K (.type "list") (.type "list") = some true)
    (kSS : PySem.W.kitOne K (.type "str") (.type "str") = some true)
    (nS_pace : NoAttr K b22 "pace")
    (nS_held : NoAttr K b22 "held")
    (nS_stages : NoAttr K b22 "stages")
    (nS_shorts : NoAttr K b22 "shorts")
    (nS_ahead : NoAttr K b22 "ahead")
    (nS_middle : NoAttr K b22 "middle")
    (nS_tails : NoAttr K b22 "tails")
    (nM_measure : NoAttr K b23 "measure")
    (nM_feeds : NoAttr K b23 "feeds")
    (nM_boxes : NoAttr K b23 "boxes")
    (nM_tick : NoAttr K b23 "tick")
    (nM_due : NoAttr K b23 "due")
    (nM_made : NoAttr K b23 "made") : Tp2 K (Cof a1 a2 a3 a4 a5 a6 a7 a8 a9) (Eof b1 b2 b3 b4 b5 b6 b7 b8 b9 b10 b11 b12 b13 b14 b15 b16 b17 b18 b19 b20 b21 b22 b23) :=
  ⟨f_numbers, f_pair, z_len, z_isinstance, z_int, z_bool, z_range, z_min, z_max, z_list, z_tuple, z_str, z_sum, z_sorted, z_repr, z_ValueError, kII, kIB, kTT, kTI, kIT, kLL, kSS, nS_pace, nS_held, nS_stages, nS_shorts, nS_ahead, nS_middle, nS_tails, nM_measure, nM_feeds, nM_boxes, nM_tick, nM_due, nM_made⟩
theorem tp3_mk {K : PySem.W.Frag} {a1 a2 a3 a4 a5 a6 a7 a8 a9 b1 b2 b3 b4 b5 b6 b7 b8 b9 b10 b11 b12 b13 b14 b15 b16 b17 b18 b19 b20 b21 b22 b23 : Addr}
    (kX_BadTurns : ∀ f, f ≠ .LapError → f ≠ .Sheet → f ≠ .Machine → PySem.W.kitOne K (.ref b12) (.ref (Eof b1 b2 b3 b4 b5 b6 b7 b8 b9 b10 b11 b12 b13 b14 b15 b16 b17 b18 b19 b20 b21 b22 b23 f)) = some (decide (f = .BadTurns)))
    (kV_BadTurns : PySem.W.kitOne K (.ref b12) (.type "ValueError") = some true)
    (kL_BadTurns : PySem.W.kitOne K (.ref b12) (.ref b1) = some true) : Tp3 K (Cof a1 a2 a3 a4 a5 a6 a7 a8 a9) (Eof b1 b2 b3 b4 b5 b6 b7 b8 b9 b10 b11 b12 b13 b14 b15 b16 b17 b18 b19 b20 b21 b22 b23) :=
  ⟨kX_BadTurns, kV_BadTurns, kL_BadTurns⟩
theorem all_mk {l : PySem.W.OpenLaw} {w : World} {K : PySem.W.Frag} {h : Heap} {mg : Str → Option Value} {fa : Addr} {a1 a2 a3 a4 a5 a6 a7 a8 a9 b1 b2 b3 b4 b5 b6 b7 b8 b9 b10 b11 b12 b13 b14 b15 b16 b17 b18 b19 b20 b21 b22 b23 : Addr} (X : K.In h) (G : h.Ns mainGlobals mg) (hfa : mg "law" = some (.ref fa)) (fl : HasF K "law" st_law)
    (t0 : Tp0 K (Cof a1 a2 a3 a4 a5 a6 a7 a8 a9) (Eof b1 b2 b3 b4 b5 b6 b7 b8 b9 b10 b11 b12 b13 b14 b15 b16 b17 b18 b19 b20 b21 b22 b23)) (t1 : Tp1 K (Cof a1 a2 a3 a4 a5 a6 a7 a8 a9) (Eof b1 b2 b3 b4 b5 b6 b7 b8 b9 b10 b11 b12 b13 b14 b15 b16 b17 b18 b19 b20 b21 b22 b23)) (t2 : Tp2 K (Cof a1 a2 a3 a4 a5 a6 a7 a8 a9) (Eof b1 b2 b3 b4 b5 b6 b7 b8 b9 b10 b11 b12 b13 b14 b15 b16 b17 b18 b19 b20 b21 b22 b23)) (t3 : Tp3 K (Cof a1 a2 a3 a4 a5 a6 a7 a8 a9) (Eof b1 b2 b3 b4 b5 b6 b7 b8 b9 b10 b11 b12 b13 b14 b15 b16 b17 b18 b19 b20 b21 b22 b23)) :
    ∃ fd : FuncData, (∀ (s : Shared) (v : Value), BindsTo s fd ⟨[v], []⟩ [("_law_script", v)]) ∧ ∀ (base : Heap) (ns : List Int), K.In base → base.Ns mainGlobals mg → ns.length ≤ 63 → (∀ i ∈ ns, Builtin.Int.intBits i ≤ 1048576) → FnOk l.prog w K mg base CX0 8 fa fd ["_law_script"] (spLaw K ns) := by
  obtain ⟨f, fdd, a, F⟩ := fl.ex
  have e := hfa.symm.trans (PySem.W.mg_of X G a)
  cases e
  have T := (Tp.mk t0 t1 t2 t3).txt X G
  refine ⟨fdd, fun s v => ?_, fun base ns kb nb hl hb => ok_law T F kb nb hl hb⟩
  obtain ⟨oc, od, kV, doc, pm, an, cdv, ct, osl, rfl, lk, hcd⟩ := F.ex
  exact .of_eq rfl
theorem walk {l : PySem.W.OpenLaw} {q : Program} {loose : List Str} {XP : (Str → Option Value) → Heap → Prop} {YP : World → Heap → Prop} {d : DefRec} {K : Params → PySem.W.Frag} (hn : l.most = some 63) (hdf : d.params.defaults = [])
    (hY : ∀ (w : World) (h : Heap), YP w h → (K w.params).In h)
    (F : ∀ (w : World) (mg : Str → Option Value) (fa : Addr) (h : Heap), (K w.params).In h → h.Ns mainGlobals mg → mg d.name = some (.ref fa) →
      ∃ fd : FuncData, (∀ (s : Shared) (u : Value), BindsTo s fd ⟨[u], []⟩ [("_law_script", u)]) ∧ ∀ (base : Heap) (ns : List Int), (K w.params).In base → base.Ns mainGlobals mg → ns.length ≤ 63 → (∀ i ∈ ns, Builtin.Int.intBits i ≤ 1048576) → FnOk l.prog w (K w.params) mg base CX0 8 fa fd ["_law_script"] (spLaw (K w.params) ns)) :
    PySem.W.WalkO q loose XP YP l.row.toRowW d [] (fun f vs => PySem.call f vs) :=
  L2.walk_bits (n := 63) (k := 8) (x := "_law_script") (CX := fun _ => CX0) (sp := fun w ns => spLaw (K w.params) ns) hn (by decide) hdf ⟨rfl, by decide, by decide, rfl⟩ hY F (fun _ _ a ns hl hb _ hS => ⟨a, rfl, hS, fun _ => rfl⟩) fun _ _ _ _ _ z => z
end
end Lap
local macro_rules | `(tactic| walk_at "lapC") => `(tactic| (refine' L2.hasC_mk ?a ?pg ?hd ?po ?sa ?mk ?i ?kc; (case a => k_is); (case pg => k_is); (case hd => k_is); (case po => k_is); (case sa => k_is); (case mk => k_is); (case i => k_is); (case kc => k_is)))
local macro_rules | `(tactic| walk_at "lapM") => `(tactic| (refine' L2.hasM_mk ?a ?i ?l ?c ?k; (case a => k_is); (case i => k_is); (case l => k_is); (case c => k_is); (case k => k_is)))
local macro_rules | `(tactic| walk_at "lapF") => `(tactic| (refine' L2.hasF_mk ?a ?l ?c ?k; (case a => k_is); (case l => k_is); (case c => k_is); (case k => k_is)))
local macro_rules | `(tactic| walk_at "lapX") => `(tactic| (refine' L2.HasX.mk ?a ?e (L2.XCls.mk ?x1 ?x2 ?x3 ?x4 ?x5 ?x6 ?x7); (case a => k_is); (case e => k_exc); (case x1 => k_is); (case x2 => k_is); (case x3 => k_is); (case x4 => k_is); (case x5 => k_is); (case x6 => k_is); (case x7 => k_is)))
local macro_rules | `(tactic| walk_at "lapI") => `(tactic| (refine' L2.hasCI_mk ?a ?pg ?hd ?po ?sa ?mk ?i ?fn ?kc ?l ?c ?k; (case a => k_is); (case pg => k_is); (case hd => k_is); (case po => k_is); (case sa => k_is); (case mk => k_is); (case i => k_is); (case fn => k_is); (case kc => k_is); (case l => k_is); (case c => k_is); (case k => k_is)))
local macro_rules | `(tactic| walk_at "lapV") => `(tactic| first | (refine' L2.hasV_int ?a; (case a => k_is)) | (refine' L2.hasV_str ?a; (case a => k_is)))
namespace PySem.W.Fast
def tw15477535244777484996:=()
def tw16842058337811104030:=()
def tw7910586639507542311:=()
def tw4185526067028800075:=()
def tw17809615122500250310:=()
def tw3596446548807534031:=()
def tw12695133403830103569:=()
def tw6760538576264976920:=()
def tw7103258746008871617:=()
def tw8610667058736896902:=()
def tw4643511169553511025:=()
def tw12612972663520950364:=()
def tw4537693016835639328:=()
def tw8150466089120275520:=()
def tw17850955396847795392:=()
def tw16434630458955203840:=()
def tw9859975118576840960:=()
def tw16217430640501838112:=()
def tw10395268039669591392:=()
def tw8322143790771481984:=()
def tw4099579924495021504:=()
def tw14598102157255163328:=()
def tw3409435769861917120:=()
def tw12768938502250614208:=()
def tw11477214788861484512:=()
def tw10582957906975431264:=()
def tw9299632548473771648:=()
def tw5378384632494625504:=()
def tw1079754849985083104:=()
def tw1320977477628813056:=()
def tw7751320200448708384:=()
def tw1242150152009276192:=()
def tw7266411154524984128:=()
def tw3299345279143425856:=()
def tw11385233419254146880:=()
def tw2741581509685818208:=()
def tw6968205939153033152:=()
def tw14058429183958480832:=()
def tw7109865415950161888:=()
def tw4317751575180598305:=()
def tw7348580055625804865:=()
def tw12845537436262563969:=()
def tw15178503227472820353:=()
def tw7319731541941233825:=()
def tw1775545242869723361:=()
def tw7438320844199525601:=()
def tw18279504927040631073:=()
def tw15578660773205705025:=()
def tw14481689718306889185:=()
def tw16335667767948578337:=()
def tw3287814043972323873:=()
def tw6112738846853411553:=()
def tw6232596194742486785:=()
def tw424645580754854689:=()
def tw3684087201120507713:=()
def tw9390707423953391489:=()
def tw15379809037520073601:=()
def tw3548400230470994913:=()
def tw8481094570293761026:=()
def tw7543161710265663522:=()
def tw12760988537394350114:=()
def tw6874624941355386946:=()
def tw5909294408285497442:=()
def tw14177943117543955554:=()
def tw4828680099070911618:=()
def tw7851668986363452578:=()
def tw18397125664186412194:=()
def tw3640030950697577666:=()
def tw13591973470882024770:=()
def tw12633008640467266914:=()
def tw12211402485261616578:=()
def tw8211889880402504162:=()
def tw1097180449739963874:=()
def tw841814529417676322:=()
def tw7580620993110324770:=()
def tw1903753449932414498:=()
def tw12680554485463256642:=()
def tw8632974505482915458:=()
def tw6805469444607838882:=()
def tw16456204857839738530:=()
def tw4881048635397787330:=()
def tw2250169036805153730:=()
def tw10736914402037339106:=()
def tw2807020018578894818:=()
def tw15088153670076678211:=()
def tw10446097812831149155:=()
def tw17570258302416667747:=()
def tw8139156396377886819:=()
def tw14998072811829275779:=()
def tw13109632887085841571:=()
def tw101949776469321923:=()
def tw4532838108137951459:=()
def tw13743171226365134083:=()
def tw17599517229575355651:=()
def tw17308241308368393475:=()
def tw3417495464756865283:=()
def tw9409858272539224355:=()
def tw6236127905168640323:=()
def tw7451266807349440835:=()
def tw10979282880823628195:=()
def tw9279903689308013027:=()
def tw12961290497025641955:=()
def tw18273926189522488835:=()
def tw16375892696216835619:=()
def tw2643964066324455971:=()
def tw18026001893747155491:=()
def tw6659244142051287811:=()
def tw13044044577532557091:=()
def tw13243160205238957859:=()
def tw2279103141100387107:=()
def tw5641113982881647427:=()
def tw11536790048192271203:=()
def tw13209705432183181283:=()
def tw15170915600090417123:=()
def tw13026763341081399332:=()
def tw5870211223036764228:=()
def tw43409352923259972:=()
def tw13196196808140074116:=()
def tw12509192398420416676:=()
def tw17766686669666864292:=()
def tw16919564711761719492:=()
def tw8988292911711933668:=()
def tw7083383823863534884:=()
def tw12632566809701230052:=()
def tw5750453926443021796:=()
def tw13775705998860691044:=()
def tw9584883067569440420:=()
def tw10281673290538110660:=()
def tw2149693714545364676:=()
def tw129669596561835748:=()
def tw4449043192978626276:=()
def tw286401550495000356:=()
def tw5072266269070024484:=()
def tw12022059114814530436:=()
def tw9732095774543965060:=()
def tw9531635435303702468:=()
def tw12266780117529165764:=()
def tw15926780863417904100:=()
def tw14467941356146954277:=()
def tw3377904974612894821:=()
def tw3264117086084250725:=()
def tw17197301981542313093:=()
def tw12172504266104756389:=()
def tw1743298903875521733:=()
def tw17312533085603642597:=()
def tw2673713367406296357:=()
def tw11034070514262242597:=()
def tw4106968379425565093:=()
def tw15492133763229354437:=()
def tw2681949009425928645:=()
def tw16804002820579871205:=()
def tw6165412729872055781:=()
def tw12193137141768206917:=()
def tw14254383409881903749:=()
def tw11329678392194442917:=()
def tw5011448914910256869:=()
def tw8346424185435304709:=()
def tw2302586406803669829:=()
def tw8117707150091785061:=()
def tw728977344539503461:=()
def tw6772553966654912389:=()
def tw6682028514661657509:=()
def tw13052797595693650885:=()
def tw5945745069158428613:=()
def tw8290869429381665926:=()
def tw2734687878669942918:=()
def tw15420172078894317734:=()
def tw2913024955461641382:=()
def tw9941139581970887846:=()
def tw2244766245294130406:=()
def tw14071530638085309702:=()
def tw1960205858725648646:=()
def tw5784886783168240902:=()
def tw2323255918115119398:=()
def tw4863197711326355782:=()
def tw17300671630434346406:=()
def tw7598504642862827942:=()
def tw14795727493312369158:=()
def tw10435199831863688742:=()
def tw7678130357155598982:=()
def tw7894288475868629702:=()
def tw12940289166650034982:=()
def tw11072500219634461510:=()
def tw2244532354724043750:=()
def tw12379108151902093351:=()
def tw224502871897596999:=()
def tw7519239255561348231:=()
def tw766038378557711527:=()
def tw58139854567331015:=()
def tw1910052583683722471:=()
def tw17607343384392184039:=()
def tw1338589306767923463:=()
def tw5839305783501255943:=()
def tw10529093699267270951:=()
def tw10450981808810649895:=()
def tw8307270754562150727:=()
def tw17017705312376758727:=()
def tw4902084666272477671:=()
def tw10920523334240653927:=()
def tw14468389399984807655:=()
def tw12864570181765396455:=()
def tw14609461851920571464:=()
def tw10044071760532613224:=()
def tw760695606054115432:=()
def tw16684838063197192360:=()
def tw9253100669271180456:=()
def tw2632718088536589512:=()
def tw5722942242930611432:=()
def tw8124124865850283272:=()
def tw12480670433264566568:=()
def tw998413159454933416:=()
def tw4399908005413717416:=()
def tw2299250963590198696:=()
def tw1918068459662773800:=()
def tw3623293926803117608:=()
def tw8138305806566282792:=()
def tw8994415110367224392:=()
def tw6035312033903785544:=()
def tw9461959690027957864:=()
def tw12019333496712576648:=()
def tw5542094755920705224:=()
def tw5319698954335024872:=()
def tw7230005229706000168:=()
def tw13598849703986951016:=()
def tw12242856000186789897:=()
def tw6830828273723923465:=()
def tw3292918392763319337:=()
def tw2273569676970881225:=()
def tw4761301272825234665:=()
def tw1706733885194178793:=()
def tw12071506836232705257:=()
def tw3778171780742096105:=()
def tw8231033063695683881:=()
def tw8939381481143702825:=()
def tw897724143635270985:=()
def tw5991092883864247625:=()
def tw5735262864345688425:=()
def tw11360815038981930345:=()
def tw8410260924470024617:=()
def tw10233947985111555529:=()
def tw1595224257206198761:=()
def tw12297857819826601481:=()
def tw8482215447252263465:=()
def tw7494218861012911785:=()
def tw15188904954001277609:=()
def tw13723940613688874729:=()
def tw6015971976070096649:=()
def tw1095176309975851849:=()
def tw145554117001983817:=()
def tw9883197072206088041:=()
def tw16354173039374051177:=()
def tw7768703089157113737:=()
def tw7956642163814512521:=()
def tw15012554767376436105:=()
def tw2997907370888750985:=()
def tw8149029099822549961:=()
def tw9978632215621694409:=()
def tw10372955438189087721:=()
def tw13334144598503768074:=()
def tw4291679503189552170:=()
def tw1023636962685332522:=()
def tw6382315112288060490:=()
def tw7604354072024302698:=()
def tw4554042042070978698:=()
def tw10879504895249307882:=()
def tw9000403698175167786:=()
def tw8780747629921620266:=()
def tw11807404462721502538:=()
def tw5110485446686768490:=()
def tw5264000808311098794:=()
def tw8584121552820141482:=()
def tw18416484022870453706:=()
def tw12367856251344667146:=()
def tw9635309106967214666:=()
def tw2317024368715005514:=()
def tw13533833002639296138:=()
def tw17512225842477514378:=()
def tw10854110297291263658:=()
def tw1189622363717955274:=()
def tw14232774112838239978:=()
def tw8606823575633057514:=()
def tw15483973588838761258:=()
def tw15436036867561604906:=()
def tw6574861844688857898:=()
def tw4989804825479242570:=()
def tw8761825964564368234:=()
def tw7775165827011791722:=()
def tw17018428450877071210:=()
def tw977431664868725642:=()
def tw3103077264460401546:=()
def tw280441606319391755:=()
def tw9097200614743445547:=()
def tw17037787263566404651:=()
def tw15137760547897174187:=()
def tw537914655325013195:=()
def tw15420030958378669259:=()
def tw8294167956430516427:=()
def tw17775804928300908779:=()
def tw6552429248831875371:=()
def tw12223915647933249835:=()
def tw6801196062119877963:=()
def tw9598254838341100971:=()
def tw8125593670321932779:=()
def tw17327634692190361067:=()
def tw6350468163346898475:=()
def tw1061367975390979627:=()
def tw4973034258155289131:=()
def tw9988290414206035531:=()
def tw11811245800753983083:=()
def tw15711915004202067659:=()
def tw424915812884572907:=()
def tw60807294466264843:=()
def tw11016980227096273675:=()
def tw1098265837777912715:=()
def tw7124276535228579755:=()
def tw651580062123500491:=()
def tw1180796490083341291:=()
def tw9964885311194623979:=()
def tw14310464772236632076:=()
def tw8203114474752040972:=()
def tw5540398394544404524:=()
def tw1180735505801044012:=()
def tw5861336608423901228:=()
def tw2925227729468908652:=()
def tw17920206883525456044:=()
def tw7347966801464145100:=()
def tw7247885653889825996:=()
def tw14618560059326871788:=()
def tw9702838603536304460:=()
def tw1752696982701164876:=()
def tw7477612567532110220:=()
def tw15210077802997028300:=()
def tw8169970029012149708:=()
def tw6257249864696961548:=()
def tw7109127720100954668:=()
def tw9175230663066129996:=()
def tw11052618193343256140:=()
def tw10143539650655415916:=()
def tw5971529756214961804:=()
def tw7654975625111416492:=()
def tw5322089715485950636:=()
def tw17118678049421557420:=()
def tw13694484498277226220:=()
def tw7048871566445749004:=()
def tw9009610226323847948:=()
def tw13150964160382771020:=()
def tw7770776318370783180:=()
def tw1735889925878173709:=()
def tw14160612553313427501:=()
def tw314402807535812781:=()
def tw3227668649241021645:=()
def tw12880874525720115437:=()
def tw17258901159555780877:=()
def tw7142693109190852909:=()
def tw16496833790844471597:=()
def tw9896007334385395021:=()
def tw18325769428870515021:=()
def tw13292930479018021229:=()
def tw6000380761573745037:=()
def tw16176687645051905677:=()
def tw7837364008583297677:=()
def tw603978016301009581:=()
def tw16316392569325017773:=()
def tw17073023771686691501:=()
def tw14419839737745579821:=()
def tw14806707512742520621:=()
def tw10976555119698496301:=()
def tw252342139513816973:=()
def tw17805864786647996301:=()
def tw15345700205662821293:=()
def tw18268550768525811661:=()
def tw4617305485384045549:=()
def tw5897936730293758990:=()
def tw729372780219792398:=()
def tw3772365919081472142:=()
def tw12936079964362067118:=()
def tw14418735750762445006:=()
def tw1657979510274330862:=()
def tw3965285042860636462:=()
def tw3571443853424079182:=()
def tw3670343213911883086:=()
def tw3577948634835517806:=()
def tw18183902775175740782:=()
def tw334149265939589550:=()
def tw12478837342564753934:=()
def tw16189136831037910574:=()
def tw1649891151357150798:=()
def tw13727589527897647726:=()
def tw4615877360026074734:=()
def tw11268223167260785262:=()
def tw18094179174539759342:=()
def tw7034006360094188366:=()
def tw16215073312223514510:=()
def tw4144660693191413678:=()
def tw11496495697344894991:=()
def tw10093414019380935823:=()
def tw7160464263823983791:=()
def tw3230710566967376079:=()
def tw2159707347232404719:=()
def tw12230898704328738063:=()
def tw2228414140489274703:=()
def tw4544556098855634287:=()
def tw4072753398620829135:=()
def tw10541195632510777839:=()
def tw8062460381648706031:=()
def tw17707966200004866575:=()
def tw1444092249232160303:=()
def tw17854011891515066959:=()
def tw1870172329812627023:=()
def tw8494226391886976687:=()
def tw15952123902627763887:=()
def tw6762511550142253775:=()
def tw16390338313741483727:=()
def tw1239387339645798127:=()
def tw16681594225765952335:=()
def tw6127024743516672943:=()
def tw10139218722558529487:=()
def tw15541338212070711247:=()
def tw10622252974662455279:=()
def tw10969973165067574255:=()
def tw16355199364457586671:=()
def tw16485989714416791632:=()
def tw13038335890049138896:=()
def tw1686324812487624912:=()
def tw5081265195878776016:=()
def tw5894829690166564144:=()
def tw7821121586960497008:=()
def tw18022664849733568976:=()
def tw9625274749631924720:=()
def tw670735071672885808:=()
def tw384395978584031824:=()
def tw15223326822360170064:=()
def tw6714109447125631600:=()
def tw16923764871320459920:=()
def tw10541186534349825712:=()
def tw14243254881969972944:=()
def tw11170306412507586256:=()
def tw15484516318723064592:=()
def tw6969132662630876048:=()
def tw8291652605570128880:=()
def tw12784703781851678769:=()
def tw11763266708703091793:=()
def tw9686081275641095281:=()
def tw1214153521355989169:=()
def tw10856463232309838001:=()
def tw12034146728899193041:=()
def tw13915503172684511441:=()
def tw3013623940711845105:=()
def tw5040642383942723857:=()
def tw16632680218044666161:=()
def tw16216462564423425329:=()
def tw16790881799638617553:=()
def tw18420916228477587921:=()
def tw11734606040856881713:=()
def tw5403544600856600145:=()
def tw11880480365435062961:=()
def tw10029058787168080561:=()
def tw2287965870411197169:=()
def tw16811093235499581233:=()
def tw8509155437508350769:=()
def tw6883111472963887025:=()
def tw9553975326173918129:=()
def tw15690456111974873041:=()
def tw6572601212174886002:=()
def tw2935450029187443858:=()
def tw6140373533092727986:=()
def tw7999765835342003410:=()
def tw3573078075036875090:=()
def tw961233105114687826:=()
def tw6863031116672323954:=()
def tw15509536303948063090:=()
def tw8100189180549337490:=()
def tw6087722489675315634:=()
def tw6710669006742480402:=()
def tw15090912812038088242:=()
def tw4537522972027402866:=()
def tw15440576670988699282:=()
def tw2404464346182687378:=()
def tw11845409200583206546:=()
def tw9469430762716549810:=()
def tw9220889180392800018:=()
def tw15571638809383303954:=()
def tw17750214870504132434:=()
def tw18241341927826847570:=()
def tw1516584717997930322:=()
def tw2779489181878812755:=()
def tw408267883785087155:=()
def tw14406242784731655347:=()
def tw1678530058631071155:=()
def tw110307461248820691:=()
def tw11609465187319338451:=()
def tw10324661914983875155:=()
def tw4519389051390920339:=()
def tw1186791730318589587:=()
def tw9881739574463865523:=()
def tw15925412588749467315:=()
def tw5556884404467552979:=()
def tw17625804432567520083:=()
def tw17819580804600171507:=()
def tw3987180020427226099:=()
def tw10396502723658827796:=()
def tw10313120532780671060:=()
def tw2888008449863498900:=()
def tw95228033098084532:=()
def tw12343994691219653844:=()
def tw1565294305075407060:=()
def tw7240912606685486292:=()
def tw17644719358978987284:=()
def tw3270182660555795732:=()
def tw8474942230861694292:=()
def tw11920262138868626804:=()
def tw7838972406991682932:=()
def tw5409360658170322356:=()
def tw15926133019600338420:=()
def tw13741479890546447956:=()
def tw1683956713655984724:=()
def tw18092424054359136884:=()
def tw6125384661747563124:=()
def tw5554115457403228852:=()
def tw15518075398669895380:=()
def tw1286539644408011476:=()
def tw16419905060303441652:=()
def tw11908069585228304180:=()
def tw6922496178251069236:=()
def tw15584663030790041428:=()
def tw4365575004320217940:=()
def tw14778342916822350676:=()
def tw8388167645027979092:=()
def tw11872507865687623572:=()
def tw16738728156779909012:=()
def tw17134201773352588180:=()
def tw1618125047494046612:=()
def tw10078394304917504948:=()
def tw16883161430484026292:=()
def tw6506031882006727604:=()
def tw17723482163060504500:=()
def tw5631823712217830356:=()
def tw12030755964673858516:=()
def tw6185732026159079380:=()
def tw4965229552103927764:=()
def tw13611086923914121204:=()
def tw17768521070506101748:=()
def tw16889053848416606325:=()
def tw10265013182293631093:=()
def tw18403389590183898357:=()
def tw14776146949455701269:=()
def tw5795335262814847285:=()
def tw17925883760479565109:=()
def tw9048755029554014581:=()
def tw4338716242596190581:=()
def tw5824175600695252373:=()
def tw15556648157919144341:=()
def tw3777502632825901493:=()
def tw10612518780744061397:=()
def tw5764904748199449077:=()
def tw4235968266285994549:=()
def tw12811579403252412021:=()
def tw14229493244259479157:=()
def tw138046664398680693:=()
def tw11529811522225655413:=()
def tw15573243575238008469:=()
def tw2294299764354513557:=()
def tw820902373274950325:=()
def tw18262876608674396917:=()
def tw8009547732883067669:=()
def tw8721112663023843093:=()
def tw11258330215905159989:=()
def tw9167606117099359061:=()
def tw7978874268834355061:=()
def tw3859625790329874325:=()
def tw7792673262902578133:=()
def tw12277348291200052181:=()
def tw7042783648739206166:=()
def tw3023315844126118998:=()
def tw7836273180483772630:=()
def tw9563347368961836374:=()
def tw1059311133767814486:=()
def tw6070727829963834774:=()
def tw8925968979349510582:=()
def tw11010690204595598774:=()
def tw13551361579035374038:=()
def tw11937764452414369270:=()
def tw9338672323734019638:=()
def tw2001809100816162358:=()
def tw14463189451056407158:=()
def tw16244359609206663798:=()
def tw10314776650610725526:=()
def tw7784726473571222198:=()
def tw14015947310615118550:=()
def tw17125865299945443030:=()
def tw11468308044826887926:=()
def tw6828230110006176534:=()
def tw6509800257654505238:=()
def tw11495552752235756342:=()
def tw8461214445715868470:=()
def tw18311199289410836310:=()
def tw11844394822548906838:=()
def tw5339713505038614390:=()
def tw1436360130358064022:=()
def tw4002645430344591286:=()
def tw224864203406193622:=()
def tw9118941119548989430:=()
def tw4616069970240088151:=()
def tw15642254619722073207:=()
def tw16222978626324631703:=()
def tw8322215005553695895:=()
def tw5901540073461938359:=()
def tw10184775119332821207:=()
def tw8736875590074021175:=()
def tw699519206126969143:=()
def tw16783775986048422231:=()
def tw7311732534997991799:=()
def tw15815118766537337239:=()
def tw9187050412057755063:=()
def tw6193013302258632151:=()
def tw7970000871176429047:=()
def tw15038377893231440407:=()
def tw11353358754687331895:=()
def tw10755242510572339767:=()
def tw14277745093110953559:=()
def tw12050567457286753911:=()
def tw15184837094898996855:=()
def tw7677911720468848247:=()
def tw9682266253465989815:=()
def tw762540116071858903:=()
def tw4011668087865964247:=()
def tw11346647203793548023:=()
def tw18105067460746650391:=()
def tw2484968956455268311:=()
def tw12767446385114922008:=()
def tw18279817411930494008:=()
def tw9052680854991944760:=()
def tw15409859709088968856:=()
def tw11006145267237251256:=()
def tw10385362258482458808:=()
def tw15389736843086332120:=()
def tw17713531571512106200:=()
def tw12271743239996384600:=()
def tw15586794747593333112:=()
def tw3000069515381041528:=()
def tw16339969128793514392:=()
def tw11622330771169705400:=()
def tw14926606204960018904:=()
def tw12407546527560569304:=()
def tw16197586838748884472:=()
def tw10874803905879560760:=()
def tw5280021162777046616:=()
def tw3693505733838232184:=()
def tw12381490669525019288:=()
def tw10787680416309229304:=()
def tw10223217121407164152:=()
def tw17517783854898347768:=()
def tw17144354099014560536:=()
def tw11791004678105126840:=()
def tw466501787618607129:=()
def tw13625307395677132921:=()
def tw11342070898595760345:=()
def tw9631956175996206297:=()
def tw8233765953791061209:=()
def tw10706675029140009177:=()
def tw17133946942149906681:=()
def tw15271760387728071961:=()
def tw9812154602710178105:=()
def tw17992368163288199481:=()
def tw7123389280844428601:=()
def tw17990069915110270265:=()
def tw4229852844155880793:=()
def tw6929644981277091225:=()
def tw6000609502614027705:=()
def tw2495658694672403001:=()
def tw10541237805342887513:=()
def tw2034169752414066265:=()
def tw14181406377825522297:=()
def tw3859866347469346489:=()
def tw5320950759164299993:=()
def tw14963408302189689593:=()
def tw8811305123885225817:=()
def tw8586518220285708185:=()
def tw1930365757655866265:=()
def tw11702441853737524121:=()
def tw12238003005200252857:=()
def tw16491212110654265305:=()
def tw5251128909073803225:=()
def tw7415864388994755545:=()
def tw7013502015849740281:=()
def tw10391839795437157369:=()
def tw4193850196033242138:=()
def tw1990426123471747130:=()
def tw12545452940362177722:=()
def tw842914688400489690:=()
def tw11339116008036698362:=()
def tw12136493606778578234:=()
def tw9928504910597625178:=()
def tw13715871062926679418:=()
def tw14024301384206250426:=()
def tw14287261192223135194:=()
def tw8403789166974272090:=()
def tw4472607950507408986:=()
def tw15221147582680304250:=()
def tw14885296751853844090:=()
def tw15145416217921237690:=()
def tw7646804209978776314:=()
def tw9855435454084622074:=()
def tw5331881530007029530:=()
def tw10539271979519448858:=()
def tw8645622852085652282:=()
def tw10798359379087543098:=()
def tw12576196605025503066:=()
def tw6214512555570748250:=()
def tw9277618841873261434:=()
def tw6939323349834868666:=()
def tw15365089493879776186:=()
def tw18263884771158649786:=()
def tw17975588407757411322:=()
def tw387080355033208826:=()
def tw14767741141574720603:=()
def tw14818286699247393947:=()
def tw7078251551821417723:=()
def tw3682918452715294971:=()
def tw2126704381995142427:=()
def tw4827330036765528379:=()
def tw5870875976710511963:=()
def tw9535547711638209915:=()
def tw5727317429302731131:=()
def tw10004417476881521051:=()
def tw5902725867750666651:=()
def tw17511867238815414811:=()
def tw2224189092924382747:=()
def tw16064420584699522587:=()
def tw814601518584321659:=()
def tw14972363195166301915:=()
def tw10649820956465119003:=()
def tw5627031892398627611:=()
def tw9060733035483168539:=()
def tw2232655588706846523:=()
def tw1840547921992363835:=()
def tw8458758511038805819:=()
def tw9520793244486822747:=()
def tw1230446461807800187:=()
def tw12476126065872170875:=()
def tw10629331935990643579:=()
def tw3754059637804827547:=()
def tw5551842466733428635:=()
def tw4861732333251581851:=()
def tw16274392606912238620:=()
def tw18209572095836056636:=()
def tw5532457675001547964:=()
def tw27551153034464476:=()
def tw1245614442933093660:=()
def tw2756132019749468444:=()
def tw9614415951008223548:=()
def tw13386482772581432668:=()
def tw13769573170773449052:=()
def tw4865826540454841724:=()
def tw15790845914706416028:=()
def tw8945875398030932380:=()
def tw17271341680020421084:=()
def tw17849843757016239612:=()
def tw12123904480036709948:=()
def tw53543137375876668:=()
def tw1660121649599352412:=()
def tw13712406522454718140:=()
def tw2997959580860316380:=()
def tw17420450394943798012:=()
def tw1192780568938608380:=()
def tw11811790887733115708:=()
def tw6713089770669271900:=()
def tw5917541587295148956:=()
def tw5415382842893954012:=()
def tw18350539648125831164:=()
def tw8399294551181331517:=()
def tw2676041123364448349:=()
def tw14712574503655007325:=()
def tw14488976455508016253:=()
def tw16566351976788053149:=()
def tw18059577534310603965:=()
def tw8060750369718777053:=()
def tw11380067780010377533:=()
def tw12961740777951256893:=()
def tw14834898260385464669:=()
def tw13715127391992962429:=()
def tw6043844103750555101:=()
def tw8183414739918392797:=()
def tw15705791403065009661:=()
def tw9245738821986089469:=()
def tw11643643582114234909:=()
def tw18397030504574457437:=()
def tw5183933324969413245:=()
def tw2529835630118183613:=()
def tw7539385085979423453:=()
def tw11708253908384545533:=()
def tw7116007525919218461:=()
def tw16763329588412061501:=()
def tw5732947037065444157:=()
def tw420656978004295549:=()
def tw879733097622709181:=()
def tw41725141994137533:=()
def tw8466891316759199806:=()
def tw7450622353996477598:=()
def tw14109245374881897662:=()
def tw12954139639760591070:=()
def tw13307527326093940990:=()
def tw2262978442293822846:=()
def tw6036504695807572350:=()
def tw941796808052877726:=()
def tw14091797961704259998:=()
def tw6267342737265171902:=()
def tw2948947407686485502:=()
def tw2203915659114232350:=()
def tw12862816663982768702:=()
def tw9156694293656744510:=()
def tw16690114842001224286:=()
def tw1990074536033209022:=()
def tw569460585549546270:=()
def tw11381396687929034526:=()
def tw11544711422229795614:=()
def tw2682765201520091966:=()
def tw11251109916528985950:=()
def tw5648480693411342238:=()
def tw6825233518842280862:=()
def tw6940460058392499166:=()
def tw13090622741182009310:=()
def tw6064626616204443646:=()
def tw4823191122620631038:=()
def tw9568938776251959359:=()
def tw10436710401663975551:=()
def tw1619938372586464415:=()
def tw13222400386757484735:=()
def tw13757078088144551103:=()
def tw10371282443052373247:=()
def tw11215713818170187007:=()
def tw12425914002628576543:=()
def tw1698639598580212095:=()
def tw9483235150693249407:=()
def tw14474723447916844415:=()
def tw13530510148441132447:=()
def tw8630907384206054815:=()
def tw15678166959536092607:=()
def tw12336737774914905631:=()
def tw2183057169300297279:=()
def tw3809440166382759519:=()
def tw10814076346537146015:=()
def tw538544435571413727:=()
def tw1614284916958222079:=()
def tw12462800748831168287:=()
def tw9099193304470292319:=()
def tw7260688790899364735:=()
def tw8815535431691127775:=()
end PySem.W.Fast
open PySem PySem.W PyProof.Rows
set_option maxRecDepth 100000 in
set_option maxHeartbeats 0 in
theorem PySem.Challenge.cw_lapwork_k62_run_of_any_sheet_holds : PySem.Challenge.rw_lapwork_k62_run_of_any_sheet.Holds := by
  w_on; o_law; k_head; (case hw => w_witness2)
  k_fill
  refine Lap.walk (l := PySem.Challenge.rw_lapwork_k62_run_of_any_sheet) rfl rfl (fun w h Y => PySem.W.kIn_of Y) ?F
  case F =>
    intro w mg fa h KX G hmg
    refine' Lap.all_mk KX G hmg ?fl ?t0 ?t1 ?t2 ?t3
    (case fl => walk_at "lapF")
    (case t0 =>
      refine' Lap.tp0_mk ?c_Sum ?c_Less ?c_Times ?c_Least ?c_Most ?c_Pick ?c_Same ?c_Tell ?c_Take ?g_LapError ?g_NoDeed ?g_NoMeasure ?g_BadRows ?g_BadName ?g_Twice ?g_BadCount ?g_BadNumber ?g_NoRow ?g_BadBack ?g_TooEarly ?g_BadTurns ?g_Short ?g_BadWidth ?g_BadArms ?g_NoArm ?g_BadDelay ?g_BadHold ?g_BadPlan ?g_Unfit ?g_BadText ?g_Sheet ?g_Machine
      (case c_Sum => walk_at "lapC")
      (case c_Less => walk_at "lapC")
      (case c_Times => walk_at "lapC")
      (case c_Least => walk_at "lapC")
      (case c_Most => walk_at "lapC")
      (case c_Pick => walk_at "lapC")
      (case c_Same => walk_at "lapC")
      (case c_Tell => walk_at "lapC")
      (case c_Take => walk_at "lapC")
      (case g_LapError => k_is)
      (case g_NoDeed => k_is)
      (case g_NoMeasure => k_is)
      (case g_BadRows => k_is)
      (case g_BadName => k_is)
      (case g_Twice => k_is)
      (case g_BadCount => k_is)
      (case g_BadNumber => k_is)
      (case g_NoRow => k_is)
      (case g_BadBack => k_is)
      (case g_TooEarly => k_is)
      (case g_BadTurns => k_is)
      (case g_Short => k_is)
      (case g_BadWidth => k_is)
      (case g_BadArms => k_is)
      (case g_NoArm => k_is)
      (case g_BadDelay => k_is)
      (case g_BadHold => k_is)
      (case g_BadPlan => k_is)
      (case g_Unfit => k_is)
      (case g_BadText => k_is)
      (case g_Sheet => k_is)
      (case g_Machine => k_is))
    (case t1 =>
      refine' Lap.tp1_mk ?f_of_sum ?f_of_less ?f_of_times ?f_of_least ?f_of_most ?f_of_pick ?f_of_same ?f_of_tell ?f_of_take ?x_BadTurns ?m_BadTurns ?lapB ?lapT ?i_Sheet ?i_Machine ?f_Machine_do_part ?f_Machine_numbers_got ?f_Machine_land ?f_Machine_land_all ?w_MOST_TURNS ?f_deed ?f_cturns ?f_run ?f_cell ?f_whole ?f_alike ?f_mix ?f_wants ?f_makes ?f_landed ?f_begun ?f_done ?f_parts ?f_classes ?f_step ?f_part
      (case f_of_sum => walk_at "lapM")
      (case f_of_less => walk_at "lapM")
      (case f_of_times => walk_at "lapM")
      (case f_of_least => walk_at "lapM")
      (case f_of_most => walk_at "lapM")
      (case f_of_pick => walk_at "lapM")
      (case f_of_same => walk_at "lapM")
      (case f_of_tell => walk_at "lapM")
      (case f_of_take => walk_at "lapM")
      (case x_BadTurns => walk_at "lapX")
      (case m_BadTurns => k_is)
      (case lapB => k_is)
      (case lapT => k_is)
      (case i_Sheet => walk_at "lapI")
      (case i_Machine => walk_at "lapI")
      (case f_Machine_do_part => walk_at "lapM")
      (case f_Machine_numbers_got => walk_at "lapM")
      (case f_Machine_land => walk_at "lapM")
      (case f_Machine_land_all => walk_at "lapM")
      (case w_MOST_TURNS => walk_at "lapV")
      (case f_deed => walk_at "lapF")
      (case f_cturns => walk_at "lapF")
      (case f_run => walk_at "lapF")
      (case f_cell => walk_at "lapF")
      (case f_whole => walk_at "lapF")
      (case f_alike => walk_at "lapF")
      (case f_mix => walk_at "lapF")
      (case f_wants => walk_at "lapF")
      (case f_makes => walk_at "lapF")
      (case f_landed => walk_at "lapF")
      (case f_begun => walk_at "lapF")
      (case f_done => walk_at "lapF")
      (case f_parts => walk_at "lapF")
      (case f_classes => walk_at "lapF")
      (case f_step => walk_at "lapF")
      (case f_part => walk_at "lapF"))
    (case t2 =>
      refine' Lap.tp2_mk ?f_numbers ?f_pair ?z_len ?z_isinstance ?z_int ?z_bool ?z_range ?z_min ?z_max ?z_list ?z_tuple ?z_str ?z_sum ?z_sorted ?z_repr ?z_ValueError ?kII ?kIB ?kTT ?kTI ?kIT ?kLL ?kSS ?nS_pace ?nS_held ?nS_stages ?nS_shorts ?nS_ahead ?nS_middle ?nS_tails ?nM_measure ?nM_feeds ?nM_boxes ?nM_tick ?nM_due ?nM_made
      (case f_numbers => walk_at "lapF")
      (case f_pair => walk_at "lapF")
      (case z_len => k_is)
      (case z_isinstance => k_is)
      (case z_int => k_is)
      (case z_bool => k_is)
      (case z_range => k_is)
      (case z_min => k_is)
      (case z_max => k_is)
      (case z_list => k_is)
      (case z_tuple => k_is)
      (case z_str => k_is)
      (case z_sum => k_is)
      (case z_sorted => k_is)
      (case z_repr => k_is)
      (case z_ValueError => k_is)
      (case kII => kit_is)
      (case kIB => kit_is)
      (case kTT => kit_is)
      (case kTI => kit_is)
      (case kIT => kit_is)
      (case kLL => kit_is)
      (case kSS => kit_is)
      (case nS_pace => (unfold L2.NoAttr; k_is))
      (case nS_held => (unfold L2.NoAttr; k_is))
      (case nS_stages => (unfold L2.NoAttr; k_is))
      (case nS_shorts => (unfold L2.NoAttr; k_is))
      (case nS_ahead => (unfold L2.NoAttr; k_is))
      (case nS_middle => (unfold L2.NoAttr; k_is))
      (case nS_tails => (unfold L2.NoAttr; k_is))
      (case nM_measure => (unfold L2.NoAttr; k_is))
      (case nM_feeds => (unfold L2.NoAttr; k_is))
      (case nM_boxes => (unfold L2.NoAttr; k_is))
      (case nM_tick => (unfold L2.NoAttr; k_is))
      (case nM_due => (unfold L2.NoAttr; k_is))
      (case nM_made => (unfold L2.NoAttr; k_is)))
    (case t3 =>
      refine' Lap.tp3_mk ?kX_BadTurns ?kV_BadTurns ?kL_BadTurns
      (case kX_BadTurns => (intro e h1 h2 h3; cases e <;> first | exact absurd rfl h1 | exact absurd rfl h2 | exact absurd rfl h3 | kit_is))
      (case kV_BadTurns => kit_is)
      (case kL_BadTurns => kit_is))
