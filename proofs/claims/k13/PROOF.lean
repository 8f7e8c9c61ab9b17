import PyProof.Rows.All
import Wide.All
import OpenK.AllK
import Wide.FinOn
import Lean
import PyProof.EqAt
import PyProof.EqKinds
import PyProof.TupleCall
import PySem.Challenge.RW_lapwork_k13_table
-- CHANGE: your row's module here, as the last of these rows
set_option Elab.async false
set_option linter.all false
set_option maxRecDepth 100000
namespace L2
open PySem PySem.Spec PyProof.Rows
abbrev Key := Sum Int Str
def keyIs : Key → Value → Bool
  | .inl k, v => Value.isInt k v
  | .inr x, v => Value.isStrOf x v
def keyH (w : World) : Key → Int
  | .inl k => hashInt k
  | .inr x => hashStr w x
theorem keyIs_shape : ∀ {k : Key} {v : Value}, keyIs k v = true → (∃ i t, k = Sum.inl i ∧ v = Value.int i t) ∨ (∃ x t, k = Sum.inr x ∧ v = Value.str x t)
  | .inl i, v, h => by
    obtain ⟨t, e⟩ := Value.isInt_shape (k := i) (v := v) h
    exact .inl ⟨i, t, rfl, e⟩
  | .inr x, v, h => by
    obtain ⟨t, e⟩ := Value.isStrOf_shape (x := x) (v := v) h
    exact .inr ⟨x, t, rfl, e⟩
theorem keyIs_int (i : Int) (t : Tok) : keyIs (.inl i) (.int i t) = true := by simp [keyIs, Value.isInt]
theorem keyIs_str (x : Str) (t : Tok) : keyIs (.inr x) (.str x t) = true := by simp [keyIs, Value.isStrOf]
theorem key_ll (a b : Int) : decide ((Sum.inl a : Key) = Sum.inl b) = (a == b) := by
  by_cases e : a = b
  · subst e; simp
  · have h : ¬ (Sum.inl a : Key) = Sum.inl b := fun q => e (Sum.inl.inj q)
    rw [decide_eq_false h]
    exact (beq_eq_false_iff_ne.mpr e).symm
theorem key_rr (a b : Str) : decide ((Sum.inr a : Key) = Sum.inr b) = decide (a = b) := by
  by_cases e : a = b
  · subst e; simp
  · have h : ¬ (Sum.inr a : Key) = Sum.inr b := fun q => e (Sum.inr.inj q)
    rw [decide_eq_false h, decide_eq_false e]
theorem key_lr (a : Int) (b : Str) : decide ((Sum.inl a : Key) = Sum.inr b) = false := decide_eq_false (fun q => nomatch q)
theorem key_rl (a : Str) (b : Int) : decide ((Sum.inr a : Key) = Sum.inl b) = false := decide_eq_false (fun q => nomatch q)
def mixKind (prog : Program) (w : World) : PySem.KeyKind prog w Key where
  is := keyIs
  hash := keyH w
  inj := fun v a b ha hb => by
    rcases keyIs_shape ha with ⟨i, t, rfl, rfl⟩ | ⟨x, t, rfl, rfl⟩
    · rcases keyIs_shape hb with ⟨j, u, rfl, e⟩ | ⟨y, u, rfl, e⟩
      · injection e with e1 _; rw [e1]
      · exact nomatch e
    · rcases keyIs_shape hb with ⟨j, u, rfl, e⟩ | ⟨y, u, rfl, e⟩
      · exact nomatch e
      · injection e with e1 _; rw [e1]
  byValue := fun k v h => by
    rcases keyIs_shape h with ⟨i, t, rfl, rfl⟩ | ⟨x, t, rfl, rfl⟩ <;> rfl
  pyHash := fun hv h => by
    rcases keyIs_shape hv with ⟨i, t, rfl, rfl⟩ | ⟨x, t, rfl, rfl⟩
    · exact wpAny_pyHash_int h
    · exact wpAny_pyHash_str h
  eqBool := fun hu hv h => by
    rcases keyIs_shape hu with ⟨i, t, rfl, rfl⟩ | ⟨x, t, rfl, rfl⟩
    · rcases keyIs_shape hv with ⟨j, u, rfl, rfl⟩ | ⟨y, u, rfl, rfl⟩
      · rw [key_ll] at h; exact wpAny_eqBool_int h
      · rw [key_lr] at h; exact SeqAt.EqAt.int_str i t y u _ _ _ _ h
    · rcases keyIs_shape hv with ⟨j, u, rfl, rfl⟩ | ⟨y, u, rfl, rfl⟩
      · rw [key_rl] at h; exact SeqAt.EqAt.str_int x t j u _ _ _ _ h
      · rw [key_rr] at h; exact wpAny_eqBool_str h
  «strs» := fun k x t v h => by
    rcases keyIs_shape h with ⟨i, u, rfl, e⟩ | ⟨y, u, rfl, e⟩
    · exact nomatch e
    · injection e with e1 _
      subst e1
      cases v <;> rfl
theorem mixKind_int (prog : Program) (w : World) (i : Int) (t : Tok) : (mixKind prog w).is (.inl i) (.int i t) = true := keyIs_int i t
theorem mixKind_str (prog : Program) (w : World) (x : Str) (t : Tok) : (mixKind prog w).is (.inr x) (.str x t) = true := keyIs_str x t
end L2
namespace L2
open PySem PySem.Spec PyProof.Rows
inductive V where
  | non | bl (b : Bool) | int (i : Int) | str (x : Str) | byt (b : Array UInt8) | flt (b : UInt64) | ref (a : Addr) | ty (n : String)
  deriving DecidableEq
def RelV : V → Value → Prop
  | .non, u => u = Value.none
  | .bl b, u => u = Value.bool b
  | .int i, u => ∃ t, u = Value.int i t
  | .str x, u => ∃ t, u = Value.str x t
  | .byt b, u => ∃ t, u = Value.bytes b t
  | .flt b, u => ∃ t, u = Value.float b t
  | .ref a, u => u = Value.ref a
  | .ty n, u => u = Value.type n
abbrev Vals : List V → List Value → Prop := Paired RelV
theorem Vals.length {xs : List V} {us : List Value} (r : Vals xs us) : xs.length = us.length := Paired.length r
theorem Vals.get : ∀ {xs : List V} {us : List Value} {i : Nat} {x : V}, Vals xs us → xs[i]? = some x → ∃ u, us[i]? = some u ∧ RelV x u
  | _, _, _, _, .nil, e => by simp at e
  | _, _, 0, _, .cons r _, e => by simp at e; subst e; exact ⟨_, rfl, r⟩
  | _, _, i + 1, x, .cons _ t, e => by
    obtain ⟨u, h1, h2⟩ := Vals.get (i := i) (x := x) t (by simpa using e)
    exact ⟨u, by simpa using h1, h2⟩
theorem Vals.append : ∀ {xs ys : List V} {us ws : List Value}, Vals xs us → Vals ys ws → Vals (xs ++ ys) (us ++ ws)
  | _, _, _, _, .nil, s => s
  | _, _, _, _, .cons r t, s => .cons r (Vals.append t s)
theorem Vals.take : ∀ {xs : List V} {us : List Value} (n : Nat), Vals xs us → Vals (xs.take n) (us.take n)
  | _, _, 0, _ => .nil
  | _, _, _ + 1, .nil => .nil
  | _, _, n + 1, .cons r t => .cons r (Vals.take n t)
theorem Vals.drop : ∀ {xs : List V} {us : List Value} (n : Nat), Vals xs us → Vals (xs.drop n) (us.drop n)
  | _, _, 0, r => r
  | _, _, _ + 1, .nil => .nil
  | _, _, n + 1, .cons _ t => Vals.drop n t
def RelO : Option V → Option Value → Prop
  | some v, some u => RelV v u
  | none, none => True
  | _, _ => False
def KV {κ : Type} : List (κ × V) → List (κ × Value) → Prop := Paired fun (p : κ × V) (q : κ × Value) => p.1 = q.1 ∧ RelV p.2 q.2
def kV : Key → V
  | .inl i => .int i
  | .inr x => .str x
inductive HO where
  | lst (xs : List V)
  | tup (xs : List V)
  | dK (kvs : List (Key × V)) | dT (kvs : List (List Key × V))
  | set (S : Int → Bool) (n : Nat)
  | ins (C dx : Addr) (fs : List (Str × V))
  | own (x : Addr)
  | xd (fs : List (Str × V))
  | met (f x : Addr)
  | rng (lo hi : Int)
  | frz (o : Obj) (u : HO)
  | tbl (ps : Array Value)
  | ext (φ : Heap → Prop)
abbrev Hp := Addr → Option HO
def upd (H : Hp) (a : Addr) (o : HO) : Hp := fun b => if b = a then some o else H b
theorem upd_same {H : Hp} {a : Addr} {o : HO} : upd H a o a = some o := by unfold upd; rw [if_pos rfl]
theorem upd_ne {H : Hp} {a b : Addr} {o : HO} (h : b ≠ a) : upd H a o b = H b := by unfold upd; rw [if_neg h]
theorem upd_upd {H : Hp} {a : Addr} {o u : HO} : upd (upd H a o) a u = upd H a u := by
  funext b; unfold upd; split <;> rfl
theorem ne_of {H : Hp} {a b : Addr} {o u : HO} (h : H a = some o) (h' : H b = some u) (d : o ≠ u) : a ≠ b := by
  intro e; subst e; rw [h] at h'; exact d (Option.some.inj h')
theorem ne_of_none {H : Hp} {a b : Addr} {o : HO} (h : H a = some o) (h' : H b = none) : a ≠ b := by
  intro e; subst e; rw [h] at h'; cases h'
section
variable (P : Program) (w : World)
def ObjOk (H : Hp) (h : Heap) (a : Addr) : HO → Prop
  | .lst xs => xs.length ≤ sizeLine ∧ ∃ (its : List Value) (n : Nat), Vals xs its ∧ h.get? a = some { cls := .type "list", data := .seq its.toArray n }
  | .tup xs => xs.length ≤ sizeLine ∧ ∃ its : List Value, Vals xs its ∧ IsTup h a its.toArray
  | .dK kvs => kvs.length ≤ sizeLine ∧ (a == sysModules) = false ∧ ∃ vs, KV kvs vs ∧ h.DictOf (mixKind P w) a vs
  | .dT kvs => kvs.length ≤ sizeLine ∧ (a == sysModules) = false ∧ ∃ xs : List (List Key × Addr × Value),
      Paired (fun (p : List Key × V) (q : List Key × Addr × Value) => p.1 = q.1 ∧ H q.2.1 = some (.tup (p.1.map kV)) ∧ RelV p.2 q.2.2) kvs xs ∧
      ∃ o es ep, h.get? a = some o ∧ o.ExactDict ∧ o.data = .dict es ep ∧ es.toList = xs.map (entryOfKey (tupleKind (mixKind P w))) ∧ (xs.map (·.1)).Nodup
  | .set S n => h.SetOf (intKind P w) a S n
  | .ins C dx fs => H dx = some (.own a) ∧ fs.length ≤ 1000 ∧ dx ≠ a ∧ h.get? a = some (PySem.W.instObj C dx) ∧
      ∃ mA, h.Ns1 dx mA ∧ (∀ f, RelO (fs.lookup f) (mA f)) ∧ PySem.Within mA (fs.map (·.1))
  | .own _ => ∃ o, h.get? a = some o
  | .xd fs => ∃ mA, h.Ns1 a mA ∧ ∀ f, RelO (fs.lookup f) (mA f)
  | .rng lo hi => ∃ t u v, h.get? a = some { cls := .type "range", data := .fields #[.int lo t, .int hi u, .int 1 v] }
  | .frz o u => h.get? a = some o ∧ ObjOk H h a u
  | .tbl ps => h.get? a = some { cls := .none, data := .fields ps }
  | .met f x => h.get? a = some (PySem.W.methodObj (.ref f) (.ref x))
  | .ext φ => φ h ∧ (∃ o, h.get? a = some o) ∧ ∀ h1 h2 : Heap, φ h1 → (∀ o, h1.get? a = some o → h2.get? a = some o) → φ h2
def HOk (H : Hp) (h : Heap) : Prop := ∀ a o, H a = some o → ObjOk P w H h a o
end
section
variable {P : Program} {w : World} {H H' : Hp} {h h' : Heap} {a : Addr} {o : HO}
theorem ObjOk.lt (x : ObjOk P w H h a o) : a < h.objs.size := by
  cases o with
  | lst xs => obtain ⟨_, _, _, _, e⟩ := x; exact Heap.lt_size e
  | tup xs => obtain ⟨_, _, _, p⟩ := x; exact p.lt
  | dK kvs => obtain ⟨_, _, _, _, o, _, _, e, _⟩ := x; exact Heap.lt_size e
  | dT kvs => obtain ⟨_, _, _, _, o, _, _, e, _⟩ := x; exact Heap.lt_size e
  | set S n => obtain ⟨o, _, _, _, e, _⟩ := x; exact Heap.lt_size e
  | ins C dx fs => obtain ⟨_, _, _, e, _⟩ := x; exact Heap.lt_size e
  | own y => obtain ⟨_, e⟩ := x; exact Heap.lt_size e
  | xd fs => obtain ⟨_, ⟨_, _, _, e, _⟩, _⟩ := x; exact Heap.lt_size e
  | rng lo hi => obtain ⟨_, _, _, e⟩ := x; exact Heap.lt_size e
  | frz ob u => obtain ⟨e, _⟩ := x; exact Heap.lt_size e
  | tbl ps => exact Heap.lt_size (show h.get? a = some _ from x)
  | met f y => exact Heap.lt_size (show h.get? a = some _ from x)
  | ext φ => obtain ⟨_, ⟨_, e⟩, _⟩ := x; exact Heap.lt_size e
theorem Paired.mapP {α β : Type} {F G : α → β → Prop} : ∀ {l₁ : List α} {l₂ : List β}, Paired F l₁ l₂ → (∀ a b, F a b → G a b) → Paired G l₁ l₂
  | _, _, .nil, _ => .nil
  | _, _, .cons r t, f => .cons (f _ _ r) (Paired.mapP t f)
theorem ObjOk.stay (x : ObjOk P w H h a o) (k : ∀ b u, (b = a ∨ H b = some (.own a)) → h.get? b = some u → h'.get? b = some u)
    (ho : ∀ b, H b = some (.own a) → H' b = some (.own a)) (ht : ∀ b xs, H b = some (.tup xs) → H' b = some (.tup xs)) : ObjOk P w H' h' a o := by
  induction o with
  | lst xs => obtain ⟨z, its, n, r, e⟩ := x; exact ⟨z, its, n, r, k _ _ (.inl rfl) e⟩
  | tup xs => obtain ⟨z, its, r, ob, e, c⟩ := x; exact ⟨z, its, r, ob, k _ _ (.inl rfl) e, c⟩
  | dK kvs => obtain ⟨z, y, vs, r, ob, es, ep, e, c⟩ := x; exact ⟨z, y, vs, r, ob, es, ep, k _ _ (.inl rfl) e, c⟩
  | dT kvs =>
    obtain ⟨z, y, xs, r, ob, es, ep, e, c⟩ := x
    exact ⟨z, y, xs, Paired.mapP r fun p q z => ⟨z.1, ht _ _ z.2.1, z.2.2⟩, ob, es, ep, k _ _ (.inl rfl) e, c⟩
  | set S n => obtain ⟨ob, es, ep, t, e, c⟩ := x; exact ⟨ob, es, ep, t, k _ _ (.inl rfl) e, c⟩
  | ins C dx fs =>
    obtain ⟨d, z, ne, e, mA, ⟨od, es, ep, e2, c⟩, r⟩ := x
    exact ⟨ho _ d, z, ne, k _ _ (.inl rfl) e, mA, ⟨od, es, ep, k _ _ (.inr d) e2, c⟩, r⟩
  | own y => obtain ⟨ob, e⟩ := x; exact ⟨ob, k _ _ (.inl rfl) e⟩
  | xd fs => obtain ⟨mA, ⟨od, es, ep, e, c⟩, r⟩ := x; exact ⟨mA, ⟨od, es, ep, k _ _ (.inl rfl) e, c⟩, r⟩
  | rng lo hi => obtain ⟨t, u, v, e⟩ := x; exact ⟨t, u, v, k _ _ (.inl rfl) e⟩
  | frz ob u ih => obtain ⟨e, q⟩ := x; exact ⟨k _ _ (.inl rfl) e, ih q⟩
  | tbl ps =>
    have e : h.get? a = some { cls := .none, data := .fields ps } := x
    show h'.get? a = some { cls := .none, data := .fields ps }
    exact k a _ (.inl rfl) e
  | met f y =>
    have e : h.get? a = some (PySem.W.methodObj (.ref f) (.ref y)) := x
    show h'.get? a = some (PySem.W.methodObj (.ref f) (.ref y))
    exact k a _ (.inl rfl) e
  | ext φ => obtain ⟨p, ⟨o, e⟩, st⟩ := x; exact ⟨st _ _ p fun o q => k _ _ (.inl rfl) q, ⟨o, k _ _ (.inl rfl) e⟩, st⟩
theorem HOk.lt (x : HOk P w H h) (e : H a = some o) : a < h.objs.size := (x a o e).lt
theorem HOk.fresh (x : HOk P w H h) (e : h.objs.size ≤ a) : H a = none := by
  cases q : H a with
  | none => rfl
  | some u => exact absurd (Nat.lt_of_lt_of_le (x.lt q) e) (Nat.lt_irrefl _)
theorem HOk.kept (x : HOk P w H h) (k : ∀ b u, h.get? b = some u → h'.get? b = some u) : HOk P w H h' := fun a o e =>
  (x a o e).stay (fun b u _ q => k b u q) (fun _ q => q) fun _ _ q => q
theorem HOk.laid (x : HOk P w H h) (k : ∀ b u, h.get? b = some u → h'.get? b = some u) (hp : h.objs.size ≤ a) (new : ObjOk P w (upd H a o) h' a o) : HOk P w (upd H a o) h' := fun b u e => by
  have hn := x.fresh hp
  by_cases hb : b = a
  · subst hb; rw [upd_same] at e; cases e; exact new
  · rw [upd_ne hb] at e
    exact (x b u e).stay (fun c v _ q => k c v q) (fun c q => by rw [upd_ne (ne_of_none q hn)]; exact q) fun c xs q => by rw [upd_ne (ne_of_none q hn)]; exact q
end
def Rd (H : Hp) (a : Addr) (u : HO) : Prop := H a = some u ∨ ∃ o, H a = some (.frz o u)
theorem Rd.ok {P : Program} {w : World} {H : Hp} {h : Heap} {a : Addr} {u : HO} (r : Rd H a u) (x : HOk P w H h) : ObjOk P w H h a u := by
  rcases r with r | ⟨o, r⟩
  · exact x a u r
  · obtain ⟨_, q⟩ := x a _ r
    exact q
def Mut : Option HO → Prop
  | some (.lst _) => True
  | some (.dK _) => True
  | some (.dT _) => True
  | some (.set _ _) => True
  | some (.ins _ _ _) => True
  | some (.ext _) => True
  | _ => False
section
variable {P : Program} {w : World} {H : Hp} {h h' : Heap} {x e : Addr} {o' : HO}
theorem HOk.write (ok : HOk P w H h) (mu : Mut (H x)) (he : e = x ∨ H e = some (.own x)) (k : ∀ b u, b ≠ e → h.get? b = some u → h'.get? b = some u) (heo : ∃ u, h'.get? e = some u)
    (new : ObjOk P w (upd H x o') h' x o') : HOk P w (upd H x o') h' := fun b u q => by
  have nown : ∀ c y, H c = some (.own y) → c ≠ x := fun c y r z => by subst z; rw [r] at mu; exact mu
  have ntup : ∀ c xs, H c = some (.tup xs) → c ≠ x := fun c xs r z => by subst z; rw [r] at mu; exact mu
  by_cases hb : b = x
  · subst hb; rw [upd_same] at q; cases q; exact new
  · rw [upd_ne hb] at q
    by_cases hbe : b = e
    · have q' : H b = some (.own x) := by
        rcases he with z | z
        · exact absurd (hbe.trans z) hb
        · rw [hbe]; exact z
      rw [q] at q'; cases q'
      obtain ⟨v, hv⟩ := heo
      exact ⟨v, by rw [hbe]; exact hv⟩
    · refine (ok b u q).stay (fun c v hc r => k c v ?_ r) (fun c r => by rw [upd_ne (nown c b r)]; exact r) fun c xs r => by rw [upd_ne (ntup c xs r)]; exact r
      rcases hc with rfl | hc
      · exact hbe
      · rintro rfl
        rcases he with z | z
        · exact nown c b hc z
        · rw [hc] at z; cases z; exact hb rfl
end
structure Un (fs ex : List Addr) (H H' : Hp) (h h' : Heap) : Prop where
  keep : ∀ b o, h.get? b = some o → H b = none → b ∉ fs → b ∉ ex → h'.get? b = some o
  slot : ∀ b o, h.get? b = some o → H b = none → b ∈ fs → b ∉ ex → ∃ sl, h'.get? b = some { o with slots := sl }
  free : ∀ b o, h.get? b = some o → H b = none → b ∉ ex → H' b = none
  there : ∀ b o, h.get? b = some o → b ∉ ex → ∃ o', h'.get? b = some o'
  tups : ∀ b xs, H b = some (.tup xs) → H' b = some (.tup xs)
  frzs : ∀ b o u, H b = some (.frz o u) → H' b = some (.frz o u)
  tbls : ∀ b ps, H b = some (.tbl ps) → ∃ more, H' b = some (.tbl (ps ++ more))
section
variable {fs fs' ex ex' : List Addr} {H H1 H2 : Hp} {h h1 h2 h' : Heap} {a x e : Addr} {o : HO}
theorem Un.any (u : Un fs ex H H1 h h1) {b : Addr} {ob : Obj} (q : h.get? b = some ob) (n : H b = none) (hx : b ∉ ex) : ∃ sl, h1.get? b = some { ob with slots := sl } := by
  by_cases hb : b ∈ fs
  · exact u.slot b ob q n hb hx
  · exact ⟨ob.slots, u.keep b ob q n hb hx⟩
theorem Un.kept (k : ∀ b u, h.get? b = some u → h'.get? b = some u) : Un fs ex H H h h' :=
  ⟨fun b ob q _ _ _ => k b ob q, fun b ob q _ _ _ => ⟨ob.slots, k b ob q⟩, fun _ _ _ n _ => n, fun b ob q _ => ⟨ob, k b ob q⟩, fun _ _ q => q, fun _ _ _ q => q, fun _ ps q => ⟨#[], by rw [q]; simp⟩⟩
theorem Un.refl : Un fs ex H H h h := Un.kept fun _ _ q => q
theorem Un.laid (k : ∀ b u, h.get? b = some u → h'.get? b = some u) (hp : h.objs.size ≤ a) (hn : H a = none) : Un fs ex H (upd H a o) h h' where
  keep := fun b u q _ _ _ => k b u q
  slot := fun b u q _ _ _ => ⟨u.slots, k b u q⟩
  free := fun b u q n _ => by rw [upd_ne (Nat.ne_of_lt (Nat.lt_of_lt_of_le (Heap.lt_size q) hp))]; exact n
  there := fun b u q _ => ⟨u, k b u q⟩
  tups := fun b xs q => by rw [upd_ne (ne_of_none q hn)]; exact q
  frzs := fun b u xs q => by rw [upd_ne (ne_of_none q hn)]; exact q
  tbls := fun b ps q => ⟨#[], by rw [upd_ne (ne_of_none q hn), q]; simp⟩
theorem Un.write (mu : Mut (H x)) (he : e = x ∨ H e = some (.own x)) (k : ∀ b u, b ≠ e → h.get? b = some u → h'.get? b = some u) (heo : ∃ u, h'.get? e = some u) : Un fs ex H (upd H x o) h h' := by
  have hx : ∀ b, H b = none → b ≠ x := fun b n z => by subst z; rw [n] at mu; exact mu
  have hb : ∀ b, H b = none → b ≠ e := fun b n z => by
    subst z
    rcases he with r | r
    · exact hx b n r
    · rw [n] at r; cases r
  have hm : ∀ b u, H b = some u → ¬ Mut (some u) → b ≠ x := fun b u q nm z => by subst z; rw [q] at mu; exact nm mu
  refine ⟨fun b u q n _ _ => k b u (hb b n) q, fun b u q n _ _ => ⟨u.slots, k b u (hb b n) q⟩, fun b u q n _ => by rw [upd_ne (hx b n)]; exact n, fun b u q _ => ?_,
    fun b xs q => by rw [upd_ne (hm b _ q fun z => z)]; exact q, fun b u xs q => by rw [upd_ne (hm b _ q fun z => z)]; exact q, fun b ps q => ⟨#[], by rw [upd_ne (hm b _ q fun z => z), q]; simp⟩⟩
  by_cases hbe : b = e
  · subst hbe; exact heo
  · exact ⟨u, k b u hbe q⟩
end
def trk (h : Heap) (H : Hp) : List Addr := (List.range h.objs.size).filter fun a => (H a).isSome
def hidT (h : Heap) (H : Hp) : Heap := PySem.W.hideAll h (trk h H)
theorem hidT_size (h : Heap) (H : Hp) : (hidT h H).objs.size = h.objs.size := PySem.W.hideAll_size _ _
theorem hidT_get {h : Heap} {H : Hp} {b : Addr} {o : Obj} (e : h.get? b = some o) (n : H b = none) : (hidT h H).get? b = some o :=
  PySem.W.hideAll_get _ e fun hm => by
    have q : (H b).isSome = true := (List.mem_filter.mp hm).2
    rw [n] at q; simp at q
theorem of_hidT {h : Heap} {H : Hp} {b : Addr} {o : Obj} (e : (hidT h H).get? b = some o) : h.get? b = some o ∧ H b = none := by
  have e' : h.get? b = some o := PySem.W.of_hideAll (trk h H) e
  refine ⟨e', ?_⟩
  cases q : H b with
  | none => rfl
  | some x =>
    have hm : b ∈ trk h H := List.mem_filter.mpr ⟨List.mem_range.mpr (Heap.lt_size e'), by simp [q]⟩
    have z : (hidT h H).get? b = none := PySem.W.hideAll_none (trk h H) hm
    rw [z] at e; cases e
end L2
namespace L2
open PySem PySem.Spec PyProof.Rows
structure Mod (K : PySem.W.Frag) (mg : Str → Option Value) (base : Heap) : Prop where
  kin : K.In base
  glob : base.Ns mainGlobals mg
  blt : ∃ mb, base.Ns builtinsNs mb ∧ ∀ x : Str, x ≠ "__name__" → mb x = bootBuiltins x
  nolimit : base.NoLimit
structure Cx where
  prog : Program
  w : World
  K : PySem.W.Frag
  mg : Str → Option Value
  base : Heap
  A : Around
  N : List Str
  s₀ : Shared
  H₀ : Hp
  env : Env
  outer : List Env
  stack : List Env
  ex : List Addr
  fn : Str → Bool
  calm : Bool
  pn : List (Addr × Obj)
  xe : Value → Shared → Prop
def frs (l : List Env) : List Addr := l.filterMap (·.frame)
abbrev Cx.fs (X : Cx) : List Addr := frs X.outer
def Vis (sc : Scope) (x : Str) : Prop := sc.names.lookup x = some .local ∨ sc.names.lookup x = some .cell ∨ sc.names.lookup x = some .free
def Loc (sc : Scope) (x : Str) : Prop := sc.names.lookup x = some .local ∨ sc.names.lookup x = some .cell
def Look (env : Env) (h : Heap) (m : Str → Option Value) (x : Str) (u : Value) : Prop :=
  (env.kindOf x = some .local ∧ m x = some u) ∨ ((env.kindOf x = some .cell ∨ env.kindOf x = some .free) ∧ ∃ c, env.cells.lookup x = some c ∧ h.IsCell c (some u))
structure Cx.Ok (X : Cx) : Prop where
  mod : Mod X.K X.mg X.base
  kind : X.env.scope.kind = .function
  glob : X.env.globals = mainGlobals
  blt : X.env.builtins = builtinsNs
  above : X.s₀.heap.objs.size ≤ X.env.locals
  inj : ∀ x y c, X.env.cells.lookup x = some c → X.env.cells.lookup y = some c → x = y
  has : ∀ x, (X.env.kindOf x = some .cell ∨ X.env.kindOf x = some .free) → ∃ c, X.env.cells.lookup x = some c
  cab : ∀ x c, X.fn x = true → X.env.cells.lookup x = some c → X.s₀.heap.objs.size ≤ c
  hd : X.calm = true → X.A.handled = none
  frames : X.A.frames = some X.stack
  stk : X.stack = X.outer ∨ (X.stack = X.env :: X.outer ∧ X.env.frame = some X.env.locals)
  exf : ∀ b ∈ X.ex, b ≠ X.env.locals ∧ ∀ x c, X.env.cells.lookup x = some c → c ≠ b
  bs : ∀ b o, X.base.get? b = some o → X.s₀.heap.get? b = some o ∧ X.H₀ b = none
  bsz : X.base.objs.size ≤ X.s₀.heap.objs.size
  noex : ∀ b o, X.base.get? b = some o → b ∉ X.ex
  exfs : ∀ b ∈ X.ex, b ∉ X.fs
  funs : X.s₀.heap.FunFrames X.base X.outer
  frf : ∀ b ∈ X.fs, X.H₀ b = none
structure Inv (X : Cx) (pins : List (Addr × Obj)) (σ : List (Option V)) (H : Hp) (s : Shared) : Prop where
  ok : X.Ok
  os : s.os = X.s₀.os
  bare : AllBare s.gens
  base : Un X.fs X.ex X.H₀ H X.s₀.heap s.heap
  loc : ∃ m, s.heap.Ns X.env.locals m ∧ ∀ (i : Nat) (x : Str) (v : V), X.N[i]? = some x → σ[i]? = some (some v) → Vis X.env.scope x → ∃ u, RelV v u ∧ Look X.env s.heap m x u
  cell : ∀ x c, X.env.cells.lookup x = some c → ∃ v, s.heap.IsCell c v
  free : H X.env.locals = none
  freeC : ∀ x c, X.env.cells.lookup x = some c → H c = none
  pin : ∀ p ∈ X.pn ++ pins, s.heap.get? p.1 = some p.2 ∧ H p.1 = none ∧ p.1 ≠ X.env.locals ∧ p.1 ∉ X.fs ∧ ∀ v, p.2.data ≠ .cell v
  hok : HOk X.prog X.w H s.heap
  len : σ.length = X.N.length
section
variable {X : Cx} {pins : List (Addr × Obj)} {σ : List (Option V)} {H H' : Hp} {s : Shared} {h' : Heap}
theorem Cx.Ok.nofr (ok : X.Ok) {b : Addr} {o : Obj} (e : X.base.get? b = some o) : b ∉ X.fs := fun hb => by
  have := (ok.funs.mem hb).1
  rw [e] at this; cases this
theorem Inv.bs (I : Inv X pins σ H s) : ∀ b o, X.base.get? b = some o → s.heap.get? b = some o ∧ H b = none := fun b o e =>
  ⟨I.base.keep b o (I.ok.bs b o e).1 (I.ok.bs b o e).2 (I.ok.nofr e) (I.ok.noex b o e), I.base.free b o (I.ok.bs b o e).1 (I.ok.bs b o e).2 (I.ok.noex b o e)⟩
theorem Inv.bk (I : Inv X pins σ H s) : ∀ b o, X.base.get? b = some o → s.heap.get? b = some o := fun b o e => (I.bs b o e).1
theorem Inv.mod (I : Inv X pins σ H s) : Mod X.K X.mg X.base := I.ok.mod
theorem Inv.kIn (I : Inv X pins σ H s) : X.K.In s.heap := I.ok.mod.kin.keeps I.bk
theorem Inv.lt (I : Inv X pins σ H s) : X.env.locals < s.heap.objs.size := let ⟨_, hn, _⟩ := I.loc; hn.lt
theorem Inv.sz (I : Inv X pins σ H s) : X.s₀.heap.objs.size ≤ s.heap.objs.size := Nat.le_trans I.ok.above (Nat.le_of_lt I.lt)
theorem Inv.nofs (I : Inv X pins σ H s) {a : Addr} (h : s.heap.objs.size ≤ a) : a ∉ X.fs := fun hb => by
  obtain ⟨_, o, ho, _⟩ := I.ok.funs.mem hb
  exact absurd (Nat.lt_of_lt_of_le (Heap.lt_size ho) (Nat.le_trans I.sz h)) (Nat.lt_irrefl _)
theorem Inv.cne (I : Inv X pins σ H s) : ∀ x c, X.env.cells.lookup x = some c → c ≠ X.env.locals := fun x c e z => by
  obtain ⟨v, o, ho, hd⟩ := I.cell x c e
  obtain ⟨m, ⟨o', es, ep, ho', hd', _⟩, _⟩ := I.loc
  rw [z, ho'] at ho; cases ho; rw [hd'] at hd; cases hd
theorem Inv.funs (I : Inv X pins σ H s) : s.heap.FunFrames X.base X.outer := by
  have all : ∀ (l : List Env), (∀ b ∈ frs l, b ∈ X.fs) → X.s₀.heap.FunFrames X.base l → s.heap.FunFrames X.base l := by
    intro l
    induction l with
    | nil => intro _ _; trivial
    | cons env r ih =>
      intro hs hl
      obtain ⟨hk, ⟨L, o, hf, hn, ho, hd⟩, hr⟩ := hl
      have hL : L ∈ X.fs := hs L (by unfold frs; rw [List.filterMap_cons, hf]; exact List.mem_cons_self)
      obtain ⟨sl, e⟩ := I.base.slot L o ho (I.ok.frf L hL) hL fun z => I.ok.exfs L z hL
      exact ⟨hk, ⟨L, _, hf, hn, e, hd⟩, ih (fun b hb => hs b (by unfold frs; rw [List.filterMap_cons, hf]; exact List.mem_cons_of_mem _ hb)) hr⟩
  exact all X.outer (fun _ hb => hb) I.ok.funs
theorem Inv.stack (I : Inv X pins σ H s) : s.heap.FunFrames X.base X.stack := by
  rcases I.ok.stk with e | ⟨e, hf⟩
  · rw [e]; exact I.funs
  · rw [e]
    obtain ⟨m, hn, _⟩ := I.loc
    refine .cons (by rw [I.ok.kind]; decide) hf hn ?_ I.funs
    exact Heap.get?_none_of_le (Nat.le_trans I.ok.bsz I.ok.above)
theorem Inv.stkSub (I : Inv X pins σ H s) : ∀ b ∈ frs X.stack, b ∈ X.env.locals :: X.fs := fun b hb => by
  rcases I.ok.stk with e | ⟨e, hf⟩
  · rw [e] at hb; exact List.mem_cons_of_mem _ hb
  · rw [e] at hb
    unfold frs at hb
    rw [List.filterMap_cons, hf] at hb
    exact hb
theorem Inv.stkFree (I : Inv X pins σ H s) : ∀ b ∈ frs X.stack, H b = none := fun b hb => by
  rcases List.mem_cons.mp (I.stkSub b hb) with e | hb
  · rw [e]; exact I.free
  · obtain ⟨_, o, ho, _⟩ := I.ok.funs.mem hb
    exact I.base.free b o ho (I.ok.frf b hb) fun z => I.ok.exfs b z hb
theorem Inv.step {g' : Array GenState} {t' : Nat} {d' : Drawn} {ch : List Addr} (I : Inv X pins σ H s)
    (hch : ∀ b ∈ ch, (b ∈ X.ex ∨ X.s₀.heap.get? b = none) ∧ b ≠ X.env.locals ∧ (∀ x c, X.env.cells.lookup x = some c → c ≠ b) ∧ ∀ p ∈ X.pn ++ pins, p.1 ≠ b)
    (keep : ∀ b o, b ≠ X.env.locals → b ∉ X.fs → b ∉ ch → s.heap.get? b = some o → H b = none → h'.get? b = some o)
    (slot : ∀ b o, b ≠ X.env.locals → b ∈ X.fs → b ∉ ch → s.heap.get? b = some o → H b = none → ∃ sl, h'.get? b = some { o with slots := sl }) (free : ∀ b o, b ∉ ch → s.heap.get? b = some o → H b = none → H' b = none)
    (there : ∀ b o, b ∉ ch → s.heap.get? b = some o → ∃ o', h'.get? b = some o')
    (tups : ∀ b xs, H b = some (.tup xs) → H' b = some (.tup xs)) (frzs : ∀ b o u, H b = some (.frz o u) → H' b = some (.frz o u)) (tbls : ∀ b ps, H b = some (.tbl ps) → ∃ more, H' b = some (.tbl (ps ++ more)))
    (ns : ∀ m, s.heap.Ns X.env.locals m → h'.Ns X.env.locals m) (hok : HOk X.prog X.w H' h') (hg : AllBare g') :
    Inv X pins σ H' { s with heap := h', gens := g', drawn := d', toks := t' } := by
  have neL : ∀ b o, X.s₀.heap.get? b = some o → b ≠ X.env.locals := fun b o e => Nat.ne_of_lt (Nat.lt_of_lt_of_le (Heap.lt_size e) I.ok.above)
  have neC : ∀ b o, X.s₀.heap.get? b = some o → b ∉ X.ex → b ∉ ch := fun b o e hx hb => by
    rcases (hch b hb).1 with z | z
    · exact hx z
    · rw [z] at e; cases e
  have cellK : ∀ x c, X.env.cells.lookup x = some c → ∀ v, s.heap.IsCell c v → h'.IsCell c v := fun x c e v ⟨o, ho, hd⟩ => by
    have nch : c ∉ ch := fun z => (hch c z).2.2.1 x c e rfl
    by_cases hc : c ∈ X.fs
    · obtain ⟨sl, q⟩ := slot c o (I.cne x c e) hc nch ho (I.freeC x c e)
      exact ⟨_, q, hd⟩
    · exact ⟨o, keep c o (I.cne x c e) hc nch ho (I.freeC x c e), hd⟩
  refine ⟨I.ok, I.os, hg, ⟨fun b o e n hb hx => ?_, fun b o e n hb hx => ?_, fun b o e n hx => ?_, fun b o e hx => ?_, fun b xs e => tups b xs (I.base.tups b xs e), fun b o xs e => frzs b o xs (I.base.frzs b o xs e), fun b ps e => ?_⟩, ?_, fun x c e => ?_, ?_, fun x c e => ?_, fun p hp => ?_, hok, I.len⟩
  · exact keep b o (neL b o e) hb (neC b o e hx) (I.base.keep b o e n hb hx) (I.base.free b o e n hx)
  · obtain ⟨sl, e1⟩ := I.base.slot b o e n hb hx
    obtain ⟨sl', e2⟩ := slot b _ (neL b o e) hb (neC b o e hx) e1 (I.base.free b o e n hx)
    exact ⟨sl', e2⟩
  · obtain ⟨o', e1⟩ := I.base.there b o e hx
    exact free b o' (neC b o e hx) e1 (I.base.free b o e n hx)
  · obtain ⟨o', e1⟩ := I.base.there b o e hx
    exact there b o' (neC b o e hx) e1
  · obtain ⟨m1, e1⟩ := I.base.tbls b ps e
    obtain ⟨m2, e2⟩ := tbls b _ e1
    exact ⟨m1 ++ m2, by rw [e2, Array.append_assoc]⟩
  · obtain ⟨m, hn, hl⟩ := I.loc
    refine ⟨m, ns m hn, fun i x v e1 e2 e3 => ?_⟩
    obtain ⟨u, r, l⟩ := hl i x v e1 e2 e3
    refine ⟨u, r, ?_⟩
    rcases l with l | ⟨k, c, e, z⟩
    · exact .inl l
    · exact .inr ⟨k, c, e, cellK x c e _ z⟩
  · obtain ⟨v, z⟩ := I.cell x c e
    exact ⟨v, cellK x c e v z⟩
  · obtain ⟨m, ⟨o, _, _, ho, _⟩, _⟩ := I.loc
    exact free _ o (fun z => (hch _ z).2.1 rfl) ho I.free
  · obtain ⟨v, o, ho, hd⟩ := I.cell x c e
    exact free c o (fun z => (hch c z).2.2.1 x c e rfl) ho (I.freeC x c e)
  · obtain ⟨e, n, ne, nf, d⟩ := I.pin p hp
    have nch : p.1 ∉ ch := fun z => (hch p.1 z).2.2.2 p hp rfl
    exact ⟨keep p.1 p.2 ne nf nch e n, free p.1 p.2 nch e n, ne, nf, d⟩
theorem Inv.un {t' : Nat} (I : Inv X pins σ H s) (u : Un X.fs [] H H' s.heap h') (hok : HOk X.prog X.w H' h') : Inv X pins σ H' { s with heap := h', toks := t' } := by
  obtain ⟨m, ⟨o, es, ep, ho, r⟩, _⟩ := id I.loc
  obtain ⟨sl, hL⟩ := u.any ho I.free (by simp)
  exact I.step (g' := s.gens) (d' := s.drawn) (ch := []) (fun _ z => nomatch z) (fun b o _ hb _ e n => u.keep b o e n hb (by simp)) (fun b o _ hb _ e n => u.slot b o e n hb (by simp)) (fun b o _ e n => u.free b o e n (by simp)) (fun b o _ e => u.there b o e (by simp)) u.tups u.frzs u.tbls (fun m' hm => by
    obtain ⟨o', es', ep', ho', r'⟩ := hm
    rw [ho] at ho'; cases ho'
    exact ⟨_, es', ep', hL, r'⟩) hok I.bare
theorem Inv.call {g' : Array GenState} {t' : Nat} {d' : Drawn} {ch : List Addr} (I : Inv X pins σ H s) (u : Un (frs X.stack) ch H H' s.heap h') (hok : HOk X.prog X.w H' h') (hg : AllBare g')
    (hch : ∀ b ∈ ch, (b ∈ X.ex ∨ X.s₀.heap.get? b = none) ∧ b ≠ X.env.locals ∧ (∀ x c, X.env.cells.lookup x = some c → c ≠ b) ∧ ∀ p ∈ X.pn ++ pins, p.1 ≠ b) :
    Inv X pins σ H' { s with heap := h', gens := g', drawn := d', toks := t' } := by
  obtain ⟨m, ⟨o, es, ep, ho, r⟩, _⟩ := id I.loc
  obtain ⟨sl, hL⟩ := u.any ho I.free fun z => (hch _ z).2.1 rfl
  exact I.step (ch := ch) hch (fun b o hL hb hc e n => u.keep b o e n (fun z => (List.mem_cons.mp (I.stkSub b z)).elim hL hb) hc) (fun b o _ _ hc e n => u.any e n hc) (fun b o hc e n => u.free b o e n hc) (fun b o hc e => u.there b o e hc) u.tups u.frzs u.tbls (fun m' hm => by
    obtain ⟨o', es', ep', ho', r'⟩ := hm
    rw [ho] at ho'; cases ho'
    exact ⟨_, es', ep', hL, r'⟩) hok hg
theorem Inv.turned {t' : Nat} {it : Addr} (I : Inv X pins σ H s) (k : ∀ b o, b ≠ it → s.heap.get? b = some o → h'.get? b = some o) (hn : H it = none) (hL : it ≠ X.env.locals)
    (h1 : it ∈ X.ex ∨ X.s₀.heap.get? it = none) (h2 : ∀ x c, X.env.cells.lookup x = some c → c ≠ it) (h3 : ∀ p ∈ X.pn ++ pins, p.1 ≠ it) : Inv X pins σ H { s with heap := h', toks := t' } := by
  have nit : ∀ b u, H b = some u → b ≠ it := fun b u e z => by rw [z, hn] at e; cases e
  refine I.step (g' := s.gens) (d' := s.drawn) (ch := [it]) (fun b hb => ?_) (fun b o _ _ hc e _ => k b o (fun z => hc (by simp [z])) e) (fun b o _ _ hc e _ => ⟨o.slots, k b o (fun z => hc (by simp [z])) e⟩) (fun _ _ _ _ n => n)
    (fun b o hc e => ⟨o, k b o (fun z => hc (by simp [z])) e⟩) (fun _ _ e => e) (fun _ _ _ e => e) (fun b ps e => ⟨#[], by rw [e]; simp⟩) (fun m hm => ?_) (fun b u e => ?_) I.bare
  · have e : b = it := by simpa using hb
    subst e
    exact ⟨h1, hL, h2, h3⟩
  · obtain ⟨o, es, ep, ho, r⟩ := hm
    exact ⟨o, es, ep, k _ o (Ne.symm hL) ho, r⟩
  · refine (I.hok b u e).stay (fun c v hc q => k c v ?_ q) (fun _ q => q) fun _ _ q => q
    rcases hc with z | z
    · rw [z]; exact nit b u e
    · exact nit c _ z
theorem Inv.tok (I : Inv X pins σ H s) (t : Nat) : Inv X pins σ H { s with toks := t } := I.un (h' := s.heap) (t' := t) Un.refl I.hok
theorem Inv.kept {t' : Nat} (I : Inv X pins σ H s) (k : ∀ b u, s.heap.get? b = some u → h'.get? b = some u) : Inv X pins σ H { s with heap := h', toks := t' } := I.un (Un.kept k) (I.hok.kept k)
theorem Inv.laid {a : Addr} {o : HO} {t' : Nat} (I : Inv X pins σ H s) (k : ∀ b u, s.heap.get? b = some u → h'.get? b = some u) (hp : s.heap.objs.size ≤ a) (new : ObjOk X.prog X.w (upd H a o) h' a o) :
    Inv X pins σ (upd H a o) { s with heap := h', toks := t' } := I.un (Un.laid k hp (I.hok.fresh hp)) (I.hok.laid k hp new)
theorem Inv.write {x e : Addr} {o : HO} {t' : Nat} (I : Inv X pins σ H s) (mu : Mut (H x)) (he : e = x ∨ H e = some (.own x)) (k : ∀ b u, b ≠ e → s.heap.get? b = some u → h'.get? b = some u) (heo : ∃ u, h'.get? e = some u)
    (new : ObjOk X.prog X.w (upd H x o) h' x o) : Inv X pins σ (upd H x o) { s with heap := h', toks := t' } := I.un (Un.write mu he k heo) (I.hok.write mu he k heo new)
theorem Inv.pins_of {pins' : List (Addr × Obj)} (I : Inv X pins σ H s) (h : ∀ p ∈ pins', s.heap.get? p.1 = some p.2 ∧ H p.1 = none ∧ p.1 ≠ X.env.locals ∧ p.1 ∉ X.fs ∧ ∀ v, p.2.data ≠ .cell v) : Inv X pins' σ H s :=
  ⟨I.ok, I.os, I.bare, I.base, I.loc, I.cell, I.free, I.freeC, fun p hp => (List.mem_append.mp hp).elim (fun z => I.pin p (List.mem_append_left _ z)) (h p), I.hok, I.len⟩
theorem nodup_ix {N : List Str} (hN : N.Nodup) {i j : Nat} {x : Str} (a : N[i]? = some x) (b : N[j]? = some x) : i = j := by
  obtain ⟨h1, e1⟩ := List.getElem?_eq_some_iff.mp a
  obtain ⟨h2, e2⟩ := List.getElem?_eq_some_iff.mp b
  exact (List.getElem_inj hN).mp (e1.trans e2.symm)
theorem store_ok2 {M : Model} {A : Around} {E : Value → Shared → Prop} {i : Nat} {x : Str} {v : V} {u : Value} {Q : Unit → Shared → Prop} (I : Inv X pins σ H s) (hN : X.N.Nodup) (hi : X.N[i]? = some x) (hx : Loc X.env.scope x) (r : RelV v u)
    (h : ∀ s', Inv X pins (σ.set i (some v)) H s' → (∃ a, Heap.SameBut a s.heap s'.heap ∧ (a = X.env.locals ∨ X.env.cells.lookup x = some a)) → Q () s') (hf : X.fn x = true ∨ X.env.scope.names.lookup x = some .local := by first | exact .inl rfl | exact .inr rfl | assumption) : wpAny M A (storeName X.env x u) Q E s := by
  obtain ⟨m, hn, hl⟩ := id I.loc
  have hcls : (X.env.scope.kind == .class || (X.env.scope.kind == .module && X.env.locals != X.env.globals)) = false := by rw [I.ok.kind]; rfl
  have hiσ : i < σ.length := by rw [I.len]; exact (List.getElem?_eq_some_iff.mp hi).1
  have cne := I.cne
  have tracked : ∀ {a : Addr} {h' : Heap}, (∃ o, s.heap.get? a = some o ∧ H a = none) → Heap.SameBut a s.heap h' → HOk X.prog X.w H h' := fun {a h'} ha hs b ob e => by
    obtain ⟨_, _, hfree⟩ := ha
    refine (I.hok b ob e).stay (fun c w' hc q => (hs.2 c ?_).trans q) (fun _ q => q) fun _ _ q => q
    rintro rfl
    rcases hc with rfl | hc
    · rw [hfree] at e; cases e
    · rw [hfree] at hc; cases hc
  rcases hx with hk | hk
  · refine wpAny_storeName_local hk hn (fun h' hn' hs => ?_) hcls
    obtain ⟨oL, _, _, hoL, _⟩ := id hn
    refine h _ ⟨I.ok, I.os, I.bare, ⟨fun b o e n hb hx => ?_, fun b o e n hb hx => ?_, I.base.free, fun b o e hx => ?_, I.base.tups, I.base.frzs, I.base.tbls⟩, ⟨_, hn', fun j y v' e1 e2 e3 => ?_⟩, fun y c e => ?_, I.free, I.freeC, fun p hp => ?_, tracked ⟨oL, hoL, I.free⟩ hs, by simpa using I.len⟩ ⟨_, hs, .inl rfl⟩
    · exact (hs.2 b (Nat.ne_of_lt (Nat.lt_of_lt_of_le (Heap.lt_size e) I.ok.above))).trans (I.base.keep b o e n hb hx)
    · obtain ⟨sl, e1⟩ := I.base.slot b o e n hb hx
      exact ⟨sl, (hs.2 b (Nat.ne_of_lt (Nat.lt_of_lt_of_le (Heap.lt_size e) I.ok.above))).trans e1⟩
    · obtain ⟨o', e1⟩ := I.base.there b o e hx
      exact ⟨o', (hs.2 b (Nat.ne_of_lt (Nat.lt_of_lt_of_le (Heap.lt_size e) I.ok.above))).trans e1⟩
    · by_cases hj : j = i
      · subst hj
        rw [hi] at e1; cases e1
        rw [List.getElem?_set_self hiσ] at e2
        cases e2
        exact ⟨u, r, .inl ⟨hk, by simp⟩⟩
      · rw [List.getElem?_set_ne (Ne.symm hj)] at e2
        obtain ⟨u', r', q⟩ := hl j y v' e1 e2 e3
        refine ⟨u', r', ?_⟩
        rcases q with ⟨k, e⟩ | ⟨k, c, e, z⟩
        · refine .inl ⟨k, ?_⟩
          have : y ≠ x := fun e => hj (nodup_ix hN e1 (e ▸ hi))
          simp [this, e]
        · exact .inr ⟨k, c, e, z.sameBut hs (cne y c e)⟩
    · obtain ⟨w', z⟩ := I.cell y c e
      exact ⟨w', z.sameBut hs (cne y c e)⟩
    · obtain ⟨e, n, ne, nf, d⟩ := I.pin p hp
      exact ⟨(hs.2 p.1 ne).trans e, n, ne, nf, d⟩
  · have hfn : X.fn x = true := by
      rcases hf with z | z
      · exact z
      · rw [z] at hk; cases hk
    obtain ⟨c, hc⟩ := I.ok.has x (.inl hk)
    obtain ⟨w', z⟩ := I.cell x c hc
    refine wpAny_storeName_cell I.ok.kind hk hc z (fun h' hc' hs => ?_)
    obtain ⟨oc, hoc, hocd⟩ := id z
    refine h { s with heap := h' } ⟨I.ok, I.os, I.bare, ⟨fun b o e n hb hx => ?_, fun b o e n hb hx => ?_, I.base.free, fun b o e hx => ?_, I.base.tups, I.base.frzs, I.base.tbls⟩, ⟨m, hn.sameBut hs (Ne.symm (cne x c hc)), fun j y v' e1 e2 e3 => ?_⟩, fun y c' e => ?_, I.free, I.freeC, fun p hp => ?_, tracked ⟨oc, hoc, I.freeC x c hc⟩ hs, by simpa using I.len⟩ ⟨c, hs, .inr hc⟩
    · exact (hs.2 b (Nat.ne_of_lt (Nat.lt_of_lt_of_le (Heap.lt_size e) (I.ok.cab x c hfn hc)))).trans (I.base.keep b o e n hb hx)
    · obtain ⟨sl, e1⟩ := I.base.slot b o e n hb hx
      exact ⟨sl, (hs.2 b (Nat.ne_of_lt (Nat.lt_of_lt_of_le (Heap.lt_size e) (I.ok.cab x c hfn hc)))).trans e1⟩
    · obtain ⟨o', e1⟩ := I.base.there b o e hx
      exact ⟨o', (hs.2 b (Nat.ne_of_lt (Nat.lt_of_lt_of_le (Heap.lt_size e) (I.ok.cab x c hfn hc)))).trans e1⟩
    · by_cases hj : j = i
      · subst hj
        rw [hi] at e1; cases e1
        rw [List.getElem?_set_self hiσ] at e2
        cases e2
        exact ⟨u, r, .inr ⟨.inl hk, c, hc, hc'⟩⟩
      · rw [List.getElem?_set_ne (Ne.symm hj)] at e2
        obtain ⟨u', r', q⟩ := hl j y v' e1 e2 e3
        refine ⟨u', r', ?_⟩
        rcases q with q | ⟨k, c', e, z'⟩
        · exact .inl q
        · refine .inr ⟨k, c', e, z'.sameBut hs ?_⟩
          rintro rfl
          exact hj (nodup_ix hN e1 (I.ok.inj _ _ _ e hc ▸ hi))
    · by_cases hcc : c' = c
      · subst hcc; exact ⟨_, hc'⟩
      · obtain ⟨w2, z2⟩ := I.cell y c' e
        exact ⟨w2, z2.sameBut hs hcc⟩
    · obtain ⟨e, n, ne, nf, d⟩ := I.pin p hp
      refine ⟨(hs.2 p.1 ?_).trans e, n, ne, nf, d⟩
      intro q
      rw [q, hoc] at e
      have q' : oc = p.2 := Option.some.inj e
      exact d w' (by rw [← q']; exact hocd)
theorem store_ok {M : Model} {A : Around} {E : Value → Shared → Prop} {i : Nat} {x : Str} {v : V} {u : Value} {Q : Unit → Shared → Prop} (I : Inv X pins σ H s) (hN : X.N.Nodup) (hi : X.N[i]? = some x) (hx : Loc X.env.scope x) (r : RelV v u)
    (h : ∀ s', Inv X pins (σ.set i (some v)) H s' → Q () s') (hf : X.fn x = true ∨ X.env.scope.names.lookup x = some .local := by first | exact .inl rfl | exact .inr rfl | assumption) : wpAny M A (storeName X.env x u) Q E s :=
  store_ok2 I hN hi hx r (fun s' I' _ => h s' I') hf
theorem Inv.call' {s' : Shared} {ch : List Addr} (I : Inv X pins σ H s) (ho : s'.os = s.os) (u : Un (frs X.stack) ch H H' s.heap s'.heap) (hok : HOk X.prog X.w H' s'.heap) (hg : AllBare s'.gens)
    (hch : ∀ b ∈ ch, (b ∈ X.ex ∨ X.s₀.heap.get? b = none) ∧ b ≠ X.env.locals ∧ (∀ x c, X.env.cells.lookup x = some c → c ≠ b) ∧ ∀ p ∈ X.pn ++ pins, p.1 ≠ b) : Inv X pins σ H' s' := by
  obtain ⟨h', g', d', t', o'⟩ := s'
  have e : o' = s.os := ho
  subst e
  exact I.call (g' := g') (t' := t') (d' := d') u hok hg hch
end
abbrev XK := Value → Option Addr → Hp → Prop
abbrev St := List (Option V)
abbrev VK := V → Hp → Prop
abbrev TE := St → Hp → VK → Prop
abbrev TT := St → Hp → (Bool → Hp → Prop) → Prop
abbrev TA := St → Hp → (List V → Hp → Prop) → Prop
structure Ends where
  nx : St → Hp → Prop
  rt : VK
  bk : St → Hp → Prop := fun _ _ => False
  ct : St → Hp → Prop := fun _ _ => False
abbrev TS := Ends → St → Hp → Prop
def EP (X : Cx) (pins : List (Addr × Obj)) (σ : St) (Q : VK) (u : Value) (s' : Shared) : Prop := ∃ v H', Inv X pins σ H' s' ∧ RelV v u ∧ Q v H'
def TP (X : Cx) (pins : List (Addr × Obj)) (σ : St) (Q : Bool → Hp → Prop) (b : Bool) (s' : Shared) : Prop := ∃ H', Inv X pins σ H' s' ∧ Q b H'
def AP (X : Cx) (pins : List (Addr × Obj)) (σ : St) (Q : List V → Hp → Prop) (us : List Value) (s' : Shared) : Prop := ∃ vs H', Inv X pins σ H' s' ∧ Vals vs us ∧ Q vs H'
def SP (X : Cx) (pins : List (Addr × Obj)) (D : Ends) (f : Flow) (s' : Shared) : Prop :=
  match f with
  | .next => ∃ σ' H', Inv X pins σ' H' s' ∧ D.nx σ' H'
  | .brk => ∃ σ' H', Inv X pins σ' H' s' ∧ D.bk σ' H'
  | .cont => ∃ σ' H', Inv X pins σ' H' s' ∧ D.ct σ' H'
  | .ret u => ∃ v σ' H', Inv X pins σ' H' s' ∧ RelV v u ∧ D.rt v H'
def PE (X : Cx) (e : Expr) (t : TE) : Prop :=
  ∀ (pins : List (Addr × Obj)) (s : Shared) (σ : St) (H : Hp) (Q : VK), Inv X pins σ H s → t σ H Q → wpAny (model X.prog X.w) X.A (eval e X.env) (EP X pins σ Q) X.xe s
def PT (X : Cx) (e : Expr) (t : TT) : Prop :=
  ∀ (pins : List (Addr × Obj)) (s : Shared) (σ : St) (H : Hp) (Q : Bool → Hp → Prop), Inv X pins σ H s → t σ H Q → wpAny (model X.prog X.w) X.A (isTrue e X.env (eval e X.env)) (TP X pins σ Q) X.xe s
def PW (X : Cx) (e : Expr) (t : TT) : Prop :=
  ∀ (whole : Sem Value) (pins : List (Addr × Obj)) (s : Shared) (σ : St) (H : Hp) (Q : Bool → Hp → Prop), Inv X pins σ H s → t σ H Q → wpAny (model X.prog X.w) X.A (isTrue e X.env whole) (TP X pins σ Q) X.xe s
theorem PW.pt {X : Cx} {e : Expr} {t : TT} (h : PW X e t) : PT X e t := h _
def PA (X : Cx) (es : List Expr) (t : TA) : Prop :=
  ∀ (pos : Pos) (pins : List (Addr × Obj)) (s : Shared) (σ : St) (H : Hp) (Q : List V → Hp → Prop), Inv X pins σ H s → t σ H Q → wpAny (model X.prog X.w) X.A (spliced (backTo pos (starEach es X.env))) (AP X pins σ Q) X.xe s
def PS (X : Cx) (st : Stmt) (t : TS) : Prop :=
  ∀ (pins : List (Addr × Obj)) (s : Shared) (σ : St) (H : Hp) (D : Ends), Inv X pins σ H s → t D σ H → wpAny (model X.prog X.w) X.A (exec st X.env) (SP X pins D) X.xe s
def PSs (X : Cx) (st : List Stmt) (t : TS) : Prop :=
  ∀ (pins : List (Addr × Obj)) (s : Shared) (σ : St) (H : Hp) (D : Ends), Inv X pins σ H s → t D σ H → wpAny (model X.prog X.w) X.A (execs st X.env) (SP X pins D) X.xe s
theorem thn {α : Type} {t : Sem α} {Q Q' : α → Shared → Prop} {M : Model} {A : Around} {E : Value → Shared → Prop} {s : Shared} (h : wpAny M A t Q E s) (hQ : ∀ a s, Q a s → Q' a s) : wpAny M A t Q' E s := wpAny_mono h hQ fun _ _ x => x
end L2
namespace L2
open PySem PySem.Spec PyProof.Rows
section
variable {X : Cx}
theorem bin {a b : Expr} {ta tb : TE} (ha : PE X a ta) (hb : PE X b tb) {pins : List (Addr × Obj)} {s : Shared} {σ : St} {H : Hp} {R : V → V → Hp → Prop} (I : Inv X pins σ H s) (h : ta σ H fun x H1 => tb σ H1 fun y H2 => R x y H2)
    {α : Type} {Q : α → Shared → Prop} {f : Value → Value → Sem α}
    (hf : ∀ v u s2 x y H2, Inv X pins σ H2 s2 → RelV x v → RelV y u → R x y H2 → wpAny (model X.prog X.w) X.A (f v u) Q X.xe s2) :
    wpAny (model X.prog X.w) X.A (eval a X.env) (fun v s₁ => wpAny (model X.prog X.w) X.A (eval b X.env) (fun u s₂ => wpAny (model X.prog X.w) X.A (f v u) Q X.xe s₂) X.xe s₁) X.xe s := by
  refine thn (ha pins s σ H _ I h) fun v s1 ⟨x, H1, I1, r1, q1⟩ => ?_
  refine thn (hb pins s1 σ H1 _ I1 q1) fun u s2 ⟨y, H2, I2, r2, q2⟩ => ?_
  exact hf v u s2 x y H2 I2 r1 r2 q2
def tVar (i : Nat) : TE := fun σ H Q => ∃ v, σ[i]? = some (some v) ∧ Q v H
def tC (v : V) : TE := fun _ H Q => Q v H
theorem pe_var {i : Nat} {x : Str} {pos : Pos} (hN : X.N[i]? = some x) (hv : Vis X.env.scope x) (hd : (x == ("__debug__" : Str)) = false := by decide) (hcd : (x == ("__classdict__" : Str)) = false := by decide) : PE X (.Name x pos) (tVar i) := by
  intro pins s σ H Q I h
  obtain ⟨v, e, h⟩ := h
  obtain ⟨m, hn, hl⟩ := I.loc
  obtain ⟨u, r, l⟩ := hl i x v hN e hv
  have fin : EP X pins σ Q u s := ⟨v, H, I, r, h⟩
  rcases l with ⟨hk, hm⟩ | ⟨hk, c, hc, hcell⟩
  · exact wpAny_Name (wpAny_loadName_local I.ok.kind hk hn hm fin) hd
  · rcases hk with hk | hk
    · exact wpAny_Name (wpAny_loadName_cell I.ok.kind hk hc hcell fin) hd
    · exact wpAny_Name (wpAny_loadName_free I.ok.kind hk hc hcell fin hcd) hd
theorem pe_int {i j pos} : PE X (.Constant (.int i) j pos) (tC (.int i)) := fun _ _ _ H _ I h => wpAny_Constant_int ⟨.int i, H, I.tok _, ⟨_, rfl⟩, h⟩
theorem pe_bl {b j pos} : PE X (.Constant (.bool b) j pos) (tC (.bl b)) := fun _ _ _ H _ I h => Constant_bool ⟨.bl b, H, I, rfl, h⟩
theorem pe_str {x j pos} : PE X (.Constant (.str x) j pos) (tC (.str x)) := fun _ _ _ H _ I h => Calls.Constant_str ⟨.str x, H, I.tok _, ⟨_, rfl⟩, h⟩
def Gl (X : Cx) (x : Str) : Prop := X.env.kindOf x = some .globalImplicit
theorem ld_glob {E : Value → Shared → Prop} {pins : List (Addr × Obj)} {s : Shared} {σ : St} {H : Hp} {x : Str} {u : Value} {pos : Pos} {Q : Value → Shared → Prop} (I : Inv X pins σ H s) (hg : Gl X x) (hm : X.mg x = some u) (h : Q u s)
    (hd : (x == ("__debug__" : Str)) = false := by decide) : wpAny (model X.prog X.w) X.A (eval (.Name x pos) X.env) Q E s :=
  Calls.Name_function_global I.ok.kind hg (Calls.loadGlobal_global (by rw [I.ok.glob]; exact I.mod.glob.keeps I.bk) hm h) hd
theorem ld_blt {E : Value → Shared → Prop} {pins : List (Addr × Obj)} {s : Shared} {σ : St} {H : Hp} {x : Str} {u : Value} {pos : Pos} {Q : Value → Shared → Prop} (I : Inv X pins σ H s) (hg : Gl X x) (hm : X.mg x = none) (hv : bootBuiltins x = some u) (h : Q u s)
    (hn : x ≠ "__name__" := by decide) (hd : (x == ("__debug__" : Str)) = false := by decide) : wpAny (model X.prog X.w) X.A (eval (.Name x pos) X.env) Q E s := by
  obtain ⟨mb, h1, h2⟩ := I.mod.blt
  exact Calls.Name_function_global I.ok.kind hg (Calls.loadGlobal_builtin (by rw [I.ok.glob]; exact I.mod.glob.keeps I.bk) hm (by rw [I.ok.blt]; exact h1.keeps I.bk) ((h2 x hn).trans hv) h) hd
theorem pe_glob {x : Str} {v : V} {u : Value} {pos : Pos} (hg : Gl X x) (hm : X.mg x = some u) (r : RelV v u) (hd : (x == ("__debug__" : Str)) = false := by decide) : PE X (.Name x pos) (tC v) :=
  fun _ _ _ H _ I h => ld_glob I hg hm ⟨v, H, I, r, h⟩ hd
theorem pe_bltn {x : Str} {v : V} {u : Value} {pos : Pos} (hg : Gl X x) (hm : X.mg x = none) (hv : bootBuiltins x = some u) (r : RelV v u) (hn : x ≠ "__name__" := by decide) (hd : (x == ("__debug__" : Str)) = false := by decide) : PE X (.Name x pos) (tC v) :=
  fun _ _ _ H _ I h => ld_blt I hg hm hv ⟨v, H, I, r, h⟩ hn hd
variable {a b : Expr} {ta tb : TE} {pos : Pos}
def PC (X : Cx) (op : CmpOp) (a b : Expr) (t : TE) : Prop :=
  ∀ (pins : List (Addr × Obj)) (s : Shared) (σ : St) (H : Hp) (Q : VK), Inv X pins σ H s → t σ H Q →
    wpAny (model X.prog X.w) X.A (eval a X.env) (fun v s₁ => wpAny (model X.prog X.w) X.A (eval b X.env) (fun u s₂ => wpAny (model X.prog X.w) X.A (compareOp op v u) (EP X pins σ Q) X.xe s₂) X.xe s₁) X.xe s
def tB (t : TE) : TT := fun σ H Q => t σ H fun x H1 => ∃ c, x = .bl c ∧ Q c H1
theorem pt_cmp {op : CmpOp} {t : TE} (h : PC X op a b t) (h1 : behindInMarks op b = false := by first | exact nobehind _ (by decide) (by decide) | rfl) : PT X (.Compare a [op] [b] pos) (tB t) := by
  intro pins s σ H Q I hw
  refine wpAny_isTrue_Compare1 (thn (h pins s σ H _ I hw) fun v s1 h1 => thn h1 fun u s2 h2 => thn h2 fun c s3 ⟨x, H1, I1, r1, q1⟩ => ?_) h1
  obtain ⟨d, rfl, q⟩ := q1
  cases r1
  exact wpAny_truthy_bool ⟨H1, I1, q⟩
theorem pt_val {e : Expr} {t : TE} (h : PE X e t) (he : ∀ whole, isTrue e X.env whole = (do let v ← whole; standAt e.pos; holding [v] (truthy v)) := by intro _; rfl) : PT X e (tB t) := by
  intro pins s σ H Q I hw
  refine isTrue_plain (thn (h pins s σ H _ I hw) fun v s1 ⟨x, H1, I1, r1, q1⟩ => ?_) (he _)
  obtain ⟨d, rfl, q⟩ := q1
  cases r1
  exact wpAny_truthy_bool ⟨H1, I1, q⟩
variable {tA tB' : TT} {rest : List Expr}
def tAnd (t u : TT) : TT := fun σ H Q => t σ H fun c H1 => if c = true then u σ H1 Q else Q false H1
def tOr (t u : TT) : TT := fun σ H Q => t σ H fun c H1 => if c = true then Q true H1 else u σ H1 Q
def tNot (t : TT) : TT := fun σ H Q => t σ H fun c H1 => Q (!c) H1
theorem pw_and1 (ha : PT X a tA) : PW X (.BoolOp .And [a] pos) tA := by
  intro wh pins s σ H Q I h
  refine isTrue_and (thn (ha pins s σ H Q I h) fun c s1 e => ?_)
  cases c with
  | true => exact isTrue_and_nil e
  | false => exact e
theorem pw_or1 (ha : PT X a tA) : PW X (.BoolOp .Or [a] pos) tA := by
  intro wh pins s σ H Q I h
  refine isTrue_or (thn (ha pins s σ H Q I h) fun c s1 e => ?_)
  cases c with
  | false => exact isTrue_or_nil e
  | true => exact e
theorem pw_and (ha : PT X a tA) (hb : PW X (.BoolOp .And (b :: rest) pos) tB') : PW X (.BoolOp .And (a :: b :: rest) pos) (tAnd tA tB') := by
  intro wh pins s σ H Q I h
  refine isTrue_and (thn (ha pins s σ H _ I h) fun c s1 ⟨H1, I1, q1⟩ => ?_)
  cases c with
  | true => exact hb wh pins s1 σ H1 Q I1 q1
  | false => exact ⟨H1, I1, q1⟩
theorem pw_or (ha : PT X a tA) (hb : PW X (.BoolOp .Or (b :: rest) pos) tB') : PW X (.BoolOp .Or (a :: b :: rest) pos) (tOr tA tB') := by
  intro wh pins s σ H Q I h
  refine isTrue_or (thn (ha pins s σ H _ I h) fun c s1 ⟨H1, I1, q1⟩ => ?_)
  cases c with
  | true => exact ⟨H1, I1, q1⟩
  | false => exact hb wh pins s1 σ H1 Q I1 q1
theorem pt_not (ha : PT X a tA) : PT X (.UnaryOp .Not a pos) (tNot tA) := by
  intro pins s σ H Q I h
  exact isTrue_not (ha pins s σ H (fun c H1 => Q (!c) H1) I h)
def tAndV (ta tb : TE) : TE := fun σ H Q => ta σ H fun x H1 => ∃ c, x = .bl c ∧ if c = true then tb σ H1 Q else Q (.bl false) H1
def tNotV (ta : TE) : TE := fun σ H Q => ta σ H fun x H1 => ∃ c, x = .bl c ∧ Q (.bl (!c)) H1
theorem pe_one {op} {t : TE} (h : PE X a t) : PE X (.BoolOp op [a] pos) t := fun pins s σ H Q I hw => BoolOp_one (h pins s σ H Q I hw)
theorem pe_and (ha : PE X a ta) (hb : PE X (.BoolOp .And (b :: rest) pos) tb) : PE X (.BoolOp .And (a :: b :: rest) pos) (tAndV ta tb) := by
  intro pins s σ H Q I h
  refine BoolOp_and (thn (ha pins s σ H _ I h) fun v s1 ⟨x, H1, I1, r1, q1⟩ => ?_)
  obtain ⟨c, rfl, q1⟩ := q1
  cases r1
  refine wpAny_truthy_bool ?_
  cases c with
  | true => exact hb pins s1 σ H1 Q I1 q1
  | false => exact ⟨.bl false, H1, I1, rfl, q1⟩
theorem pe_not (ha : PE X a ta) : PE X (.UnaryOp .Not a pos) (tNotV ta) := by
  intro pins s σ H Q I h
  refine UnaryOp_ (thn (ha pins s σ H _ I h) fun v s1 ⟨x, H1, I1, r1, q1⟩ => ?_)
  obtain ⟨c, rfl, q1⟩ := q1
  cases r1
  exact not_of (wpAny_truthy_bool ⟨.bl (!c), H1, I1, rfl, q1⟩)
def tIf (t : TT) (ta tb : TE) : TE := fun σ H Q => t σ H fun c H1 => if c = true then ta σ H1 Q else tb σ H1 Q
theorem pe_ifExp {c : Expr} (hc : PT X c tA) (ha : PE X a ta) (hb : PE X b tb) : PE X (.IfExp c a b pos) (tIf tA ta tb) := by
  intro pins s σ H Q I h
  refine wpAny_IfExp (thn (hc pins s σ H _ I h) fun d s1 ⟨H1, I1, q1⟩ => ?_)
  cases d with
  | true => exact ha pins s1 σ H1 Q I1 q1
  | false => exact hb pins s1 σ H1 Q I1 q1
end
end L2
namespace L2
open PySem PySem.Spec PyProof.Rows
def SqL (K : PySem.W.Frag) (H : Hp) (a : Addr) (xs : List V) : Prop :=
  Rd H a (.lst xs) ∨
    ∃ (o : Obj) (its : Array Value) (n : Nat), K.lookup a = some o ∧ o.cls = .type "list" ∧ o.dict = none ∧ o.data = .seq its n ∧ its.size ≤ sizeLine ∧ Vals xs its.toList
def SqT (K : PySem.W.Frag) (H : Hp) (a : Addr) (xs : List V) : Prop :=
  Rd H a (.tup xs) ∨
    ∃ (o : Obj) (its : Array Value) (n : Nat), K.lookup a = some o ∧ o.cls = .type "tuple" ∧ o.data = .seq its n ∧ its.size ≤ sizeLine ∧ Vals xs its.toList
def absV : Value → Option V
  | .none => some .non
  | .bool b => some (.bl b)
  | .int i _ => some (.int i)
  | .str x _ => some (.str x)
  | .bytes b _ => some (.byt b)
  | .float b _ => some (.flt b)
  | .ref a => some (.ref a)
  | .type n => some (.ty n)
  | _ => none
theorem RelV.abs {x : V} {u : Value} (r : RelV x u) : absV u = some x := by
  cases x with
  | non => cases r; rfl
  | bl _ => cases r; rfl
  | int _ => obtain ⟨t, rfl⟩ := r; rfl
  | str _ => obtain ⟨t, rfl⟩ := r; rfl
  | byt _ => obtain ⟨t, rfl⟩ := r; rfl
  | flt _ => obtain ⟨t, rfl⟩ := r; rfl
  | ref _ => cases r; rfl
  | ty _ => cases r; rfl
theorem RelV.inj {x y : V} {u : Value} (r : RelV x u) (q : RelV y u) : x = y := Option.some.inj (r.abs.symm.trans q.abs)
theorem Vals.inj : ∀ {xs ys : List V} {us : List Value}, Vals xs us → Vals ys us → xs = ys
  | _, _, _, .nil, .nil => rfl
  | _, _, _, .cons r t, .cons r' t' => by rw [r.inj r', Vals.inj t t']
section
variable {X : Cx} {pins : List (Addr × Obj)} {σ : St} {H : Hp} {s : Shared} {a : Addr} {xs ys : List V}
theorem Inv.list (I : Inv X pins σ H s) (h : SqL X.K H a xs) : ∃ its : List Value, Vals xs its ∧ PlainL s.heap a its.toArray ∧ xs.length ≤ sizeLine := by
  rcases h with h | ⟨o, its, n, hk, hc, hd, hs, hz, r⟩
  · obtain ⟨z, its, n, r, e⟩ := h.ok I.hok
    exact ⟨its, r, ⟨_, n, e, rfl, rfl, rfl⟩, z⟩
  · refine ⟨its.toList, r, ⟨o, n, I.kIn a o hk, hc, hd, by simpa using hs⟩, ?_⟩
    have e := r.length
    simp only [Array.length_toList] at e
    omega
theorem Inv.tuple (I : Inv X pins σ H s) (h : SqT X.K H a xs) : ∃ its : List Value, Vals xs its ∧ IsTup s.heap a its.toArray ∧ xs.length ≤ sizeLine := by
  rcases h with h | ⟨o, its, n, hk, hc, hs, hz, r⟩
  · obtain ⟨z, its, r, p⟩ := h.ok I.hok
    exact ⟨its, r, p, z⟩
  · refine ⟨its.toList, r, ⟨o, I.kIn a o hk, hc, n, by simpa using hs⟩, ?_⟩
    have e := r.length
    simp only [Array.length_toList] at e
    omega
theorem Inv.list_inj (I : Inv X pins σ H s) (h : SqL X.K H a xs) (h' : SqL X.K H a ys) : xs = ys := by
  obtain ⟨its, r, ⟨o, n, e, _, _, d⟩, _⟩ := I.list h
  obtain ⟨its', r', ⟨o', n', e', _, _, d'⟩, _⟩ := I.list h'
  rw [e] at e'; cases e'
  rw [d] at d'
  injection d' with d1 _
  have : its = its' := by simpa using congrArg Array.toList d1
  subst this
  exact r.inj r'
theorem Inv.tuple_inj (I : Inv X pins σ H s) (h : SqT X.K H a xs) (h' : SqT X.K H a ys) : xs = ys := by
  obtain ⟨its, r, ⟨o, e, _, n, d⟩, _⟩ := I.tuple h
  obtain ⟨its', r', ⟨o', e', _, n', d'⟩, _⟩ := I.tuple h'
  rw [e] at e'; cases e'
  rw [d] at d'
  injection d' with d1 _
  have : its = its' := by simpa using congrArg Array.toList d1
  subst this
  exact r.inj r'
end
abbrev Cx.wish (X : Cx) (E : Value → Shared → Prop) : Cx := { X with xe := E }
abbrev Cx.nox (X : Cx) : Cx := X.wish fun _ _ => False
theorem Cx.Ok.wish {X : Cx} (ok : X.Ok) (E : Value → Shared → Prop) : (X.wish E).Ok :=
  ⟨ok.mod, ok.kind, ok.glob, ok.blt, ok.above, ok.inj, ok.has, ok.cab, ok.hd, ok.frames, ok.stk, ok.exf, ok.bs, ok.bsz, ok.noex, ok.exfs, ok.funs, ok.frf⟩
theorem Cx.Ok.unwish {X : Cx} {E : Value → Shared → Prop} (ok : (X.wish E).Ok) : X.Ok :=
  ⟨ok.mod, ok.kind, ok.glob, ok.blt, ok.above, ok.inj, ok.has, ok.cab, ok.hd, ok.frames, ok.stk, ok.exf, ok.bs, ok.bsz, ok.noex, ok.exfs, ok.funs, ok.frf⟩
section
variable {X : Cx} {pins : List (Addr × Obj)} {σ : St} {H : Hp} {s : Shared} {E : Value → Shared → Prop}
theorem Inv.wish (I : Inv X pins σ H s) (E : Value → Shared → Prop) : Inv (X.wish E) pins σ H s := ⟨I.ok.wish E, I.os, I.bare, I.base, I.loc, I.cell, I.free, I.freeC, I.pin, I.hok, I.len⟩
theorem Inv.unwish (I : Inv (X.wish E) pins σ H s) : Inv X pins σ H s := ⟨I.ok.unwish, I.os, I.bare, I.base, I.loc, I.cell, I.free, I.freeC, I.pin, I.hok, I.len⟩
theorem SP.unwish {D : Ends} {f : Flow} {s' : Shared} (h : SP (X.wish E) pins D f s') : SP X pins D f s' := by
  cases f with
  | next => obtain ⟨σ', H', I, q⟩ := h; exact ⟨σ', H', I.unwish, q⟩
  | brk => obtain ⟨σ', H', I, q⟩ := h; exact ⟨σ', H', I.unwish, q⟩
  | cont => obtain ⟨σ', H', I, q⟩ := h; exact ⟨σ', H', I.unwish, q⟩
  | ret u => obtain ⟨v, σ', H', I, r, q⟩ := h; exact ⟨v, σ', H', I.unwish, r, q⟩
theorem PSs.nox {st : List Stmt} {t : TS} (h : PSs X.nox st t) : PSs X st t := fun pins s σ H D I hw =>
  wpAny_mono (h pins s σ H D (I.wish _) hw) (fun _ _ q => q.unwish) fun _ _ z => False.elim z
end
section
variable {X : Cx} {st : Stmt} {rest : List Stmt} {t u : TS} {e : Expr} {te : TE} {pos : Pos}
def tNext : TS := fun D σ H => D.nx σ H
def tSeq (t u : TS) : TS := fun D σ H => t { D with nx := u D } σ H
theorem pss_nil : PSs X [] tNext := fun _ _ σ H _ I h => wpAny_execs_nil ⟨σ, H, I, h⟩
theorem pss_cons (h1 : PS X st t) (h2 : PSs X rest u) : PSs X (st :: rest) (tSeq t u) := by
  intro pins s σ H D I h
  refine wpAny_execs_cons (thn (h1 pins s σ H { D with nx := u D } I h) fun f s1 q => ?_)
  cases f with
  | next =>
    obtain ⟨σ', H', I', q⟩ := q
    exact h2 pins s1 σ' H' D I' q
  | ret v => exact q
  | brk => exact q
  | cont => exact q
theorem pss_one (h1 : PS X st t) : PSs X [st] t := by
  intro pins s σ H D I h
  refine wpAny_execs_cons (thn (h1 pins s σ H D I h) fun f s1 q => ?_)
  cases f with
  | next => exact wpAny_execs_nil q
  | ret v => exact q
  | brk => exact q
  | cont => exact q
theorem Inv.quiet {pins : List (Addr × Obj)} {σ : St} {H : Hp} {s : Shared} (I : Inv X pins σ H s) : interactive X.env = false := by simp [interactive, I.ok.kind]
def tDrop (te : TE) : TS := fun D σ H => te σ H fun _ H1 => D.nx σ H1
theorem ps_expr (he : PE X e te) (hs : swapsWith e none pos.line X.env = pure false := by rfl) : PS X (.Expr e pos) (tDrop te) := by
  intro pins s σ H D I h
  exact wpAny_Expr_any (thn (he pins s σ H _ I h) fun v s1 ⟨x, H1, I1, r1, q1⟩ => ⟨σ, H1, I1, q1⟩) I.quiet hs
def tRet (te : TE) : TS := fun D σ H => te σ H D.rt
theorem ps_ret (he : PE X e te) : PS X (.Return (some e) pos) (tRet te) := by
  intro pins s σ H D I h
  exact wpAny_Return_some (thn (he pins s σ H _ I h) fun v s1 ⟨x, H1, I1, r1, q1⟩ => ⟨x, σ, H1, I1, r1, q1⟩)
def tIfS (c : TT) (t u : TS) : TS := fun D σ H => c σ H fun b H1 => if b = true then t D σ H1 else u D σ H1
theorem ps_if {c : Expr} {a b : List Stmt} {tc : TT} (hc : PT X c tc) (ha : PSs X a t) (hb : PSs X b u) : PS X (.If c a b pos) (tIfS tc t u) := by
  intro pins s σ H D I h
  refine wpAny_If (thn (hc pins s σ H _ I h) fun d s1 ⟨H1, I1, q1⟩ => ?_)
  cases d with
  | true => exact ha pins s1 σ H1 D I1 q1
  | false => exact hb pins s1 σ H1 D I1 q1
def tNever : TS := fun _ _ _ => False
theorem ps_never : PS X st tNever := fun _ _ _ _ _ _ h => h.elim
end
abbrev TG := V → St → Hp → (St → Hp → Prop) → Prop
abbrev TGs := List V → St → Hp → (St → Hp → Prop) → Prop
def PG (X : Cx) (target : Expr) (t : TG) : Prop :=
  ∀ (pins : List (Addr × Obj)) (s : Shared) (σ : St) (H : Hp) (v : V) (u : Value) (Q : St → Hp → Prop), Inv X pins σ H s → RelV v u → t v σ H Q →
    wpAny (model X.prog X.w) X.A (assign target X.env u) (fun _ s' => ∃ σ' H', Inv X pins σ' H' s' ∧ Q σ' H') X.xe s
def PGs (X : Cx) (ts : List Expr) (t : TGs) : Prop :=
  ∀ (pins : List (Addr × Obj)) (s : Shared) (σ : St) (H : Hp) (vs : List V) (us : List Value) (Q : St → Hp → Prop), Inv X pins σ H s → Vals vs us → t vs σ H Q →
    wpAny (model X.prog X.w) X.A (assignInOrder ((assignEach ts X.env).map (·.2)) us) (fun _ s' => ∃ σ' H', Inv X pins σ' H' s' ∧ Q σ' H') X.xe s
section
variable {X : Cx} {pos : Pos}
def gName (i : Nat) : TG := fun v σ H Q => Q (σ.set i (some v)) H
theorem pg_name {i : Nat} {x : Str} (hN : X.N.Nodup) (hi : X.N[i]? = some x) (hx : Loc X.env.scope x) (hf : X.fn x = true ∨ X.env.scope.names.lookup x = some .local := by first | exact .inl rfl | exact .inr rfl | assumption) : PG X (.Name x pos) (gName i) := by
  intro pins s σ H v u Q I r h
  exact wpAny_assign_Name (store_ok I hN hi hx r (fun s' I' => ⟨_, H, I', h⟩) hf)
def gNil : TGs := fun vs σ H Q => vs = [] ∧ Q σ H
def gCons (t : TG) (u : TGs) : TGs := fun vs σ H Q => ∃ v r, vs = v :: r ∧ t v σ H fun σ' H' => u r σ' H' Q
theorem pgs_nil : PGs X [] gNil := by
  intro pins s σ H vs us Q I r h
  obtain ⟨e, h⟩ := h
  subst e
  cases r
  exact assignInOrder_nil ⟨σ, H, I, h⟩
theorem pgs_cons {e : Expr} {es : List Expr} {t : TG} {u : TGs} (h1 : PG X e t) (h2 : PGs X es u)
    (hs : (assignEach (e :: es) X.env).map (·.2) = assign e X.env :: (assignEach es X.env).map (·.2) := by rfl) : PGs X (e :: es) (gCons t u) := by
  intro pins s σ H vs us Q I r h
  obtain ⟨v, vr, e1, h⟩ := h
  subst e1
  cases r with
  | cons r rr =>
    rw [hs]
    refine assignInOrder_cons (thn (h1 pins s σ H _ _ _ I r h) fun _ s1 ⟨σ1, H1, I1, q1⟩ => ?_)
    exact h2 pins s1 σ1 H1 _ _ Q I1 rr q1
def gTup (K : PySem.W.Frag) (n : Nat) (t : TGs) : TG := fun v σ H Q => ∃ a xs, v = .ref a ∧ SqT K H a xs ∧ xs.length = n ∧ t xs σ H Q
theorem pg_tup {es : List Expr} {k : Nat} {t : TGs} {n : Nat} (hc : X.calm = true) (h : PGs X es t)
    (hn : (assignEach es X.env).length = n := by rfl) (hst : (assignEach es X.env).findIdx? (·.1) = none := by rfl) : PG X (.Tuple es k pos) (gTup X.K n t) := by
  intro pins s σ H v u Q I r hw
  obtain ⟨a, xs, e1, hq, hl, hw⟩ := hw
  subst e1
  cases r
  obtain ⟨its, rv, ht, hz⟩ := I.tuple hq
  refine assign_Tuple_tuple (I.ok.hd hc) ht (by simp [hn, ← hl, rv.length]) hst fun h' hx => ?_
  have I1 : Inv X pins σ H { s with heap := h' } := I.kept (t' := s.toks) fun b o e => hx b o (Nat.ne_of_lt (Heap.lt_size e)) e
  exact h pins _ σ H xs _ Q I1 (by simpa using rv) hw
def tAsg (te : TE) (g : TG) : TS := fun D σ H => te σ H fun x H1 => g x σ H1 D.nx
theorem ps_set {i : Nat} {x : Str} {e : Expr} {te : TE} {pos' : Pos} (hN : X.N.Nodup) (hi : X.N[i]? = some x) (hx : Loc X.env.scope x) (he : PE X e te) (hs : swapsWith e (some (.Name x pos')) pos.line X.env = pure false := by rfl) (hf : X.fn x = true ∨ X.env.scope.names.lookup x = some .local := by first | exact .inl rfl | exact .inr rfl | assumption) :
    PS X (.Assign [.Name x pos'] e pos) (tAsg te (gName i)) := by
  intro pins s σ H D I h
  refine wpAny_Assign_Name (thn (he pins s σ H _ I h) fun v s1 ⟨y, H1, I1, r1, q1⟩ => ?_) hs
  exact store_ok I1 hN hi hx r1 (fun s2 I2 => ⟨_, H1, I2, q1⟩) hf
end
section
variable {X : Cx} {pos : Pos}
end
structure It where
  go : Nat → Hp → Prop
  yld : Nat → Hp → V → Hp → Prop
  stop : Nat → Hp → Prop
def FpOk (X : Cx) (pins : List (Addr × Obj)) (H : Hp) (b : Addr) : Prop :=
  H b = none ∧ b ≠ X.env.locals ∧ b ∉ X.fs ∧ (b ∈ X.ex ∨ X.s₀.heap.get? b = none) ∧ (∀ x c, X.env.cells.lookup x = some c → c ≠ b) ∧ ∀ p ∈ X.pn ++ pins, p.1 ≠ b
theorem Inv.fpOk {X : Cx} {pins : List (Addr × Obj)} {σ : St} {H H' : Hp} {s : Shared} {b : Addr} (I : Inv X pins σ H s) (hb : s.heap.objs.size ≤ b) (hn : H' b = none) : FpOk X pins H' b := by
  refine ⟨hn, Nat.ne_of_gt (Nat.lt_of_lt_of_le I.lt hb), I.nofs hb, .inr (Heap.get?_none_of_le (Nat.le_trans I.sz hb)), fun x c e z => ?_, fun p hp z => ?_⟩
  · obtain ⟨v, q⟩ := I.cell x c e
    exact absurd (Nat.lt_of_lt_of_le q.lt (by rw [z]; exact hb)) (Nat.lt_irrefl _)
  · exact absurd (Nat.lt_of_lt_of_le (Heap.lt_size (I.pin p hp).1) (by rw [z]; exact hb)) (Nat.lt_irrefl _)
structure Turn (P : Program) (w : World) (K : PySem.W.Frag) (tg : Expr) (J : It) (fp : List Addr) (it : Addr) (tn : Nat → Heap → Prop) : Prop where
  mem : it ∈ fp
  obj : ∀ i h, tn i h → ∀ b ∈ fp, ∃ o, h.get? b = some o ∧ ∀ v, o.data ≠ .cell v
  keep : ∀ i h h', tn i h → (∀ b ∈ fp, ∀ o, h.get? b = some o → h'.get? b = some o) → tn i h'
  item : ∀ (X : Cx), X.prog = P → X.w = w → X.K = K → X.calm = true → ∀ (i : Nat) (pins : List (Addr × Obj)) (s : Shared) (σ : St) (H : Hp) (E : Value → Shared → Prop), Inv X pins σ H s → (∀ b ∈ fp, FpOk X pins H b) → tn i s.heap → J.go i H →
    wpAny (model P w) X.A (pyNext (.ref it)) (fun r s1 => ∃ u, r = some u ∧
      wpAny (model P w) X.A (letOwnedTupleGo tg (.ref it) u) (fun _ s2 => ∃ x H', Inv X pins σ H' s2 ∧ RelV x u ∧ J.yld i H x H' ∧ tn (i + 1) s2.heap ∧ ∀ b ∈ fp, H' b = none) E s1) E s
  done : ∀ (X : Cx), X.prog = P → X.w = w → X.K = K → X.calm = true → ∀ (i : Nat) (pins : List (Addr × Obj)) (s : Shared) (σ : St) (H : Hp) (E : Value → Shared → Prop), Inv X pins σ H s → (∀ b ∈ fp, FpOk X pins H b) → tn i s.heap → J.stop i H →
    wpAny (model P w) X.A (pyNext (.ref it)) (fun r s1 => r = none ∧ Inv X pins σ H s1) E s
  self : ∀ (A : Around) (i : Nat) (s : Shared) (Q : Value → Shared → Prop) (E : Value → Shared → Prop), tn i s.heap → Q (.ref it) s → wpAny (model P w) A (pyIter (.ref it)) Q E s
abbrev TI := St → Hp → (It → Hp → Prop) → Prop
def PIE (X : Cx) (pins : List (Addr × Obj)) (σ : St) (tg : Expr) (R : It → Hp → Prop) (itv : Value) (s2 : Shared) : Prop :=
  ∃ (it : Addr) (fp : List Addr) (tn : Nat → Heap → Prop) (J : It) (H' : Hp), itv = .ref it ∧ Inv X pins σ H' s2 ∧ Turn X.prog X.w X.K tg J fp it tn ∧ tn 0 s2.heap ∧ (∀ b ∈ fp, FpOk X pins H' b) ∧ R J H'
def PI (X : Cx) (tg iter : Expr) (wi : TI) : Prop :=
  ∀ (pins : List (Addr × Obj)) (s : Shared) (σ : St) (H : Hp) (R : It → Hp → Prop), Inv X pins σ H s → wi σ H R →
    wpAny (model X.prog X.w) X.A (eval iter X.env) (fun v s1 => wpAny (model X.prog X.w) X.A (pyIter v) (PIE X pins σ tg R) X.xe s1) X.xe s
theorem go_of {M : Model} {A : Around} {E : Value → Shared → Prop} {s : Shared} {tg : Expr} {it : Addr} {u : Value} {o : Obj} {n : String} {vs : Array Value} {Q : Unit → Shared → Prop} (ho : s.heap.get? it = some o) (hc : o.cls = .type n) (hd : o.data = .fields vs)
    (hn : ["enumerate", "zip", "dict_itemiterator", "dict_reverseitemiterator", "odict_iterator", "itertools.zip_longest", "itertools.pairwise"].contains n = false) (hQ : Q () s) : wpAny M A (letOwnedTupleGo tg (.ref it) u) Q E s := by
  unfold letOwnedTupleGo
  cases tg <;> first
    | exact wpAny_pure hQ
    | (cases u <;> first
        | exact wpAny_pure hQ
        | (refine wpAny_bind (wpAny_load ho ?_)
           rw [hc, hd]
           show wpAny M A (if (["enumerate", "zip", "dict_itemiterator", "dict_reverseitemiterator", "odict_iterator", "itertools.zip_longest", "itertools.pairwise"].contains n && vs[0]? == some (rawInt _)) = true then _ else _) Q E s
           rw [if_neg (by intro h; rw [hn, Bool.false_and] at h; cases h)]
           exact wpAny_pure hQ))
def Itl (K : PySem.W.Frag) (a : Addr) : It :=
  ⟨fun i H => ∃ xs x, SqL K H a xs ∧ xs[i]? = some x, fun i H x H' => H' = H ∧ ∀ xs, SqL K H a xs → xs[i]? = some x, fun i H => ∃ xs, SqL K H a xs ∧ xs.length ≤ i⟩
def Itt (K : PySem.W.Frag) (a : Addr) : It :=
  ⟨fun i H => ∃ xs x, SqT K H a xs ∧ xs[i]? = some x, fun i H x H' => H' = H ∧ ∀ xs, SqT K H a xs → xs[i]? = some x, fun i H => ∃ xs, SqT K H a xs ∧ xs.length ≤ i⟩
def Itr (lo : Int) (n : Nat) : It := ⟨fun i _ => i < n, fun i H x H' => H' = H ∧ x = .int (lo + i), fun i _ => n ≤ i⟩
theorem turn_list {P : Program} {w : World} {K : PySem.W.Frag} {tg : Expr} (a it : Addr) : Turn P w K tg (Itl K a) [it] it (fun i h => h.IsListIter it a i) where
  mem := by simp
  obj := fun i h st b hb => by
    have e : b = it := by simpa using hb
    subst e
    obtain ⟨o, e, c, d⟩ := st
    exact ⟨o, e, fun v z => by rw [d] at z; cases z⟩
  keep := fun i h h' st k => st.at fun o e => k it (by simp) o e
  item := by
    intro X hP hw hK hc i pins s σ H E I hf st hg
    subst hP hw hK
    obtain ⟨xs, x, hq, hx⟩ := hg
    obtain ⟨its, rv, p, hz⟩ := I.list hq
    obtain ⟨u, hu, ru⟩ := rv.get hx
    obtain ⟨f0, f1, f2, f3, f4, f5⟩ := hf it (by simp)
    refine wpAny_pyNext_list_item st p.isList (x := u) (by simpa using hu) fun h' st' sb => ?_
    have I1 : Inv X pins σ H { s with heap := h' } := I.turned (t' := s.toks) (fun b o hb e => (sb.2 b hb).trans e) f0 f1 f3 f4 f5
    obtain ⟨o, e, c, d⟩ := id st'
    exact ⟨u, rfl, go_of (s := { s with heap := h' }) e c d (by decide) ⟨x, H, I1, ru, ⟨rfl, fun ys hy => by rw [I.list_inj hy hq]; exact hx⟩, st', fun b hb => (hf b hb).1⟩⟩
  done := by
    intro X hP hw hK hc i pins s σ H E I hf st hg
    subst hP hw hK
    obtain ⟨xs, hq, hx⟩ := hg
    obtain ⟨its, rv, p, hz⟩ := I.list hq
    obtain ⟨f0, f1, f2, f3, f4, f5⟩ := hf it (by simp)
    have hl := rv.length
    exact wpAny_pyNext_list_end (I.ok.hd hc) st p.isList (by simp; omega) fun h' eb => ⟨rfl, I.turned (t' := s.toks) (fun b o hb e => eb b o hb e) f0 f1 f3 f4 f5⟩
  self := fun _ _ _ _ _ st h => wpAny_pyIter_listiter st h
theorem turn_tuple {P : Program} {w : World} {K : PySem.W.Frag} {tg : Expr} (a it : Addr) : Turn P w K tg (Itt K a) [it] it (fun i h => h.IsTupleIter it a i) where
  mem := by simp
  obj := fun i h st b hb => by
    have e : b = it := by simpa using hb
    subst e
    obtain ⟨o, e, c, d⟩ := st
    exact ⟨o, e, fun v z => by rw [d] at z; cases z⟩
  keep := fun i h h' st k => st.at fun o e => k it (by simp) o e
  item := by
    intro X hP hw hK hc i pins s σ H E I hf st hg
    subst hP hw hK
    obtain ⟨xs, x, hq, hx⟩ := hg
    obtain ⟨its, rv, p, hz⟩ := I.tuple hq
    obtain ⟨u, hu, ru⟩ := rv.get hx
    obtain ⟨f0, f1, f2, f3, f4, f5⟩ := hf it (by simp)
    refine wpAny_pyNext_tuple_item st (show s.heap.IsTuple a its.toArray from p) (x := u) (by simpa using hu) fun h' st' sb => ?_
    have I1 : Inv X pins σ H { s with heap := h' } := I.turned (t' := s.toks) (fun b o hb e => (sb.2 b hb).trans e) f0 f1 f3 f4 f5
    obtain ⟨o, e, c, d⟩ := id st'
    exact ⟨u, rfl, go_of (s := { s with heap := h' }) e c d (by decide) ⟨x, H, I1, ru, ⟨rfl, fun ys hy => by rw [I.tuple_inj hy hq]; exact hx⟩, st', fun b hb => (hf b hb).1⟩⟩
  done := by
    intro X hP hw hK hc i pins s σ H E I hf st hg
    subst hP hw hK
    obtain ⟨xs, hq, hx⟩ := hg
    obtain ⟨its, rv, p, hz⟩ := I.tuple hq
    obtain ⟨f0, f1, f2, f3, f4, f5⟩ := hf it (by simp)
    have hl := rv.length
    exact wpAny_pyNext_tuple_end (I.ok.hd hc) st (show s.heap.IsTuple a its.toArray from p) (by simp; omega) fun h' eb => ⟨rfl, I.turned (t' := s.toks) (fun b o hb e => eb b o hb e) f0 f1 f3 f4 f5⟩
  self := fun _ _ _ _ _ st h => wpAny_pyIter_tupleiter st h
theorem turn_range {P : Program} {w : World} {K : PySem.W.Frag} {tg : Expr} (it : Addr) (lo : Int) (n : Nat) : Turn P w K tg (Itr lo n) [it] it (fun i h => IsRangeIter h it (lo + (i : Nat) * 1) ((n : Int) - (i : Nat)) 1) where
  mem := by simp
  obj := fun i h st b hb => by
    have e : b = it := by simpa using hb
    subst e
    exact ⟨_, st, fun v z => by
      have z' : Data.fields _ = Data.cell v := z
      cases z'⟩
  keep := fun i h h' st k => k it (by simp) _ st
  item := by
    intro X hP hw hK hc i pins s σ H E I hf st hg
    subst hP hw hK
    obtain ⟨f0, f1, f2, f3, f4, f5⟩ := hf it (by simp)
    have W := Walks.range (prog := X.prog) (w := X.w) (I.ok.hd hc) it lo 1 n
    refine W.item i s _ _ hg st fun v h' tk hv st' kk => ?_
    obtain ⟨t, rfl⟩ := hv
    have I1 : Inv X pins σ H { s with heap := h', toks := tk } := I.turned (fun b o hb e => kk b o (by simpa using hb) e) f0 f1 f3 f4 f5
    refine ⟨_, rfl, go_of (s := { s with heap := h', toks := tk }) (n := "range_iterator") st' rfl rfl (by decide) ⟨.int (lo + i), H, I1, ⟨t, ?_⟩, ⟨rfl, rfl⟩, st', fun b hb => (hf b hb).1⟩⟩
    rw [Int.mul_one]
  done := by
    intro X hP hw hK hc i pins s σ H E I hf st hg
    subst hP hw hK
    obtain ⟨f0, f1, f2, f3, f4, f5⟩ := hf it (by simp)
    exact wpAny_pyNext_range_end (I.ok.hd hc) st (by have : n ≤ i := hg; omega) fun h' eb => ⟨rfl, I.turned (t' := s.toks) (fun b o hb e => eb b o hb e) f0 f1 f3 f4 f5⟩
  self := fun _ _ _ _ _ st h => wpAny_pyIter_rangeiter st h
end L2
namespace L2
open PySem PySem.Spec PyProof.Rows
section
variable {X : Cx} {tg : Expr}
def iList (K : PySem.W.Frag) (tl : TE) : TI := fun σ H R => tl σ H fun x H1 => ∃ a, x = .ref a ∧ (∃ xs, SqL K H1 a xs) ∧ R (Itl K a) H1
def iTup (K : PySem.W.Frag) (tl : TE) : TI := fun σ H R => tl σ H fun x H1 => ∃ a, x = .ref a ∧ (∃ xs, SqT K H1 a xs) ∧ R (Itt K a) H1
theorem pi_list {l : Expr} {tl : TE} (hl : PE X l tl) : PI X tg l (iList X.K tl) := by
  intro pins s σ H R I h
  refine thn (hl pins s σ H _ I h) fun v s1 ⟨x, H1, I1, r1, q1⟩ => ?_
  obtain ⟨a, e, ⟨xs, hq⟩, q⟩ := q1
  subst e
  cases r1
  obtain ⟨its, rv, p, hz⟩ := I1.list hq
  refine wpAny_pyIter_list p.isList ?_
  refine ⟨s1.heap.objs.size, [s1.heap.objs.size], _, _, H1, rfl, I1.kept (t' := s1.toks) fun b o e => Heap.get?_push_of_some _ e, turn_list a _, ⟨_, Heap.get?_push_size _ rfl, rfl, rfl⟩, fun b hb => ?_, q⟩
  have e : b = s1.heap.objs.size := by simpa using hb
  subst e
  exact I1.fpOk (Nat.le_refl _) (I1.hok.fresh (Nat.le_refl _))
theorem pi_tup {l : Expr} {tl : TE} (hl : PE X l tl) : PI X tg l (iTup X.K tl) := by
  intro pins s σ H R I h
  refine thn (hl pins s σ H _ I h) fun v s1 ⟨x, H1, I1, r1, q1⟩ => ?_
  obtain ⟨a, e, ⟨xs, hq⟩, q⟩ := q1
  subst e
  cases r1
  obtain ⟨its, rv, p, hz⟩ := I1.tuple hq
  refine wpAny_pyIter_tuple (show s1.heap.IsTuple a its.toArray from p) ?_
  refine ⟨s1.heap.objs.size, [s1.heap.objs.size], _, _, H1, rfl, I1.kept (t' := s1.toks) fun b o e => Heap.get?_push_of_some _ e, turn_tuple a _, ⟨_, Heap.get?_push_size _ rfl, rfl, rfl⟩, fun b hb => ?_, q⟩
  have e : b = s1.heap.objs.size := by simpa using hb
  subst e
  exact I1.fpOk (Nat.le_refl _) (I1.hok.fresh (Nat.le_refl _))
theorem range_it {pins : List (Addr × Obj)} {σ : St} {H : Hp} {s : Shared} {R : It → Hp → Prop} {E : Value → Shared → Prop} {lo hi : Int} {t u v : Tok} {tk : Nat} (I : Inv X pins σ H s) (h1 : -(2 ^ 62) ≤ lo) (h2 : lo < 2 ^ 62) (h3 : -(2 ^ 62) ≤ hi) (h4 : hi < 2 ^ 62)
    (q : R (Itr lo (hi - lo).toNat) H) : wpAny (model X.prog X.w) X.A (pyIter (.ref s.heap.objs.size)) (PIE X pins σ tg R) E { s with heap := s.heap.push { cls := .type "range", data := .fields #[.int lo t, .int hi u, .int 1 v] }, toks := tk } := by
  refine wpAny_pyIter_range (IsRange.new ..) (small_one h1 h2 h3 h4) ?_
  have I1 : Inv X pins σ H { s with heap := s.heap.push { cls := .type "range", data := .fields #[.int lo t, .int hi u, .int 1 v] }, toks := tk } := I.kept fun b o e => Heap.get?_push_of_some _ e
  refine ⟨(s.heap.push { cls := .type "range", data := .fields #[.int lo t, .int hi u, .int 1 v] }).objs.size, [(s.heap.push { cls := .type "range", data := .fields #[.int lo t, .int hi u, .int 1 v] }).objs.size], _, _, H, rfl,
    I1.kept (t' := tk) fun b o e => Heap.get?_push_of_some _ e, turn_range _ lo (hi - lo).toNat, ?_, fun b hb => ?_, q⟩
  · have e1 : lo + ((0 : Nat) : Int) * 1 = lo := by simp
    have e2 : (((hi - lo).toNat : Nat) : Int) - ((0 : Nat) : Int) = Builtin.Range.rangeSize lo hi 1 := by rw [rangeSize_one]; split <;> omega
    show IsRangeIter _ _ (lo + ((0 : Nat) : Int) * 1) ((((hi - lo).toNat : Nat) : Int) - ((0 : Nat) : Int)) 1
    rw [e1, e2]
    exact Heap.get?_push_size _ rfl
  · have e : b = (s.heap.push { cls := .type "range", data := .fields #[.int lo t, .int hi u, .int 1 v] }).objs.size := by simpa using hb
    subst e
    exact I1.fpOk (Nat.le_refl _) (I1.hok.fresh (Nat.le_refl _))
def iRng1 (ta : TA) : TI := fun σ H R => ta σ H fun vs H1 => ∃ j : Int, vs = [.int j] ∧ -(2 ^ 62) ≤ j ∧ j < 2 ^ 62 ∧ R (Itr 0 j.toNat) H1
def iRng2 (ta : TA) : TI := fun σ H R => ta σ H fun vs H1 => ∃ i j : Int, vs = [.int i, .int j] ∧ (-(2 ^ 62) ≤ i ∧ i < 2 ^ 62 ∧ -(2 ^ 62) ≤ j ∧ j < 2 ^ 62) ∧ R (Itr i (j - i).toNat) H1
theorem pi_range1 {a : Expr} {ta : TA} {p pos : Pos} (hg : Gl X "range") (hm : X.mg "range" = none) (ha : PA X [a] ta) (hs : starEach [a] X.env = [(false, eval a X.env)] := by rfl) : PI X tg (.Call (.Name "range" p) [a] [] pos) (iRng1 ta) := by
  intro pins s σ H R I h
  refine Call_ (ld_blt I hg hm boot_range (PyProof.Rows.callWith_type1 (thn (ha pos pins s σ H _ I h) fun us s1 ⟨vs, H1, I1, r1, q1⟩ => ?_) hs rfl))
  obtain ⟨j, e, q1, q2, q⟩ := q1
  subst e
  cases r1 with
  | cons r rr =>
    cases rr
    obtain ⟨t, rfl⟩ := r
    exact call_range_1 (range_it I1 (by omega) (by omega) q1 q2 (by simpa using q))
theorem pi_range2 {a b : Expr} {ta : TA} {p pos : Pos} (hg : Gl X "range") (hm : X.mg "range" = none) (ha : PA X [a, b] ta) (hs : starEach [a, b] X.env = [(false, eval a X.env), (false, eval b X.env)] := by rfl) (hs2 : starEach [b] X.env = [(false, eval b X.env)] := by rfl) :
    PI X tg (.Call (.Name "range" p) [a, b] [] pos) (iRng2 ta) := by
  intro pins s σ H R I h
  refine Call_ (ld_blt I hg hm boot_range (PyProof.Rows.callWith_type1 (thn (ha pos pins s σ H _ I h) fun us s1 ⟨vs, H1, I1, r1, q1⟩ => ?_) (by rw [hs, hs2]) (by rw [hs2]; rfl)))
  obtain ⟨i, j, e, ⟨q1, q2, q3, q4⟩, q⟩ := q1
  subst e
  cases r1 with
  | cons r rr =>
    cases rr with
    | cons r' rr =>
      cases rr
      obtain ⟨t, rfl⟩ := r
      obtain ⟨t', rfl⟩ := r'
      exact call_range_2 (range_it I1 q1 q2 q3 q4 q)
def tFor (wi : TI) (g : TG) (tb : TS) : TS := fun D σ H => wi σ H fun J H1 => ∃ W : Nat → Nat → St → Hp → Prop, (∃ m, W 0 m σ H1) ∧ ∀ i m σ H, W i m σ H →
  (J.stop i H ∧ D.nx σ H) ∨ (J.go i H ∧ ∃ N : St → Hp → Prop, (∀ σ' H', N σ' H' → ∃ m', m' < m ∧ W (i + 1) m' σ' H') ∧ ∀ x H', J.yld i H x H' → g x σ H' fun σ2 H2 => tb { D with nx := N, ct := N, bk := D.nx } σ2 H2)
def pinsAt (fp : List Addr) (h : Heap) : List (Addr × Obj) := fp.filterMap fun b => (h.get? b).map fun o => (b, o)
theorem mem_pinsAt {fp : List Addr} {h : Heap} {b : Addr} {o : Obj} (hb : b ∈ fp) (e : h.get? b = some o) : (b, o) ∈ pinsAt fp h := List.mem_filterMap.mpr ⟨b, hb, by rw [e]; rfl⟩
theorem of_pinsAt {fp : List Addr} {h : Heap} {p : Addr × Obj} (hp : p ∈ pinsAt fp h) : p.1 ∈ fp ∧ h.get? p.1 = some p.2 := by
  obtain ⟨b, hb, e⟩ := List.mem_filterMap.mp hp
  cases q : h.get? b with
  | none => rw [q] at e; cases e
  | some o =>
    rw [q] at e
    have e' : (b, o) = p := Option.some.inj e
    subst e'
    exact ⟨hb, q⟩
theorem Inv.pinned {pins : List (Addr × Obj)} {σ : St} {H : Hp} {s : Shared} {fp : List Addr} (I : Inv X pins σ H s) (hf : ∀ b ∈ fp, FpOk X pins H b) (ho : ∀ b ∈ fp, ∃ o, s.heap.get? b = some o ∧ ∀ v, o.data ≠ .cell v) : Inv X (pins ++ pinsAt fp s.heap) σ H s :=
  I.pins_of fun p hp => (List.mem_append.mp hp).elim (fun z => I.pin p (List.mem_append_right _ z)) fun z => by
    obtain ⟨hb, e⟩ := of_pinsAt z
    obtain ⟨f0, f1, f2, _⟩ := hf p.1 hb
    obtain ⟨o, e', d⟩ := ho p.1 hb
    rw [e] at e'; cases e'
    exact ⟨e, f0, f1, f2, d⟩
theorem Inv.unpinned {pins pl : List (Addr × Obj)} {σ : St} {H : Hp} {s : Shared} (I : Inv X (pins ++ pl) σ H s) : Inv X pins σ H s := I.pins_of fun p hp => I.pin p (List.mem_append_right _ (List.mem_append_left _ hp))
theorem ps_for {iter : Expr} {body : List Stmt} {wi : TI} {g : TG} {tb : TS} {pos : Pos} (hp : PassesOwn (model X.prog X.w) X.A X.env X.xe) (hc : X.calm = true) (hi : PI X tg iter wi) (hg : PG X tg g) (hb : PSs X body tb)
    (hs : ∀ x, foldedSetIterable iter X.env x = pure x := by intro _; rfl) : PS X (.For tg iter body [] pos) (tFor wi g tb) := by
  intro pins s σ H D I h
  refine wpAny_For (thn (hi pins s σ H _ I h) fun v s1 h1 => thn h1 fun itv s2 h2 => ?_) hs
  obtain ⟨it, fp, tn, J, H2, e, I2, T, st2, f2, W, ⟨m0, w0⟩, turn⟩ := h2
  subst e
  -- what stays true of the iterator's objects through the loop
  have stat : ∀ {H' : Hp}, (∀ b ∈ fp, H' b = none) → ∀ b ∈ fp, FpOk X pins H' b := fun hn b hb => ⟨hn b hb, (f2 b hb).2⟩
  refine codeAny_forLoop_any (fun n s' => ∃ i σ' H', Inv X pins σ' H' s' ∧ tn i s'.heap ∧ (∀ b ∈ fp, H' b = none) ∧ W i n σ' H') ?_ m0 ⟨0, σ, H2, I2, st2, fun b hb => (f2 b hb).1, w0⟩
  rintro n s3 ⟨i, σ3, H3, I3, st3, fr3, w3⟩
  rcases turn i n σ3 H3 w3 with ⟨stop, qn⟩ | ⟨go, N, hN, step⟩
  · refine wpAny_passesOwn hp (thn (T.done X rfl rfl rfl hc i pins s3 σ3 H3 X.xe I3 (stat fr3) st3 stop) fun r s4 ⟨hr, I4⟩ => ?_)
    subst hr
    exact wpAny_execs_nil ⟨σ3, H3, I4, qn⟩
  · refine wpAny_passesOwn hp (thn (T.item X rfl rfl rfl hc i pins s3 σ3 H3 X.xe I3 (stat fr3) st3 go) fun r s4 ⟨u, hr, h4⟩ => ?_)
    subst hr
    refine wpAny_passesOwn hp (thn h4 fun _ s5 ⟨x, H5, I5, r5, y5, st5, fr5⟩ => ?_)
    have I5' := I5.pinned (stat fr5) (T.obj _ _ st5)
    refine wpAny_passesOwn hp (thn (hg _ s5 σ3 H5 x u _ I5' r5 (step x H5 y5)) fun _ s6 ⟨σ6, H6, I6, q6⟩ => ?_)
    refine wpAny_passesOwn hp (thn (hb _ s6 σ6 H6 _ I6 q6) fun f s7 q7 => ?_)
    have again : ∀ {σ7 : St} {H7 : Hp}, Inv X (pins ++ pinsAt fp s5.heap) σ7 H7 s7 → N σ7 H7 → ∃ m, m < n ∧ ∃ i σ' H', Inv X pins σ' H' s7 ∧ tn i s7.heap ∧ (∀ b ∈ fp, H' b = none) ∧ W i m σ' H' := fun {σ7 H7} I7 n7 => by
      obtain ⟨m', hm, w7⟩ := hN σ7 H7 n7
      refine ⟨m', hm, i + 1, σ7, H7, I7.unpinned, T.keep _ _ _ st5 fun b hb o e => (I7.pin (b, o) (List.mem_append_right _ (List.mem_append_right _ (mem_pinsAt hb e)))).1, fun b hb => ?_, w7⟩
      obtain ⟨o, e, d⟩ := T.obj _ _ st5 b hb
      exact (I7.pin (b, o) (List.mem_append_right _ (List.mem_append_right _ (mem_pinsAt hb e)))).2.1
    cases f with
    | next => obtain ⟨σ7, H7, I7, n7⟩ := q7; exact again I7 n7
    | cont => obtain ⟨σ7, H7, I7, n7⟩ := q7; exact again I7 n7
    | brk => obtain ⟨σ7, H7, I7, q7⟩ := q7; exact ⟨σ7, H7, I7.unpinned, q7⟩
    | ret v => obtain ⟨x7, σ7, H7, I7, r7, q7⟩ := q7; exact ⟨x7, σ7, H7, I7.unpinned, r7, q7⟩
end
theorem for_list {K : PySem.W.Frag} {a : Addr} {xs : List V} {g : TG} {tb : TS} {D : Ends} {σ : St} {H : Hp} (Pv : Nat → St → Hp → Prop) (h0 : Pv 0 σ H) (hl : ∀ i σ H, i ≤ xs.length → Pv i σ H → SqL K H a xs)
    (hs : ∀ i x σ H, xs[i]? = some x → Pv i σ H → g x σ H fun σ2 H2 => tb { D with nx := Pv (i + 1), ct := Pv (i + 1), bk := D.nx } σ2 H2) (hd : ∀ σ H, Pv xs.length σ H → D.nx σ H) :
    ∃ W : Nat → Nat → St → Hp → Prop, (∃ m, W 0 m σ H) ∧ ∀ i m σ H, W i m σ H →
      ((Itl K a).stop i H ∧ D.nx σ H) ∨ ((Itl K a).go i H ∧ ∃ N : St → Hp → Prop, (∀ σ' H', N σ' H' → ∃ m', m' < m ∧ W (i + 1) m' σ' H') ∧ ∀ x H', (Itl K a).yld i H x H' → g x σ H' fun σ2 H2 => tb { D with nx := N, ct := N, bk := D.nx } σ2 H2) := by
  refine ⟨fun i m σ H => m = xs.length - i ∧ i ≤ xs.length ∧ Pv i σ H, ⟨xs.length, by simp, Nat.zero_le _, h0⟩, ?_⟩
  rintro i m σ H ⟨rfl, hi, p⟩
  have q := hl i σ H hi p
  by_cases hlt : i < xs.length
  · refine .inr ⟨⟨xs, xs[i], q, by simp [hlt]⟩, Pv (i + 1), fun σ' H' p' => ⟨xs.length - (i + 1), by omega, rfl, hlt, p'⟩, fun x H' y => ?_⟩
    obtain ⟨e, y⟩ := y
    subst e
    exact hs i x σ _ (y xs q) p
  · have e : i = xs.length := by omega
    subst e
    exact .inl ⟨⟨xs, q, Nat.le_refl _⟩, hd σ H p⟩
theorem for_tup {K : PySem.W.Frag} {a : Addr} {xs : List V} {g : TG} {tb : TS} {D : Ends} {σ : St} {H : Hp} (Pv : Nat → St → Hp → Prop) (h0 : Pv 0 σ H) (hl : ∀ i σ H, i ≤ xs.length → Pv i σ H → SqT K H a xs)
    (hs : ∀ i x σ H, xs[i]? = some x → Pv i σ H → g x σ H fun σ2 H2 => tb { D with nx := Pv (i + 1), ct := Pv (i + 1), bk := D.nx } σ2 H2) (hd : ∀ σ H, Pv xs.length σ H → D.nx σ H) :
    ∃ W : Nat → Nat → St → Hp → Prop, (∃ m, W 0 m σ H) ∧ ∀ i m σ H, W i m σ H →
      ((Itt K a).stop i H ∧ D.nx σ H) ∨ ((Itt K a).go i H ∧ ∃ N : St → Hp → Prop, (∀ σ' H', N σ' H' → ∃ m', m' < m ∧ W (i + 1) m' σ' H') ∧ ∀ x H', (Itt K a).yld i H x H' → g x σ H' fun σ2 H2 => tb { D with nx := N, ct := N, bk := D.nx } σ2 H2) := by
  refine ⟨fun i m σ H => m = xs.length - i ∧ i ≤ xs.length ∧ Pv i σ H, ⟨xs.length, by simp, Nat.zero_le _, h0⟩, ?_⟩
  rintro i m σ H ⟨rfl, hi, p⟩
  have q := hl i σ H hi p
  by_cases hlt : i < xs.length
  · refine .inr ⟨⟨xs, xs[i], q, by simp [hlt]⟩, Pv (i + 1), fun σ' H' p' => ⟨xs.length - (i + 1), by omega, rfl, hlt, p'⟩, fun x H' y => ?_⟩
    obtain ⟨e, y⟩ := y
    subst e
    exact hs i x σ _ (y xs q) p
  · have e : i = xs.length := by omega
    subst e
    exact .inl ⟨⟨xs, q, Nat.le_refl _⟩, hd σ H p⟩
theorem for_range {lo : Int} {n : Nat} {g : TG} {tb : TS} {D : Ends} {σ : St} {H : Hp} (Pv : Nat → St → Hp → Prop) (h0 : Pv 0 σ H)
    (hs : ∀ i σ H, i < n → Pv i σ H → g (.int (lo + i)) σ H fun σ2 H2 => tb { D with nx := Pv (i + 1), ct := Pv (i + 1), bk := D.nx } σ2 H2) (hd : ∀ σ H, Pv n σ H → D.nx σ H) :
    ∃ W : Nat → Nat → St → Hp → Prop, (∃ m, W 0 m σ H) ∧ ∀ i m σ H, W i m σ H →
      ((Itr lo n).stop i H ∧ D.nx σ H) ∨ ((Itr lo n).go i H ∧ ∃ N : St → Hp → Prop, (∀ σ' H', N σ' H' → ∃ m', m' < m ∧ W (i + 1) m' σ' H') ∧ ∀ x H', (Itr lo n).yld i H x H' → g x σ H' fun σ2 H2 => tb { D with nx := N, ct := N, bk := D.nx } σ2 H2) := by
  refine ⟨fun i m σ H => m = n - i ∧ i ≤ n ∧ Pv i σ H, ⟨n, by simp, Nat.zero_le _, h0⟩, ?_⟩
  rintro i m σ H ⟨rfl, hi, p⟩
  by_cases hlt : i < n
  · refine .inr ⟨hlt, Pv (i + 1), fun σ' H' p' => ⟨n - (i + 1), by omega, rfl, hlt, p'⟩, fun x H' y => ?_⟩
    obtain ⟨e, y⟩ := y
    subst e y
    exact hs i σ _ hlt p
  · have e : i = n := by omega
    subst e
    exact .inl ⟨Nat.le_refl _, hd σ H p⟩
end L2
namespace L2
open PySem PySem.Spec PyProof.Rows
abbrev R2 := V → V → Hp → VK → Prop
def OpR (X : Cx) (f : Value → Value → Sem Value) (r : R2) : Prop :=
  ∀ (pins : List (Addr × Obj)) (s : Shared) (σ : St) (H : Hp) (x y : V) (v u : Value) (Q : VK), Inv X pins σ H s → RelV x v → RelV y u → r x y H Q →
    wpAny (model X.prog X.w) X.A (f v u) (EP X pins σ Q) X.xe s
def UnR (X : Cx) (f : Value → Sem Value) (r : V → Hp → VK → Prop) : Prop :=
  ∀ (pins : List (Addr × Obj)) (s : Shared) (σ : St) (H : Hp) (x : V) (v : Value) (Q : VK), Inv X pins σ H s → RelV x v → r x H Q →
    wpAny (model X.prog X.w) X.A (f v) (EP X pins σ Q) X.xe s
def CallR (X : Cx) (f : Value) (r : List V → Hp → VK → Prop) : Prop :=
  ∀ (pins : List (Addr × Obj)) (s : Shared) (σ : St) (H : Hp) (xs : List V) (us : List Value) (Q : VK), Inv X pins σ H s → Vals xs us → r xs H Q →
    wpAny (model X.prog X.w) X.A (call f us) (EP X pins σ Q) X.xe s
def tOp (r : R2) (ta tb : TE) : TE := fun σ H Q => ta σ H fun x H1 => tb σ H1 fun y H2 => r x y H2 Q
def tUn (r : V → Hp → VK → Prop) (ta : TE) : TE := fun σ H Q => ta σ H fun x H1 => r x H1 Q
def rI (C : Int → Int → Prop) (g : Int → Int → V) : R2 := fun x y H Q => ∃ i j, x = .int i ∧ y = .int j ∧ C i j ∧ Q (g i j) H
def rI0 (g : Int → Int → V) : R2 := fun x y H Q => ∃ i j, x = .int i ∧ y = .int j ∧ Q (g i j) H
def rU (g : Int → V) : V → Hp → VK → Prop := fun x H Q => ∃ i, x = .int i ∧ Q (g i) H
section
variable {X : Cx} {a b c : Expr} {ta tb tc : TE} {pos : Pos}
theorem binT (ha : PE X a ta) (hb : PE X b tb) {pins : List (Addr × Obj)} {s : Shared} {σ : St} {H : Hp} {R : V → V → Hp → Prop} (I : Inv X pins σ H s)
    (h : ta σ H fun x H1 => tb σ H1 fun y H2 => R x y H2) {Q : Value → Shared → Prop} {f : Value → Value → Sem Value}
    (hf : ∀ v u s2 x y H2, Inv X pins σ H2 s2 → RelV x v → RelV y u → R x y H2 → wpAny (model X.prog X.w) X.A (f v u) Q X.xe s2) :
    wpAny (model X.prog X.w) X.A (eval a X.env) (fun v s₁ => wpAny (model X.prog X.w) X.A (eval b X.env) (fun u s₂ => wpAny (model X.prog X.w) X.A (f v u) Q X.xe s₂) X.xe s₁) X.xe s := by
  refine thn (ha pins s σ H _ I h) fun v s1 ⟨x, H1, I1, r1, q1⟩ => ?_
  refine thn (hb pins s1 σ H1 _ I1 q1) fun u s2 ⟨y, H2, I2, r2, q2⟩ => ?_
  exact hf v u s2 x y H2 I2 r1 r2 q2
theorem pe_op {op : Operator} {r : R2} (ho : OpR X (binaryOp op) r) (ha : PE X a ta) (hb : PE X b tb) : PE X (.BinOp a op b pos) (tOp r ta tb) := by
  intro pins s σ H Q I h
  exact wpAny_BinOp (binT ha hb I h fun v u s2 x y H2 I2 rx ry q => ho pins s2 σ H2 x y v u Q I2 rx ry q)
theorem pe_un {op : UnaryOp} {r : V → Hp → VK → Prop} (ho : UnR X (unaryOp op) r) (ha : PE X a ta) : PE X (.UnaryOp op a pos) (tUn r ta) := by
  intro pins s σ H Q I h
  exact UnaryOp_ (thn (ha pins s σ H _ I h) fun v s1 ⟨x, H1, I1, r1, q1⟩ => ho pins s1 σ H1 x v Q I1 r1 q1)
theorem opI {f : Value → Value → Sem Value} {C : Int → Int → Prop} {g : Int → Int → Int}
    (rule : ∀ (i j : Int) (t u : Tok) (s : Shared) (Q : Value → Shared → Prop) (E : Value → Shared → Prop), C i j → Q (.int (g i j) s.toks) { s with toks := s.toks + 1 } → wpAny (model X.prog X.w) X.A (f (.int i t) (.int j u)) Q E s) :
    OpR X f (rI C fun i j => .int (g i j)) := by
  intro pins s σ H x y v u Q I rx ry h
  obtain ⟨i, j, rfl, rfl, hc, q⟩ := h
  obtain ⟨t, rfl⟩ := rx
  obtain ⟨t', rfl⟩ := ry
  exact rule i j t t' s _ _ hc ⟨.int (g i j), H, I.tok _, ⟨_, rfl⟩, q⟩
theorem opI0 {f : Value → Value → Sem Value} {g : Int → Int → Int}
    (rule : ∀ (i j : Int) (t u : Tok) (s : Shared) (Q : Value → Shared → Prop) (E : Value → Shared → Prop), Q (.int (g i j) s.toks) { s with toks := s.toks + 1 } → wpAny (model X.prog X.w) X.A (f (.int i t) (.int j u)) Q E s) :
    OpR X f (rI0 fun i j => .int (g i j)) := by
  intro pins s σ H x y v u Q I rx ry h
  obtain ⟨i, j, rfl, rfl, q⟩ := h
  obtain ⟨t, rfl⟩ := rx
  obtain ⟨t', rfl⟩ := ry
  exact rule i j t t' s _ _ ⟨.int (g i j), H, I.tok _, ⟨_, rfl⟩, q⟩
theorem opB0 {f : Value → Value → Sem Value} {g : Int → Int → Bool}
    (rule : ∀ (i j : Int) (t u : Tok) (s : Shared) (Q : Value → Shared → Prop) (E : Value → Shared → Prop), Q (.bool (g i j)) s → wpAny (model X.prog X.w) X.A (f (.int i t) (.int j u)) Q E s) :
    OpR X f (rI0 fun i j => .bl (g i j)) := by
  intro pins s σ H x y v u Q I rx ry h
  obtain ⟨i, j, rfl, rfl, q⟩ := h
  obtain ⟨t, rfl⟩ := rx
  obtain ⟨t', rfl⟩ := ry
  exact rule i j t t' s _ _ ⟨.bl (g i j), H, I, rfl, q⟩
def CDiv (i j : Int) : Prop := 0 < j ∧ j < 1073741824
def CPow (i j : Int) : Prop := 0 ≤ j ∧ j ≤ 1000000 ∧ i.natAbs < 2 ^ 64
theorem op_add : OpR X (binaryOp .Add) (rI0 fun i j => .int (i + j)) := opI0 fun _ _ _ _ _ _ _ q => add_int q
theorem op_sub : OpR X (binaryOp .Sub) (rI0 fun i j => .int (i - j)) := opI0 fun _ _ _ _ _ _ _ q => sub_int q
theorem op_fdiv : OpR X (binaryOp .FloorDiv) (rI CDiv fun i j => .int (i / j)) := opI fun i j _ _ _ _ _ hc q => by
  have h1 : (0 : Int) < j := hc.1
  have h2 : j < 1073741824 := hc.2
  exact floordiv_int (by omega) (by rw [Int.fdiv_eq_ediv_of_nonneg i (by omega)]; exact q) (.inl (PyProof.noPylong_small (by omega)))
theorem op_mod : OpR X (binaryOp .Mod) (rI (fun _ j => 0 < j) fun i j => .int (i % j)) := opI fun i j _ _ _ _ _ hc q => by
  have h1 : (0 : Int) < j := hc
  exact mod_int' (by omega) (by rw [Int.fmod_eq_emod_of_nonneg i (by omega)]; exact q)
theorem op_pow : OpR X (binaryOp .Pow) (rI CPow fun i j => .int (i ^ j.toNat)) := opI fun _ _ _ _ _ _ _ hc q => pow_int_small hc.1 hc.2.1 hc.2.2 q
theorem unI {f : Value → Sem Value} {g : Int → Int}
    (rule : ∀ (i : Int) (t : Tok) (s : Shared) (Q : Value → Shared → Prop) (E : Value → Shared → Prop), Q (.int (g i) s.toks) { s with toks := s.toks + 1 } → wpAny (model X.prog X.w) X.A (f (.int i t)) Q E s) :
    UnR X f (rU fun i => .int (g i)) := by
  intro pins s σ H x v Q I rx h
  obtain ⟨i, rfl, q⟩ := h
  obtain ⟨t, rfl⟩ := rx
  exact rule i t s _ _ ⟨.int (g i), H, I.tok _, ⟨_, rfl⟩, q⟩
theorem un_neg : UnR X (unaryOp .USub) (rU fun i => .int (-i)) := unI fun _ _ _ _ _ q => neg_int q
end
def scal : V → V → Bool
  | .non, .non => true | .non, .int _ => true | .int _, .non => true | .non, .bl _ => true | .bl _, .non => true | .non, .str _ => true | .str _, .non => true
  | .int _, .int _ => true | .bl _, .bl _ => true | .str _, .str _ => true | .byt _, .byt _ => true
  | .int _, .str _ => true | .str _, .int _ => true | .bl _, .str _ => true | .str _, .bl _ => true
  | _, _ => false
def rEq : R2 := fun x y H Q => scal x y = true ∧ Q (.bl (decide (x = y))) H
def rNe : R2 := fun x y H Q => scal x y = true ∧ Q (.bl (!decide (x = y))) H
theorem dec_int {i j : Int} : decide (V.int i = V.int j) = (i == j) := by
  rw [Bool.eq_iff_iff]
  simp
theorem dec_bl {i j : Bool} : decide (V.bl i = V.bl j) = (i == j) := by
  rw [Bool.eq_iff_iff]
  simp
theorem dec_str {i j : Str} : decide (V.str i = V.str j) = (i == j) := by
  rw [Bool.eq_iff_iff]
  simp
theorem dec_byt {i j : Array UInt8} : decide (V.byt i = V.byt j) = (i.toList == j.toList) := by
  rw [Bool.eq_iff_iff]
  cases i
  cases j
  simp
section
variable {X : Cx} {a b c : Expr} {ta tb tc : TE} {pos : Pos}
theorem fin_bl {pins : List (Addr × Obj)} {σ : St} {H : Hp} {s : Shared} {Q : VK} {k k' : Bool} (I : Inv X pins σ H s) (q : Q (.bl k) H) (e : k = k') : EP X pins σ Q (.bool k') s := by
  subst e
  exact ⟨.bl k, H, I, rfl, q⟩
theorem op_eq : OpR X (compareOp .Eq) rEq := by
  intro pins s σ H x y v u Q I rx ry h
  obtain ⟨hs, q⟩ := h
  cases x with
  | non =>
    cases rx
    cases y with
    | non => cases ry; exact PySem.EqNone.eq_none_none (fin_bl I q (by simp))
    | bl j => cases ry; exact PySem.EqNone.eq_none_bool (fin_bl I q (by simp))
    | int j => obtain ⟨t', rfl⟩ := ry; exact PySem.EqNone.eq_none_int (fin_bl I q (by simp))
    | str j => obtain ⟨t', rfl⟩ := ry; exact PySem.EqNone.eq_none_str (fin_bl I q (by simp))
    | _ => exact absurd (show false = true from hs) Bool.false_ne_true
  | bl i =>
    cases rx
    cases y with
    | non => cases ry; exact PySem.EqNone.eq_bool_none (fin_bl I q (by simp))
    | bl j => cases ry; exact eq_bool (fin_bl I q dec_bl)
    | str j => obtain ⟨t', rfl⟩ := ry; exact PySem.EqMixed.eq_bool_str (fin_bl I q (by simp))
    | _ => exact absurd (show false = true from hs) Bool.false_ne_true
  | int i =>
    obtain ⟨t, rfl⟩ := rx
    cases y with
    | non => cases ry; exact PySem.EqNone.eq_int_none (fin_bl I q (by simp))
    | int j => obtain ⟨t', rfl⟩ := ry; exact eq_int (fin_bl I q dec_int)
    | str j => obtain ⟨t', rfl⟩ := ry; exact PySem.EqMixed.eq_int_str (fin_bl I q (by simp))
    | _ => exact absurd (show false = true from hs) Bool.false_ne_true
  | str i =>
    obtain ⟨t, rfl⟩ := rx
    cases y with
    | non => cases ry; exact PySem.EqNone.eq_str_none (fin_bl I q (by simp))
    | bl j => cases ry; exact PySem.EqMixed.eq_str_bool (fin_bl I q (by simp))
    | int j => obtain ⟨t', rfl⟩ := ry; exact PySem.EqMixed.eq_str_int (fin_bl I q (by simp))
    | str j => obtain ⟨t', rfl⟩ := ry; exact eq_str (fin_bl I q dec_str)
    | _ => exact absurd (show false = true from hs) Bool.false_ne_true
  | byt i =>
    obtain ⟨t, rfl⟩ := rx
    cases y with
    | byt j => obtain ⟨t', rfl⟩ := ry; exact PySem.W.eq_bytes (fin_bl I q dec_byt)
    | _ => exact absurd (show false = true from hs) Bool.false_ne_true
  | _ => cases y <;> exact absurd (show false = true from hs) Bool.false_ne_true
theorem op_ne : OpR X (compareOp .NotEq) rNe := by
  intro pins s σ H x y v u Q I rx ry h
  obtain ⟨hs, q⟩ := h
  cases x with
  | non =>
    cases rx
    cases y with
    | non => cases ry; exact PySem.EqNone.ne_none_none (fin_bl I q (by simp))
    | bl j => cases ry; exact PySem.EqNone.ne_none_bool (fin_bl I q (by simp))
    | int j => obtain ⟨t', rfl⟩ := ry; exact PySem.EqNone.ne_none_int (fin_bl I q (by simp))
    | str j => obtain ⟨t', rfl⟩ := ry; exact PySem.EqNone.ne_none_str (fin_bl I q (by simp))
    | _ => exact absurd (show false = true from hs) Bool.false_ne_true
  | bl i =>
    cases rx
    cases y with
    | non => cases ry; exact PySem.EqNone.ne_bool_none (fin_bl I q (by simp))
    | bl j => cases ry; exact ne_bool (fin_bl I q (congrArg not dec_bl))
    | str j => obtain ⟨t', rfl⟩ := ry; exact PySem.EqMixed.ne_bool_str (fin_bl I q (by simp))
    | _ => exact absurd (show false = true from hs) Bool.false_ne_true
  | int i =>
    obtain ⟨t, rfl⟩ := rx
    cases y with
    | non => cases ry; exact PySem.EqNone.ne_int_none (fin_bl I q (by simp))
    | int j => obtain ⟨t', rfl⟩ := ry; exact ne_int (fin_bl I q (congrArg not dec_int))
    | str j => obtain ⟨t', rfl⟩ := ry; exact PySem.EqMixed.ne_int_str (fin_bl I q (by simp))
    | _ => exact absurd (show false = true from hs) Bool.false_ne_true
  | str i =>
    obtain ⟨t, rfl⟩ := rx
    cases y with
    | non => cases ry; exact PySem.EqNone.ne_str_none (fin_bl I q (by simp))
    | bl j => cases ry; exact PySem.EqMixed.ne_str_bool (fin_bl I q (by simp))
    | int j => obtain ⟨t', rfl⟩ := ry; exact PySem.EqMixed.ne_str_int (fin_bl I q (by simp))
    | str j => obtain ⟨t', rfl⟩ := ry; exact ne_str (fin_bl I q (congrArg not dec_str))
    | _ => exact absurd (show false = true from hs) Bool.false_ne_true
  | byt i =>
    obtain ⟨t, rfl⟩ := rx
    cases y with
    | byt j => obtain ⟨t', rfl⟩ := ry; exact PySem.W.ne_bytes (fin_bl I q (congrArg not dec_byt))
    | _ => exact absurd (show false = true from hs) Bool.false_ne_true
  | _ => cases y <;> exact absurd (show false = true from hs) Bool.false_ne_true
theorem op_lt : OpR X (compareOp .Lt) (rI0 fun i j => .bl (decide (i < j))) := opB0 fun _ _ _ _ _ _ _ q => lt_int q
theorem op_le : OpR X (compareOp .LtE) (rI0 fun i j => .bl (decide (i ≤ j))) := opB0 fun _ _ _ _ _ _ _ q => le_int q
theorem op_gt : OpR X (compareOp .Gt) (rI0 fun i j => .bl (decide (j < i))) := opB0 fun _ _ _ _ _ _ _ q => gt_int q
theorem op_ge : OpR X (compareOp .GtE) (rI0 fun i j => .bl (decide (j ≤ i))) := opB0 fun _ _ _ _ _ _ _ q => ge_int q
theorem op_in_str : OpR X (compareOp .In) (fun x y H Q => ∃ i j, x = .str i ∧ y = .str j ∧ Q (.bl (!(Builtin.Str.occurrences j i 0 j.length 1).isEmpty)) H) := by
  intro pins s σ H x y v u Q I rx ry h
  obtain ⟨i, j, rfl, rfl, q⟩ := h
  obtain ⟨t, rfl⟩ := rx
  obtain ⟨t', rfl⟩ := ry
  exact in_str (fin_bl I q rfl)
theorem nomark (b : Expr) {op : CmpOp} (h : op ≠ .In := by decide) (h2 : op ≠ .NotIn := by decide) : behindInMarks op b = false := by
  have e1 : (op == CmpOp.In) = false := by cases op <;> first | rfl | exact absurd rfl h
  have e2 : (op == CmpOp.NotIn) = false := by cases op <;> first | rfl | exact absurd rfl h2
  cases b <;> simp [behindInMarks, e1, e2]
theorem pe_cmpR {op : CmpOp} {r : R2} (ho : OpR X (compareOp op) r) (ha : PE X a ta) (hb : PE X b tb) (hm : behindInMarks op b = false) : PE X (.Compare a [op] [b] pos) (tOp r ta tb) := by
  intro pins s σ H Q I h
  exact wpAny_Compare1 (binT ha hb I h fun v u s2 x y H2 I2 rx ry q => ho pins s2 σ H2 x y v u Q I2 rx ry q) hm
def tTest (t : TE) : TT := fun σ H Q => t σ H fun x H' => ∃ k, x = .bl k ∧ Q k H'
theorem pt_cmpR {op : CmpOp} {r : R2} (ho : OpR X (compareOp op) r) (ha : PE X a ta) (hb : PE X b tb) (hm : behindInMarks op b = false) : PT X (.Compare a [op] [b] pos) (tTest (tOp r ta tb)) := by
  intro pins s σ H Q I h
  refine wpAny_isTrue_Compare1 (thn (ha pins s σ H _ I h) fun v s1 ⟨x, H1, I1, r1, q1⟩ => thn (hb pins s1 σ H1 _ I1 q1) fun u s2 ⟨y, H2, I2, r2, q2⟩ =>
    thn (ho pins s2 σ H2 x y v u _ I2 r1 r2 q2) fun c s3 ⟨z, H3, I3, r3, k, e, q3⟩ => ?_) hm
  subst e
  cases r3
  exact wpAny_truthy_bool ⟨H3, I3, q3⟩
def tChain (r r' : R2) (ta tb tc : TE) : TE := fun σ H Q => ta σ H fun x H1 => tb σ H1 fun y H2 => r x y H2 fun z H3 => ∃ k, z = .bl k ∧
  (if k = true then tc σ H3 fun w' H4 => r' y w' H4 Q else Q (.bl false) H3)
theorem pt_chain {op op' : CmpOp} {r r' : R2} (ho : OpR X (compareOp op) r) (ho' : OpR X (compareOp op') r') (ha : PE X a ta) (hb : PE X b tb) (hc : PE X c tc)
    (hm : lastMarks [op, op'] [b, c] = false := by with_unfolding_all rfl) : PT X (.Compare a [op, op'] [b, c] pos) (tTest (tChain r r' ta tb tc)) := by
  intro pins s σ H Q I h
  refine isTrue_chain (thn (ha pins s σ H _ I h) fun v s1 ⟨x, H1, I1, r1, q1⟩ => test_link (thn (hb pins s1 σ H1 _ I1 q1) fun u s2 ⟨y, H2, I2, r2, q2⟩ =>
    thn (ho pins s2 σ H2 x y v u _ I2 r1 r2 q2) fun d s3 ⟨z, H3, I3, r3, k, e, q3⟩ => ?_)) hm
  subst e
  cases r3
  refine wpAny_truthy_bool ?_
  cases k with
  | false =>
    obtain ⟨k', e', q'⟩ := q3
    cases e'
    exact ite_ff ⟨H3, I3, q'⟩
  | true =>
    refine ite_tt (test_last (thn (hc pins s3 σ H3 _ I3 q3) fun w' s4 ⟨z', H4, I4, r4, q4⟩ => thn (ho' pins s4 σ H4 y z' u w' _ I4 r2 r4 q4) fun d' s5 ⟨z2, H5, I5, r5, k2, e2, q5⟩ => ?_))
    subst e2
    cases r5
    exact wpAny_truthy_bool ⟨H5, I5, q5⟩
theorem line63 : (sizeLine : Nat) < 2 ^ 63 := by rw [sizeLine_eq]; decide
theorem op_add_str : OpR X (binaryOp .Add) (fun x y H Q => ∃ i j, x = .str i ∧ y = .str j ∧ i.length + j.length ≤ sizeLine ∧ Q (.str (i ++ j)) H) := by
  intro pins s σ H x y v u Q I rx ry h
  obtain ⟨i, j, rfl, rfl, hz, q⟩ := h
  obtain ⟨t, rfl⟩ := rx
  obtain ⟨t', rfl⟩ := ry
  exact add_str (fun t' tk => ⟨.str (i ++ j), H, I.tok _, ⟨_, rfl⟩, q⟩) hz
theorem vals1 {x : V} {us : List Value} (r : Vals [x] us) : ∃ u, us = [u] ∧ RelV x u := by
  cases r with
  | cons r1 r2 => cases r2; exact ⟨_, rfl, r1⟩
theorem vals2 {x y : V} {us : List Value} (r : Vals [x, y] us) : ∃ u w', us = [u, w'] ∧ RelV x u ∧ RelV y w' := by
  cases r with
  | cons r1 r2 =>
    cases r2 with
    | cons r3 r4 => cases r4; exact ⟨_, _, rfl, r1, r3⟩
theorem call_max2 (hc : X.calm = true) : CallR X (.builtin "max") (fun xs H Q => ∃ i j, xs = [.int i, .int j] ∧ Q (.int (if j > i then j else i)) H) := by
  intro pins s σ H xs us Q I r h
  obtain ⟨i, j, rfl, q⟩ := h
  obtain ⟨u, w', rfl, ⟨t, rfl⟩, ⟨t', rfl⟩⟩ := vals2 r
  refine max_two_ints (I.ok.hd hc) fun h' tk k => ⟨_, H, I.kept k, ?_, q⟩
  by_cases hj : j > i
  · rw [if_pos hj, if_pos hj]; exact ⟨_, rfl⟩
  · rw [if_neg hj, if_neg hj]; exact ⟨_, rfl⟩
theorem call_min2 (hc : X.calm = true) : CallR X (.builtin "min") (fun xs H Q => ∃ i j, xs = [.int i, .int j] ∧ Q (.int (if j < i then j else i)) H) := by
  intro pins s σ H xs us Q I r h
  obtain ⟨i, j, rfl, q⟩ := h
  obtain ⟨u, w', rfl, ⟨t, rfl⟩, ⟨t', rfl⟩⟩ := vals2 r
  refine min_two_ints (I.ok.hd hc) fun h' tk k => ⟨_, H, I.kept k, ?_, q⟩
  by_cases hj : j < i
  · rw [if_pos hj, if_pos hj]; exact ⟨_, rfl⟩
  · rw [if_neg hj, if_neg hj]; exact ⟨_, rfl⟩
theorem call_int1 : CallR X (.type "int") (fun xs H Q => (∃ i, xs = [.int i] ∧ Q (.int i) H) ∨ ∃ k, xs = [.bl k] ∧ Q (.int (if k then 1 else 0)) H) := by
  intro pins s σ H xs us Q I r h
  rcases h with ⟨i, rfl, q⟩ | ⟨k, rfl, q⟩
  · obtain ⟨u, rfl, t, rfl⟩ := vals1 r
    exact call_int_int ⟨.int i, H, I, ⟨_, rfl⟩, q⟩
  · obtain ⟨u, rfl, r1⟩ := vals1 r
    cases r1
    exact call_int_bool ⟨.int (if k then 1 else 0), H, I.tok _, ⟨_, rfl⟩, q⟩
end
end L2
namespace L2
open PySem PySem.Spec PyProof.Rows
structure ObjM (h : Heap) (x dx C : Addr) (mA : Str → Option Value) : Prop where
  obj : h.get? x = some (PySem.W.instObj C dx)
  ns : h.Ns1 dx mA
  ne : dx ≠ x
theorem lookIn_ns {h : Heap} {dx : Addr} {mA : Str → Option Value} (n : h.Ns1 dx mA) : ∃ od, h.get? dx = some od ∧ ∀ name, PySem.W.lookIn name od = some (mA name) := by
  obtain ⟨o, es, ep, ho, hd, hk, _, hm⟩ := n
  refine ⟨o, ho, fun name => ?_⟩
  have e := hm name
  unfold nsFind findBy at e
  rw [← Array.find?_toList] at e
  unfold PySem.W.lookIn
  rw [hd]
  dsimp only
  split
  · rename_i y q
    rw [q] at e
    exact congrArg some e
  · rename_i q
    rw [q] at e
    have a : es.toList.any (·.refKey) = false := by
      rw [List.any_eq_false]
      intro y hy
      obtain ⟨z, t, hkey⟩ := hk y (Array.mem_toList_iff.mp hy)
      simp [DictEntry.refKey, hkey]
    have a' : ¬ es.toList.any (·.refKey) = true := by rw [a]; exact Bool.false_ne_true
    rw [if_neg a']
    exact congrArg some e
theorem ObjM.look {h : Heap} {x dx C : Addr} {mA : Str → Option Value} (I : ObjM h x dx C mA) : ∃ od, PySem.W.InstAt h x (PySem.W.instObj C dx) C (some od) ∧ ∀ name, PySem.W.lookIn name od = some (mA name) :=
  let ⟨od, ho, hl⟩ := lookIn_ns I.ns
  ⟨od, ⟨I.obj, rfl, rfl, ho⟩, hl⟩
section
variable {prog : Program} {w : World} {A : Around} {E : Value → Shared → Prop} {s : Shared} {K : PySem.W.Frag} {x dx C f : Addr} {mA : Str → Option Value} {name : Str} {v : Value}
theorem get_map {expr : Bool} {Q : Value → Shared → Prop} (X : K.In s.heap) (I : ObjM s.heap x dx C mA) (hg : PySem.W.plainGet K C name = true) (hh : PySem.W.hasDictIn K C = true)
    (ha : PySem.W.findIn K (.ref C) name = some none) (hv : mA name = some v) (hv' : PySem.W.handedIn v = true) (h : Q v { s with toks := s.toks + 1 }) :
    wpAny (model prog w) A (getAttr (.ref x) name expr) Q E s := by
  obtain ⟨od, J, hl⟩ := I.look
  exact PySem.W.get_value X J (PySem.W.plainGet_of hg).1 (PySem.W.findObj_own hh ha rfl (by rw [hl, hv])) hv' h
theorem get_meth {pl : Sem Bool} {Q : Value × List Value → Shared → Prop} (X : K.In s.heap) (I : ObjM s.heap x dx C mA) (hg : PySem.W.plainGet K C name = true)
    (hf : PySem.W.findIn K (.ref C) name = some (some (.ref f))) (ht : PySem.W.isFn K (.ref f) = true) (hv : mA name = none) (h : Q (.ref f, [.ref x]) s) :
    wpAny (model prog w) A (getMethod (.ref x) name pl) Q E s := by
  obtain ⟨od, J, hl⟩ := I.look
  exact PySem.W.method_fn X J (PySem.W.plainGet_of hg).1 (PySem.W.plainGet_of hg).2 hf (beq_iff_eq.mp ht) (by show (PySem.W.lookIn name od).map (·.isSome) = some false; rw [hl, hv]; rfl) h
theorem set_map {ns : List Str} {Q : Unit → Shared → Prop} (X : K.In s.heap) (I : ObjM s.heap x dx C mA)
    (hs : PySem.W.findIn K (.ref C) "__setattr__" = some (some (.builtin "object.__setattr__"))) (hp : PySem.W.plainOver K C = true) (ht : PySem.W.takerIn K C name = some none) (hh : PySem.W.hasDictIn K C = true)
    (hw : PySem.Within mA ns) (hsz : ns.length ≤ sizeLine)
    (h : ∀ h', ObjM h' x dx C (fun y => if y = name then some v else mA y) → Heap.SameBut dx s.heap h' → Q () { s with heap := h', toks := s.toks + 2 }) :
    wpAny (model prog w) A (setAttr (.ref x) name v) Q E s := by
  obtain ⟨od, J, hl⟩ := I.look
  refine PySem.W.set_plain X J hs (PySem.W.osa_open (s := { s with toks := s.toks + 1 }) (r := none) X J hp ht fun b => ?_)
  obtain ⟨cd, hc, hd'⟩ := PySem.W.any_some hh
  have hx : s.heap.get? x = some ⟨.ref C, some dx, .plain, #[]⟩ := I.obj
  refine wpAny_bind (wpAny_pure (wpAny_bind (wpAny_bind (wpAny_loadPart hx (wpAny_bind (PySem.W.Looks.here (s := { s with toks := s.toks + 1 }) (PySem.W.looks_clsIn X hc) ?_))))))
  rw [hd']
  refine wpAny_pure (a := some dx) (wpAny_bind (wpAny_pure (wpAny_bind ?_)))
  refine wpAny_nsSet1 (s := { s with toks := s.toks + 1 }) I.ns fun h' hn2 hs2 => ?_
  obtain ⟨oD, esD, epD, hoD, hdD, hcD⟩ := hn2.count (PySem.Within.cons name v hw)
  refine wpAny_bind (wpAny_lookBehind hoD (by rw [hdD]; exact pastItsLine_dict (Nat.le_trans hcD (by rw [List.length_cons]; omega))) ?_)
  exact wpAny_pure (h _ ⟨(hs2.2 _ (Ne.symm I.ne)).trans I.obj, hn2, I.ne⟩ hs2)
theorem make_map {R : Result → Shared → Prop} {vs : List Value} {kw : List (Str × Value)} (X : K.In s.heap) (hm : PySem.W.makesIn K C = true)
    (hi : PySem.W.findIn K (.ref C) "__init__" = some (some (.ref f))) (hf : PySem.W.typeIn K (.ref f) = some (.type "function"))
    (h : codeAny (model prog w) (A.under (.builtin "type.__call__" ⟨.ref C :: vs, kw⟩)) (.call (.ref f) ⟨.ref (s.heap.objs.size + 1) :: vs, kw⟩) (PySem.W.InitBack (s.heap.objs.size + 1) R)
      { s with heap := (s.heap.push PySem.W.emptyDict).push (PySem.W.instObj C s.heap.objs.size) }) :
    codeAny (model prog w) A (.call (.ref C) ⟨vs, kw⟩) R s := by
  obtain ⟨hh, g, d, t, os⟩ := s
  exact PySem.W.make_core (PySem.W.makes_of X hm) (PySem.W.looks_findIn X hi) (fun self => PySem.W.bind_fn X self hf) (.inl rfl) h
end
def putF (f : Str) (v : V) : List (Str × V) → List (Str × V)
  | [] => [(f, v)]
  | (g, x) :: r => if g = f then (g, v) :: r else (g, x) :: putF f v r
theorem lookup_putF (f g : Str) (v : V) : ∀ fs : List (Str × V), (putF f v fs).lookup g = if g = f then some v else fs.lookup g
  | [] => by
    show List.lookup g [(f, v)] = _
    by_cases h : g = f
    · have hb : (g == f) = true := beq_iff_eq.mpr h
      simp only [List.lookup, hb, if_pos h]
    · have hb : (g == f) = false := beq_eq_false_iff_ne.mpr h
      simp only [List.lookup, hb, if_neg h]
  | (k, x) :: r => by
    have ih := lookup_putF f g v r
    rw [show putF f v ((k, x) :: r) = (if k = f then (k, v) :: r else (k, x) :: putF f v r) from rfl]
    by_cases hk : k = f
    · rw [if_pos hk]
      by_cases h : g = k
      · have hb : (g == k) = true := beq_iff_eq.mpr h
        simp only [List.lookup, hb, if_pos (h.trans hk)]
      · have hb : (g == k) = false := beq_eq_false_iff_ne.mpr h
        simp only [List.lookup, hb, if_neg (fun e : g = f => h (e.trans hk.symm))]
    · rw [if_neg hk]
      by_cases h : g = k
      · have hb : (g == k) = true := beq_iff_eq.mpr h
        simp only [List.lookup, hb, if_neg (fun e : g = f => hk (h.symm.trans e))]
      · have hb : (g == k) = false := beq_eq_false_iff_ne.mpr h
        simp only [List.lookup, hb]
        exact ih
theorem keys_putF (f : Str) (v : V) : ∀ fs : List (Str × V), f ∈ (putF f v fs).map (·.1) ∧ ∀ g, g ∈ fs.map (·.1) → g ∈ (putF f v fs).map (·.1)
  | [] => ⟨by simp [putF], fun g h => by simp at h⟩
  | (k, x) :: r => by
    obtain ⟨i1, i2⟩ := keys_putF f v r
    rw [show putF f v ((k, x) :: r) = (if k = f then (k, v) :: r else (k, x) :: putF f v r) from rfl]
    by_cases hk : k = f
    · rw [if_pos hk]
      subst hk
      exact ⟨by simp, fun g h => by simpa using h⟩
    · rw [if_neg hk]
      refine ⟨?_, fun g h => ?_⟩
      · rw [List.map_cons]
        exact List.mem_cons_of_mem _ i1
      · rw [List.map_cons] at h ⊢
        rcases List.mem_cons.mp h with e | e
        · exact List.mem_cons.mpr (.inl e)
        · exact List.mem_cons_of_mem _ (i2 g e)
theorem length_putF (f : Str) (v : V) : ∀ fs : List (Str × V), (putF f v fs).length ≤ fs.length + 1
  | [] => by simp [putF]
  | (k, x) :: r => by
    have ih := length_putF f v r
    rw [show putF f v ((k, x) :: r) = (if k = f then (k, v) :: r else (k, x) :: putF f v r) from rfl]
    by_cases hk : k = f
    · rw [if_pos hk, List.length_cons, List.length_cons]; omega
    · rw [if_neg hk, List.length_cons, List.length_cons]; omega
theorem RelO.some_of {v : V} {o : Option Value} (r : RelO (some v) o) : ∃ u, o = some u ∧ RelV v u := by
  cases o with
  | none => exact (show False from r).elim
  | some u => exact ⟨u, rfl, r⟩
theorem RelO.none_of {o : Option Value} (r : RelO none o) : o = none := by
  cases o with
  | none => rfl
  | some u => exact (show False from r).elim
theorem handed_of {v : V} {u : Value} (r : RelV v u) : PySem.W.handedIn u = true := by
  cases v with
  | non => cases (show u = Value.none from r); rfl
  | bl b => cases (show u = Value.bool b from r); rfl
  | int i => obtain ⟨t, e⟩ := (show ∃ t, u = Value.int i t from r); cases e; rfl
  | str x => obtain ⟨t, e⟩ := (show ∃ t, u = Value.str x t from r); cases e; rfl
  | byt b => obtain ⟨t, e⟩ := (show ∃ t, u = Value.bytes b t from r); cases e; rfl
  | flt b => obtain ⟨t, e⟩ := (show ∃ t, u = Value.float b t from r); cases e; rfl
  | ref a => cases (show u = Value.ref a from r); rfl
  | ty n => cases (show u = Value.type n from r); rfl
section
variable {P : Program} {w : World} {H H' : Hp} {h h' : Heap} {a C dx : Addr} {fs fs' : List (Str × V)}
theorem ins_get (hok : HOk P w H h) (e : H a = some (.ins C dx fs)) : ∃ mA, ObjM h a dx C mA ∧ (∀ f, RelO (fs.lookup f) (mA f)) ∧ PySem.Within mA (fs.map (·.1)) ∧ fs.length ≤ 1000 ∧ H dx = some (.own a) := by
  obtain ⟨d, z, ne, ob, mA, n, r, q⟩ := (show ObjOk P w H h a (.ins C dx fs) from hok a _ e)
  exact ⟨mA, ⟨ob, n, ne⟩, r, q, z, d⟩
end
structure Cls (K : PySem.W.Frag) (C : Addr) : Prop where
  pg : PySem.W.plainGet K C Str.empty = true
  hd : PySem.W.hasDictIn K C = true
  po : PySem.W.plainOver K C = true
  sa : PySem.W.findIn K (.ref C) "__setattr__" = some (some (.builtin "object.__setattr__"))
theorem Cls.get {K : PySem.W.Frag} {C : Addr} (c : Cls K C) (f : Str) : PySem.W.plainGet K C f = true := c.pg
def NoAttr (K : PySem.W.Frag) (C : Addr) (f : Str) : Prop := PySem.W.findIn K (.ref C) f = some none
theorem NoAttr.taker {K : PySem.W.Frag} {C : Addr} {f : Str} (n : NoAttr K C f) : PySem.W.takerIn K C f = some none := by
  unfold PySem.W.takerIn
  rw [show PySem.W.findIn K (.ref C) f = some none from n]
  rfl
structure Meth (K : PySem.W.Frag) (C : Addr) (m : Str) (f : Addr) : Prop where
  at_ : PySem.W.findIn K (.ref C) m = some (some (.ref f))
  fn : PySem.W.isFn K (.ref f) = true
  kp : PySem.W.keepIn K (.ref f) = true
section
variable {X : Cx} {pins : List (Addr × Obj)} {σ : St} {H : Hp} {s : Shared} {a C dx : Addr} {fs : List (Str × V)} {f : Str} {v : V} {A : Around} {E : Value → Shared → Prop}
theorem getattr_ok {b : Bool} {Q : Value → Shared → Prop} (I : Inv X pins σ H s) (e : H a = some (.ins C dx fs)) (c : Cls X.K C) (n : NoAttr X.K C f) (l : fs.lookup f = some v)
    (h : ∀ u s', Inv X pins σ H s' → RelV v u → Q u s') : wpAny (model X.prog X.w) A (getAttr (.ref a) f b) Q E s := by
  obtain ⟨mA, O, r, _, _, _⟩ := ins_get I.hok e
  obtain ⟨u, hu, ru⟩ := RelO.some_of (v := v) (o := mA f) (by rw [← l]; exact r f)
  exact get_map I.kIn O (c.get f) c.hd n hu (handed_of ru) (h u _ (I.tok _) ru)
theorem getmeth_ok {m : Str} {g : Addr} {pl : Sem Bool} {Q : Value × List Value → Shared → Prop} (I : Inv X pins σ H s) (e : H a = some (.ins C dx fs)) (c : Cls X.K C) (k : Meth X.K C m g) (l : fs.lookup m = none)
    (h : Q (.ref g, [.ref a]) s) : wpAny (model X.prog X.w) A (getMethod (.ref a) m pl) Q E s := by
  obtain ⟨mA, O, r, _, _, _⟩ := ins_get I.hok e
  have hn : mA m = none := RelO.none_of (by rw [← l]; exact r m)
  exact get_meth I.kIn O (c.get m) k.at_ k.fn hn h
theorem setattr_ok {y : V} {u : Value} {Q : Unit → Shared → Prop} (I : Inv X pins σ H s) (e : H a = some (.ins C dx fs)) (c : Cls X.K C) (n : NoAttr X.K C f) (hl : fs.length < 1000) (ry : RelV y u)
    (h : ∀ s', Inv X pins σ (upd H a (.ins C dx (putF f y fs))) s' → Q () s') : wpAny (model X.prog X.w) A (setAttr (.ref a) f u) Q E s := by
  obtain ⟨mA, O, r, wi, _, ho⟩ := ins_get I.hok e
  have hz : (fs.map (·.1)).length ≤ sizeLine := by rw [List.length_map, sizeLine_eq]; omega
  refine set_map I.kIn O c.sa c.po n.taker c.hd wi hz fun h' O' sb => h _ ?_
  have hd : ∃ o, h'.get? dx = some o := let ⟨o, _, _, e', _⟩ := O'.ns; ⟨o, e'⟩
  refine I.write (x := a) (e := dx) (by rw [e]; exact True.intro) (.inr ho) (fun b q hb z => (sb.2 b hb).trans z) hd ?_
  refine ⟨by rw [upd_ne O.ne]; exact ho, ?_, O.ne, O'.obj, _, O'.ns, fun g => ?_, fun g hg => ?_⟩
  · have := length_putF f y fs; omega
  · show RelO ((putF f y fs).lookup g) (if g = f then some u else mA g)
    rw [lookup_putF]
    by_cases q : g = f
    · rw [if_pos q, if_pos q]; exact ry
    · rw [if_neg q, if_neg q]; exact r g
  · by_cases q : g = f
    · rw [q]; exact (keys_putF f y fs).1
    · refine (keys_putF f y fs).2 g (wi g fun z => hg ?_)
      show (if g = f then some u else mA g) = none
      rw [if_neg q]; exact z
theorem Inv.made (I : Inv X pins σ H s) : Inv X pins σ (upd (upd H s.heap.objs.size (.own (s.heap.objs.size + 1))) (s.heap.objs.size + 1) (.ins C s.heap.objs.size []))
    { s with heap := (s.heap.push PySem.W.emptyDict).push (PySem.W.instObj C s.heap.objs.size) } := by
  have e1 : (s.heap.push PySem.W.emptyDict).get? s.heap.objs.size = some PySem.W.emptyDict := Heap.get?_push_size s.heap rfl
  have e2 : ((s.heap.push PySem.W.emptyDict).push (PySem.W.instObj C s.heap.objs.size)).get? (s.heap.objs.size + 1) = some (PySem.W.instObj C s.heap.objs.size) := by
    have := Heap.get?_push_size (s.heap.push PySem.W.emptyDict) (o := PySem.W.instObj C s.heap.objs.size) rfl
    rwa [Heap.size_push] at this
  have e3 : (s.heap.push PySem.W.emptyDict).Ns s.heap.objs.size (fun _ => none) := ⟨PySem.W.emptyDict, #[], _, e1, rfl, (fun e he => absurd he (by simp)), fun _ => rfl⟩
  have I1 := I.laid (a := s.heap.objs.size) (o := .own (s.heap.objs.size + 1)) (h' := s.heap.push PySem.W.emptyDict) (t' := s.toks) (fun b u q => Heap.get?_push_of_some _ q) (Nat.le_refl _) ⟨_, e1⟩
  refine I1.laid (a := s.heap.objs.size + 1) (o := .ins C s.heap.objs.size []) (t' := s.toks) (fun b u q => Heap.get?_push_of_some _ q) (Nat.le_of_eq (Heap.size_push _ _)) ?_
  have ne : s.heap.objs.size ≠ s.heap.objs.size + 1 := Nat.ne_of_lt (Nat.lt_succ_self _)
  refine ⟨by rw [upd_ne ne, upd_same], Nat.zero_le _, ne, e2, fun _ => none, (Heap.Ns1.of_empty e3).at fun o q => Heap.get?_push_of_some _ q, fun _ => True.intro, fun y hy => absurd rfl hy⟩
theorem attr_of {prog : Program} {w : World} {env : Env} {e : Expr} {f : Str} {pos : Pos} {s : Shared} {Q : Value → Shared → Prop} (hb : attributeBase e f env (eval e env) = eval e env)
    (h : wpAny (model prog w) A (eval e env) (fun o s₁ => wpAny (model prog w) A (getAttr o f true) Q E s₁) E s) : wpAny (model prog w) A (eval (.Attribute e f pos) env) Q E s :=
  Attribute_any_ h (by rw [arm_eval_Attribute, hb])
end
def tFld (K : PySem.W.Frag) (ta : TE) (f : Str) : TE := fun σ H Q => ta σ H fun x H1 => ∃ a C dx fs v, x = .ref a ∧ H1 a = some (.ins C dx fs) ∧ Cls K C ∧ NoAttr K C f ∧ fs.lookup f = some v ∧ Q v H1
def sFld (K : PySem.W.Frag) (ta tv : TE) (f : Str) : TS := fun D σ H => tv σ H fun y H1 => ta σ H1 fun x H2 => ∃ a C dx fs, x = .ref a ∧ H2 a = some (.ins C dx fs) ∧ Cls K C ∧ NoAttr K C f ∧ fs.length < 1000 ∧
  D.nx σ (upd H2 a (.ins C dx (putF f y fs)))
section
variable {X : Cx} {o e value : Expr} {f : Str} {pos pos' tpos : Pos} {ta tv : TE}
theorem pe_fld (he : PE X e ta) (hb : attributeBase e f X.env (eval e X.env) = eval e X.env) : PE X (.Attribute e f pos) (tFld X.K ta f) := by
  intro pins s σ H Q I h
  refine attr_of hb (thn (he pins s σ H _ I h) fun u s1 ⟨x, H1, I1, rx, a, C, dx, fs, v, ex, ea, c, n, l, q⟩ => ?_)
  subst ex
  obtain rfl : u = Value.ref a := rx
  exact getattr_ok I1 ea c n l fun u' s2 I2 ru => ⟨v, H1, I2, ru, q⟩
theorem ps_fld (ha : PE X o ta) (hv : PE X value tv) (hs : swapsWith value (some (.Attribute o f pos')) pos.line X.env = pure false) : PS X (.Assign [.Attribute o f pos'] value pos) (sFld X.K ta tv f) := by
  intro pins s σ H D I h
  refine plainObj_wpAny_Assign_Attribute (thn (hv pins s σ H _ I h) fun u s1 ⟨y, H1, I1, ry, q⟩ => thn (ha pins s1 σ H1 _ I1 q) fun ov s2 ⟨x, H2, I2, rx, a, C, dx, fs, ex, ea, c, n, l, q2⟩ => ?_) hs
  subst ex
  obtain rfl : ov = Value.ref a := rx
  exact setattr_ok I2 ea c n l ry fun s3 I3 => ⟨σ, _, I3, q2⟩
end
section
variable {X : Cx} {pins : List (Addr × Obj)} {σ : St} {H : Hp} {s : Shared} {A : Around} {E : Value → Shared → Prop} {Q : Value → Shared → Prop} {c : Value} {b : Bool}
inductive TyOf (K : PySem.W.Frag) (H : Hp) : V → Value → Prop where
  | non : TyOf K H .non (.type "NoneType")
  | bl (x : Bool) : TyOf K H (.bl x) (.type "bool")
  | int (i : Int) : TyOf K H (.int i) (.type "int")
  | str (x : Str) : TyOf K H (.str x) (.type "str")
  | flt (x : UInt64) : TyOf K H (.flt x) (.type "float")
  | lst {a : Addr} {xs : List V} (e : H a = some (.lst xs)) : TyOf K H (.ref a) (.type "list")
  | frz {a : Addr} {o : Obj} {xs : List V} (e : H a = some (.frz o (.lst xs))) : TyOf K H (.ref a) (.type "list")
  | tup {a : Addr} {xs : List V} (e : H a = some (.tup xs)) : TyOf K H (.ref a) (.type "tuple")
  | dK {a : Addr} {kvs : List (Key × V)} (e : H a = some (.dK kvs)) : TyOf K H (.ref a) (.type "dict")
  | dT {a : Addr} {kvs : List (List Key × V)} (e : H a = some (.dT kvs)) : TyOf K H (.ref a) (.type "dict")
  | ins {a C dx : Addr} {fs : List (Str × V)} (e : H a = some (.ins C dx fs)) (cl : Cls K C) (ha : PySem.W.findIn K (.ref C) "__class__" = some (some (.builtin "object.__class__")))
      (hn : PySem.W.specialIn K (.builtin "object.__class__") "__get__" = some (some (.builtin "getset_descriptor.__get__"))) (htk : PySem.W.takesIn K (.builtin "object.__class__") = some true)
      (hm : PySem.W.mroIn K C (.type "object") = some true) : TyOf K H (.ref a) (.ref C)
theorem isinst_ok {x : V} {u t : Value} (I : Inv X pins σ H s) (rx : RelV x u) (ty : TyOf X.K H x t) (e : PySem.W.kitOne X.K t c = some b) (h : ∀ tk, Q (.bool b) { s with toks := tk }) :
    wpAny (model X.prog X.w) A (call (.builtin "isinstance") [u, c]) Q E s := by
  cases ty with
  | non => cases (show u = Value.none from rx); exact PySem.W.kia_one PySem.W.kitx_none I.kIn True.intro e (fun z => nomatch z) h
  | bl y => cases (show u = Value.bool y from rx); exact PySem.W.kia_one PySem.W.kitx_bool I.kIn True.intro e (fun z => nomatch z) h
  | int i => obtain ⟨t, q⟩ := (show ∃ t, u = Value.int i t from rx); cases q; exact PySem.W.kia_one PySem.W.kitx_int I.kIn True.intro e (fun z => nomatch z) h
  | str y => obtain ⟨t, q⟩ := (show ∃ t, u = Value.str y t from rx); cases q; exact PySem.W.kia_one PySem.W.kitx_str I.kIn True.intro e (fun z => nomatch z) h
  | flt y => obtain ⟨t, q⟩ := (show ∃ t, u = Value.float y t from rx); cases q; exact PySem.W.kia_one PySem.W.kitx_float I.kIn True.intro e (fun z => nomatch z) h
  | @lst a xs ea =>
    cases (show u = Value.ref a from rx)
    obtain ⟨_, _, n, _, h1⟩ := (show ObjOk X.prog X.w H s.heap a (.lst xs) from I.hok a _ ea)
    exact PySem.W.kia_one PySem.W.kitx_list I.kIn ⟨_, h1, rfl⟩ e (fun z => nomatch z) h
  | @frz a ob xs ea =>
    cases (show u = Value.ref a from rx)
    obtain ⟨_, _, _, n, _, h1⟩ := (show ObjOk X.prog X.w H s.heap a (.frz ob (.lst xs)) from I.hok a _ ea)
    exact PySem.W.kia_one PySem.W.kitx_list I.kIn ⟨_, h1, rfl⟩ e (fun z => nomatch z) h
  | @tup a xs ea =>
    cases (show u = Value.ref a from rx)
    obtain ⟨_, _, _, p⟩ := (show ObjOk X.prog X.w H s.heap a (.tup xs) from I.hok a _ ea)
    obtain ⟨o, h1, h2, _⟩ := p
    exact PySem.W.kia_one PySem.W.kitx_tuple I.kIn ⟨o, h1, h2⟩ e (fun z => nomatch z) h
  | @dK a kvs ea =>
    cases (show u = Value.ref a from rx)
    obtain ⟨_, _, vs, _, p⟩ := (show ObjOk X.prog X.w H s.heap a (.dK kvs) from I.hok a _ ea)
    obtain ⟨o, es, ep, h1, h2, _⟩ := p
    exact PySem.W.kia_one PySem.W.kitx_dict I.kIn ⟨o, h1, h2.1⟩ e (fun z => nomatch z) h
  | @dT a kvs ea =>
    cases (show u = Value.ref a from rx)
    obtain ⟨_, _, xs, _, o, es, ep, h1, h2, _⟩ := (show ObjOk X.prog X.w H s.heap a (.dT kvs) from I.hok a _ ea)
    exact PySem.W.kia_one PySem.W.kitx_dict I.kIn ⟨o, h1, h2.1⟩ e (fun z => nomatch z) h
  | @ins a C dx fs ea cl ha hn htk hm =>
    cases (show u = Value.ref a from rx)
    obtain ⟨mA, O, _⟩ := ins_get I.hok ea
    obtain ⟨od, J, _⟩ := O.look
    exact PySem.W.kia_one (PySem.W.kitx_own (cl.get _) cl.hd ha hn htk hm) I.kIn J e (fun z => nomatch z) h
end
end L2
namespace L2
open PySem PySem.Spec PyProof.Rows
structure Room (k : Nat) (A : Around) : Prop where
  hd : A.handled = none
  dp : A.depth + 3 * k + 5 < recursionLimit
  un : A.units + 16 * k + 200 < cLine
theorem Room.mono {j k : Nat} {A : Around} (r : Room k A) (h : j ≤ k) : Room j A := ⟨r.hd, by have := r.dp; omega, by have := r.un; omega⟩
theorem Room.deeper {k : Nat} {A : Around} (r : Room (k + 1) A) (env : Env) : Room k (A.deeper env) :=
  ⟨r.hd, by have := r.dp; show A.depth + 1 + 3 * k + 5 < _; omega, by have := r.un; show A.units + 3 + 16 * k + 200 < _; omega⟩
theorem make_depth {A : Around} {C : Addr} {us : List Value} {kw : List (Str × Value)} : (A.under (.builtin "type.__call__" ⟨.ref C :: us, kw⟩)).depth = A.depth + 1 := by
  first | rfl | simp [Around.under, Code.weight, Code.isCreation, Code.isGuard, Code.isCaller, Code.frames, Code.isFrame, guardIds]
theorem make_units {A : Around} {C : Addr} {us : List Value} {kw : List (Str × Value)} : (A.under (.builtin "type.__call__" ⟨.ref C :: us, kw⟩)).units = A.units + 1 := by
  first | rfl | simp [Around.under, Code.cUnits, Code.frames, Code.isFrame]
theorem Room.make {k : Nat} {A : Around} (r : Room (k + 1) A) (C : Addr) (us : List Value) (kw : List (Str × Value)) : Room k (A.under (.builtin "type.__call__" ⟨.ref C :: us, kw⟩)) :=
  ⟨r.hd, by have := r.dp; rw [make_depth]; omega, by have := r.un; rw [make_units]; omega⟩
theorem Room.depth {k : Nat} {A : Around} (r : Room k A) : A.depth < recursionLimit := by have := r.dp; omega
theorem Room.units {k : Nat} {A : Around} (r : Room k A) : A.units + 64 < cLine := by have := r.un; omega
def tNil : TA := fun _ H Q => Q [] H
def tCons (ta : TE) (tr : TA) : TA := fun σ H Q => ta σ H fun x H1 => tr σ H1 fun xs H2 => Q (x :: xs) H2
section
variable {X : Cx} {e : Expr} {es : List Expr} {te : TE} {t : TA} {pos : Pos}
theorem pa_nil : PA X [] tNil := fun _ _ _ _ H Q I h => Calls.spliced_nil ⟨[], H, I, .nil, h⟩
theorem pa_cons (ha : PE X e te) (hr : PA X es t) (hs : starEach (e :: es) X.env = (false, eval e X.env) :: starEach es X.env := by rfl) : PA X (e :: es) (tCons te t) := by
  intro pos pins s σ H Q I h
  rw [hs]
  show wpAny _ _ (spliced ((false, eval e X.env) :: backTo pos (starEach es X.env))) _ _ s
  refine Calls.spliced_cons (thn (ha pins s σ H _ I h) fun u s1 ⟨x, H1, I1, r1, q1⟩ => ?_)
  exact thn (hr pos pins s1 σ H1 _ I1 q1) fun us s2 ⟨xs, H2, I2, r2, q2⟩ => ⟨x :: xs, H2, I2, .cons r1 r2, q2⟩
end
abbrev Sp := List V → Hp → VK → XK → Prop
abbrev CXT := List Env → Hp → Shared → XK → Value → Shared → Prop
structure Env0 (P : Program) (w : World) (K : PySem.W.Frag) (mg : Str → Option Value) (base : Heap) (A : Around) (outer : List Env) (s : Shared) (H : Hp) : Prop where
  frames : A.frames = some outer
  mod : Mod K mg base
  bs : ∀ b o, base.get? b = some o → s.heap.get? b = some o ∧ H b = none
  bsz : base.objs.size ≤ s.heap.objs.size
  funs : s.heap.FunFrames base outer
  frf : ∀ b ∈ frs outer, H b = none
  hok : HOk P w H s.heap
  bare : AllBare s.gens
def CE (outer : List Env) (P : Program) (w : World) (H : Hp) (s : Shared) (Q : VK) (u : Value) (s' : Shared) : Prop :=
  ∃ v H', s'.os = s.os ∧ AllBare s'.gens ∧ Un (frs outer) [] H H' s.heap s'.heap ∧ HOk P w H' s'.heap ∧ RelV v u ∧ Q v H'
def CR (CX : CXT) (outer : List Env) (P : Program) (w : World) (H : Hp) (s : Shared) (Q : VK) (E : XK) (r : Result) (s' : Shared) : Prop :=
  match r with
  | .ok (.ret u) => CE outer P w H s Q u s'
  | .ok _ => False
  | .error e => CX outer H s E e s'
structure FnOk (P : Program) (w : World) (K : PySem.W.Frag) (mg : Str → Option Value) (base : Heap) (CX : CXT) (k : Nat) (f : Addr) (fd : FuncData) (ps : List Str) (sp : Sp) : Prop where
  len : ∀ vs H Q E, sp vs H Q E → vs.length = ps.length
  run : ∀ (A : Around) (outer : List Env) (s : Shared) (H : Hp) (args : Args) (us : List Value) (vs : List V) (Q : VK) (E : XK), Room k A → Env0 P w K mg base A outer s H → BindsTo s fd args (ps.zip us) → Vals vs us → sp vs H Q E →
    codeAny (model P w) A (.call (.ref f) args) (CR CX outer P w H s Q E) s
theorem FnOk.mono {P : Program} {w : World} {K : PySem.W.Frag} {mg : Str → Option Value} {base : Heap} {CX : CXT} {j k : Nat} {f : Addr} {fd : FuncData} {ps : List Str} {sp : Sp} (F : FnOk P w K mg base CX j f fd ps sp) (h : j ≤ k) :
    FnOk P w K mg base CX k f fd ps sp := ⟨F.len, fun A outer s H args us vs Q E hr => F.run A outer s H args us vs Q E (hr.mono h)⟩
theorem Env0.make {P : Program} {w : World} {K : PySem.W.Frag} {mg : Str → Option Value} {base : Heap} {A : Around} {outer : List Env} {s : Shared} {H : Hp} (e : Env0 P w K mg base A outer s H) (C : Addr) (us : List Value) (kw : List (Str × Value)) :
    Env0 P w K mg base (A.under (.builtin "type.__call__" ⟨.ref C :: us, kw⟩)) outer s H := ⟨by first | exact e.frames | (simpa [Around.under, Code.envs, Code.isFrame, pushEnvs] using e.frames), e.mod, e.bs, e.bsz, e.funs, e.frf, e.hok, e.bare⟩
section
variable {X : Cx} {pins : List (Addr × Obj)} {σ : St} {H : Hp} {s s' : Shared}
theorem Inv.env0 (I : Inv X pins σ H s) : Env0 X.prog X.w X.K X.mg X.base X.A X.stack s H :=
  ⟨I.ok.frames, I.ok.mod, I.bs, Nat.le_trans I.ok.bsz I.sz, I.stack, I.stkFree, I.hok, I.bare⟩
theorem Inv.after {Q : VK} {u : Value} (I : Inv X pins σ H s) (h : CE X.stack X.prog X.w H s Q u s') : EP X pins σ Q u s' := by
  obtain ⟨v, H', os, bare, un, hok, r, q⟩ := h
  obtain ⟨hh, g, d, t, os'⟩ := s'
  obtain rfl : os' = s.os := os
  exact ⟨v, H', I.call (h' := hh) (g' := g) (d' := d) (t' := t) (ch := []) un hok bare (fun b z => absurd z (by simp)), r, q⟩
end
def tCall (sp : Sp) (dvs : List V) (E : XK) (t : TA) : TE := fun σ H Q => t σ H fun vs H1 => sp (vs ++ dvs) H1 Q E
def tMake (C : Addr) (sp : Sp) (dvs : List V) (E : XK) (t : TA) : TE := fun σ H Q => t σ H fun vs H1 => ∀ x dx, H1 x = none → H1 dx = none → dx ≠ x →
  sp (.ref x :: (vs ++ dvs)) (upd (upd H1 dx (.own x)) x (.ins C dx [])) (fun v H2 => v = .non ∧ Q (.ref x) H2) E
def Binds (K : PySem.W.Frag) (fd : FuncData) (ps : List Str) (ds : List Value) : Prop :=
  ∀ (s : Shared) (us : List Value), K.In s.heap → (us ++ ds).length = ps.length → BindsTo s fd ⟨us, []⟩ (ps.zip (us ++ ds))
theorem Binds.all {K : PySem.W.Frag} {fd : FuncData} {ps : List Str} (h : ∀ us : List Value, us.length = ps.length → bindArgs fd ⟨us, []⟩ = pure (ps.zip us)) : Binds K fd ps [] := fun s us _ hl => by
  rw [List.append_nil] at hl ⊢
  exact .of_eq (h us hl)
def Passes (CX : CXT) (X : Cx) (E : XK) : Prop := ∀ (pins : List (Addr × Obj)) (σ : St) (H : Hp) (s : Shared) (e : Value) (s' : Shared), Inv X pins σ H s → CX X.stack H s E e s' → X.xe e s'
section
variable {X : Cx} {CX : CXT} {k : Nat} {f C : Addr} {fd : FuncData} {ps : List Str} {sp : Sp} {dvs : List V} {ds : List Value} {E : XK} {x m : Str} {p pos apos : Pos} {e o : Expr} {es : List Expr} {ta : TE} {t : TA}
theorem run_fn {pins : List (Addr × Obj)} {σ : St} {H : Hp} {s : Shared} {Q : VK} {us : List Value} {vs : List V} (F : FnOk X.prog X.w X.K X.mg X.base CX k f fd ps sp) (hr : Room k X.A) (hb : Binds X.K fd ps ds) (hd : Vals dvs ds) (hx : Passes CX X E)
    (I : Inv X pins σ H s) (r : Vals vs us) (h : sp (vs ++ dvs) H Q E) : wpAny (model X.prog X.w) X.A (call (.ref f) us) (EP X pins σ Q) X.xe s := by
  have r2 : Vals (vs ++ dvs) (us ++ ds) := r.append hd
  have hl : (us ++ ds).length = ps.length := by rw [← r2.length]; exact F.len _ _ _ _ h
  refine wpAny_call (codeAny_mono (F.run X.A X.stack s H ⟨us, []⟩ (us ++ ds) (vs ++ dvs) Q E hr I.env0 (hb s us I.kIn hl) r2 h) fun r s' hq => ?_)
  cases r with
  | error e => exact hx pins σ H s e s' I hq
  | ok fl =>
    cases fl with
    | ret u => exact I.after hq
    | next => exact False.elim hq
    | brk => exact False.elim hq
    | cont => exact False.elim hq
theorem pe_call (F : FnOk X.prog X.w X.K X.mg X.base CX k f fd ps sp) (hr : Room k X.A) (hg : Gl X x) (hm : X.mg x = some (.ref f)) (hk : PySem.W.keepIn X.K (.ref f) = true) (hb : Binds X.K fd ps ds) (hd : Vals dvs ds) (hx : Passes CX X E)
    (ha : PA X (e :: es) t) (hdb : (x == ("__debug__" : Str)) = false := by decide) (he : starEach (e :: es) X.env = (false, eval e X.env) :: starEach es X.env := by rfl) (hpl : (backTo pos (starEach es X.env)).any (·.1) = false := by rfl) :
    PE X (.Call (.Name x p) (e :: es) [] pos) (tCall sp dvs E t) := by
  intro pins s σ H Q I h
  refine wpAny_Call_Name_kw (ld_glob I hg hm ?_ hdb)
  refine PySem.W.callWith_K (h₀ := X.base) I.ok.mod.kin hk (thn (ha pos pins s σ H _ I h) fun us s1 ⟨vs, H1, I1, r, q⟩ => ⟨I1.kIn, ?_⟩) he hpl
  exact run_fn F hr hb hd hx I1 r q
structure Mk (K : PySem.W.Frag) (C f : Addr) : Prop where
  makes : PySem.W.makesIn K C = true
  init : PySem.W.findIn K (.ref C) "__init__" = some (some (.ref f))
  fn : PySem.W.isFn K (.ref f) = true
  kp : PySem.W.keepIn K (.ref C) = true
theorem run_make {pins : List (Addr × Obj)} {σ : St} {H : Hp} {s : Shared} {Q : VK} {us : List Value} {vs : List V} (M : Mk X.K C f) (F : FnOk X.prog X.w X.K X.mg X.base CX k f fd ps sp) (hr : Room (k + 1) X.A) (hb : Binds X.K fd ps ds) (hd : Vals dvs ds)
    (hx : Passes CX X E) (I : Inv X pins σ H s) (r : Vals vs us)
    (h : ∀ x dx, H x = none → H dx = none → dx ≠ x → sp (.ref x :: (vs ++ dvs)) (upd (upd H dx (.own x)) x (.ins C dx [])) (fun v H2 => v = .non ∧ Q (.ref x) H2) E) :
    wpAny (model X.prog X.w) X.A (call (.ref C) us) (EP X pins σ Q) X.xe s := by
  have hq := h (s.heap.objs.size + 1) s.heap.objs.size (I.hok.fresh (Nat.le_succ _)) (I.hok.fresh (Nat.le_refl _)) (Nat.ne_of_lt (Nat.lt_succ_self _))
  have I2 := Inv.made (C := C) I
  have r2 : Vals (V.ref (s.heap.objs.size + 1) :: (vs ++ dvs)) (Value.ref (s.heap.objs.size + 1) :: (us ++ ds)) := .cons rfl (r.append hd)
  have hl : (Value.ref (s.heap.objs.size + 1) :: us ++ ds).length = ps.length := by
    have e := r2.length
    rw [F.len _ _ _ _ hq] at e
    exact e.symm
  refine wpAny_call (make_map (f := f) I.kIn M.makes M.init (beq_iff_eq.mp M.fn) (codeAny_mono (F.run _ X.stack _ _ ⟨Value.ref (s.heap.objs.size + 1) :: us, []⟩ (Value.ref (s.heap.objs.size + 1) :: (us ++ ds)) _ _ E (hr.make C us [])
    (I2.env0.make C us []) (hb _ (Value.ref (s.heap.objs.size + 1) :: us) I2.kIn hl) r2 hq) fun r s' hq' => ?_))
  cases r with
  | error e => exact hx pins σ _ _ e s' I2 hq'
  | ok fl =>
    cases fl with
    | ret u =>
      obtain ⟨v, H', I3, rv, ev, q3⟩ := I2.after hq'
      subst ev
      exact ⟨rv, ⟨V.ref (s.heap.objs.size + 1), H', I3, rfl, q3⟩⟩
    | next => exact False.elim hq'
    | brk => exact False.elim hq'
    | cont => exact False.elim hq'
theorem pe_make (M : Mk X.K C f) (F : FnOk X.prog X.w X.K X.mg X.base CX k f fd ps sp) (hr : Room (k + 1) X.A) (hg : Gl X x) (hm : X.mg x = some (.ref C)) (hb : Binds X.K fd ps ds) (hd : Vals dvs ds) (hx : Passes CX X E)
    (ha : PA X (e :: es) t) (hdb : (x == ("__debug__" : Str)) = false := by decide) (he : starEach (e :: es) X.env = (false, eval e X.env) :: starEach es X.env := by rfl) (hpl : (backTo pos (starEach es X.env)).any (·.1) = false := by rfl) :
    PE X (.Call (.Name x p) (e :: es) [] pos) (tMake C sp dvs E t) := by
  intro pins s σ H Q I h
  refine wpAny_Call_Name_kw (ld_glob I hg hm ?_ hdb)
  refine PySem.W.callWith_K (h₀ := X.base) I.ok.mod.kin M.kp (thn (ha pos pins s σ H _ I h) fun us s1 ⟨vs, H1, I1, r, q⟩ => ⟨I1.kIn, ?_⟩) he hpl
  exact run_make M F hr hb hd hx I1 r q
end
section
variable {X : Cx} {CX : CXT} {k : Nat} {f C : Addr} {fd : FuncData} {ps ks : List Str} {sp : Sp} {E : XK} {x m : Str} {p pos apos kpos : Pos} {e o : Expr} {es : List Expr} {kws : List Keyword} {te ta : TE} {t tk : TA} {nm : Option Str}
variable {g : List Value → List Value → List Value} {gV : List V → List V → List V}
end
structure FnScope (N P : List Str) (sc : Scope) : Prop where
  kind : sc.kind = .function
  co : sc.isCoroutine = false
  gen : sc.isGenerator = false
  nd : N.Nodup
  pre : N.take P.length = P
  par : ∀ x ∈ P, sc.names.lookup x = some .local ∨ sc.names.lookup x = some .cell
  nofree : ∀ y ∈ sc.names, y.2 ≠ .free
theorem bindL_out {kindOf : Str → Option NameKind} {x : Str} : ∀ {binds : List (Str × Value)} {m : Str → Option Value}, (∀ v, (x, v) ∉ binds) → bindL kindOf binds m x = m x
  | [], _, _ => rfl
  | (n, v) :: r, m, h => by
    unfold bindL
    rw [bindL_out fun w hw => h w (List.mem_cons_of_mem _ hw)]
    split
    · have : x ≠ n := by rintro rfl; exact h v List.mem_cons_self
      simp [this]
    · rfl
theorem bindC_out {kindOf : Str → Option NameKind} {x : Str} : ∀ {binds : List (Str × Value)} {m : Str → Option Value}, (∀ v, (x, v) ∉ binds) → bindC kindOf binds m x = m x
  | [], _, _ => rfl
  | (n, v) :: r, m, h => by
    unfold bindC
    rw [bindC_out fun w hw => h w (List.mem_cons_of_mem _ hw)]
    split
    · rfl
    · have : x ≠ n := by rintro rfl; exact h v List.mem_cons_self
      simp [this]
theorem bindL_get {kindOf : Str → Option NameKind} {x : Str} {v : Value} : ∀ {P : List Str} {vs : List Value} {i : Nat} {m : Str → Option Value}, P.Nodup → P[i]? = some x → vs[i]? = some v → kindOf x = some .local →
    bindL kindOf (P.zip vs) m x = some v
  | [], _, _, _, _, h, _, _ => by simp at h
  | _ :: _, [], _, _, _, _, h, _ => by simp at h
  | p :: P, w :: vs, 0, m, nd, h1, h2, hk => by
    simp at h1 h2; subst h1; subst h2
    show bindL kindOf ((p, w) :: P.zip vs) m p = _
    unfold bindL
    rw [bindL_out fun v hv => (List.nodup_cons.mp nd).1 (List.of_mem_zip hv).1, if_pos hk]
    simp
  | p :: P, w :: vs, i + 1, m, nd, h1, h2, hk => by
    show bindL kindOf ((p, w) :: P.zip vs) m x = _
    unfold bindL
    exact bindL_get (i := i) (List.nodup_cons.mp nd).2 (by simpa using h1) (by simpa using h2) hk
theorem bindC_get {kindOf : Str → Option NameKind} {x : Str} {v : Value} : ∀ {P : List Str} {vs : List Value} {i : Nat} {m : Str → Option Value}, P.Nodup → P[i]? = some x → vs[i]? = some v → kindOf x ≠ some .local →
    bindC kindOf (P.zip vs) m x = some v
  | [], _, _, _, _, h, _, _ => by simp at h
  | _ :: _, [], _, _, _, _, h, _ => by simp at h
  | p :: P, w :: vs, 0, m, nd, h1, h2, hk => by
    simp at h1 h2; subst h1; subst h2
    show bindC kindOf ((p, w) :: P.zip vs) m p = _
    unfold bindC
    rw [bindC_out fun v hv => (List.nodup_cons.mp nd).1 (List.of_mem_zip hv).1, if_neg hk]
    simp
  | p :: P, w :: vs, i + 1, m, nd, h1, h2, hk => by
    show bindC kindOf ((p, w) :: P.zip vs) m x = _
    unfold bindC
    exact bindC_get (i := i) (List.nodup_cons.mp nd).2 (by simpa using h1) (by simpa using h2) hk
def start (N : List Str) (vs : List V) : St := vs.map some ++ List.replicate (N.length - vs.length) none
def cxOf (CX : CXT) (P : Program) (w : World) (K : PySem.W.Frag) (mg : Str → Option Value) (base : Heap) (N : List Str) (qual : Str) (scope : Scope) (f : Addr) (cd : Value) (A : Around) (outer : List Env) (s : Shared) (H : Hp) (E : XK) : Cx where
  prog := P
  w := w
  K := K
  mg := mg
  base := base
  A := A.deeper (envOfC qual scope s.heap.objs.size f cd)
  N := N
  s₀ := s
  H₀ := H
  env := envOfC qual scope s.heap.objs.size f cd
  outer := outer
  stack := envOfC qual scope s.heap.objs.size f cd :: outer
  ex := []
  calm := true
  fn := fun _ => true
  pn := []
  xe := fun e s' => wpAny (model P w) (A.deeper (envOfC qual scope s.heap.objs.size f cd)) (leaving (envOfC qual scope s.heap.objs.size f cd) e) (fun _ s'' => CX outer H s E e s'') (fun e' s'' => CX outer H s E e' s'') s'
theorem cell_has {sc : Scope} {n : Nat} {x : Str} (h : sc.names.lookup x = some .cell) : ∃ c, (cellsFrom n sc.names []).lookup x = some c := by
  have q := PySem.W.cellsFrom_some sc.names n [] (.inl h)
  exact Option.isSome_iff_exists.mp q
theorem inv_start {CX : CXT} {P : Program} {w : World} {K : PySem.W.Frag} {mg : Str → Option Value} {base : Heap} {N ps : List Str} {qual : Str} {scope : Scope} {f : Addr} {cd : Value} {A : Around} {outer : List Env} {s s1 : Shared} {H : Hp} {E : XK} {us : List Value} {vs : List V}
    (S : FnScope N ps scope) (hd : A.handled = none) (e0 : Env0 P w K mg base A outer s H) (hl : vs.length = ps.length) (r : Vals vs us)
    (x : InCallC s s.heap.objs.size (bindL (envOfC qual scope s.heap.objs.size f cd).kindOf (ps.zip us) fun _ => none) (cellsFrom (s.heap.objs.size + 1) scope.names []) (bindC (envOfC qual scope s.heap.objs.size f cd).kindOf (ps.zip us) fun _ => none) s1) :
    Inv (cxOf CX P w K mg base N qual scope f cd A outer s H E) [] (start N vs) H s1 := by
  have hpl : ps.length ≤ N.length := by have := congrArg List.length S.pre; rw [List.length_take] at this; omega
  obtain ⟨h1, tk, rfl, hk⟩ := x.done
  have noA : ∀ b : Addr, b ∉ (cxOf CX P w K mg base N qual scope f cd A outer s H E).ex := fun b z => absurd (show b ∈ ([] : List Addr) from z) (by simp)
  refine ⟨⟨e0.mod, S.kind, rfl, rfl, Nat.le_refl _, fun y z c h1 h2 => ?_, fun y hy => ?_, fun y c _ h => ?_, fun _ => hd, Around.frames_deeper e0.frames, .inr ⟨rfl, rfl⟩, fun b z => absurd z (noA b), e0.bs, e0.bsz, fun b _ _ => noA b, fun b z => absurd z (noA b), e0.funs, e0.frf⟩,
    rfl, e0.bare, Un.kept hk, ⟨_, x.toInCall.ns, fun i y v h1 h2 h3 => ?_⟩, fun y c h => ⟨_, x.cell y c h⟩, e0.hok.fresh (Nat.le_refl _), fun y c h => ?_, fun p hp => absurd (show p ∈ ([] : List (Addr × Obj)) from hp) (by simp), e0.hok.kept hk, ?_⟩
  · exact name_of_addr x.apart (PySem.mem_of_lookup h1) (PySem.mem_of_lookup h2)
  · have hy : scope.names.lookup y = some .cell ∨ scope.names.lookup y = some .free := hy
    rcases hy with hy | hy
    · exact cell_has hy
    · exact absurd rfl (S.nofree _ (PySem.mem_of_lookup hy))
  · exact Nat.le_of_lt (x.above y c (PySem.mem_of_lookup h))
  · have hi : i < vs.length := by
      unfold start at h2
      by_cases hi : i < vs.length
      · exact hi
      · rw [List.getElem?_append_right (by simpa using hi)] at h2
        rw [List.getElem?_replicate] at h2
        split at h2 <;> cases h2
    have ha : vs[i]? = some v := by
      unfold start at h2
      rw [List.getElem?_append_left (by simpa using hi), List.getElem?_map] at h2
      cases e : vs[i]? with
      | none => rw [e] at h2; cases h2
      | some a => rw [e] at h2; cases h2; rfl
    obtain ⟨u, hu, rv⟩ := r.get ha
    have hp : ps[i]? = some y := by
      rw [← S.pre, List.getElem?_take_of_lt (by omega)]; exact h1
    have ndP : ps.Nodup := by rw [← S.pre]; exact S.nd.sublist (List.take_sublist _ _)
    refine ⟨u, rv, ?_⟩
    rcases S.par y (List.mem_of_getElem? hp) with k | k
    · exact .inl ⟨k, bindL_get ndP hp hu k⟩
    · obtain ⟨c, e⟩ := cell_has (n := s.heap.objs.size + 1) k
      refine .inr ⟨.inl k, c, e, ?_⟩
      have q := x.cell y c e
      rw [bindC_get ndP hp hu (by show scope.names.lookup y ≠ _; rw [k]; decide)] at q
      exact q
  · exact e0.hok.fresh (Nat.le_of_lt (x.above y c (PySem.mem_of_lookup h)))
  · unfold start
    show _ = N.length
    rw [List.length_append, List.length_map, List.length_replicate]
    omega
theorem fn_of {CX : CXT} {P : Program} {w : World} {K : PySem.W.Frag} {mg : Str → Option Value} {base : Heap} {k : Nat} {f : Addr} {name qual : Str} {params : Arguments} {body : List Stmt} {scope : Scope} {dV kV doc pm cdv ct oc : Value} {an od : Option Addr}
    {osl : Array (Option Value)} {N ps : List Str} {sp : Sp} (lk : K.lookup f = some ⟨oc, od, .func (PySem.W.fnOf name qual params body scope dV kV doc pm an cdv ct), osl⟩) (hcd : PySem.W.codeIn K cdv qual = true) (S : FnScope N ps scope)
    (len : ∀ vs H Q E, sp vs H Q E → vs.length = ps.length)
    (hbody : ∀ (A : Around) (outer : List Env) (s : Shared) (H : Hp) (vs : List V) (Q : VK) (E : XK), Room k (A.deeper (envOfC qual scope s.heap.objs.size f cdv)) → sp vs H Q E →
      ∃ t, PSs (cxOf CX P w K mg base N qual scope f cdv A outer s H E) body t ∧ t { nx := fun _ H' => Q .non H', rt := Q } (start N vs) H) :
    FnOk P w K mg base CX (k + 1) f (PySem.W.fnOf name qual params body scope dV kV doc pm an cdv ct) ps sp := by
  refine ⟨len, fun A outer s H args us vs Q E hr e0 hb r hsp => ?_⟩
  have hl := len _ _ _ _ hsp
  have KX : K.In s.heap := e0.mod.kin.keeps fun b o e => (e0.bs b o e).1
  have lim : s.heap.NoLimit := e0.mod.nolimit.keeps fun b o e => (e0.bs b o e).1
  have hkind : ∀ y ∈ ps.zip us, scope.names.lookup y.1 = some .local ∨ (scope.names.lookup y.1 = some .cell ∧ ((cellsFrom (s.heap.objs.size + 1) scope.names []).lookup y.1).isSome = true) := fun ⟨n, v⟩ hy => by
    rcases S.par n (List.of_mem_zip hy).1 with q | q
    · exact .inl q
    · exact .inr ⟨q, PySem.W.cellsFrom_some _ _ _ (.inl q)⟩
  refine codeAny_call_function hr.depth (KX _ _ lk) rfl S.co S.gen rfl (PySem.W.codeRec_of KX hcd) (hb _ _ _ _ ?_)
  refine wpAny_newFunctionEnv_cells S.kind hkind fun env he s1 x => ?_
  subst he
  refine ⟨lim.keeps x.toInCall.keep, codeAny_func ?_⟩
  obtain ⟨t, ht, hq⟩ := hbody A outer s H vs Q E (hr.deeper _) hsp
  have I : Inv (cxOf CX P w K mg base N qual scope f cdv A outer s H E) [] (start N vs) H s1 := inv_start S hr.hd e0 hl r x
  refine wpAny_mono (ht [] s1 (start N vs) H _ I hq) (fun fl s' hs => ?_) fun e s' hs => hs
  have fin : ∀ {σ' : St} {H' : Hp} {v : V} {u : Value}, Inv (cxOf CX P w K mg base N qual scope f cdv A outer s H E) [] σ' H' s' → RelV v u → Q v H' → CE outer P w H s Q u s' :=
    fun {σ' H' v u} J rv q => ⟨v, H', J.os, J.bare, J.base, J.hok, rv, q⟩
  cases fl with
  | ret u =>
    obtain ⟨v, σ', H', J, rv, q⟩ := hs
    exact fin J rv q
  | next =>
    obtain ⟨σ', H', J, q⟩ := hs
    exact fin (v := V.non) (u := Value.none) J rfl q
  | brk =>
    obtain ⟨_, _, _, q⟩ := hs
    exact False.elim q
  | cont =>
    obtain ⟨_, _, _, q⟩ := hs
    exact False.elim q
end L2
namespace L2
open PySem PySem.Spec PyProof.Rows
section
variable {X : Cx} {x : Str} {p pos : Pos} {e : Expr} {es : List Expr} {t : TA} {id T : String} {r : List V → Hp → VK → Prop}
def tCB (r : List V → Hp → VK → Prop) (t : TA) : TE := fun σ H Q => t σ H fun vs H1 => r vs H1 Q
theorem pe_callB (hc : CallR X (.builtin id) r) (hg : Gl X x) (hm : X.mg x = none) (hv : bootBuiltins x = some (.builtin id)) (ha : PA X (e :: es) t) (hn : x ≠ "__name__" := by decide) (hdb : (x == ("__debug__" : Str)) = false := by decide)
    (he : starEach (e :: es) X.env = (false, eval e X.env) :: starEach es X.env := by rfl) (hpl : (backTo pos (starEach es X.env)).any (·.1) = false := by rfl) : PE X (.Call (.Name x p) (e :: es) [] pos) (tCB r t) := by
  intro pins s σ H Q I h
  refine wpAny_Call_Name_kw (ld_blt I hg hm hv ?_ hn hdb)
  exact PyProof.Rows.callWith_builtin1 (thn (ha pos pins s σ H _ I h) fun us s1 ⟨vs, H1, I1, r1, q1⟩ => hc pins s1 σ H1 vs us Q I1 r1 q1) he hpl
theorem pe_callTy (hc : CallR X (.type T) r) (hg : Gl X x) (hm : X.mg x = none) (hv : bootBuiltins x = some (.type T)) (ha : PA X (e :: es) t) (hn : x ≠ "__name__" := by decide) (hdb : (x == ("__debug__" : Str)) = false := by decide)
    (he : starEach (e :: es) X.env = (false, eval e X.env) :: starEach es X.env := by rfl) (hpl : (backTo pos (starEach es X.env)).any (·.1) = false := by rfl) : PE X (.Call (.Name x p) (e :: es) [] pos) (tCB r t) := by
  intro pins s σ H Q I h
  refine wpAny_Call_Name_kw (ld_blt I hg hm hv ?_ hn hdb)
  exact PyProof.Rows.callWith_type1 (thn (ha pos pins s σ H _ I h) fun us s1 ⟨vs, H1, I1, r1, q1⟩ => hc pins s1 σ H1 vs us Q I1 r1 q1) he hpl
end
end L2
namespace HT
open PySem PyProof.Rows
section
open PySem.SeqAt
open PySem.AutoSeq1 (wpAny_loadPart')
open PySem.MeetsSeq PySem.MeetsSeq2 PySem.MeetsSeq3
end
section
variable {prog : Program} {w : World} {A : Around} {E : Value → Shared → Prop} {s : Shared}
def sIx (n d : Nat) : Option Int → Nat
  | none => d
  | some v => if v < 0 then (v + (n : Int)).toNat else min v.toNat n
theorem sIx_le (n d : Nat) (hd : d ≤ n) (o : Option Int) : sIx n d o ≤ n := by
  cases o with
  | none => exact hd
  | some v =>
    show (if v < 0 then (v + (n : Int)).toNat else min v.toNat n) ≤ n
    by_cases hv : v < 0
    · rw [if_pos hv]; omega
    · rw [if_neg hv]; exact Nat.min_le_right _ _
end
end HT
namespace L2
open PySem PySem.Spec PyProof.Rows
abbrev TO := St → Hp → (Option Int → Hp → Prop) → Prop
def PO (X : Cx) (e : Option Expr) (t : TO) : Prop :=
  ∀ (pins : List (Addr × Obj)) (s : Shared) (σ : St) (H : Hp) (Q : Option Int → Hp → Prop), Inv X pins σ H s → t σ H Q →
    wpAny (model X.prog X.w) X.A (evalPart e X.env) (fun u s' => ∃ o H', Inv X pins σ H' s' ∧ IsPart u o ∧ Q o H') X.xe s
def tNoPart : TO := fun _ H Q => Q none H
def tPart (t : TE) : TO := fun σ H Q => t σ H fun x H1 => ∃ i, x = .int i ∧ Q (some i) H1
section
variable {X : Cx} {e : Expr} {te : TE} {lo hi : Option Expr} {tl th : TO} {pos p2 : Pos}
theorem po_none : PO X none tNoPart := by
  intro pins s σ H Q I h
  rw [evalPart_none]
  exact wpAny_pure ⟨none, H, I, .none, h⟩
theorem po_some (h : PE X e te) : PO X (some e) (tPart te) := by
  intro pins s σ H Q I hw
  rw [evalPart_some]
  refine thn (h pins s σ H _ I hw) fun u s1 ⟨x, H1, I1, r1, q1⟩ => ?_
  obtain ⟨i, rfl, q⟩ := q1
  obtain ⟨t, rfl⟩ := r1
  exact ⟨some i, H1, I1, .int i t, q⟩
def SlR (X : Cx) (r : V → Option Int → Option Int → Hp → VK → Prop) : Prop :=
  ∀ (pins : List (Addr × Obj)) (s : Shared) (σ : St) (H : Hp) (x : V) (v vl vu : Value) (lo hi : Option Int) (sl : Addr) (Q : VK), Inv X pins σ H s → RelV x v → s.heap.IsSliceOf sl vl vu .none → IsPart vl lo → IsPart vu hi → r x lo hi H Q →
    ∃ T id, typeLookup (.type T) "__getitem__" = pure (some (.builtin id)) ∧ s.TypeIs v T ∧ wpAny (model X.prog X.w) X.A (getItem v (.ref sl)) (EP X pins σ Q) X.xe s
def tSl (r : V → Option Int → Option Int → Hp → VK → Prop) (te : TE) (tl th : TO) : TE := fun σ H Q => te σ H fun x H1 => tl σ H1 fun l H2 => th σ H2 fun u H3 => r x l u H3 Q
theorem pe_slice {r : V → Option Int → Option Int → Hp → VK → Prop} (hr : SlR X r) (he : PE X e te) (hl : PO X lo tl) (hu : PO X hi th) : PE X (.Subscript e (.Slice lo hi none p2) pos) (tSl r te tl th) := by
  intro pins s σ H Q I h
  refine Subscript_ (thn (he pins s σ H _ I h) fun v s1 ⟨x, H1, I1, r1, q1⟩ => ?_)
  refine wpAny_Slice (thn (hl pins s1 σ H1 _ I1 q1) fun vl s2 ⟨l, H2, I2, pl, q2⟩ => thn (hu pins s2 σ H2 _ I2 q2) fun vu s3 ⟨u, H3, I3, pu, q3⟩ => ?_)
  rw [evalPart_none]
  refine wpAny_pure ?_
  have I4 : Inv X pins σ H3 { s3 with heap := s3.heap.push { cls := .type "slice", data := .fields #[vl, vu, .none] } } := I3.kept (t' := s3.toks) fun b ob q => Heap.get?_push_of_some _ q
  obtain ⟨T, id, hT, ht, hg⟩ := hr pins { s3 with heap := s3.heap.push { cls := .type "slice", data := .fields #[vl, vu, .none] } } σ H3 x v vl vu l u s3.heap.objs.size Q I4 r1 (Heap.IsSliceOf.new ..) pl pu q3
  show wpAny (model X.prog X.w) X.A (subscriptTail e (.Slice lo hi none p2) v (.ref s3.heap.objs.size)) (EP X pins σ Q) X.xe { s3 with heap := s3.heap.push { cls := .type "slice", data := .fields #[vl, vu, .none] } }
  exact tail_any (ops := [.ref s3.heap.objs.size, v]) ht hT hg (by with_unfolding_all rfl)
def cutV (xs : List V) (lo hi : Option Int) : List V := (xs.drop (HT.sIx xs.length 0 lo)).take (HT.sIx xs.length xs.length hi - HT.sIx xs.length 0 lo)
theorem cutV_length (xs : List V) (lo hi : Option Int) : (cutV xs lo hi).length ≤ xs.length := by
  unfold cutV
  rw [List.length_take, List.length_drop]
  omega
end
end L2
namespace L2
open PySem PySem.Spec PyProof.Rows
def ixN (n : Nat) (i : Int) : Option Nat := if 0 ≤ i then (if i < n then some i.toNat else none) else if -(n : Int) ≤ i then some (i + n).toNat else none
def atI {α : Type} (xs : List α) (i : Int) : Option α := (ixN xs.length i).bind fun j => xs[j]?
theorem ixN_seq {n : Nat} {i : Int} {j : Nat} (h : ixN n i = some j) : seqIndex? i n = some j ∧ j < n ∧ -(n : Int) ≤ i ∧ i < n := by
  unfold ixN at h
  by_cases h0 : 0 ≤ i
  · rw [if_pos h0] at h
    by_cases h1 : i < n
    · rw [if_pos h1] at h
      have e : i.toNat = j := Option.some.inj h
      exact ⟨by rw [seqIndex_of h0 h1, e], by omega, by omega, h1⟩
    · rw [if_neg h1] at h; cases h
  · rw [if_neg h0] at h
    by_cases h1 : -(n : Int) ≤ i
    · rw [if_pos h1] at h
      have e : (i + n).toNat = j := Option.some.inj h
      exact ⟨by rw [seqIndex_neg (by omega) h1, e], by omega, h1, by omega⟩
    · rw [if_neg h1] at h; cases h
theorem atI_get {α : Type} {xs : List α} {i : Int} {v : α} (h : atI xs i = some v) : ∃ j, seqIndex? i xs.length = some j ∧ xs[j]? = some v ∧ j < xs.length ∧ -(xs.length : Int) ≤ i ∧ i < xs.length := by
  unfold atI at h
  cases e : ixN xs.length i with
  | none => rw [e] at h; cases h
  | some j =>
    rw [e] at h
    obtain ⟨h1, h2, h3, h4⟩ := ixN_seq e
    exact ⟨j, h1, h, h2, h3, h4⟩
theorem atI_nat {α : Type} {xs : List α} {j : Nat} {v : α} (h : xs[j]? = some v) : atI xs (j : Int) = some v := by
  have hj : j < xs.length := (List.getElem?_eq_some_iff.mp h).1
  have e : ixN xs.length (j : Int) = some j := by
    unfold ixN
    rw [if_pos (by omega), if_pos (by omega)]; simp
  unfold atI; rw [e]; exact h
def PlainIx (b : Expr) : Prop := ∀ o i, subscripted b false o i = operate [o, i] (getItem o i)
def IxR (X : Cx) (r : R2) : Prop :=
  ∀ (value slice : Expr) (pins : List (Addr × Obj)) (s : Shared) (σ : St) (H : Hp) (x y : V) (v u : Value) (Q : VK), Inv X pins σ H s → RelV x v → RelV y u → r x y H Q →
    subscripted slice false v u = operate [v, u] (getItem v u) → wpAny (model X.prog X.w) X.A (subscriptTail value slice v u) (EP X pins σ Q) X.xe s
def MtR (X : Cx) (id : String) (r : V → List V → Hp → VK → Prop) : Prop :=
  ∀ (pins : List (Addr × Obj)) (s : Shared) (σ : St) (H : Hp) (x : V) (xs : List V) (v : Value) (us : List Value) (Q : VK), Inv X pins σ H s → RelV x v → Vals xs us → r x xs H Q →
    wpAny (model X.prog X.w) X.A (call (.builtin id) (v :: us)) (EP X pins σ Q) X.xe s
section
variable {X : Cx} {a b : Expr} {ta tb : TE} {pos : Pos}
theorem IxR.or {r r' : R2} (h : IxR X r) (h' : IxR X r') : IxR X (fun x y H Q => r x y H Q ∨ r' x y H Q) := by
  intro value slice pins s σ H x y v u Q I rx ry q hs
  rcases q with q | q
  · exact h value slice pins s σ H x y v u Q I rx ry q hs
  · exact h' value slice pins s σ H x y v u Q I rx ry q hs
theorem pe_ix {r : R2} (hr : IxR X r) (ha : PE X a ta) (hb : PE X b tb) (hs : PlainIx b) : PE X (.Subscript a b pos) (tOp r ta tb) := by
  intro pins s σ H Q I h
  exact Subscript_ (binT ha hb I h fun v u s2 x y H2 I2 rx ry q => hr a b pins s2 σ H2 x y v u Q I2 rx ry q (hs _ _))
def rIxL (K : PySem.W.Frag) : R2 := fun x y H Q => ∃ p xs i v, x = .ref p ∧ y = .int i ∧ SqL K H p xs ∧ atI xs i = some v ∧ Q v H
def rIxT (K : PySem.W.Frag) : R2 := fun x y H Q => ∃ p xs i v, x = .ref p ∧ y = .int i ∧ SqT K H p xs ∧ atI xs i = some v ∧ Q v H
def rIxS : R2 := fun x y H Q => ∃ z i c, x = .str z ∧ y = .int i ∧ z.length ≤ sizeLine ∧ atI z.cps.toList i = some c ∧ Q (.str ⟨#[c]⟩) H
theorem ix_list : IxR X (rIxL X.K) := by
  intro value slice pins s σ H x y v u Q I rx ry h hs
  obtain ⟨p, xs, i, z, rfl, rfl, hq, he, q⟩ := h
  cases rx
  obtain ⟨t, rfl⟩ := ry
  obtain ⟨its, r, pl, hz⟩ := I.list hq
  obtain ⟨j, h1, h2, h3, h4, h5⟩ := atI_get he
  obtain ⟨w, ew, rw'⟩ := r.get h2
  have hl := r.length
  have hn := line63
  have fin : EP X pins σ Q w s := ⟨z, H, I, rw', q⟩
  by_cases h0 : 0 ≤ i
  · have hj : i.toNat = j := by
      rw [seqIndex_of h0 h5] at h1
      exact Option.some.inj h1
    exact item_listR pl.isList h0 (by omega) (by rw [hj]; simpa using ew) fin hs
  · have hj : (i + (its.toArray.size : Int)).toNat = j := by
      rw [seqIndex_neg (by omega) h4] at h1
      rw [List.size_toArray, ← hl]
      exact Option.some.inj h1
    exact subscriptTail_builtinR (x := w) pl.isList.typeIs slot_list_getitem.lookup
      (wpAny_getItem_list_neg (Q := fun r s' => r = w ∧ EP X pins σ Q r s') pl.isList (by omega) (by rw [List.size_toArray] <;> omega) (by omega) (by rw [hj]; simpa using ew) ⟨rfl, fin⟩) hs
theorem ix_tup : IxR X (rIxT X.K) := by
  intro value slice pins s σ H x y v u Q I rx ry h hs
  obtain ⟨p, xs, i, z, rfl, rfl, hq, he, q⟩ := h
  cases rx
  obtain ⟨t, rfl⟩ := ry
  obtain ⟨its, r, pl, hz⟩ := I.tuple hq
  obtain ⟨j, h1, h2, h3, h4, h5⟩ := atI_get he
  obtain ⟨w, ew, rw'⟩ := r.get h2
  have hl := r.length
  have hn := line63
  have fin : EP X pins σ Q w s := ⟨z, H, I, rw', q⟩
  exact subscriptTail_builtinR (x := w) pl.typeIs slot_tuple_getitem.lookup
    (getItem_tuple (j := j) (Q := fun r s' => r = w ∧ EP X pins σ Q r s') pl (by omega) (by omega) (by rw [List.size_toArray, ← hl]; exact h1) (by simpa using ew) ⟨rfl, fin⟩) hs
theorem ix_str : IxR X rIxS := by
  intro value slice pins s σ H x y v u Q I rx ry h hs
  obtain ⟨z, i, c, rfl, rfl, hz, he, q⟩ := h
  obtain ⟨t, rfl⟩ := rx
  obtain ⟨t', rfl⟩ := ry
  obtain ⟨j, h1, h2, h3, h4, h5⟩ := atI_get he
  have hl : z.cps.toList.length = z.length := by simp [Str.length]
  rw [hl] at h1 h4 h5
  have hn := line63
  exact tail_any (typeIs_str s z t) slot_str_getitem.lookup (getItem_str (c := c) (by
    have e1 : decide (i < -(2 ^ 63 : Int)) = false := decide_eq_false (by omega)
    have e2 : decide (i ≥ 2 ^ 63) = false := decide_eq_false (by omega)
    rw [e1, e2, Bool.or_false]) (by rw [h1]; simpa using h2) ⟨.str ⟨#[c]⟩, H, I.tok _, ⟨_, rfl⟩, q⟩) hs
def rIx (K : PySem.W.Frag) : R2 := fun x y H Q => rIxL K x y H Q ∨ rIxT K x y H Q ∨ rIxS x y H Q
theorem ix_seq : IxR X (rIx X.K) := ix_list.or (ix_tup.or ix_str)
theorem slice_bounds (lo hi : Option Int) (n : Nat) : (sliceBounds lo hi none n).1 = ((HT.sIx n 0 lo : Nat) : Int) ∧ (sliceBounds lo hi none n).2.1 = ((HT.sIx n n hi : Nat) : Int) ∧ (sliceBounds lo hi none n).2.2 = 1 := by
  refine ⟨?_, ?_, rfl⟩
  · cases lo with
    | none => simp [sliceBounds, HT.sIx]
    | some i =>
      simp only [sliceBounds, HT.sIx, Option.getD_none, show (1 : Int) > 0 by decide, if_true]
      by_cases h : i < 0
      · simp only [h, if_true] <;> omega
      · simp only [h, if_false] <;> omega
  · cases hi with
    | none => simp [sliceBounds, HT.sIx]
    | some i =>
      simp only [sliceBounds, HT.sIx, Option.getD_none, show (1 : Int) > 0 by decide, if_true]
      by_cases h : i < 0
      · simp only [h, if_true] <;> omega
      · simp only [h, if_false] <;> omega
theorem slicePick_cut (its : List Value) (lo hi : Option Int) : slicePick its.toArray lo hi none = ((its.drop (HT.sIx its.length 0 lo)).take (HT.sIx its.length its.length hi - HT.sIx its.length 0 lo)).toArray := by
  obtain ⟨h1, h2, h3⟩ := slice_bounds lo hi its.toArray.size
  unfold slicePick
  rw [h1, h2, h3]
  simp only [sliceRange_one, pick_run, List.size_toArray] <;> rfl
def rSlL (K : PySem.W.Frag) : V → Option Int → Option Int → Hp → VK → Prop := fun x lo hi H Q => ∃ a xs, x = .ref a ∧ SqL K H a xs ∧ ∀ p, H p = none → Q (.ref p) (upd H p (.lst (cutV xs lo hi)))
theorem sl_list : SlR X (rSlL X.K) := by
  intro pins s σ H x v vl vu lo hi sl Q I rx hs pl pu h
  obtain ⟨a, xs, rfl, hx, q⟩ := h
  cases rx
  obtain ⟨its, r, ht, hz⟩ := I.list hx
  have hlen := r.length
  refine ⟨"list", _, slot_list_getitem.lookup, ht.isList.typeIs, ?_⟩
  refine wpAny_getItem_list_slice ht.isList hs pl pu .none (by simp) ?_ (by rw [List.size_toArray] <;> omega)
  rw [slicePick_cut, ← hlen]
  refine ⟨.ref s.heap.objs.size, _, I.laid (t' := s.toks) (o := .lst (cutV xs lo hi)) (fun b ob q => Heap.get?_push_of_some _ q) (Nat.le_refl _) ?_, rfl, q _ (I.hok.fresh (Nat.le_refl _))⟩
  exact ⟨Nat.le_trans (cutV_length xs lo hi) hz, _, 0, (r.drop (HT.sIx xs.length 0 lo)).take (HT.sIx xs.length xs.length hi - HT.sIx xs.length 0 lo), Heap.get?_push_size _ rfl⟩
def flatV : V → Bool
  | .non => true
  | .bl _ => true
  | .int _ => true
  | .str _ => true
  | _ => false
def eqV : V → V → Bool
  | .non, .non => true
  | .bl a, .bl b => a == b
  | .bl a, .int b => (if a then 1 else 0) == b
  | .int a, .bl b => a == (if b then 1 else 0)
  | .int a, .int b => a == b
  | .str a, .str b => a == b
  | _, _ => false
theorem eqAt_V {A : Around} {s : Shared} {y x : V} {u v : Value} (ry : RelV y u) (rx : RelV x v) (fy : flatV y = true) (fx : flatV x = true) : SeqAt.EqAt A s u v (eqV y x) := by
  cases y with
  | non =>
    cases ry
    cases x with
    | non => cases rx; exact SeqAt.EqAt.same _
    | bl b => cases rx; exact SeqAt.EqAt.none_bool b
    | int b => obtain ⟨t, rfl⟩ := rx; exact SeqAt.EqAt.none_int b t
    | str b => obtain ⟨t, rfl⟩ := rx; exact SeqAt.EqAt.none_str b t
    | _ => exact absurd (show false = true from fx) Bool.false_ne_true
  | bl a =>
    cases ry
    cases x with
    | non => cases rx; exact SeqAt.EqAt.bool_none a
    | bl b => cases rx; exact SeqAt.EqAt.bool_bool a b
    | int b => obtain ⟨t, rfl⟩ := rx; exact SeqAt.EqAt.bool_int a b t
    | str b => obtain ⟨t, rfl⟩ := rx; exact SeqAt.EqAt.bool_str a b t
    | _ => exact absurd (show false = true from fx) Bool.false_ne_true
  | int a =>
    obtain ⟨t', rfl⟩ := ry
    cases x with
    | non => cases rx; exact SeqAt.EqAt.int_none a t'
    | bl b => cases rx; exact SeqAt.EqAt.int_bool a t' b
    | int b => obtain ⟨t, rfl⟩ := rx; exact SeqAt.EqAt.int_int a t' b t
    | str b => obtain ⟨t, rfl⟩ := rx; exact SeqAt.EqAt.int_str a t' b t
    | _ => exact absurd (show false = true from fx) Bool.false_ne_true
  | str a =>
    obtain ⟨t', rfl⟩ := ry
    cases x with
    | non => cases rx; exact SeqAt.EqAt.str_none a t'
    | bl b => cases rx; exact SeqAt.EqAt.str_bool a t' b
    | int b => obtain ⟨t, rfl⟩ := rx; exact SeqAt.EqAt.str_int a t' b t
    | str b => obtain ⟨t, rfl⟩ := rx; exact SeqAt.EqAt.str_str a t' b t
    | _ => exact absurd (show false = true from fx) Bool.false_ne_true
  | _ => exact absurd (show false = true from fy) Bool.false_ne_true
def eqU (x : V) (u : Value) : Bool := match u with
  | .none => eqV .non x
  | .bool b => eqV (.bl b) x
  | .int i _ => eqV (.int i) x
  | .str z _ => eqV (.str z) x
  | _ => false
theorem eqU_of {x y : V} {u : Value} (r : RelV y u) (f : flatV y = true) : eqU x u = eqV y x := by
  cases y with
  | non => cases r; rfl
  | bl b => cases r; rfl
  | int i => obtain ⟨t, rfl⟩ := r; rfl
  | str z => obtain ⟨t, rfl⟩ := r; rfl
  | _ => exact absurd (show false = true from f) Bool.false_ne_true
theorem any_eqU {x : V} : ∀ {xs : List V} {us : List Value}, Vals xs us → xs.all flatV = true → us.any (eqU x) = xs.any fun y => eqV y x
  | _, _, .nil, _ => rfl
  | y :: xs, u :: us, .cons r t, f => by
    rw [List.all_cons, Bool.and_eq_true] at f
    rw [List.any_cons, List.any_cons, eqU_of r f.1, any_eqU t f.2]
theorem mem_eqAt {A : Around} {s : Shared} {x : V} {v : Value} (rx : RelV x v) (fx : flatV x = true) : ∀ {xs : List V} {us : List Value}, Vals xs us → xs.all flatV = true → ∀ u ∈ us, SeqAt.EqAt A s u v (eqU x u)
  | _, _, .nil, _ => fun u hu => by cases hu
  | y :: xs, u :: us, .cons r t, f => fun u' hu => by
    rw [List.all_cons, Bool.and_eq_true] at f
    rcases List.mem_cons.mp hu with rfl | hu
    · rw [eqU_of r f.1]; exact eqAt_V r rx f.1 fx
    · exact mem_eqAt rx fx t f.2 u' hu
def inV (x : V) (xs : List V) : Bool := xs.any fun y => eqV y x
def rIn (K : PySem.W.Frag) (neg : Bool) : R2 := fun x y H Q => ∃ p xs, y = .ref p ∧ (SqL K H p xs ∨ SqT K H p xs) ∧ flatV x = true ∧ xs.all flatV = true ∧ Q (.bl (if neg then !inV x xs else inV x xs)) H
theorem op_in_seq : OpR X (compareOp .In) (rIn X.K false) := by
  intro pins s σ H x y v u Q I rx ry h
  obtain ⟨p, xs, rfl, hq, fx, fs, q⟩ := h
  cases ry
  rcases hq with hq | hq
  · obtain ⟨its, r, pl, hz⟩ := I.list hq
    refine SeqAt.in_listAt (eqU x) pl.isList (fun w hw => mem_eqAt rx fx r fs w (by simpa using hw)) ⟨.bl _, H, I, rfl, ?_⟩
    rw [show its.toArray.any (eqU x) = its.any (eqU x) by simp, any_eqU r fs]
    exact q
  · obtain ⟨its, r, pl, hz⟩ := I.tuple hq
    refine SeqAt.in_tupleAt (eqU x) pl (fun w hw => mem_eqAt rx fx r fs w (by simpa using hw)) ⟨.bl _, H, I, rfl, ?_⟩
    rw [show its.toArray.any (eqU x) = its.any (eqU x) by simp, any_eqU r fs]
    exact q
theorem op_notIn_seq : OpR X (compareOp .NotIn) (rIn X.K true) := by
  intro pins s σ H x y v u Q I rx ry h
  obtain ⟨p, xs, rfl, hq, fx, fs, q⟩ := h
  cases ry
  rcases hq with hq | hq
  · obtain ⟨its, r, pl, hz⟩ := I.list hq
    refine SeqAt.notIn_listAt (eqU x) pl.isList (fun w hw => mem_eqAt rx fx r fs w (by simpa using hw)) ⟨.bl _, H, I, rfl, ?_⟩
    rw [show its.toArray.any (eqU x) = its.any (eqU x) by simp, any_eqU r fs]
    exact q
  · obtain ⟨its, r, pl, hz⟩ := I.tuple hq
    refine SeqAt.notIn_tupleAt (eqU x) pl (fun w hw => mem_eqAt rx fx r fs w (by simpa using hw)) ⟨.bl _, H, I, rfl, ?_⟩
    rw [show its.toArray.any (eqU x) = its.any (eqU x) by simp, any_eqU r fs]
    exact q
theorem call_len_seq : CallR X (.builtin "len") (fun xs H Q => ∃ p ys, xs = [.ref p] ∧ (SqL X.K H p ys ∨ SqT X.K H p ys) ∧ Q (.int ys.length) H) := by
  intro pins s σ H xs us Q I r h
  obtain ⟨p, ys, rfl, hq, q⟩ := h
  obtain ⟨u, rfl, rx⟩ := vals1 r
  cases rx
  have hn := line63
  rcases hq with hq | hq
  · obtain ⟨its, r', pl, hz⟩ := I.list hq
    have hlen := r'.length
    exact Calls.call_len_list pl.isList (by simp only [List.size_toArray] <;> omega) ⟨.int ys.length, H, I.tok _, ⟨s.toks + 1, by rw [List.size_toArray, hlen]⟩, q⟩
  · obtain ⟨its, r', pl, hz⟩ := I.tuple hq
    have hlen := r'.length
    exact len_tuple pl (by simp only [List.size_toArray] <;> omega) ⟨.int ys.length, H, I.tok _, ⟨s.toks + 1, by rw [List.size_toArray, hlen]⟩, q⟩
theorem call_len_str : CallR X (.builtin "len") (fun xs H Q => ∃ z, xs = [.str z] ∧ z.length ≤ sizeLine ∧ Q (.int z.length) H) := by
  intro pins s σ H xs us Q I r h
  obtain ⟨z, rfl, hz, q⟩ := h
  obtain ⟨u, rfl, t, rfl⟩ := vals1 r
  have hn := line63
  exact len_str (by omega) ⟨.int z.length, H, I.tok _, ⟨_, rfl⟩, q⟩
theorem call_list_of : CallR X (.type "list") (fun xs H Q => ∃ p ys, xs = [.ref p] ∧ (SqL X.K H p ys ∨ SqT X.K H p ys) ∧ ∀ l, H l = none → Q (.ref l) (upd H l (.lst ys))) := by
  intro pins s σ H xs us Q I r h
  obtain ⟨p, ys, rfl, hq, q⟩ := h
  obtain ⟨u, rfl, rx⟩ := vals1 r
  cases rx
  have fin : ∀ (its : List Value), Vals ys its → ys.length ≤ sizeLine → ∀ (h' : Heap) (c' : Nat), (∀ b o', s.heap.get? b = some o' → h'.get? b = some o') →
      h'.get? s.heap.objs.size = some { cls := .type "list", dict := none, data := .seq its.toArray c', slots := #[] } → EP X pins σ Q (.ref s.heap.objs.size) { s with heap := h' } := fun its r' hz h' c' kp e =>
    ⟨.ref s.heap.objs.size, _, I.laid (t' := s.toks) kp (Nat.le_refl _) (show ObjOk X.prog X.w _ h' _ (.lst ys) from ⟨hz, its, c', r', e⟩), rfl, q _ (I.hok.fresh (Nat.le_refl _))⟩
  rcases hq with hq | hq
  · obtain ⟨its, r', pl, hz⟩ := I.list hq
    have hlen := r'.length
    obtain ⟨o, ho, hc, n, hd⟩ := pl.isList
    exact call_list_seq p (.inl rfl) ho hc hd (fun h' c' kp e => fin its r' hz h' c' kp e) (by simp only [List.size_toArray] <;> omega)
  · obtain ⟨its, r', pl, hz⟩ := I.tuple hq
    have hlen := r'.length
    obtain ⟨o, ho, hc, n, hd⟩ := pl
    exact call_list_seq p (.inr rfl) ho hc hd (fun h' c' kp e => fin its r' hz h' c' kp e) (by simp only [List.size_toArray] <;> omega)
theorem call_tuple_of : CallR X (.type "tuple") (fun xs H Q => ∃ p ys, xs = [.ref p] ∧ ((SqL X.K H p ys ∧ ∀ l, H l = none → Q (.ref l) (upd H l (.tup ys))) ∨ (SqT X.K H p ys ∧ Q (.ref p) H))) := by
  intro pins s σ H xs us Q I r h
  obtain ⟨p, ys, rfl, h⟩ := h
  obtain ⟨u, rfl, rx⟩ := vals1 r
  cases rx
  rcases h with ⟨hq, q⟩ | ⟨hq, q⟩
  · obtain ⟨its, r', pl, hz⟩ := I.list hq
    have hlen := r'.length
    refine call_tuple_list pl.isList (fun h' kp => ?_) (by simp only [List.size_toArray] <;> omega)
    have I1 : Inv X pins σ H { s with heap := h' } := I.kept (t' := s.toks) kp
    have I2 : Inv X pins σ (upd H h'.objs.size (.tup ys)) { s with heap := h'.push { cls := .type "tuple", data := .seq its.toArray } } :=
      I1.laid (t' := s.toks) (fun b o e => Heap.get?_push_of_some _ e) (Nat.le_refl _) (show ObjOk X.prog X.w _ _ _ (.tup ys) from ⟨hz, its, r', IsTup.new _ _⟩)
    exact ⟨.ref h'.objs.size, _, I2, rfl, q _ (I1.hok.fresh (Nat.le_refl _))⟩
  · obtain ⟨its, r', pl, hz⟩ := I.tuple hq
    exact call_tuple_same pl ⟨.ref p, H, I, rfl, q⟩
def tyV (K : PySem.W.Frag) (T : String) (x : V) (H : Hp) : Prop := match x with
  | .str _ => T = "str"
  | .int _ => T = "int"
  | .ref p => (T = "list" ∧ ∃ xs, SqL K H p xs) ∨ (T = "tuple" ∧ ∃ o, K.lookup p = some o ∧ o.cls = .type "tuple" ∧ o.dict = none) ∨
      (T = "dict" ∧ ((∃ kvs, H p = some (.dK kvs)) ∨ ∃ kvs, H p = some (.dT kvs))) ∨ (T = "set" ∧ ∃ S n, H p = some (.set S n))
  | _ => False
theorem tyV_is {pins : List (Addr × Obj)} {σ : St} {H : Hp} {s : Shared} {T : String} {x : V} {v : Value} (I : Inv X pins σ H s) (r : RelV x v) (ty : tyV X.K T x H) :
    s.TypeIs v T ∧ ∀ a, v = .ref a → ∃ ob, s.heap.get? a = some ob ∧ ob.dict = none := by
  cases x with
  | str z =>
    obtain ⟨t, rfl⟩ := r
    cases (show T = "str" from ty)
    exact ⟨typeIs_str s z t, fun _ e => nomatch e⟩
  | int i =>
    obtain ⟨t, rfl⟩ := r
    cases (show T = "int" from ty)
    exact ⟨typeIs_int s i t, fun _ e => nomatch e⟩
  | ref p =>
    cases r
    rcases ty with ⟨rfl, xs, hq⟩ | ⟨rfl, o, hk, hc, hd⟩ | ⟨rfl, hk⟩ | ⟨rfl, S, n, hk⟩
    · obtain ⟨its, _, pl, _⟩ := I.list hq
      refine ⟨pl.isList.typeIs, fun a e => ?_⟩
      cases e
      obtain ⟨o, n, e, c, hd, _⟩ := pl
      exact ⟨o, e, hd⟩
    · refine ⟨⟨o, I.kIn p o hk, hc⟩, fun a e => ?_⟩
      cases e
      exact ⟨o, I.kIn _ o hk, hd⟩
    · have z : ∃ o, s.heap.get? p = some o ∧ o.ExactDict := by
        rcases hk with ⟨kvs, hk⟩ | ⟨kvs, hk⟩
        · obtain ⟨_, _, _, _, o, _, _, e, ex, _⟩ := I.hok p _ hk
          exact ⟨o, e, ex⟩
        · obtain ⟨_, _, _, _, o, _, _, e, ex, _⟩ := I.hok p _ hk
          exact ⟨o, e, ex⟩
      obtain ⟨o, e, ex⟩ := z
      refine ⟨⟨o, e, ex.1⟩, fun a e2 => ?_⟩
      cases e2
      exact ⟨o, e, ex.2.1⟩
    · obtain ⟨o, _, _, _, e, ex, _⟩ := I.hok p _ hk
      refine ⟨⟨o, e, ex.1⟩, fun a e2 => ?_⟩
      cases e2
      exact ⟨o, e, ex.2.1⟩
  | _ => exact False.elim ty
def tBM0 (K : PySem.W.Frag) (T : String) (r : V → List V → Hp → VK → Prop) (to : TE) : TE := fun σ H Q => to σ H fun x H1 => tyV K T x H1 ∧ r x [] H1 Q
def tBM (K : PySem.W.Frag) (T : String) (r : V → List V → Hp → VK → Prop) (to : TE) (t : TA) : TE := fun σ H Q => to σ H fun x H1 => tyV K T x H1 ∧ t σ H1 fun xs H2 => r x xs H2 Q
variable {o e : Expr} {es : List Expr} {to : TE} {t : TA} {name : Str} {apos cpos : Pos} {T id : String} {r : V → List V → Hp → VK → Prop}
theorem pe_bm0 (pa : PlainAttrs T) (slot : Slot T name id) (hty : typeOf (.builtin id) = pure (.type "method_descriptor")) (hm : MtR X id r) (ho : PE X o to)
    (hbase : attributeBase o name X.env (eval o X.env) = eval o X.env := by rfl) (hline : (apos.endLine == cpos.line) = true := by rfl) : PE X (.Call (.Attribute o name apos) [] [] cpos) (tBM0 X.K T r to) := by
  intro pins s σ H Q I h
  refine wpAny_Call_method0_late hbase hline (thn (ho pins s σ H _ I h) fun v s1 ⟨x, H1, I1, r1, ty, q1⟩ => ?_)
  obtain ⟨h1, h2⟩ := tyV_is I1 r1 ty
  exact ⟨T, id, pa, slot, hty, h1, h2, Calls.callWith_builtin rfl (PySem.evalArgs_none (hm pins s1 σ H1 x [] v [] Q I1 r1 .nil q1))⟩
theorem pe_bm (pa : PlainAttrs T) (slot : Slot T name id) (hty : typeOf (.builtin id) = pure (.type "method_descriptor")) (hm : MtR X id r) (ho : PE X o to) (ha : PA X (e :: es) t)
    (hbase : attributeBase o name X.env (eval o X.env) = eval o X.env := by rfl)
    (hfew : ((backTo cpos (starEach (e :: es) X.env)).all (fun x => !x.1) && (backToKw cpos (keywordEach [] X.env)).all (fun x => x.1.isSome)
      && decide ((e :: es).length + ([] : List Keyword).length + (if ([] : List Keyword).isEmpty then 0 else 1) < 30)) = true := by rfl)
    (hline : (apos.endLine == cpos.line) = true := by rfl) (hs : starEach (e :: es) X.env = (false, eval e X.env) :: starEach es X.env := by rfl) (hplain : (backTo cpos (starEach es X.env)).any (·.1) = false := by rfl) :
    PE X (.Call (.Attribute o name apos) (e :: es) [] cpos) (tBM X.K T r to t) := by
  intro pins s σ H Q I h
  refine wpAny_Call_method_late hbase hfew hline rfl (thn (ho pins s σ H _ I h) fun v s1 ⟨x, H1, I1, r1, ty, q1⟩ => ?_)
  obtain ⟨h1, h2⟩ := tyV_is I1 r1 ty
  refine ⟨T, id, pa, slot, hty, h1, h2, ?_⟩
  have hA := ha cpos pins s1 σ H1 _ I1 q1
  rw [hs] at hA ⊢
  refine Calls.callWith_builtin (by show (false || (backTo cpos (starEach es X.env)).any (·.1)) = false; rw [hplain] <;> rfl) (Calls.evalArgs_plain ?_)
  exact thn hA fun us s2 ⟨vs, H2, I2, r2, q2⟩ => hm pins s2 σ H2 x vs v us Q I2 r1 r2 q2
end
end L2
namespace L2
open PySem PySem.Spec PyProof.Rows
def MtM (X : Cx) (id : String) (r : V → List V → Hp → VK → Prop) : Prop :=
  ∀ (pins : List (Addr × Obj)) (s : Shared) (σ : St) (H : Hp) (x : V) (xs : List V) (v : Value) (us : List Value) (Q : VK), Inv X pins σ H s → RelV x v → Vals xs us → r x xs H Q →
    wpAny (model X.prog X.w) X.A (call (.builtin id) (v :: us)) (EP X pins σ Q) X.xe s
theorem Vals.one : ∀ {x : V} {us : List Value}, Vals [x] us → ∃ u, us = [u] ∧ RelV x u
  | _, _, .cons r .nil => ⟨_, rfl, r⟩
theorem Vals.zero : ∀ {us : List Value}, Vals [] us → us = []
  | _, .nil => rfl
theorem Vals.dropLast {xs : List V} {us : List Value} (h : Vals xs us) : Vals xs.dropLast us.dropLast := by
  induction h with
  | nil => exact .nil
  | cons r t ih =>
    cases t with
    | nil => exact .nil
    | cons q t' => exact .cons r ih
theorem erase_last {α : Type} (l : List α) : l.eraseIdx (l.length - 1) = l.dropLast := by
  induction l with
  | nil => rfl
  | cons a r ih =>
    cases r with
    | nil => rfl
    | cons b r =>
      have e : (a :: b :: r).length - 1 = ((b :: r).length - 1) + 1 := by
        have h1 : (a :: b :: r).length = r.length + 2 := rfl
        have h2 : (b :: r).length = r.length + 1 := rfl
        omega
      rw [e, List.eraseIdx_cons_succ, ih]
      all_goals rfl
section
variable {X : Cx} {pins : List (Addr × Obj)} {σ : St} {H : Hp} {s : Shared} {l b : Addr} {xs ys zs : List V}
theorem Inv.lset {its its' : List Value} {n : Nat} {f : Array Value → Array Value} {t' : Nat} (I : Inv X pins σ H s) (hH : H l = some (.lst xs))
    (e : s.heap.get? l = some { cls := .type "list", data := .seq its.toArray n }) (hf : f its.toArray = its'.toArray) (hv : Vals ys its') (hz : ys.length ≤ sizeLine) :
    Inv X pins σ (upd H l (.lst ys)) { s with heap := s.heap.update l (Obj.mapSeq f), toks := t' } := by
  have q := PySem.IsL.update e f
  rw [hf] at q
  refine I.write (x := l) (e := l) (by rw [hH]; exact trivial) (.inl rfl) (fun b' u hb hu => (Heap.get?_update_other s.heap (Obj.mapSeq f) (Ne.symm hb)).trans hu) ⟨_, q⟩ ?_
  exact ⟨hz, its', _, hv, q⟩
theorem Inv.lnew {its : List Value} {t' : Nat} (I : Inv X pins σ H s) (hv : Vals ys its) (hz : ys.length ≤ sizeLine) :
    Inv X pins σ (upd H s.heap.objs.size (.lst ys)) { s with heap := s.heap.push { cls := .type "list", data := .seq its.toArray }, toks := t' } :=
  I.laid (fun _ _ q => Heap.get?_push_of_some _ q) (Nat.le_refl _) ⟨hz, its, 0, hv, Heap.get?_push_size _ rfl⟩
theorem Inv.fresh (I : Inv X pins σ H s) : H s.heap.objs.size = none := I.hok.fresh (Nat.le_refl _)
theorem Inv.lstM (I : Inv X pins σ H s) (hH : H l = some (.lst xs)) : xs.length ≤ sizeLine ∧ ∃ (its : List Value) (n : Nat), Vals xs its ∧ xs.length = its.length ∧ s.heap.get? l = some { cls := .type "list", data := .seq its.toArray n } := by
  obtain ⟨z, its, n, r, e⟩ := I.hok l _ hH
  exact ⟨z, its, n, r, r.length, e⟩
end
section
variable {X : Cx}
def rAppend : V → List V → Hp → VK → Prop := fun x vs H Q => ∃ l xs y, x = .ref l ∧ vs = [y] ∧ H l = some (.lst xs) ∧ xs.length < sizeLine ∧ Q .non (upd H l (.lst (xs ++ [y])))
theorem mt_append : MtM X "list.append" rAppend := by
  intro pins s σ H x vs v us Q I rx rv h
  obtain ⟨l, xs, y, rfl, rfl, hH, hz, q⟩ := h
  cases rx
  obtain ⟨u, rfl, ru⟩ := rv.one
  obtain ⟨z, its, n, r, hl, e⟩ := I.lstM hH
  refine call_meets F.slot_list_append ⟨_, e, rfl⟩ F.entry_list_append (F.args_list_append_2 _ _) (PySem.list_append l its.toArray n u (by rw [List.size_toArray]; omega)) ⟨e, ?_⟩
  refine ⟨.non, _, I.lset (its' := its ++ [u]) hH e (by simp) (r.append (.cons ru .nil)) ?_, rfl, q⟩
  rw [List.length_append, List.length_singleton]
  omega
def rPop : V → List V → Hp → VK → Prop := fun x vs H Q => ∃ l xs y, x = .ref l ∧ vs = [] ∧ H l = some (.lst xs) ∧ xs[xs.length - 1]? = some y ∧ Q y (upd H l (.lst xs.dropLast))
theorem mt_pop : MtM X "list.pop" rPop := by
  intro pins s σ H x vs v us Q I rx rv h
  obtain ⟨l, xs, y, rfl, rfl, hH, hy, q⟩ := h
  cases rx
  have hus := rv.zero
  subst hus
  obtain ⟨z, its, n, r, hl, e⟩ := I.lstM hH
  obtain ⟨u, hu, ru⟩ := r.get hy
  have hy' : its.toArray[its.toArray.size - 1]? = some u := by
    show its.toArray[its.length - 1]? = some u
    rw [← Array.getElem?_toList, ← hl]
    exact hu
  refine call_meets F.slot_list_pop ⟨_, e, rfl⟩ F.entry_list_pop (F.args_list_pop_1 _) (MeetsSeq.list_pop_last l its.toArray n u hy' (by rw [List.size_toArray]; omega)) ⟨e, ?_⟩
  refine ⟨y, _, I.lset (its' := its.dropLast) hH e ?_ r.dropLast ?_, ru, q⟩
  · show its.toArray.eraseIdxIfInBounds (its.toArray.size - 1) = its.dropLast.toArray
    rw [List.size_toArray, List.eraseIdxIfInBounds_toArray, erase_last]
  · rw [List.length_dropLast]
    omega
def rClear : V → List V → Hp → VK → Prop := fun x vs H Q => ∃ l xs, x = .ref l ∧ vs = [] ∧ H l = some (.lst xs) ∧ Q .non (upd H l (.lst []))
theorem mt_clear : MtM X "list.clear" rClear := by
  intro pins s σ H x vs v us Q I rx rv h
  obtain ⟨l, xs, rfl, rfl, hH, q⟩ := h
  cases rx
  have hus := rv.zero
  subst hus
  obtain ⟨z, its, n, r, hl, e⟩ := I.lstM hH
  refine call_meets F.slot_list_clear ⟨_, e, rfl⟩ F.entry_list_clear (F.args_list_clear_1 _) (AutoSeq1.list_clear_list_0 l its.toArray n (by rw [List.size_toArray]; omega)) ⟨e, ?_⟩
  exact ⟨.non, _, I.lset (its' := []) (ys := []) hH e rfl .nil (Nat.zero_le _), rfl, q⟩
end
section
variable {prog : Program} {w : World} {A : Around} {E : Value → Shared → Prop} {s : Shared}
set_option maxRecDepth 100000 in
end
section
variable {X : Cx}
end
end L2
namespace Att
open PySem PySem.W PySem.Calls PyProof.Rows
theorem ints_of_wellAll {P : Params} {h : Heap} : ∀ (ns : List Int) (vs : List Value), WellAll P h vs (ns.map WData.int) → IntsAre vs ns := by
  intro ns
  induction ns with
  | nil =>
    intro vs w
    rw [List.map_nil] at w
    cases w
    exact .nil
  | cons n ns ih =>
    intro vs w
    rw [List.map_cons] at w
    cases w with
    | cons a b =>
      cases a
      exact .cons _ _ (ih _ b)
theorem script_of {l : OpenLaw} {n : Nat} (hn : l.most = some n) {P : Params} {h : Heap} {args : List WData} {vals : List Value}
    (hpre : l.row.toRowW.claim.pre args = true) (hwl : WellAll P h vals args) :
    ∃ a vs ns, vals = [Value.ref a] ∧ args = [WData.list (ns.map WData.int)] ∧ h.get? a = some { cls := .type "list", data := .seq vs.toArray } ∧ IntsAre vs ns ∧ ns.length ≤ n := by
  have hsh : WShape.hasAll [] args [.list .int] = true := (pre_splitW hpre).1
  have hc : l.pre.holds [] { args := args } = true := (pre_splitW hpre).2
  obtain ⟨d, r, rfl, h1, h2⟩ := hasAllW_cons hsh
  obtain rfl := hasAllW_nil h2
  obtain ⟨xs, rfl, h3⟩ := hasW_list h1
  obtain ⟨ns, rfl⟩ := items_int h3
  have hlen : ns.length ≤ n := by
    unfold OpenLaw.pre at hc
    have h4 : (WTm.not (.lt (.lit (.int (n : Int))) (.len (.arg 0)))).holds [] { args := [.list (ns.map .int)] } = true := by
      have h4 := (holds_andW hc).1
      rw [hn] at h4
      exact h4
    have h5 := condW_of h4 (w_not (w_lt w_lit (w_len_list (w_arg rfl))))
    rw [List.length_map] at h5
    refine Nat.le_of_not_lt fun q => ?_
    have q' : (n : Int) < ((ns.length : Nat) : Int) := by omega
    first
      | (rw [decide_eq_true q'] at h5; exact absurd h5 (by decide))
      | (simp at h5; omega)
  cases hwl with
  | cons w1 w2 =>
    cases w2
    cases w1 with
    | list ho hall => exact ⟨_, _, ns, rfl, rfl, ho, ints_of_wellAll ns _ hall, hlen⟩
theorem post_true (l : OpenLaw) (args : List WData) : l.row.toRowW.claim.post args (.bool true) args = true :=
  postW_of (r := l.row.toRowW) (X := (true == true))
    (show WShape.has [] (.bool true) .bool = true by first | rfl | decide | simp [WShape.has, WShape.arms, WShape.armsAll])
    (show (WTm.eq .res (.lit (.bool true))).value [] { args := args, res := some (.bool true), after := args } = some (.bool (true == true)) from w_eq_bool (w_res rfl) w_lit) rfl
section
variable {prog : Program} {w : World} {A : Around} {E : Value → Shared → Prop} {s : Shared} {K : Frag}
end
end Att
namespace L2
open PySem PySem.Spec PyProof.Rows
theorem vals_ints : ∀ {vs : List Value} {ns : List Int}, IntsAre vs ns → Vals (ns.map V.int) vs
  | _, _, .nil => .nil
  | _, _, .cons n t h => .cons ⟨t, rfl⟩ (vals_ints h)
def Only (H : Hp) : Prop := ∀ b, H b = none ∨ ∃ o xs, H b = some (.frz o (.lst xs))
theorem law_call {P : Program} {w : World} {K : PySem.W.Frag} {mg mb : Str → Option Value} {CX : CXT} {k : Nat} {fa a : Addr} {fd : FuncData} {x : Str} {sp : Sp} {s₁ : Shared} {vs : List Value} {ns : List Int}
    (KX : K.In s₁.heap) (hns : s₁.heap.Ns mainGlobals mg) (hb : s₁.heap.Ns builtinsNs mb) (hbb : ∀ x : Str, x ≠ "__name__" → mb x = bootBuiltins x) (hlim : s₁.heap.NoLimit) (hg : s₁.gens = #[])
    (ha : s₁.heap.get? a = some { cls := .type "list", data := .seq vs.toArray }) (hi : IntsAre vs ns) (hl : ns.length ≤ sizeLine) (hr : Room k callerA)
    (F : ∀ base : Heap, K.In base → base.Ns mainGlobals mg → FnOk P w K mg base CX k fa fd [x] sp) (hbind : ∀ (s : Shared) (u : Value), BindsTo s fd ⟨[u], []⟩ [(x, u)])
    (hsp : ∀ H : Hp, Only H → SqL K H a (ns.map V.int) → sp [.ref a] H (fun v _ => v = .bl true) fun _ _ _ => False)
    (hCX : ∀ H e s', CX [] H s₁ (fun _ _ _ => False) e s' → False) :
    codeAny (model P w) callerA (.call (.ref fa) ⟨[.ref a], []⟩) (fun r s' => r = .ok (.ret (.bool true)) ∧ OldK s₁.heap s'.heap ∧ s'.os = s₁.os ∧ AllBare s'.gens) s₁ := by
  have rv := vals_ints hi
  have lenV := hi.length
  -- from an abstract heap in which nothing but the script may be tracked
  have core : ∀ H : Hp, Only H → SqL K H a (ns.map V.int) → HOk P w H s₁.heap → (∀ b, H b ≠ none → b = a) → (H a ≠ none → K.lookup a = none) →
      codeAny (model P w) callerA (.call (.ref fa) ⟨[.ref a], []⟩) (fun r s' => r = .ok (.ret (.bool true)) ∧ OldK s₁.heap s'.heap ∧ s'.os = s₁.os ∧ AllBare s'.gens) s₁ := by
    intro H hO hS hok hA hK
    have base_of : ∀ {b : Addr} {o : Obj}, s₁.heap.get? b = some o → H b = none → (hidT s₁.heap H).get? b = some o := fun e n => hidT_get e n
    have noA : ∀ {b : Addr} {o : Obj} {es : Array DictEntry} {ep : Nat}, s₁.heap.get? b = some o → o.data = .dict es ep → H b = none := fun {b o es ep} e d => by
      cases q : H b with
      | none => rfl
      | some u =>
        have e' : b = a := hA b (by rw [q]; simp)
        subst e'
        rw [ha] at e; cases e
        have d' : Data.seq vs.toArray _ = Data.dict es ep := d
        cases d'
    have nsK : ∀ {b : Addr} {m : Str → Option Value}, s₁.heap.Ns b m → (hidT s₁.heap H).Ns b m := fun {b m} ⟨o, es, ep, e, d, r⟩ => ⟨o, es, ep, base_of e (noA e d), d, r⟩
    have hKb : K.In (hidT s₁.heap H) := fun b o e => base_of (KX b o e) (by
      cases q : H b with
      | none => rfl
      | some u =>
        have e' : b = a := hA b (by rw [q]; simp)
        subst e'
        rw [hK (by rw [q]; simp)] at e; cases e)
    have hM : Mod K mg (hidT s₁.heap H) := ⟨hKb, nsK hns, ⟨mb, nsK hb, hbb⟩, let ⟨mc, h1, h2⟩ := hlim; ⟨mc, nsK h1, h2⟩⟩
    have e0 : Env0 P w K mg (hidT s₁.heap H) callerA [] s₁ H := ⟨rfl, hM, fun b o e => of_hidT e, Nat.le_of_eq (hidT_size _ _), trivial, fun b hb => absurd (show b ∈ ([] : List Addr) from hb) (by simp), hok, .of_eq hg⟩
    refine codeAny_mono ((F _ hKb (nsK hns)).run callerA [] s₁ H ⟨[.ref a], []⟩ [.ref a] [.ref a] _ _ hr e0 (hbind s₁ (.ref a)) (.cons rfl .nil) (hsp H hO hS)) fun r s' h => ?_
    cases r with
    | error e => exact (hCX H e s' h).elim
    | ok fl =>
      cases fl with
      | next => exact False.elim h
      | brk => exact False.elim h
      | cont => exact False.elim h
      | ret u =>
        obtain ⟨v, H', os, bare, un, hok', r', q⟩ := h
        have q' : v = .bl true := q
        subst q'
        obtain rfl : u = Value.bool true := r'
        refine ⟨rfl, OldK.of_keep fun b o e => ?_, os, bare⟩
        cases q : H b with
        | none => exact un.keep b o e q (by intro z; exact absurd (show b ∈ ([] : List Addr) from z) (by simp)) (by simp)
        | some u =>
          rcases hO b with z | ⟨ob, xs, z⟩
          · rw [q] at z; cases z
          · have z2 := un.frzs b ob _ z
            obtain ⟨e1, _⟩ := hok b _ z
            obtain ⟨e2, _⟩ := hok' b _ z2
            rw [e] at e1; cases e1
            exact e2
  cases hk : K.lookup a with
  | some o =>
    -- the script is one of the module's own objects
    have e := KX a o hk
    rw [ha] at e
    cases e
    refine core (fun _ => none) (fun _ => .inl rfl) (.inr ⟨_, vs.toArray, _, hk, rfl, rfl, rfl, by rw [List.size_toArray, lenV]; exact hl, by simpa using rv⟩) (fun b u z => by have z' : (none : Option HO) = some u := z; cases z') (fun b z => absurd rfl z) fun z => absurd rfl z
  | none =>
    refine core (fun b => if b = a then some (.frz { cls := .type "list", data := .seq vs.toArray } (.lst (ns.map V.int))) else none) (fun b => ?_) (.inl (.inr ⟨{ cls := .type "list", data := .seq vs.toArray }, if_pos rfl⟩)) (fun b u z => ?_) (fun b z => ?_) fun _ => hk
    · by_cases hb : b = a
      · exact .inr ⟨_, _, if_pos hb⟩
      · exact .inl (if_neg hb)
    · by_cases hb : b = a
      · have z' := (if_pos hb).symm.trans z
        cases z'
        subst hb
        exact ⟨ha, by rw [List.length_map]; exact hl, vs, _, rv, ha⟩
      · have z' := (if_neg hb).symm.trans z
        cases z'
    · by_cases hb : b = a
      · exact hb
      · exact absurd (if_neg hb) z
end L2
namespace L2
open PySem PySem.Spec PyProof.Rows
end L2
namespace L2
open PySem PySem.Spec PyProof.Rows
def inClass (s : Stmt) (j : Nat) : Stmt := match s with
  | .ClassDef _ _ _ body _ _ _ _ _ _ _ => body.getD j (.Pass ⟨0, 0, 0, 0⟩)
  | _ => .Pass ⟨0, 0, 0, 0⟩
def defArgs (s : Stmt) : Arguments := match s with
  | .FunctionDef _ a _ _ _ _ _ _ _ _ => a
  | _ => { posonlyargs := [], args := [], vararg := none, kwonlyargs := [], kw_defaults := [], kwarg := none, defaults := [] }
def defBody (s : Stmt) : List Stmt := match s with
  | .FunctionDef _ _ b _ _ _ _ _ _ _ => b
  | _ => []
def defScope (s : Stmt) : Scope := match s with
  | .FunctionDef _ _ _ _ _ _ sc _ _ _ => sc
  | _ => { kind := .function, names := [], isGenerator := false, isCoroutine := false }
abbrev CX0 : CXT := fun _ _ _ _ _ _ => False
abbrev E0 : XK := fun _ _ _ => False
theorem pass0 {X : Cx} : Passes CX0 X E0 := fun _ _ _ _ _ _ _ h => h.elim
structure Fun (K : PySem.W.Frag) (x qual : Str) (st : Stmt) (f : Addr) (fd : FuncData) : Prop where
  ex : ∃ (oc : Value) (od : Option Addr) (kV doc pm : Value) (an : Option Addr) (cdv ct : Value) (osl : Array (Option Value)),
    fd = PySem.W.fnOf x qual (defArgs st) (defBody st) (defScope st) .none kV doc pm an cdv ct ∧ K.lookup f = some ⟨oc, od, .func fd, osl⟩ ∧ PySem.W.codeIn K cdv qual = true
  kp : PySem.W.keepIn K (.ref f) = true
section
variable {P : Program} {w : World} {K : PySem.W.Frag} {mg : Str → Option Value} {base : Heap}
theorem Fun.ok {x qual : Str} {st : Stmt} {f : Addr} {fd : FuncData} {N ps : List Str} {k : Nat} {sp : Sp} (F : Fun K x qual st f fd) (S : FnScope N ps (defScope st)) (len : ∀ vs H Q E, sp vs H Q E → vs.length = ps.length)
    (hbody : ∀ (cdv : Value) (A : Around) (outer : List Env) (s : Shared) (H : Hp) (vs : List V) (Q : VK) (E : XK), Room k (A.deeper (envOfC qual (defScope st) s.heap.objs.size f cdv)) → sp vs H Q E →
      ∃ t, PSs (cxOf CX0 P w K mg base N qual (defScope st) f cdv A outer s H E).nox (defBody st) t ∧ t { nx := fun _ H' => Q .non H', rt := Q } (start N vs) H) : FnOk P w K mg base CX0 (k + 1) f fd ps sp := by
  obtain ⟨oc, od, kV, doc, pm, an, cdv, ct, osl, rfl, lk, hcd⟩ := F.ex
  refine fn_of lk hcd S len fun A outer s H vs Q E hr hsp => ?_
  obtain ⟨t, h, q⟩ := hbody cdv A outer s H vs Q E hr hsp
  exact ⟨t, h.nox, q⟩
theorem Fun.binds {x qual : Str} {st : Stmt} {f : Addr} {fd : FuncData} {ps : List Str} (F : Fun K x qual st f fd)
    (h : ∀ (kV doc pm : Value) (an : Option Addr) (cdv ct : Value) (us : List Value), us.length = ps.length → bindArgs (PySem.W.fnOf x qual (defArgs st) (defBody st) (defScope st) .none kV doc pm an cdv ct) ⟨us, []⟩ = pure (ps.zip us)) : Binds K fd ps [] := by
  obtain ⟨oc, od, kV, doc, pm, an, cdv, ct, osl, rfl, lk, hcd⟩ := F.ex
  exact .all (h kV doc pm an cdv ct)
theorem fun_mk {x qual : Str} {st : Stmt} {f : Addr} {oc : Value} {od an : Option Addr} {osl : Array (Option Value)} {kV doc pm cdv ct : Value} (l : K.lookup f = some ⟨oc, od, .func (PySem.W.fnOf x qual (defArgs st) (defBody st) (defScope st) .none kV doc pm an cdv ct), osl⟩)
    (c : PySem.W.codeIn K cdv qual = true) (k : PySem.W.keepIn K (.ref f) = true) : Fun K x qual st f (PySem.W.fnOf x qual (defArgs st) (defBody st) (defScope st) .none kV doc pm an cdv ct) := ⟨⟨oc, od, kV, doc, pm, an, cdv, ct, osl, rfl, l, c⟩, k⟩
end
theorem hu_of {A : Around} {k : Nat} (hr : Room k A) : A.units + 1 < cLine := Nat.lt_of_le_of_lt (Nat.add_le_add_left (by decide : 1 ≤ 64) _) hr.units
section
variable {X : Cx}
theorem pv (i : Nat) {x : Str} {pos : Pos} (hN : X.N[i]? = some x := by rfl) (hv : Vis X.env.scope x := by first | exact Or.inl rfl | exact Or.inr (Or.inl rfl) | exact Or.inr (Or.inr rfl)) (hd : (x == ("__debug__" : Str)) = false := by decide)
    (hcd : (x == ("__classdict__" : Str)) = false := by decide) : PE X (.Name x pos) (tVar i) := pe_var hN hv hd hcd
end
theorem iteF {A B : Prop} (h : B) : if false = true then A else B := by
  rw [if_neg Bool.false_ne_true]
  exact h
theorem iteT {A B : Prop} (h : A) : if true = true then A else B := by
  rw [if_pos rfl]
  exact h
theorem ite2 {c A B : Prop} [Decidable c] (h1 : c → A) (h2 : ¬ c → B) : if c then A else B := by
  by_cases h : c
  · rw [if_pos h]
    exact h1 h
  · rw [if_neg h]
    exact h2 h
def Same (H H' : Hp) : Prop := ∀ b o, H b = some o → H' b = some o
theorem Same.refl (H : Hp) : Same H H := fun _ _ h => h
theorem Same.trans {H H1 H2 : Hp} (a : Same H H1) (b : Same H1 H2) : Same H H2 := fun c o h => b c o (a c o h)
theorem Same.free {H H' : Hp} (e : Same H H') {l : Addr} (h : H' l = Option.none) : H l = Option.none := by
  cases q : H l with
  | none => rfl
  | some o =>
    rw [e l o q] at h
    cases h
theorem Same.seq {K : PySem.W.Frag} {H H' : Hp} {a : Addr} {xs : List V} (e : Same H H') (h : SqL K H a xs) : SqL K H' a xs := by
  rcases h with (h | ⟨o, h⟩) | h
  · exact .inl (.inl (e _ _ h))
  · exact .inl (.inr ⟨o, e _ _ h⟩)
  · exact .inr h
end L2
set_option Elab.async false
set_option linter.all false
set_option maxRecDepth 100000
namespace L2
open PySem PySem.Spec PyProof.Rows
section
variable {X : Cx}
theorem op_mulO : OpR X (binaryOp .Mult) (rI IntMulOk fun i j => .int (i * j)) := opI fun _ _ _ _ _ _ _ hc q => mul_int q hc
theorem mulOk_abs {i j : Int} (m n : Nat) (hi : i.natAbs < 2 ^ m) (hj : j.natAbs < 2 ^ n) (h : m + n ≤ 134217728) : IntMulOk i j :=
  IntMulOk.of_le (intBits_le_iff.mpr hi) (intBits_le_iff.mpr hj) h
def clsV : V → Value
  | .ty n => .type n
  | .ref a => .ref a
  | _ => .none
def isC : V → Bool
  | .ty _ => true
  | .ref _ => true
  | _ => false
theorem clsV_of {c : V} {u : Value} (h : isC c = true) (r : RelV c u) : u = clsV c := by
  cases c with
  | ty n => exact r
  | ref a => exact r
  | _ => cases h
def rIsi (K : PySem.W.Frag) : List V → Hp → VK → Prop := fun xs H Q => ∃ x c t b, xs = [x, c] ∧ isC c = true ∧ TyOf K H x t ∧ PySem.W.kitOne K t (clsV c) = some b ∧ Q (.bl b) H
theorem call_isi : CallR X (.builtin "isinstance") (rIsi X.K) := by
  intro pins s σ H xs us Q I r h
  obtain ⟨x, c, t, b, rfl, hc, ty, e, q⟩ := h
  obtain ⟨v, u, rfl, r1, r2⟩ := vals2 r
  rw [clsV_of hc r2]
  exact isinst_ok I r1 ty e fun tk => ⟨.bl b, H, I.tok _, rfl, q⟩
theorem eqV_self : ∀ {x : V}, flatV x = true → eqV x x = true := by
  intro x h
  cases x <;> first | rfl | (simp [eqV]; done) | (cases h)
structure MkN (K : PySem.W.Frag) (C : Addr) : Prop where
  makes : PySem.W.makesIn K C = true
  init : PySem.W.findIn K (.ref C) "__init__" = some (some (.builtin "object.__init__"))
  kp : PySem.W.keepIn K (.ref C) = true
theorem make_n {prog : Program} {w : World} {A : Around} {s : Shared} {K : PySem.W.Frag} {C : Addr} {R : Result → Shared → Prop} (X : K.In s.heap) (hm : PySem.W.makesIn K C = true)
    (hi : PySem.W.findIn K (.ref C) "__init__" = some (some (.builtin "object.__init__")))
    (h : R (.ok (.ret (.ref (s.heap.objs.size + 1)))) { s with heap := (s.heap.push PySem.W.emptyDict).push (PySem.W.instObj C s.heap.objs.size) }) :
    codeAny (model prog w) A (.call (.ref C) ⟨[], []⟩) R s := by
  obtain ⟨hh, g, d, t, os⟩ := s
  have Y := PySem.W.makes_of (M := model prog w) X hm
  refine PySem.W.make_core Y (PySem.W.looks_findIn X hi) (fun self => PySem.W.Looks.of_pure (PySem.W.oi_bind self)) (.inr ⟨rfl, rfl⟩) ?_
  have e2 : ((hh.push PySem.W.emptyDict).push (PySem.W.instObj C hh.objs.size)).get? (hh.objs.size + 1) = some (PySem.W.instObj C hh.objs.size) := by
    have := Heap.get?_push_size (hh.push PySem.W.emptyDict) (o := PySem.W.instObj C hh.objs.size) rfl
    rwa [Heap.size_push] at this
  have t1 : PySem.W.Looks (model prog w) ((hh.push PySem.W.emptyDict).push (PySem.W.instObj C hh.objs.size)) (typeOf (.ref (hh.objs.size + 1))) (.ref C) := (PySem.W.Looks.ld e2).andThen .now
  have t2 : PySem.W.Looks (model prog w) ((hh.push PySem.W.emptyDict).push (PySem.W.instObj C hh.objs.size)) (isInstance (.ref (hh.objs.size + 1)) (.type "object")) true := t1.andThen (Y.top.keeps fun b o e => Heap.get?_push_of_some _ (Heap.get?_push_of_some _ e))
  refine codeAny_call_builtin PySem.W.oi_plain PySem.W.entry_oi (@PySem.W.check_slot (model prog w) _ _ _ "object.__init__" "object" "__init__" (.ref (hh.objs.size + 1)) [] [] _ PySem.W.oi_kind PySem.W.oi_split t2 (PySem.W.oi_args (.ref (hh.objs.size + 1))) ?_)
  rw [PySem.W.oi_run]
  exact wpAny_pure (And.intro rfl h)
def tMakeN (C : Addr) : TE := fun _ H Q => ∀ x dx, H x = none → H dx = none → dx ≠ x → Q (.ref x) (upd (upd H dx (.own x)) x (.ins C dx []))
theorem pe_makeN {C : Addr} {x : Str} {p pos : Pos} (M : MkN X.K C) (hg : Gl X x) (hm : X.mg x = some (.ref C)) (hdb : (x == ("__debug__" : Str)) = false := by decide) : PE X (.Call (.Name x p) [] [] pos) (tMakeN C) := by
  intro pins s σ H Q I h
  refine wpAny_Call_Name_kw (ld_glob I hg hm ?_ hdb)
  refine PySem.W.callWith_K0 I.kIn M.kp (wpAny_call (make_n I.kIn M.makes M.init ?_))
  exact ⟨.ref (s.heap.objs.size + 1), _, Inv.made (C := C) I, rfl, h _ _ (I.hok.fresh (Nat.le_succ _)) (I.hok.fresh (Nat.le_refl _)) (Nat.ne_of_lt (Nat.lt_succ_self _))⟩
structure MethI {ι : Type} (P : Program) (w : World) (K : PySem.W.Frag) (mg : Str → Option Value) (base : Heap) (k : Nat) (m : Str) (ps : List Str) (C : ι → Addr) (sp : ι → Sp) : Prop where
  ex : ∀ i, Cls K (C i) ∧ ∃ f fd, Meth K (C i) m f ∧ FnOk P w K mg base CX0 k f fd ps (sp i) ∧ Binds K fd ps []
def tMethI {ι : Type} (m : Str) (C : ι → Addr) (sp : ι → Sp) (ta : TE) (t : TA) : TE := fun σ H Q => ta σ H fun x H1 => ∃ i a dx fs, x = .ref a ∧ H1 a = some (.ins (C i) dx fs) ∧ fs.lookup m = none ∧
  t σ H1 fun vs H2 => sp i (x :: (vs ++ [])) H2 Q E0
theorem pe_methI {ι : Type} {C : ι → Addr} {sp : ι → Sp} {k : Nat} {m : Str} {ps : List Str} {o e : Expr} {es : List Expr} {ta : TE} {t : TA} {apos pos : Pos} {pl : Sem Bool} (M : MethI X.prog X.w X.K X.mg X.base k m ps C sp) (he : PE X o ta) (hr : Room k X.A) (ha : PA X (e :: es) t)
    (hst : starEach (e :: es) X.env = (false, eval e X.env) :: starEach es X.env := by rfl) (hpl : (backTo pos (starEach es X.env)).any (·.1) = false := by rfl)
    (ht : eval (.Call (.Attribute o m apos) (e :: es) [] pos) X.env = (do
      let ov ← eval o X.env
      standAt apos.atName
      let (f, first) ← holding [ov] (getMethod ov m pl)
      callWith pos f first (backTo pos (starEach (e :: es) X.env)) (backToKw pos (keywordEach [] X.env))) := by rfl) :
    PE X (.Call (.Attribute o m apos) (e :: es) [] pos) (tMethI m C sp ta t) := by
  intro pins s σ H Q I h
  refine PySem.W.methodCall_KW (pl := pl) (thn (he pins s σ H _ I h) fun u s1 ⟨x, H1, I1, rx, i, a, dx, fs, ex, ea, l, q⟩ => ?_) ht
  subst ex
  obtain rfl : u = Value.ref a := rx
  obtain ⟨c, f, fd, hm, F, hb⟩ := M.ex i
  refine getmeth_ok I1 ea c hm l ?_
  refine PySem.W.callWith_K (first := [.ref a]) (h₀ := X.base) I.ok.mod.kin hm.kp (thn (ha pos pins s1 σ H1 _ I1 q) fun us s2 ⟨vs, H2, I2, r, q2⟩ => ⟨I2.kIn, ?_⟩) hst hpl
  exact run_fn (us := .ref a :: us) (vs := .ref a :: vs) F hr hb .nil pass0 I2 (.cons rfl r) q2
theorem pe_methI0 {ι : Type} {C : ι → Addr} {sp : ι → Sp} {k : Nat} {m : Str} {ps : List Str} {o : Expr} {ta : TE} {apos pos : Pos} {pl : Sem Bool} (M : MethI X.prog X.w X.K X.mg X.base k m ps C sp) (he : PE X o ta) (hr : Room k X.A)
    (ht : eval (.Call (.Attribute o m apos) [] [] pos) X.env = (do
      let ov ← eval o X.env
      standAt apos.atName
      let (f, first) ← holding [ov] (getMethod ov m pl)
      callWith pos f first (backTo pos (starEach [] X.env)) (backToKw pos (keywordEach [] X.env))) := by rfl) :
    PE X (.Call (.Attribute o m apos) [] [] pos) (tMethI m C sp ta tNil) := by
  intro pins s σ H Q I h
  refine PySem.W.methodCall_KW (pl := pl) (thn (he pins s σ H _ I h) fun u s1 ⟨x, H1, I1, rx, i, a, dx, fs, ex, ea, l, q⟩ => ?_) ht
  subst ex
  obtain rfl : u = Value.ref a := rx
  obtain ⟨c, f, fd, hm, F, hb⟩ := M.ex i
  refine getmeth_ok I1 ea c hm l ?_
  exact PySem.W.callWith_K0 (first := [.ref a]) I1.kIn hm.kp (run_fn (us := [.ref a]) (vs := [.ref a]) F hr hb .nil pass0 I1 (.cons rfl .nil) q)
structure Df (P : Program) (w : World) (K : PySem.W.Frag) (mg : Str → Option Value) (base : Heap) (k : Nat) (x : Str) (ps : List Str) (sp : Sp) : Prop where
  ex : ∃ f fd, mg x = some (.ref f) ∧ PySem.W.keepIn K (.ref f) = true ∧ Binds K fd ps [] ∧ FnOk P w K mg base CX0 k f fd ps sp
theorem pe_callD {k : Nat} {x : Str} {ps : List Str} {sp : Sp} {e : Expr} {es : List Expr} {t : TA} {p pos : Pos} (D : Df X.prog X.w X.K X.mg X.base k x ps sp) (hr : Room k X.A) (hg : Gl X x) (ha : PA X (e :: es) t)
    (hdb : (x == ("__debug__" : Str)) = false := by decide) (he : starEach (e :: es) X.env = (false, eval e X.env) :: starEach es X.env := by rfl) (hpl : (backTo pos (starEach es X.env)).any (·.1) = false := by rfl) :
    PE X (.Call (.Name x p) (e :: es) [] pos) (tCall sp [] E0 t) := by
  obtain ⟨f, fd, hm, hk, hb, F⟩ := D.ex
  exact pe_call F hr hg hm hk hb .nil pass0 ha hdb he hpl
end
structure HasF (K : PySem.W.Frag) (x : Str) (st : Stmt) : Prop where
  ex : ∃ (f : Addr) (fd : FuncData), PySem.W.nsIn K mainGlobals x = some (some (.ref f)) ∧ Fun K x x st f fd
theorem hasF_mk {K : PySem.W.Frag} {x : Str} {st : Stmt} {f : Addr} {oc : Value} {od an : Option Addr} {osl : Array (Option Value)} {kV doc pm cdv ct : Value} (a : PySem.W.nsIn K mainGlobals x = some (some (.ref f)))
    (l : K.lookup f = some ⟨oc, od, .func (PySem.W.fnOf x x (defArgs st) (defBody st) (defScope st) .none kV doc pm an cdv ct), osl⟩)
    (c : PySem.W.codeIn K cdv x = true) (k : PySem.W.keepIn K (.ref f) = true) : HasF K x st := ⟨f, _, a, fun_mk l c k⟩
structure HasC (K : PySem.W.Frag) (x : Str) (C : Addr) : Prop where
  ns : PySem.W.nsIn K mainGlobals x = some (some (.ref C))
  cl : Cls K C
  mkn : MkN K C
theorem hasC_mk {K : PySem.W.Frag} {x : Str} {C : Addr} (a : PySem.W.nsIn K mainGlobals x = some (some (.ref C))) (pg : PySem.W.plainGet K C Str.empty = true) (hd : PySem.W.hasDictIn K C = true) (po : PySem.W.plainOver K C = true)
    (sa : PySem.W.findIn K (.ref C) "__setattr__" = some (some (.builtin "object.__setattr__"))) (mk : PySem.W.makesIn K C = true) (i : PySem.W.findIn K (.ref C) "__init__" = some (some (.builtin "object.__init__"))) (kc : PySem.W.keepIn K (.ref C) = true) : HasC K x C :=
  ⟨a, ⟨pg, hd, po, sa⟩, ⟨mk, i, kc⟩⟩
structure HasM (K : PySem.W.Frag) (C : Addr) (m qual : Str) (st : Stmt) : Prop where
  ex : ∃ (f : Addr) (fd : FuncData), Meth K C m f ∧ Fun K m qual st f fd
theorem hasM_mk {K : PySem.W.Frag} {C : Addr} {m qual : Str} {st : Stmt} {f : Addr} {oc : Value} {od an : Option Addr} {osl : Array (Option Value)} {kV doc pm cdv ct : Value} (a : PySem.W.findIn K (.ref C) m = some (some (.ref f))) (i : PySem.W.isFn K (.ref f) = true)
    (l : K.lookup f = some ⟨oc, od, .func (PySem.W.fnOf m qual (defArgs st) (defBody st) (defScope st) .none kV doc pm an cdv ct), osl⟩)
    (c : PySem.W.codeIn K cdv qual = true) (k : PySem.W.keepIn K (.ref f) = true) : HasM K C m qual st := ⟨f, _, ⟨a, i, k⟩, fun_mk l c k⟩
theorem HasF.df {P : Program} {w : World} {K : PySem.W.Frag} {mg : Str → Option Value} {base : Heap} {k : Nat} {x : Str} {st : Stmt} {N ps : List Str} {sp : Sp} (F : HasF K x st) (Kb : K.In base) (G : base.Ns mainGlobals mg) (S : FnScope N ps (defScope st))
    (hbi : ∀ (kV doc pm : Value) (an : Option Addr) (cdv ct : Value) (us : List Value), us.length = ps.length → bindArgs (PySem.W.fnOf x x (defArgs st) (defBody st) (defScope st) .none kV doc pm an cdv ct) ⟨us, []⟩ = pure (ps.zip us))
    (len : ∀ vs H Q E, sp vs H Q E → vs.length = ps.length)
    (hbody : ∀ (f : Addr) (cdv : Value) (A : Around) (outer : List Env) (s : Shared) (H : Hp) (vs : List V) (Q : VK) (E : XK), Room k (A.deeper (envOfC x (defScope st) s.heap.objs.size f cdv)) → sp vs H Q E →
      ∃ t, PSs (cxOf CX0 P w K mg base N x (defScope st) f cdv A outer s H E).nox (defBody st) t ∧ t { nx := fun _ H' => Q .non H', rt := Q } (start N vs) H) : Df P w K mg base (k + 1) x ps sp := by
  obtain ⟨f, fd, a, F⟩ := F.ex
  exact ⟨f, fd, PySem.W.mg_of Kb G a, F.kp, F.binds hbi, F.ok S len (hbody f)⟩
theorem HasM.fn {P : Program} {w : World} {K : PySem.W.Frag} {mg : Str → Option Value} {base : Heap} {k : Nat} {C : Addr} {m qual : Str} {st : Stmt} {N ps : List Str} {sp : Sp} (F : HasM K C m qual st) (S : FnScope N ps (defScope st))
    (hbi : ∀ (kV doc pm : Value) (an : Option Addr) (cdv ct : Value) (us : List Value), us.length = ps.length → bindArgs (PySem.W.fnOf m qual (defArgs st) (defBody st) (defScope st) .none kV doc pm an cdv ct) ⟨us, []⟩ = pure (ps.zip us))
    (len : ∀ vs H Q E, sp vs H Q E → vs.length = ps.length)
    (hbody : ∀ (f : Addr) (cdv : Value) (A : Around) (outer : List Env) (s : Shared) (H : Hp) (vs : List V) (Q : VK) (E : XK), Room k (A.deeper (envOfC qual (defScope st) s.heap.objs.size f cdv)) → sp vs H Q E →
      ∃ t, PSs (cxOf CX0 P w K mg base N qual (defScope st) f cdv A outer s H E).nox (defBody st) t ∧ t { nx := fun _ H' => Q .non H', rt := Q } (start N vs) H) :
    ∃ f fd, Meth K C m f ∧ FnOk P w K mg base CX0 (k + 1) f fd ps sp ∧ Binds K fd ps [] := by
  obtain ⟨f, fd, a, F⟩ := F.ex
  exact ⟨f, fd, a, F.ok S len (hbody f), F.binds hbi⟩
theorem walk_bits {l : PySem.W.OpenLaw} {n k : Nat} {q : Program} {loose : List Str} {XP : (Str → Option Value) → Heap → Prop} {YP : World → Heap → Prop} {d : DefRec} {K : Params → PySem.W.Frag} {CX : World → CXT} {sp : World → List Int → Sp} {x : Str}
    (hn : l.most = some n) (hn2 : n ≤ sizeLine) (hdf : d.params.defaults = []) (hr : Room k callerA)
    (hY : ∀ (w : World) (h : Heap), YP w h → (K w.params).In h)
    (F : ∀ (w : World) (mg : Str → Option Value) (fa : Addr) (h : Heap), (K w.params).In h → h.Ns mainGlobals mg → mg d.name = some (.ref fa) →
      ∃ fd : FuncData, (∀ (s : Shared) (u : Value), BindsTo s fd ⟨[u], []⟩ [(x, u)]) ∧
        ∀ (base : Heap) (ns : List Int), (K w.params).In base → base.Ns mainGlobals mg → ns.length ≤ n → (∀ i ∈ ns, Builtin.Int.intBits i ≤ 1048576) → FnOk l.prog w (K w.params) mg base (CX w) k fa fd [x] (sp w ns))
    (hsp : ∀ (w : World) (H : Hp) (a : Addr) (ns : List Int), ns.length ≤ n → (∀ i ∈ ns, Builtin.Int.intBits i ≤ 1048576) → Only H → SqL (K w.params) H a (ns.map V.int) → sp w ns [.ref a] H (fun v _ => v = .bl true) fun _ _ _ => False)
    (hCX : ∀ (w : World) (H : Hp) (s : Shared) (e : Value) (s' : Shared), CX w [] H s (fun _ _ _ => False) e s' → False) :
    PySem.W.WalkO q loose XP YP l.row.toRowW d [] (fun f vs => PySem.call f vs) := by
  intro w s₀ s₁ mg mb G Y fa o pm cd doc dV kV ho hd hcd hD hmg hg args vals as hpre hlay hrd hwl hlo
  obtain rfl : dV = .none := PySem.W.Dflts.none hD hdf
  obtain rfl : kV = .none := PySem.W.Dflts.noKw hD
  obtain ⟨a, vs, ns, rfl, rfl, hobj, hints, hlen⟩ := Att.script_of hn hpre hwl
  have hbits : ∀ i ∈ ns, Builtin.Int.intBits i ≤ 1048576 := fun i hi => by
    have h1 := PySem.W.layableW_arg hlay _ (List.mem_singleton.mpr rfl)
    have h2 := PySem.W.layableW_item h1 (.int i) (List.mem_map.mpr ⟨i, hi, rfl⟩)
    have h3 : PyData.layableAll0 [.int i] = true := PySem.W.lay0_int h2
    have h4 : PyData.layable0 (.int i) = true := PySem.W.layable0_of_all h3
    exact intBits_le_of_layable h4
  have KX := hY w _ Y
  obtain ⟨fd, hb, hF⟩ := F w mg fa _ KX G.T.g hmg
  refine PySem.W.enter_call (codeAny_mono (law_call KX G.T.g G.T.b G.T.builtins G.T.nolimit hg hobj hints (Nat.le_trans hlen hn2) hr (fun base kb nb => hF base ns kb nb hlen hbits) hb (fun H hO hS => hsp w H a ns hlen hbits hO hS) fun H e s' => hCX w H s₁ e s') fun r s' hq => ?_)
  obtain ⟨rfl, h2, h3, h4⟩ := hq
  exact ⟨.inl ⟨.bool true, .bool true, [], rfl, fun _ => rfl, .bool true, Att.post_true l _, fun _ => ⟨List.Pairwise.nil, fun _ hm => (nomatch hm)⟩⟩, h2, h3, h4⟩
end L2
namespace L2
open PySem PySem.Spec PyProof.Rows
section
variable {σ : St} {H : Hp} {Q : VK} {D : Ends} {ta tb : TE} {v : V} {i j : Int}
theorem i_C (q : Q v H) : tC v σ H Q := q
theorem i_op {r : R2} (q : ta σ H fun x H1 => tb σ H1 fun y H2 => r x y H2 Q) : tOp r ta tb σ H Q := q
theorem i_un {r : V → Hp → VK → Prop} (q : ta σ H fun x H1 => r x H1 Q) : tUn r ta σ H Q := q
theorem i_I0 {g : Int → Int → V} (q : Q (g i j) H) : rI0 g (.int i) (.int j) H Q := ⟨i, j, rfl, rfl, q⟩
theorem i_mod {g : Int → Int → V} (c : 0 < j) (q : Q (g i j) H) : rI (fun _ j => 0 < j) g (.int i) (.int j) H Q := ⟨i, j, rfl, rfl, c, q⟩
theorem i_div {g : Int → Int → V} (c : 0 < j ∧ j < 1073741824) (q : Q (g i j) H) : rI CDiv g (.int i) (.int j) H Q := ⟨i, j, rfl, rfl, c, q⟩
theorem i_pow {g : Int → Int → V} (c : 0 ≤ j ∧ j ≤ 1000000 ∧ i.natAbs < 2 ^ 64) (q : Q (g i j) H) : rI CPow g (.int i) (.int j) H Q := ⟨i, j, rfl, rfl, c, q⟩
theorem i_mul {g : Int → Int → V} (c : IntMulOk i j) (q : Q (g i j) H) : rI IntMulOk g (.int i) (.int j) H Q := ⟨i, j, rfl, rfl, c, q⟩
theorem i_U {g : Int → V} (q : Q (g i) H) : rU g (.int i) H Q := ⟨i, rfl, q⟩
theorem i_test {t : TE} {Q : Bool → Hp → Prop} (q : t σ H fun x H' => ∃ k, x = .bl k ∧ Q k H') : tTest t σ H Q := q
theorem i_B {t : TE} {Q : Bool → Hp → Prop} (q : t σ H fun x H' => ∃ k, x = .bl k ∧ Q k H') : tB t σ H Q := q
theorem i_bl {b : Bool} {P : Bool → Prop} (q : P b) : ∃ k, V.bl b = V.bl k ∧ P k := ⟨b, rfl, q⟩
theorem i_and {t u : TT} {Q : Bool → Hp → Prop} (q : t σ H fun c H1 => if c = true then u σ H1 Q else Q false H1) : tAnd t u σ H Q := q
theorem i_or {t u : TT} {Q : Bool → Hp → Prop} (q : t σ H fun c H1 => if c = true then Q true H1 else u σ H1 Q) : tOr t u σ H Q := q
theorem i_not {t : TT} {Q : Bool → Hp → Prop} (q : t σ H fun c H1 => Q (!c) H1) : tNot t σ H Q := q
theorem i_andV (q : ta σ H fun x H1 => ∃ c, x = .bl c ∧ if c = true then tb σ H1 Q else Q (.bl false) H1) : tAndV ta tb σ H Q := q
theorem i_notV (q : ta σ H fun x H1 => ∃ c, x = .bl c ∧ Q (.bl (!c)) H1) : tNotV ta σ H Q := q
theorem i_ifS {c : TT} {t u : TS} (q : c σ H fun b H1 => if b = true then t D σ H1 else u D σ H1) : tIfS c t u D σ H := q
theorem i_if {c : TT} (q : c σ H fun b H1 => if b = true then ta σ H1 Q else tb σ H1 Q) : tIf c ta tb σ H Q := q
theorem i_seq {t u : TS} (q : t { D with nx := u D } σ H) : tSeq t u D σ H := q
theorem i_ret (q : ta σ H D.rt) : tRet ta D σ H := q
theorem i_next (q : D.nx σ H) : tNext D σ H := q
theorem i_asg {g : TG} (q : ta σ H fun x H1 => g x σ H1 D.nx) : tAsg ta g D σ H := q
theorem i_name {n : Nat} {Q : St → Hp → Prop} (q : Q (σ.set n (some v)) H) : gName n v σ H Q := q
theorem i_drop (q : ta σ H fun _ H1 => D.nx σ H1) : tDrop ta D σ H := q
theorem i_call {sp : Sp} {dvs : List V} {E : XK} {t : TA} (q : t σ H fun vs H1 => sp (vs ++ dvs) H1 Q E) : tCall sp dvs E t σ H Q := q
theorem i_CB {r : List V → Hp → VK → Prop} {t : TA} (q : t σ H fun vs H1 => r vs H1 Q) : tCB r t σ H Q := q
theorem i_nil {Q : List V → Hp → Prop} (q : Q [] H) : tNil σ H Q := q
theorem i_cons {t : TA} {Q : List V → Hp → Prop} (q : ta σ H fun x H1 => t σ H1 fun xs H2 => Q (x :: xs) H2) : tCons ta t σ H Q := q
theorem i_ixL {K : PySem.W.Frag} {p : Addr} {xs : List V} (h : SqL K H p xs) (a : atI xs i = some v) (q : Q v H) : rIx K (.ref p) (.int i) H Q := .inl ⟨p, xs, i, v, rfl, rfl, h, a, q⟩
theorem i_ixT {K : PySem.W.Frag} {p : Addr} {xs : List V} (h : SqT K H p xs) (a : atI xs i = some v) (q : Q v H) : rIx K (.ref p) (.int i) H Q := .inr (.inl ⟨p, xs, i, v, rfl, rfl, h, a, q⟩)
theorem i_iteI {A B : Prop} (h1 : i = j → A) (h2 : ¬ i = j → B) : if decide (V.int i = V.int j) = true then A else B :=
  ite2 (fun h => h1 (V.int.inj (of_decide_eq_true h))) fun h => h2 fun e => h (decide_eq_true (congrArg V.int e))
theorem i_iteD {c A B : Prop} [Decidable c] (h1 : c → A) (h2 : ¬ c → B) : if decide c = true then A else B :=
  ite2 (fun h => h1 (of_decide_eq_true h)) fun h => h2 fun e => h (decide_eq_true e)
theorem i_iteSf {x y : Str} {A B : Prop} (n : ¬ x = y) (q : B) : if decide (V.str x = V.str y) = true then A else B := by
  rw [decide_eq_false fun e => n (V.str.inj e)]; exact iteF q
theorem Same.upd {H' : Hp} {p : Addr} {o : HO} (s : Same H H') (n : H' p = none) : Same H (L2.upd H' p o) := fun b u e => by
  rw [upd_ne (ne_of_none (s b u e) n)]; exact s b u e
theorem Same.new (n : H p = none) : Same H (L2.upd H p o) := Same.upd (Same.refl H) n
end
end L2
namespace L2
open PySem PySem.Spec PyProof.Rows
section
variable {H : Hp} {Q : VK} {i j : Int} {x y : Str}
theorem i_eqI (q : Q (.bl (decide (V.int i = V.int j))) H) : rEq (.int i) (.int j) H Q := ⟨rfl, q⟩
theorem i_eqS (q : Q (.bl (decide (V.str x = V.str y))) H) : rEq (.str x) (.str y) H Q := ⟨rfl, q⟩
theorem i_neI (q : Q (.bl (!decide (V.int i = V.int j))) H) : rNe (.int i) (.int j) H Q := ⟨rfl, q⟩
theorem i_neS (q : Q (.bl (!decide (V.str x = V.str y))) H) : rNe (.str x) (.str y) H Q := ⟨rfl, q⟩
theorem at_ints {ns : List Int} (k : Nat) (h : k < ns.length) : atI (ns.map V.int) (k : Int) = some (.int (ns.getD k 0)) := by
  refine atI_nat ?_
  rw [List.getElem?_map, List.getElem?_eq_getElem h]
  simp [List.getD, h]
end
end L2
namespace Lap
open PySem L2
inductive Dk where
  | sum | less | times | least | most | pick | same | tell | take
  deriving DecidableEq
def Dk.word : Dk → Str
  | .sum => "sum" | .less => "less" | .times => "times" | .least => "least" | .most => "most" | .pick => "pick" | .same => "same" | .tell => "tell" | .take => "take"
def Dk.need : Dk → Nat
  | .pick => 3 | .same => 1 | .tell => 1 | .take => 1 | _ => 2
def Dk.of : Dk → List Int → Int → Int
  | .sum, ns, m => (ns.getD 0 0 + ns.getD 1 0) % m
  | .less, ns, m => (ns.getD 0 0 - ns.getD 1 0) % m
  | .times, ns, m => ns.getD 0 0 * ns.getD 1 0 % m
  | .least, ns, m => if ns.getD 1 0 % m < ns.getD 0 0 % m then ns.getD 1 0 % m else ns.getD 0 0 % m
  | .most, ns, m => if ns.getD 1 0 % m > ns.getD 0 0 % m then ns.getD 1 0 % m else ns.getD 0 0 % m
  | .pick, ns, m => if ns.getD 0 0 % m = 0 then ns.getD 2 0 % m else ns.getD 1 0 % m
  | _, ns, m => ns.getD 0 0 % m
def spOf (K : PySem.W.Frag) (d : Dk) : Sp := fun vs H Q _ => ∃ (a p : Addr) (ns : List Int) (m : Int), vs = [.ref a, .ref p, .int m] ∧ SqL K H p (ns.map V.int) ∧ d.need ≤ ns.length ∧ 0 < m ∧
  (d = .times → IntMulOk (ns.getD 0 0) (ns.getD 1 0)) ∧ Q (.int (d.of ns m)) H
end Lap
namespace L2
open PySem PySem.Spec PyProof.Rows
section
variable {σ : St} {H : Hp} {Q : VK} {D : Ends}
theorem i_methI {ι : Type} {m : Str} {C : ι → Addr} {sp : ι → Sp} {ta : TE} {t : TA} (q : ta σ H fun x H1 => ∃ i a dx fs, x = .ref a ∧ H1 a = some (.ins (C i) dx fs) ∧ fs.lookup m = none ∧ t σ H1 fun vs H2 => sp i (x :: (vs ++ [])) H2 Q E0) : tMethI m C sp ta t σ H Q := q
theorem i_for {wi : TI} {g : TG} {tb : TS} (q : wi σ H fun J H1 => ∃ W : Nat → Nat → St → Hp → Prop, (∃ m, W 0 m σ H1) ∧ ∀ i m σ H, W i m σ H →
  (J.stop i H ∧ D.nx σ H) ∨ (J.go i H ∧ ∃ N : St → Hp → Prop, (∀ σ' H', N σ' H' → ∃ m', m' < m ∧ W (i + 1) m' σ' H') ∧ ∀ x H', J.yld i H x H' → g x σ H' fun σ2 H2 => tb { D with nx := N, ct := N, bk := D.nx } σ2 H2)) : tFor wi g tb D σ H := q
theorem i_rng1 {ta : TA} {R : It → Hp → Prop} (q : ta σ H fun vs H1 => ∃ j : Int, vs = [.int j] ∧ -(2 ^ 62) ≤ j ∧ j < 2 ^ 62 ∧ R (Itr 0 j.toNat) H1) : iRng1 ta σ H R := q
theorem i_list {K : PySem.W.Frag} {tl : TE} {R : It → Hp → Prop} (q : tl σ H fun x H1 => ∃ a, x = .ref a ∧ (∃ xs, SqL K H1 a xs) ∧ R (Itl K a) H1) : iList K tl σ H R := q
end
end L2
namespace L2
theorem iteNT {A B : Prop} (h : B) : if (!true) = true then A else B := iteF h
theorem iteNF {A B : Prop} (h : A) : if (!false) = true then A else B := iteT h
end L2
namespace L2
open PySem PySem.Spec PyProof.Rows
def noStar : Expr → Bool
  | .Starred _ _ => false
  | _ => true
theorem se {e : Expr} {es : List Expr} {env : Env} (h : noStar e = true) : starEach (e :: es) env = (false, eval e env) :: starEach es env := by
  cases e <;> first | rfl | cases h
theorem nst {es : List Expr} {env : Env} {pos : Pos} (h : es.all noStar = true) : (backTo pos (starEach es env)).any (·.1) = false := by
  induction es with
  | nil => rfl
  | cons e es ih =>
    rw [List.all_cons, Bool.and_eq_true] at h
    rw [se h.1]
    show (false || (backTo pos (starEach es env)).any (·.1)) = false
    rw [ih h.2]
    rfl
end L2
set_option Elab.async false
set_option linter.all false
set_option maxRecDepth 100000
namespace L2
open PySem PySem.Spec PyProof.Rows
def capL (env : Env) : List (Str × NameKind) → List (Str × Addr) → List (Str × Addr)
  | [], cs => cs
  | (n, k) :: r, cs => if k == .free then capL env r ((n, (env.cells.lookup n).getD 0) :: cs) else capL env r cs
theorem closure_run {env : Env} : ∀ (names : List (Str × NameKind)) (cs : List (Str × Addr)), (∀ y ∈ names, y.2 = .free → ∃ c, env.cells.lookup y.1 = some c) →
    (forIn names cs fun (x : Str × NameKind) (r : List (Str × Addr)) => (do
      if x.2 == .free then
        let a ← cellOf env x.1
        pure (ForInStep.yield ((x.1, a) :: r))
      else pure (ForInStep.yield r) : Sem (ForInStep (List (Str × Addr))))) = pure (capL env names cs)
  | [], cs, _ => rfl
  | (n, k) :: r, cs, h => by
    have ih := fun cs => closure_run (env := env) r cs fun y hy => h y (List.mem_cons_of_mem _ hy)
    rw [List.forIn_cons]
    by_cases hk : (k == NameKind.free) = true
    · have hk' : k = .free := by simpa using hk
      obtain ⟨c, hc⟩ := h (n, k) List.mem_cons_self hk'
      have hc' : env.cells.lookup n = some c := hc
      simp only [capL, hk, if_true, cellOf, hc', Option.getD_some, pure_bind]
      exact ih _
    · simp only [capL, hk, if_false, pure_bind, Bool.false_eq_true]
      exact ih _
theorem closure_eq {scope : Scope} {env : Env} (h : ∀ y ∈ scope.names, y.2 = .free → ∃ c, env.cells.lookup y.1 = some c) : closureFor scope env = pure (capL env scope.names []) := by
  have e := closure_run scope.names [] h
  unfold closureFor
  simp only [← e, bind_pure]
theorem capL_sub {env : Env} {y : Str} {c : Addr} : ∀ (names : List (Str × NameKind)) (cs : List (Str × Addr)), (∀ y ∈ names, y.2 = .free → ∃ c, env.cells.lookup y.1 = some c) →
    (∀ y c, cs.lookup y = some c → env.cells.lookup y = some c) → (capL env names cs).lookup y = some c → env.cells.lookup y = some c
  | [], cs, _, hs, e => hs y c e
  | (n, k) :: r, cs, h, hs, e => by
    have h' : ∀ y ∈ r, y.2 = .free → ∃ c, env.cells.lookup y.1 = some c := fun y hy => h y (List.mem_cons_of_mem _ hy)
    by_cases hk : (k == NameKind.free) = true
    · have hk' : k = .free := by simpa using hk
      obtain ⟨d, hd⟩ := h (n, k) List.mem_cons_self hk'
      simp only [capL, hk, if_true] at e
      refine capL_sub r _ h' (fun z c' q => ?_) e
      rw [List.lookup_cons] at q
      cases hz : z == n with
      | true =>
        rw [hz] at q
        have hz' : z = n := by simpa using hz
        subst hz'
        have hd' : env.cells.lookup z = some d := hd
        rw [hd', Option.getD_some] at q
        rw [hd']; exact q
      | false => rw [hz] at q; exact hs z c' q
    · simp only [capL, hk, if_false, Bool.false_eq_true] at e
      exact capL_sub r cs h' hs e
theorem capL_keep {env : Env} {y : Str} : ∀ (names : List (Str × NameKind)) (cs : List (Str × Addr)), (∃ c, cs.lookup y = some c) → ∃ c, (capL env names cs).lookup y = some c
  | [], cs, h => h
  | (n, k) :: r, cs, h => by
    by_cases hk : (k == NameKind.free) = true
    · simp only [capL, hk, if_true]
      refine capL_keep r _ ?_
      rw [List.lookup_cons]
      cases y == n with
      | true => exact ⟨_, rfl⟩
      | false => exact h
    · simp only [capL, hk, if_false, Bool.false_eq_true]
      exact capL_keep r cs h
theorem capL_has {env : Env} {y : Str} : ∀ (names : List (Str × NameKind)) (cs : List (Str × Addr)), (y, NameKind.free) ∈ names → ∃ c, (capL env names cs).lookup y = some c
  | (n, k) :: r, cs, h => by
    rcases List.mem_cons.mp h with e | h
    · cases e
      exact capL_keep r _ ⟨(env.cells.lookup y).getD 0, by rw [List.lookup_cons, beq_self_eq_true]⟩
    · by_cases hk : (k == NameKind.free) = true
      · simp only [capL, hk, if_true]; exact capL_has r _ h
      · simp only [capL, hk, if_false, Bool.false_eq_true]; exact capL_has r cs h
theorem lookup_mem {α : Type} {x : Str} {k : α} : ∀ {l : List (Str × α)}, l.lookup x = some k → (x, k) ∈ l
  | [], h => by simp at h
  | (n, k') :: r, h => by
    rw [List.lookup_cons] at h
    cases hx : x == n with
    | true =>
      rw [hx] at h
      have : x = n := by simpa using hx
      subst this; cases h; exact List.mem_cons_self
    | false => rw [hx] at h; exact List.mem_cons_of_mem _ (lookup_mem h)
theorem relabel_look {env : Env} {y : Str} {k : NameKind} : ∀ {names : List (Str × NameKind)}, (∀ z ∈ names, z.2 ≠ .cell) →
    (names.map fun (n, k) => if (k == NameKind.free && env.scope.kind == .function && env.kindOf n == some .cell) then (n, NameKind.cell) else (n, k)).lookup y = some k →
    names.lookup y = some k ∨ (k = .cell ∧ names.lookup y = some .free)
  | [], _, h => by simp at h
  | (n, k') :: r, hc, h => by
    have ih := @relabel_look env y k r fun z hz => hc z (List.mem_cons_of_mem _ hz)
    rw [List.map_cons, List.lookup_cons] at h
    rw [List.lookup_cons]
    by_cases hk : (k' == NameKind.free && env.scope.kind == .function && env.kindOf n == some .cell) = true
    · have h' := h
      rw [if_pos hk] at h'
      dsimp only at h'
      cases hy : y == n with
      | true =>
        rw [hy] at h'
        have e1 : NameKind.cell = k := Option.some.inj h'
        have e2 : k' = .free := by
          rw [Bool.and_eq_true, Bool.and_eq_true] at hk
          simpa using hk.1.1
        exact .inr ⟨e1.symm, by rw [e2]⟩
      | false => rw [hy] at h'; exact ih h'
    · have h' := h
      rw [if_neg hk] at h'
      dsimp only at h'
      cases hy : y == n with
      | true => rw [hy] at h'; exact .inl h'
      | false => rw [hy] at h'; exact ih h'
def blk (X : Cx) (scope : Scope) (x : Str) (caps : List Str) (C : Addr) (s₀ : Shared) (H₀ : Hp) (ex : List Addr) : Cx :=
  { X with N := x :: caps, env := compEnvC scope (capL X.env scope.names []) C X.env, s₀ := s₀, H₀ := H₀, outer := X.stack, stack := X.stack, ex := ex, fn := fun _ => false, xe := fun _ _ => False }
structure Blk (X : Cx) (scope : Scope) (x : Str) (caps : List Str) (ix : List Nat) : Prop where
  kind : scope.kind = .function
  cell : ∀ y ∈ scope.names, y.2 ≠ .cell
  loc : scope.names.lookup x = some .local
  names : ∀ y ∈ scope.names, y.2 = .local → scope.names.lookup y.1 = some .local
  free : ∀ y ∈ scope.names, y.2 = .free → X.env.kindOf y.1 = some .cell ∨ X.env.kindOf y.1 = some .free
  len : caps.length = ix.length
  nd : (x :: caps).Nodup
  ix : ∀ (j : Nat) (y : Str) (i : Nat), caps[j]? = some y → ix[j]? = some i → X.N[i]? = some y ∧ scope.names.lookup y = some .free
def capV (ix : List Nat) (σ : St) : St := ix.map fun i => (σ[i]?).join
theorem Blk.cells {X : Cx} {scope : Scope} {x : Str} {caps : List Str} {ix : List Nat} (B : Blk X scope x caps ix) (ok : X.Ok) : ∀ y ∈ scope.names, y.2 = .free → ∃ c, X.env.cells.lookup y.1 = some c :=
  fun y hy e => ok.has y.1 (B.free y hy e)
theorem Blk.sub {X : Cx} {scope : Scope} {x : Str} {caps : List Str} {ix : List Nat} (B : Blk X scope x caps ix) (ok : X.Ok) {y : Str} {c : Addr} (e : (capL X.env scope.names []).lookup y = some c) : X.env.cells.lookup y = some c :=
  capL_sub _ _ (B.cells ok) (fun _ _ q => by simp at q) e
theorem Blk.freeOf {X : Cx} {scope : Scope} {x : Str} {caps : List Str} {ix : List Nat} {C : Addr} (B : Blk X scope x caps ix) {y : Str} {k : NameKind} (e : (compEnvC scope (capL X.env scope.names []) C X.env).kindOf y = some k) (hk : k = .cell ∨ k = .free) : scope.names.lookup y = some .free := by
  rcases relabel_look (env := X.env) B.cell (show (scope.names.map _).lookup y = some k from e) with q | ⟨_, q⟩
  · rcases hk with rfl | rfl
    · exact absurd rfl (B.cell _ (lookup_mem q))
    · exact q
  · exact q
def blkOk (sc scope : Scope) (N : List Str) (x : Str) (caps : List Str) (ix : List Nat) : Bool :=
  scope.kind == .function && scope.names.all (fun y => y.2 != .cell) && scope.names.lookup x == some .local && scope.names.all (fun y => y.2 != .local || scope.names.lookup y.1 == some .local) &&
  scope.names.all (fun y => y.2 != .free || (sc.names.lookup y.1 == some .cell || sc.names.lookup y.1 == some .free)) && caps.length == ix.length && decide (x :: caps).Nodup &&
  (caps.zip ix).all (fun p => N[p.2]? == some p.1 && scope.names.lookup p.1 == some .free)
theorem Blk.of {X : Cx} {scope : Scope} {x : Str} {caps : List Str} {ix : List Nat} (h : blkOk X.env.scope scope X.N x caps ix = true) : Blk X scope x caps ix := by
  unfold blkOk at h
  simp only [Bool.and_eq_true] at h
  obtain ⟨⟨⟨⟨⟨⟨⟨h1, h2⟩, h3⟩, h4⟩, h5⟩, h6⟩, h7⟩, h8⟩ := h
  refine ⟨by simpa using h1, fun y hy => by simpa using List.all_eq_true.mp h2 y hy, by simpa using h3, fun y hy e => ?_, fun y hy e => ?_, by simpa using h6, of_decide_eq_true h7, fun j y i e1 e2 => ?_⟩
  · have := List.all_eq_true.mp h4 y hy
    rw [e] at this
    simpa using this
  · have := List.all_eq_true.mp h5 y hy
    rw [e] at this
    have this : (X.env.scope.names.lookup y.1 == some NameKind.cell || X.env.scope.names.lookup y.1 == some NameKind.free) = true := by simpa using this
    rw [Bool.or_eq_true] at this
    rcases this with z | z
    · exact .inl (show X.env.scope.names.lookup y.1 = _ by simpa using z)
    · exact .inr (show X.env.scope.names.lookup y.1 = _ by simpa using z)
  · have hm : (y, i) ∈ caps.zip ix := by
      refine List.mem_iff_getElem?.mpr ⟨j, ?_⟩
      rw [List.getElem?_zip_eq_some]
      exact ⟨e1, e2⟩
    have := List.all_eq_true.mp h8 _ hm
    rw [Bool.and_eq_true] at this
    exact ⟨by simpa using this.1, by simpa using this.2⟩
def PF (X : Cx) (ifs : List Expr) (t : TT) : Prop :=
  ∀ (pins : List (Addr × Obj)) (s : Shared) (σ : St) (H : Hp) (Q : Bool → Hp → Prop), Inv X pins σ H s → t σ H Q →
    wpAny (model X.prog X.w) X.A (forIn ifs true fun c r => if r = true then do let ok ← isTrue c X.env (eval c X.env); pure (ForInStep.yield ok) else pure (ForInStep.yield r)) (TP X pins σ Q) X.xe s
def tYes : TT := fun _ H Q => Q true H
theorem pf_nil {X : Cx} : PF X [] tYes := fun _ _ _ H _ I h => wpAny_tests_nil ⟨H, I, h⟩
theorem pf_one {X : Cx} {c : Expr} {t : TT} (h : PT X c t) : PF X [c] t := fun pins s σ H Q I q => wpAny_tests_one (h pins s σ H Q I q)
def tLc (wi : TI) (tf : TT) (te : TE) (ix : List Nat) : TE := fun σ H Q => wi σ H fun J H1 => ∀ D, H1 D = none → ∃ W : Nat → Nat → List V → Hp → Prop, (∃ m, W 0 m [] (upd H1 D (.lst []))) ∧ ∀ i m ys H, W i m ys H →
  H D = some (.lst ys) ∧ ((J.stop i H ∧ Q (.ref D) H) ∨ (J.go i H ∧ ys.length < sizeLine ∧ ∀ x H', J.yld i H x H' → tf (some x :: capV ix σ) H' fun b H2 =>
    if b = true then te (some x :: capV ix σ) H2 fun y H3 => H3 D = some (.lst ys) ∧ ∃ m', m' < m ∧ W (i + 1) m' (ys ++ [y]) (upd H3 D (.lst (ys ++ [y]))) else ∃ m', m' < m ∧ W (i + 1) m' ys H2))
section
variable {X : Cx} {scope : Scope} {x : Str} {caps : List Str} {ix : List Nat} {pins : List (Addr × Obj)} {σ : St} {H : Hp} {s : Shared}
theorem blk_ok (B : Blk X scope x caps ix) (I : Inv X pins σ H s) {fp : List Addr} (f : ∀ b ∈ fp, FpOk X pins H b) (fo : ∀ b ∈ fp, b < s.heap.objs.size) : (blk X scope x caps s.heap.objs.size s H fp).Ok where
  mod := I.ok.mod
  kind := B.kind
  glob := I.ok.glob
  blt := I.ok.blt
  above := Nat.le_refl _
  inj := fun y z c e1 e2 => I.ok.inj y z c (B.sub I.ok e1) (B.sub I.ok e2)
  has := fun y h => by
    have q : scope.names.lookup y = some .free := by
      rcases h with h | h
      · exact B.freeOf h (.inl rfl)
      · exact B.freeOf h (.inr rfl)
    exact capL_has _ _ (lookup_mem q)
  cab := fun _ _ h => nomatch h
  hd := I.ok.hd
  frames := I.ok.frames
  stk := .inl rfl
  exf := fun b hb => ⟨Nat.ne_of_lt (fo b hb), fun y c e => (f b hb).2.2.2.2.1 y c (B.sub I.ok e)⟩
  bs := I.bs
  bsz := Nat.le_trans I.ok.bsz I.sz
  noex := fun b o e hb => by
    rcases (f b hb).2.2.2.1 with z | z
    · exact I.ok.noex b o e z
    · have := (I.ok.bs b o e).1; rw [z] at this; cases this
  exfs := fun b hb z => by
    rcases List.mem_cons.mp (I.stkSub b z) with q | q
    · exact (f b hb).2.1 q
    · exact (f b hb).2.2.1 q
  funs := I.stack
  frf := I.stkFree
theorem capV_get {j : Nat} {v : V} (h : (capV ix σ)[j]? = some (some v)) : ∃ i, ix[j]? = some i ∧ σ[i]? = some (some v) := by
  unfold capV at h
  rw [List.getElem?_map] at h
  cases e : ix[j]? with
  | none => rw [e] at h; cases h
  | some i =>
    rw [e] at h
    have h' : (σ[i]?).join = some v := Option.some.inj h
    refine ⟨i, rfl, ?_⟩
    cases q : σ[i]? with
    | none => rw [q] at h'; cases h'
    | some o => rw [q] at h'; exact congrArg some h'
theorem blk_inv (B : Blk X scope x caps ix) (I : Inv X pins σ H s) {fp : List Addr} (f : ∀ b ∈ fp, FpOk X pins H b) (fo : ∀ b ∈ fp, b < s.heap.objs.size) {h' : Heap} {t' : Nat} (hn : h'.Ns s.heap.objs.size (fun _ => none)) (k : ∀ b o, s.heap.get? b = some o → h'.get? b = some o) :
    Inv (blk X scope x caps s.heap.objs.size s H fp) pins (none :: capV ix σ) H { s with heap := h', toks := t' } where
  ok := blk_ok B I f fo
  os := rfl
  bare := I.bare
  base := Un.kept k
  loc := by
    refine ⟨_, hn, fun i y v e1 e2 e3 => ?_⟩
    cases i with
    | zero => cases e2
    | succ j =>
      have e1' : caps[j]? = some y := e1
      have e2' : (capV ix σ)[j]? = some (some v) := e2
      obtain ⟨i, hi, hv⟩ := capV_get e2'
      obtain ⟨hN, hf⟩ := B.ix j y i e1' hi
      obtain ⟨m, hm, hl⟩ := I.loc
      have hk := B.free _ (lookup_mem hf) rfl
      have hvis : Vis X.env.scope y := by
        rcases hk with q | q
        · exact .inr (.inl q)
        · exact .inr (.inr q)
      obtain ⟨u, ru, lk⟩ := hl i y v hN hv hvis
      refine ⟨u, ru, .inr ?_⟩
      obtain ⟨c', hc'⟩ := capL_has (env := X.env) scope.names [] (lookup_mem hf)
      have hc := B.sub I.ok hc'
      refine ⟨?_, c', hc', ?_⟩
      · have hvv : (compEnvC scope (capL X.env scope.names []) s.heap.objs.size X.env).kindOf y = some .local ∨ _ := e3
        rcases hvv with q | q
        · rcases relabel_look (env := X.env) B.cell (show (scope.names.map _).lookup y = some NameKind.local from q) with z | ⟨z, _⟩
          · rw [hf] at z; cases z
          · cases z
        · exact q
      · rcases lk with ⟨l, _⟩ | ⟨_, c, ec, z⟩
        · rcases hk with q | q <;> (rw [q] at l; cases l)
        · have ecc : c = c' := Option.some.inj (ec.symm.trans hc)
          rw [← ecc]
          obtain ⟨o, ho, hd⟩ := z
          exact ⟨o, k _ _ ho, hd⟩
  cell := fun y c e => by
    obtain ⟨v, o, ho, hd⟩ := I.cell y c (B.sub I.ok e)
    exact ⟨v, o, k _ _ ho, hd⟩
  free := I.hok.fresh (Nat.le_refl _)
  freeC := fun y c e => I.freeC y c (B.sub I.ok e)
  pin := fun p hp => by
    obtain ⟨e, n, ne, nf, d⟩ := I.pin p hp
    refine ⟨k _ _ e, n, Nat.ne_of_lt (Heap.lt_size e), fun z => ?_, d⟩
    rcases List.mem_cons.mp (I.stkSub _ z) with q | q
    · exact ne q
    · exact nf q
  hok := I.hok.kept k
  len := by
    show (none :: capV ix σ).length = (x :: caps).length
    rw [List.length_cons, List.length_cons, capV, List.length_map, B.len]
theorem blk_out (I : Inv X pins σ H s) {fp : List Addr} (f : ∀ b ∈ fp, FpOk X pins H b) {σ' : St} {H' : Hp} {s' : Shared} (I' : Inv (blk X scope x caps s.heap.objs.size s H fp) pins σ' H' s') : Inv X pins σ H' s' ∧ FpOk X pins H' s.heap.objs.size := by
  have fC : FpOk X pins H' s.heap.objs.size := I.fpOk (Nat.le_refl _) I'.free
  refine ⟨I.call' (ch := fp) I'.os I'.base I'.hok I'.bare fun b hb => ?_, fC⟩
  obtain ⟨f0, f1, f2, f3, f4, f5⟩ := f b hb
  exact ⟨f3, f1, f4, f5⟩
theorem lc_core {elt iter : Expr} {ifs : List Expr} {px pos pos' : Pos} {wi : TI} {tf : TT} {te : TE} {use : Option (Value → Sem Unit)} {R : VK} {QQ : Value → Shared → Prop}
    (B : Blk X scope x caps ix) (hc : X.calm = true) (hi : PI X (.Name x px) iter wi) (hf : ∀ C s₀ H₀ ex, PF (blk X scope x caps C s₀ H₀ ex) ifs tf) (he : ∀ C s₀ H₀ ex, PE (blk X scope x caps C s₀ H₀ ex) elt te)
    (I : Inv X pins σ H s) (h : tLc wi tf te ix σ H R)
    (hQ : ∀ (v : V) (u : Value) (H' : Hp) (C : Addr) (m : Str → Option Value) (s' : Shared), Inv X pins σ H' s' → RelV v u → R v H' → FpOk X pins H' C → s'.heap.Ns C m → compPost (model X.prog X.w) X.A X.xe use QQ u C (.ok .next) s')
    (hs : ∀ x, foldedSetIterable iter X.env x = pure x) :
    wpAny (model X.prog X.w) X.A (comprehension (.ListComp elt [⟨.Name x px, iter, ifs, 0⟩] scope pos) scope X.env pos' (newList []) false (eval iter X.env) use) QQ X.xe s := by
  refine wpAny_comprehension_free rfl hs (closure_eq (B.cells I.ok)) B.kind B.names (thn (hi pins s σ H _ I h) fun xv s1 h1 => thn h1 fun itv s2 h2 => ?_)
  obtain ⟨it, fp, tn, J, H2, e, I2, T, st2, f2, rest⟩ := h2
  subst e
  refine wpAny_newObj_type (wpAny_newFunctionEnv B.cell (by intro y hy; simp at hy) (fun h₁ hns₁ hsb₁ => ?_) B.kind)
  have hD : H2 s2.heap.objs.size = none := I2.fresh
  obtain ⟨W, ⟨m0, w0⟩, turn⟩ := rest s2.heap.objs.size hD
  generalize hDn : s2.heap.objs.size = D at *
  have I3 : Inv X pins σ (upd H2 D (.lst [])) { s2 with heap := s2.heap.push { cls := .type "list", data := .seq ([] : List Value).toArray } } := by
    have := I2.lnew (ys := []) (its := []) (t' := s2.toks) .nil (Nat.zero_le _)
    rw [hDn] at this
    exact this
  generalize hs3 : ({ s2 with heap := s2.heap.push { cls := .type "list", data := .seq ([] : List Value).toArray } } : Shared) = s3 at *
  have fpD : ∀ b ∈ fp, b ≠ D := fun b hb => by
    obtain ⟨o, e, _⟩ := T.obj _ _ st2 b hb
    rw [← hDn]; exact Nat.ne_of_lt (Heap.lt_size e)
  have up3 : ∀ b o, s2.heap.get? b = some o → s3.heap.get? b = some o := fun b o e => by rw [← hs3]; exact Heap.get?_push_of_some _ e
  have f3 : ∀ b ∈ fp, FpOk X pins (upd H2 D (.lst [])) b := fun b hb => by
    obtain ⟨f0, fr⟩ := f2 b hb
    exact ⟨by rw [upd_ne (fpD b hb)]; exact f0, fr⟩
  have st3 : tn 0 s3.heap := T.keep _ _ _ st2 fun b _ o e => up3 b o e
  have fo : ∀ b ∈ fp, b < s3.heap.objs.size := fun b hb => by
    obtain ⟨o, e, _⟩ := T.obj _ _ st3 b hb
    exact Heap.lt_size e
  have eh : s2.heap.push { cls := .type "list", data := .seq ([] : List Value).toArray } = s3.heap := by rw [← hs3]
  have es : ∀ (g : Heap) (t : Nat), ({ s2 with heap := g, toks := t } : Shared) = { s3 with heap := g, toks := t } := fun g t => by rw [← hs3]
  have hn1 : h₁.Ns s3.heap.objs.size (fun _ => none) := hns₁
  have k1 : ∀ b o, s3.heap.get? b = some o → h₁.get? b = some o := fun b o e => by
    exact hsb₁.extBut b o (Nat.ne_of_lt (Heap.lt_size e)) (Heap.get?_push_of_some _ e)
  have I4 := blk_inv B I3 f3 fo (t' := s3.toks + ([] : List (Str × Value)).length) hn1 k1
  have st4 : tn 0 h₁ := T.keep _ _ _ st3 fun b _ o e => k1 b o e
  have post : ∀ σ' H' s', Inv (blk X scope x caps s3.heap.objs.size s3 (upd H2 D (.lst [])) fp) pins σ' H' s' → R (.ref D) H' → compPost (model X.prog X.w) X.A X.xe use QQ (.ref D) s3.heap.objs.size (.ok .next) s' := fun σ' H' s' I' r => by
    obtain ⟨I5, fC⟩ := blk_out I3 f3 I'
    obtain ⟨m, hm, _⟩ := I'.loc
    exact hQ (.ref D) _ H' _ m s' I5 rfl r fC hm
  have loop : codeAny (model X.prog X.w) X.A (.compLoop (.ListComp elt [⟨.Name x px, iter, ifs, 0⟩] scope pos) 0 (.ref it) (.ref D) (blk X scope x caps s3.heap.objs.size s3 (upd H2 D (.lst [])) fp).env)
      (compPost (model X.prog X.w) X.A X.xe use QQ (.ref D) s3.heap.objs.size) { s3 with heap := h₁, toks := s3.toks + ([] : List (Str × Value)).length } := by
    have fpc : ∀ {H' : Hp}, (∀ b ∈ fp, H' b = none) → ∀ b ∈ fp, FpOk (blk X scope x caps s3.heap.objs.size s3 (upd H2 D (.lst [])) fp) pins H' b := fun hn b hb => by
      obtain ⟨f0, f1, f2, f3, f4, f5⟩ := f3 b hb
      refine ⟨hn b hb, Nat.ne_of_lt (fo b hb), fun z => ?_, .inl hb, fun y c e => f4 y c (B.sub I3.ok e), f5⟩
      rcases List.mem_cons.mp (I3.stkSub b z) with q | q
      · exact f1 q
      · exact f2 q
    have hfx := hf s3.heap.objs.size s3 (upd H2 D (.lst [])) fp
    have hex := he s3.heap.objs.size s3 (upd H2 D (.lst [])) fp
    have hgx : PG (blk X scope x caps s3.heap.objs.size s3 (upd H2 D (.lst [])) fp) (.Name x px) (gName 0) := pg_name B.nd rfl (.inl (lookup_relabel_local B.loc)) (.inr (lookup_relabel_local B.loc))
    have hcx : (blk X scope x caps s3.heap.objs.size s3 (upd H2 D (.lst [])) fp).calm = true := hc
    refine codeAny_compLoop_tests (fun n s' => ∃ i ys H' o, Inv (blk X scope x caps s3.heap.objs.size s3 (upd H2 D (.lst [])) fp) pins (o :: capV ix σ) H' s' ∧ tn i s'.heap ∧ (∀ b ∈ fp, H' b = none) ∧ W i n ys H') ?_ m0
      ⟨0, [], _, none, I4, st4, fun b hb => (f3 b hb).1, w0⟩
    rintro n s5 ⟨i, ys, H5, o5, I5, st5, fr5, w5⟩
    obtain ⟨hD5, hstep⟩ := turn i n ys H5 w5
    rcases hstep with ⟨stop, r⟩ | ⟨go, hz, step⟩
    · refine thn (T.done (blk X scope x caps s3.heap.objs.size s3 (upd H2 D (.lst [])) fp) rfl rfl rfl hcx i pins s5 _ H5 _ I5 (fpc fr5) st5 stop) fun r' s6 ⟨hr, I6⟩ => ?_
      subst hr
      exact post _ _ _ I6 r
    · refine thn (T.item (blk X scope x caps s3.heap.objs.size s3 (upd H2 D (.lst [])) fp) rfl rfl rfl hcx i pins s5 _ H5 _ I5 (fpc fr5) st5 go) fun r' s6 ⟨u, hr, h6⟩ => ?_
      subst hr
      show wpAny _ _ (letOwnedTupleGo (.Name x px) (.ref it) u >>= fun _ => assign (.Name x px) (blk X scope x caps s3.heap.objs.size s3 (upd H2 D (.lst [])) fp).env u) _ _ _
      refine wpAny_bind (thn h6 fun _ s7 ⟨v, H7, I7, rv, y7, st7, fr7⟩ => ?_)
      have I7' := I7.pinned (fpc fr7) (T.obj _ _ st7)
      refine wpAny_mono (hgx _ s7 _ H7 v u _ I7' rv (show gName 0 v _ H7 (fun σ' H' => σ' = some v :: capV ix σ ∧ H' = H7) from ⟨rfl, rfl⟩)) (fun _ s8 ⟨σ8, H8, I8, e8, eH8⟩ => ?_) fun _ _ f => f.elim
      subst e8 eH8
      refine wpAny_mono (hfx _ s8 _ _ _ I8 (step v _ y7)) (fun ok s9 ⟨H9, I9, q9⟩ => ?_) fun _ _ f => f.elim
      have again : ∀ {n' : Nat} {ys' : List V} {HA : Hp} {sA : Shared}, n' < n → Inv (blk X scope x caps s3.heap.objs.size s3 (upd H2 D (.lst [])) fp) (pins ++ pinsAt fp s7.heap) (some v :: capV ix σ) HA sA → W (i + 1) n' ys' HA →
          ∃ m, m < n ∧ ∃ i ys H' o, Inv (blk X scope x caps s3.heap.objs.size s3 (upd H2 D (.lst [])) fp) pins (o :: capV ix σ) H' sA ∧ tn i sA.heap ∧ (∀ b ∈ fp, H' b = none) ∧ W i m ys H' := fun {n' ys' HA sA} hn IA wA => by
        refine ⟨n', hn, i + 1, ys', HA, _, IA.unpinned, T.keep _ _ _ st7 fun b hb o e => (IA.pin (b, o) (List.mem_append_right _ (List.mem_append_right _ (mem_pinsAt hb e)))).1, fun b hb => ?_, wA⟩
        obtain ⟨o, e, d⟩ := T.obj _ _ st7 b hb
        exact (IA.pin (b, o) (List.mem_append_right _ (List.mem_append_right _ (mem_pinsAt hb e)))).2.1
      cases ok with
      | false =>
        obtain ⟨n', hn, wA⟩ := q9
        exact again hn I9 wA
      | true =>
        refine wpAny_mono (hex _ s9 _ _ _ I9 q9) (fun u9 sA ⟨vA, HA, IA, rA, hDA, n', hn, wA⟩ => ?_) fun _ _ f => f.elim
        refine wpAny_mono (mt_append (X := blk X scope x caps s3.heap.objs.size s3 (upd H2 D (.lst [])) fp) _ sA _ HA (.ref D) [vA] (.ref D) [u9] (fun _ HB => W (i + 1) n' (ys ++ [vA]) HB) IA rfl (.cons rA .nil) ⟨D, ys, vA, rfl, rfl, hDA, hz, wA⟩) (fun _ sB ⟨_, HB, IB, _, wB⟩ => ?_) fun _ _ f => f.elim
        exact again hn IB wB
  exact codeAny_compStart_list loop (T.self _ 0 _ _ _ st4 loop)
theorem pe_lc {elt iter : Expr} {ifs : List Expr} {px pos : Pos} {wi : TI} {tf : TT} {te : TE} (B : Blk X scope x caps ix) (hc : X.calm = true) (hi : PI X (.Name x px) iter wi)
    (hf : ∀ C s₀ H₀ ex, PF (blk X scope x caps C s₀ H₀ ex) ifs tf) (he : ∀ C s₀ H₀ ex, PE (blk X scope x caps C s₀ H₀ ex) elt te) (hs : ∀ x, foldedSetIterable iter X.env x = pure x := by intro _; rfl) :
    PE X (.ListComp elt [⟨.Name x px, iter, ifs, 0⟩] scope pos) (tLc wi tf te ix) := by
  intro pins s σ H Q I h
  rw [eval_ListComp]
  refine lc_core (use := none) B hc hi hf he I h (fun v u H' C m s' I' r q fC hn => ⟨m, hn, fun h' sb => ⟨v, H', ?_, r, q⟩⟩) hs
  obtain ⟨f0, f1, f2, f3, f4, f5⟩ := fC
  exact I'.turned (t' := s'.toks) (fun b o hb e => (sb.2 b hb).trans e) f0 f1 f3 f4 f5
def tSetLc (i : Nat) (t : TE) : TS := fun D σ H => t σ H fun v H' => D.nx (σ.set i (some v)) H'
theorem ps_lc {i : Nat} {y : Str} {elt iter : Expr} {ifs : List Expr} {px py pos spos : Pos} {wi : TI} {tf : TT} {te : TE} (hN : X.N.Nodup) (hy : X.N[i]? = some y) (hl : X.env.kindOf y = some .local)
    (hsw : swapsWith (.ListComp elt [⟨.Name x px, iter, ifs, 0⟩] scope pos) (some (.Name y py)) spos.line X.env = pure true) (B : Blk X scope x caps ix) (hc : X.calm = true) (hi : PI X (.Name x px) iter wi)
    (hf : ∀ C s₀ H₀ ex, PF (blk X scope x caps C s₀ H₀ ex) ifs tf) (he : ∀ C s₀ H₀ ex, PE (blk X scope x caps C s₀ H₀ ex) elt te) (hs : ∀ x, foldedSetIterable iter X.env x = pure x := by intro _; rfl) :
    PS X (.Assign [.Name y py] (.ListComp elt [⟨.Name x px, iter, ifs, 0⟩] scope pos) spos) (tSetLc i (tLc wi tf te ix)) := by
  intro pins s σ H D I h
  rw [exec_Assign_Name_used _ _ _ _ hsw]
  refine wpAny_bind (wpAny_standAt (wpAny_bind ?_))
  show wpAny _ X.A (do let _ ← comprehension (.ListComp elt [⟨.Name x px, iter, ifs, 0⟩] scope pos) scope X.env _ (newList []) false (eval iter X.env) (some (assign (.Name y py) X.env))) _ _ s
  refine wpAny_bind (wpAny_mono (lc_core (use := some (assign (.Name y py) X.env)) (QQ := fun _ s' => SP X pins D .next s') B hc hi hf he I h (fun v u H' C m s' I' r q fC hn => ?_) hs) (fun _ s' hq => wpAny_pure (wpAny_pure hq)) fun _ _ e => e)
  obtain ⟨oC, esC, epC, hoC, hdC, rC⟩ := id hn
  have I1 : Inv X (pins ++ pinsAt [C] s'.heap) σ H' s' := I'.pinned (fun b hb => by rw [List.mem_singleton.mp hb]; exact fC) (fun b hb => ⟨oC, by rw [List.mem_singleton.mp hb]; exact hoC, fun v z => by rw [hdC] at z; cases z⟩)
  show wpAny _ X.A (assign (.Name y py) X.env u) _ _ s'
  refine wpAny_assign_Name (store_ok I1 hN hy (.inl hl) r (fun s'' I2 => ?_) (.inr hl))
  have hC2 := I2.pin (C, oC) (List.mem_append_right _ (List.mem_append_right _ (mem_pinsAt (List.mem_singleton.mpr rfl) hoC)))
  refine ⟨m, ⟨oC, esC, epC, hC2.1, hdC, rC⟩, fun h' sb => ⟨σ.set i (some v), H', ?_, q⟩⟩
  obtain ⟨f0, f1, f2, f3, f4, f5⟩ := fC
  exact I2.unpinned.turned (t' := s''.toks) (fun b o hb e => (sb.2 b hb).trans e) f0 f1 f3 f4 f5
end
theorem i_lc {wi : TI} {tf : TT} {te : TE} {ix : List Nat} {σ : St} {H : Hp} {Q : VK} (q : wi σ H fun J H1 => ∀ D, H1 D = none → ∃ W : Nat → Nat → List V → Hp → Prop, (∃ m, W 0 m [] (upd H1 D (.lst []))) ∧ ∀ i m ys H, W i m ys H →
  H D = some (.lst ys) ∧ ((J.stop i H ∧ Q (.ref D) H) ∨ (J.go i H ∧ ys.length < sizeLine ∧ ∀ x H', J.yld i H x H' → tf (some x :: capV ix σ) H' fun b H2 =>
    if b = true then te (some x :: capV ix σ) H2 fun y H3 => H3 D = some (.lst ys) ∧ ∃ m', m' < m ∧ W (i + 1) m' (ys ++ [y]) (upd H3 D (.lst (ys ++ [y]))) else ∃ m', m' < m ∧ W (i + 1) m' ys H2))) : tLc wi tf te ix σ H Q := q
theorem i_setLc {i : Nat} {t : TE} {D : Ends} {σ : St} {H : Hp} (q : t σ H fun v H' => D.nx (σ.set i (some v)) H') : tSetLc i t D σ H := q
theorem lc_list {K : PySem.W.Frag} {a : Addr} {xs : List V} {te : TE} {cs : St} {H1 : Hp} {Q : VK} (f : V → V) (hS : SqL K H1 a xs) (hz : xs.length ≤ sizeLine)
    (hx : ∀ (i : Nat) (v : V) (H' : Hp) (R : VK), xs[i]? = some v → Same H1 H' → R (f v) H' → te (some v :: cs) H' R) (q : ∀ D, H1 D = none → Q (.ref D) (upd H1 D (.lst (xs.map f)))) :
    ∀ D, H1 D = none → ∃ W : Nat → Nat → List V → Hp → Prop, (∃ m, W 0 m [] (upd H1 D (.lst []))) ∧ ∀ i m ys H, W i m ys H →
      H D = some (.lst ys) ∧ (((Itl K a).stop i H ∧ Q (.ref D) H) ∨ ((Itl K a).go i H ∧ ys.length < sizeLine ∧ ∀ x H', (Itl K a).yld i H x H' → tYes (some x :: cs) H' fun b H2 =>
        if b = true then te (some x :: cs) H2 fun y H3 => H3 D = some (.lst ys) ∧ ∃ m', m' < m ∧ W (i + 1) m' (ys ++ [y]) (upd H3 D (.lst (ys ++ [y]))) else ∃ m', m' < m ∧ W (i + 1) m' ys H2)) := by
  intro D hD
  refine ⟨fun i m ys H => m = xs.length - i ∧ i ≤ xs.length ∧ ys = (xs.take i).map f ∧ H = upd H1 D (.lst ys), ⟨xs.length, by simp, Nat.zero_le _, by simp, rfl⟩, ?_⟩
  rintro i m ys H ⟨rfl, hi, hys, rfl⟩
  have s1 : Same H1 (upd H1 D (.lst ys)) := Same.upd (Same.refl H1) hD
  have q1 := s1.seq hS
  refine ⟨upd_same, ?_⟩
  by_cases hlt : i < xs.length
  · have hyl : ys.length = i := by rw [hys, List.length_map, List.length_take]; omega
    refine .inr ⟨⟨xs, xs[i], q1, by simp [hlt]⟩, by omega, fun x H' y => ?_⟩
    obtain ⟨e, y⟩ := y
    subst e
    have hxi := y xs q1
    unfold tYes; dsimp only
    rw [if_pos rfl]
    refine (hx i x _ _ hxi s1 ⟨upd_same, xs.length - (i + 1), by omega, rfl, hlt, ?_, by rw [upd_upd]⟩)
    rw [List.take_add_one, List.map_append, ← hys, hxi]; rfl
  · have e : i = xs.length := by omega
    subst e
    refine .inl ⟨⟨xs, q1, Nat.le_refl _⟩, ?_⟩
    rw [hys, List.take_length]
    exact q D hD
def tJoin (t : TS) : TS := fun D σ H => ∃ J : St → Hp → Prop, t { D with nx := J } σ H ∧ ∀ σ' H', J σ' H' → D.nx σ' H'
theorem ps_join {X : Cx} {st : Stmt} {t : TS} (h : PS X st t) : PS X st (tJoin t) := by
  intro pins s σ H D I q
  obtain ⟨J, q, hJ⟩ := q
  refine thn (h pins s σ H _ I q) fun f s' z => ?_
  cases f with
  | next => obtain ⟨σ', H', I', z⟩ := z; exact ⟨σ', H', I', hJ _ _ z⟩
  | brk => exact z
  | cont => exact z
  | ret v => exact z
theorem i_join {t : TS} {D : Ends} {σ : St} {H : Hp} (J : St → Hp → Prop) (h1 : t { D with nx := J } σ H) (h2 : ∀ σ' H', J σ' H' → D.nx σ' H') : tJoin t D σ H := ⟨J, h1, h2⟩
theorem i_sl {r : V → Option Int → Option Int → Hp → VK → Prop} {te : TE} {tl th : TO} {σ : St} {H : Hp} {Q : VK} (q : te σ H fun x H1 => tl σ H1 fun l H2 => th σ H2 fun u H3 => r x l u H3 Q) : tSl r te tl th σ H Q := q
theorem i_noPart {σ : St} {H : Hp} {Q : Option Int → Hp → Prop} (q : Q none H) : tNoPart σ H Q := q
theorem i_part {t : TE} {σ : St} {H : Hp} {Q : Option Int → Hp → Prop} (q : t σ H fun x H1 => ∃ i, x = .int i ∧ Q (some i) H1) : tPart t σ H Q := q
theorem i_partI {i : Int} {P : Int → Prop} (q : P i) : ∃ j, V.int i = .int j ∧ P j := ⟨i, rfl, q⟩
structure New (H : Hp) (p : Addr) (o : HO) (H2 : Hp) : Prop where
  free : H p = none
  eq : H2 = upd H p o
theorem New.at {H H2 : Hp} {p : Addr} {o : HO} (n : New H p o H2) : H2 p = some o := by rw [n.eq]; exact upd_same
theorem New.same {H H2 : Hp} {p : Addr} {o : HO} (n : New H p o H2) : Same H H2 := by rw [n.eq]; exact Same.new n.free
theorem New.lst {K : PySem.W.Frag} {H H2 : Hp} {p : Addr} {xs : List V} (n : New H p (.lst xs) H2) : SqL K H2 p xs := .inl (.inl n.at)
theorem New.tup {K : PySem.W.Frag} {H H2 : Hp} {p : Addr} {xs : List V} (n : New H p (.tup xs) H2) : SqT K H2 p xs := .inl (.inl n.at)
theorem Same.tup {K : PySem.W.Frag} {H H' : Hp} {a : Addr} {xs : List V} (e : Same H H') (h : SqT K H a xs) : SqT K H' a xs := by
  rcases h with (h | ⟨o, h⟩) | h
  · exact .inl (.inl (e _ _ h))
  · exact .inl (.inr ⟨o, e _ _ h⟩)
  · exact .inr h
section
variable {X : Cx} {es : List Expr} {t : TA} {pos : Pos}
def tTupA (t : TA) : TE := fun σ H Q => t σ H fun xs H1 => xs.length ≤ sizeLine ∧ ∀ p H2, New H1 p (.tup xs) H2 → Q (.ref p) H2
def tLstA (t : TA) : TE := fun σ H Q => t σ H fun xs H1 => xs.length ≤ sizeLine ∧ ∀ p H2, New H1 p (.lst xs) H2 → Q (.ref p) H2
theorem pe_tupA {x1} (h : PA X es t) : PE X (.Tuple es x1 pos) (tTupA t) := by
  intro pins s σ H Q I hq
  refine wpAny_Tuple_spliced (thn (h pos pins s σ H _ I hq) fun us s1 ⟨xs, H1, I1, r, z, q⟩ => ⟨by rw [← r.length]; exact z, ?_⟩)
  have hf : H1 s1.heap.objs.size = none := I1.hok.fresh (Nat.le_refl _)
  refine ⟨.ref s1.heap.objs.size, upd H1 s1.heap.objs.size (.tup xs), I1.laid (t' := s1.toks) (fun b u e => Heap.get?_push_of_some _ e) (Nat.le_refl _) ?_, rfl, q _ _ ⟨hf, rfl⟩⟩
  exact ⟨z, us, r, ⟨_, Heap.get?_push_size _ rfl, rfl, _, rfl⟩⟩
theorem pe_lstA (h : PA X es t) : PE X (.List es pos) (tLstA t) := by
  intro pins s σ H Q I hq
  refine wpAny_List_spliced (thn (h pos pins s σ H _ I hq) fun us s1 ⟨xs, H1, I1, r, z, q⟩ => ⟨by rw [← r.length]; exact z, ?_⟩)
  have hf : H1 s1.heap.objs.size = none := I1.hok.fresh (Nat.le_refl _)
  refine ⟨.ref s1.heap.objs.size, upd H1 s1.heap.objs.size (.lst xs), I1.laid (t' := s1.toks) (fun b u e => Heap.get?_push_of_some _ e) (Nat.le_refl _) ?_, rfl, q _ _ ⟨hf, rfl⟩⟩
  exact ⟨z, us, 0, r, Heap.get?_push_size _ rfl⟩
theorem CallR.imp {f : Value} {r r' : List V → Hp → VK → Prop} (h : CallR X f r) (i : ∀ xs H Q, r' xs H Q → r xs H Q) : CallR X f r' := fun pins s σ H xs us Q I rv q => h pins s σ H xs us Q I rv (i _ _ _ q)
def rListA (K : PySem.W.Frag) : List V → Hp → VK → Prop := fun xs H Q => ∃ p ys, xs = [.ref p] ∧ (SqL K H p ys ∨ SqT K H p ys) ∧ ∀ l H2, New H l (.lst ys) H2 → Q (.ref l) H2
theorem call_listA : CallR X (.type "list") (rListA X.K) := call_list_of.imp fun xs H Q ⟨p, ys, e, h, q⟩ => ⟨p, ys, e, h, fun l hl => q l _ ⟨hl, rfl⟩⟩
def rTupleA (K : PySem.W.Frag) : List V → Hp → VK → Prop := fun xs H Q => ∃ p ys, xs = [.ref p] ∧ ((SqL K H p ys ∧ ∀ l H2, New H l (.tup ys) H2 → Q (.ref l) H2) ∨ (SqT K H p ys ∧ Q (.ref p) H))
theorem call_tupleA : CallR X (.type "tuple") (rTupleA X.K) := call_tuple_of.imp fun xs H Q ⟨p, ys, e, h⟩ => ⟨p, ys, e, h.imp (fun ⟨a, q⟩ => ⟨a, fun l hl => q l _ ⟨hl, rfl⟩⟩) id⟩
def rSlLA (K : PySem.W.Frag) : V → Option Int → Option Int → Hp → VK → Prop := fun x lo hi H Q => ∃ a xs, x = .ref a ∧ SqL K H a xs ∧ ∀ p H2, New H p (.lst (cutV xs lo hi)) H2 → Q (.ref p) H2
theorem sl_listA : SlR X (rSlLA X.K) := fun pins s σ H x v vl vu lo hi sl Q I rx hs pl pu ⟨a, xs, e, h, q⟩ => sl_list pins s σ H x v vl vu lo hi sl Q I rx hs pl pu ⟨a, xs, e, h, fun p hp => q p _ ⟨hp, rfl⟩⟩
end
section
variable {K : PySem.W.Frag} {σ : St} {H : Hp} {Q : VK} {p : Addr} {xs : List V}
theorem i_lstA {t : TA} (q : t σ H fun xs H1 => xs.length ≤ sizeLine ∧ ∀ p H2, New H1 p (.lst xs) H2 → Q (.ref p) H2) : tLstA t σ H Q := q
theorem i_tupA {t : TA} (q : t σ H fun xs H1 => xs.length ≤ sizeLine ∧ ∀ p H2, New H1 p (.tup xs) H2 → Q (.ref p) H2) : tTupA t σ H Q := q
theorem i_listAL (h : SqL K H p xs) (q : ∀ l H2, New H l (.lst xs) H2 → Q (.ref l) H2) : rListA K [.ref p] H Q := ⟨p, xs, rfl, .inl h, q⟩
theorem i_tupleAL (h : SqL K H p xs) (q : ∀ l H2, New H l (.tup xs) H2 → Q (.ref l) H2) : rTupleA K [.ref p] H Q := ⟨p, xs, rfl, .inl ⟨h, q⟩⟩
theorem i_tupleAT (h : SqT K H p xs) (q : Q (.ref p) H) : rTupleA K [.ref p] H Q := ⟨p, xs, rfl, .inr ⟨h, q⟩⟩
theorem i_slLA {lo hi : Option Int} (h : SqL K H p xs) (q : ∀ l H2, New H l (.lst (cutV xs lo hi)) H2 → Q (.ref l) H2) : rSlLA K (.ref p) lo hi H Q := ⟨p, xs, rfl, h, q⟩
end
structure NewI (H : Hp) (x dx C : Addr) (fs : List (Str × V)) (H2 : Hp) : Prop where
  fx : H x = none
  fd : H dx = none
  ne : dx ≠ x
  eq : H2 = upd (upd H dx (.own x)) x (.ins C dx fs)
theorem NewI.at {H H2 : Hp} {x dx C : Addr} {fs : List (Str × V)} (n : NewI H x dx C fs H2) : H2 x = some (.ins C dx fs) := by rw [n.eq]; exact upd_same
theorem NewI.same {H H2 : Hp} {x dx C : Addr} {fs : List (Str × V)} (n : NewI H x dx C fs H2) : Same H H2 := by
  rw [n.eq]; exact Same.upd (Same.new n.fd) (by rw [upd_ne n.ne.symm]; exact n.fx)
theorem i_iteSe {x y : Str} {A B : Prop} (n : x = y) (q : A) : if decide (V.str x = V.str y) = true then A else B := by
  rw [decide_eq_true (congrArg V.str n)]; exact iteT q
theorem lcL {K : PySem.W.Frag} {a : Addr} {te : TE} {cs : St} {H1 : Hp} {Q : Addr → Hp → Prop} (xs : List V) (f : V → V) (hS : SqL K H1 a xs) (hz : xs.length ≤ sizeLine)
    (hx : ∀ (i : Nat) (v : V) (H' : Hp) (R : VK), xs[i]? = some v → Same H1 H' → R (f v) H' → te (some v :: cs) H' R) (q : ∀ D H2, New H1 D (.lst (xs.map f)) H2 → Q D H2) :
    ∃ a', V.ref a = .ref a' ∧ (∃ xs, SqL K H1 a' xs) ∧ ∀ D, H1 D = none → ∃ W : Nat → Nat → List V → Hp → Prop, (∃ m, W 0 m [] (upd H1 D (.lst []))) ∧ ∀ i m ys H, W i m ys H →
      H D = some (.lst ys) ∧ (((Itl K a').stop i H ∧ Q D H) ∨ ((Itl K a').go i H ∧ ys.length < sizeLine ∧ ∀ x H', (Itl K a').yld i H x H' → tYes (some x :: cs) H' fun b H2 =>
        if b = true then te (some x :: cs) H2 fun y H3 => H3 D = some (.lst ys) ∧ ∃ m', m' < m ∧ W (i + 1) m' (ys ++ [y]) (upd H3 D (.lst (ys ++ [y]))) else ∃ m', m' < m ∧ W (i + 1) m' ys H2)) :=
  ⟨a, rfl, ⟨xs, hS⟩, fun D hD => by
    obtain ⟨W, w0, h⟩ := lc_list (K := K) (Q := fun v H => ∃ D, v = .ref D ∧ Q D H) (te := te) (cs := cs) f hS hz hx (fun D hD => ⟨D, rfl, q D _ ⟨hD, rfl⟩⟩) D hD
    refine ⟨W, w0, fun i m ys H w => ?_⟩
    obtain ⟨a1, a2⟩ := h i m ys H w
    refine ⟨a1, a2.imp (fun ⟨st, D', e, q'⟩ => ⟨st, ?_⟩) id⟩
    cases e; exact q'⟩
theorem sqL_inj_of {K : PySem.W.Frag} {a : Addr} {xs : List V} {H : Hp} (h : H a = some (.lst xs)) : SqL K H a xs := .inl (.inl h)
end L2
namespace Lap
open PySem L2
def spDeedA (C : Dk → Addr) : Sp := fun vs H Q _ => ∃ d : Dk, vs = [.str d.word] ∧ ∀ x dx H2, NewI H x dx (C d) [] H2 → Q (.ref x) H2
end Lap
set_option Elab.async false
set_option linter.all false
set_option maxRecDepth 100000
namespace L2
open PySem PySem.Spec PyProof.Rows
section
variable {X : Cx} {pins : List (Addr × Obj)} {σ : St} {H : Hp} {s : Shared}
end
section
variable {X : Cx} {pins : List (Addr × Obj)} {σ : St} {H : Hp} {s : Shared} {e : Addr} {c : Value} {d : Option Addr} {M : Model} {E : Value → Shared → Prop} {Q : Unit → Shared → Prop}
end
section
variable {X : Cx} {pins : List (Addr × Obj)} {σ : St} {H H' : Hp} {s : Shared} {b : Addr}
end
section
variable {X : Cx} {CX : CXT} {k : Nat} {f C : Addr} {fd : FuncData} {ps : List Str} {sp : Sp} {ES : XS} {x m : Str} {p pos apos : Pos} {e o : Expr} {es : List Expr} {ta : TE} {t : TA}
end
section
variable {P : Program} {w : World} {K : PySem.W.Frag} {mg : Str → Option Value} {base : Heap}
end
end L2
set_option Elab.async false
set_option linter.all false
set_option maxRecDepth 100000
namespace L2
open PySem PySem.Spec PySem.W PyProof.Rows
section
variable {prog : Program} {w : World} {A : Around} {E : Value → Shared → Prop} {K : PySem.W.Frag} {h : Heap} {g : Array GenState} {d : Drawn} {t : Nat} {os : OsState} {e C : Addr} {oe : Obj} {od : Option Obj} {name : Str}
end
section
variable {X : Cx} {ES : XS} {x : Str} {C : Addr} {np cpos pos : Pos} {a : Expr} {rest : List Expr} {t : TA}
end
end L2
set_option Elab.async false
set_option linter.all false
set_option maxRecDepth 100000
namespace L2
open PySem PySem.Spec PySem.W PyProof.Rows
section
variable {X : Cx} {A : Around} {calm : Bool} {pn pins pins' : List (Addr × Obj)} {xe : Value → Shared → Prop} {σ σ' : St} {H : Hp} {s : Shared} {e : Addr} {o : HO}
theorem Inv.track (I : Inv X pins σ H s) (f : FpOk X pins H e) (new : ObjOk X.prog X.w (upd H e o) s.heap e o) : Inv X pins σ (upd H e o) s := by
  obtain ⟨f0, f1, f2, f3, f4, f5⟩ := f
  have hne : ∀ b u, H b = some u → b ≠ e := fun b u q => ne_of_none q f0
  refine ⟨I.ok, I.os, I.bare, ⟨I.base.keep, I.base.slot, fun b ob q n hx => ?_, I.base.there, fun b xs q => ?_, fun b ob u q => ?_, fun b ps q => ?_⟩, I.loc, I.cell, ?_, fun x c q => ?_, fun p hp => ?_, fun b u q => ?_, I.len⟩
  · have hb : b ≠ e := fun z => by
      subst z
      rcases f3 with w | w
      · exact hx w
      · rw [w] at q; cases q
    rw [upd_ne hb]; exact I.base.free b ob q n hx
  · have := I.base.tups b xs q; rw [upd_ne (hne _ _ this)]; exact this
  · have := I.base.frzs b ob u q; rw [upd_ne (hne _ _ this)]; exact this
  · obtain ⟨more, this⟩ := I.base.tbls b ps q; exact ⟨more, by rw [upd_ne (hne _ _ this)]; exact this⟩
  · rw [upd_ne (Ne.symm f1)]; exact I.free
  · rw [upd_ne (f4 x c q)]; exact I.freeC x c q
  · obtain ⟨a, b, c, d⟩ := I.pin p hp
    exact ⟨a, by rw [upd_ne (f5 p hp)]; exact b, c, d⟩
  · by_cases z : b = e
    · subst z
      rw [upd_same] at q; cases q; exact new
    · rw [upd_ne z] at q
      refine (I.hok b u q).stay (fun _ _ _ q => q) (fun c q => ?_) fun c xs q => ?_
      · rw [upd_ne (hne _ _ q)]; exact q
      · rw [upd_ne (hne _ _ q)]; exact q
end
section
variable {X : Cx} {pins : List (Addr × Obj)} {σ : St} {H : Hp} {s : Shared} {e C Cy : Addr}
end
section
variable {X : Cx} {es : List Expr} {t : TJ} {te : TE} {e : Expr} {pos : Pos} {z : Str} {k : Option Nat}
end
end L2
set_option Elab.async false
set_option linter.all false
set_option maxRecDepth 100000
namespace L2
open PySem PySem.Spec PyProof.Rows
section
variable {κ : Type} [DecidableEq κ]
def valV (kvs : List (κ × V)) (k : κ) : Option V := (kvs.find? fun kv => decide (kv.1 = k)).map (·.2)
def putK (kvs : List (κ × V)) (k : κ) (v : V) : List (κ × V) :=
  if (kvs.any fun kv => decide (kv.1 = k)) = true then kvs.map (fun kv => if kv.1 = k then (kv.1, v) else kv) else kvs ++ [(k, v)]
theorem valV_nil {k : κ} : valV ([] : List (κ × V)) k = none := rfl
theorem valV_pos {p : κ × V} {r : List (κ × V)} {k : κ} (e : p.1 = k) : valV (p :: r) k = some p.2 := by simp [valV, List.find?_cons, e]
theorem valV_neg {p : κ × V} {r : List (κ × V)} {k : κ} (e : ¬ p.1 = k) : valV (p :: r) k = valV r k := by simp [valV, List.find?_cons, e]
theorem valV_any (k : κ) : ∀ kvs : List (κ × V), (kvs.any fun kv => decide (kv.1 = k)) = (valV kvs k).isSome
  | [] => rfl
  | p :: r => by
    rw [List.any_cons]
    by_cases e : p.1 = k
    · simp only [valV_pos e, decide_eq_true e, Bool.true_or, Option.isSome_some]
    · rw [valV_neg e, decide_eq_false e, Bool.false_or]; exact valV_any k r
theorem valV_map (k j : κ) (y : V) : ∀ kvs : List (κ × V), valV (kvs.map fun kv => if kv.1 = k then (kv.1, y) else kv) j = (valV kvs j).map fun x => if j = k then y else x
  | [] => rfl
  | p :: r => by
    have ih := valV_map k j y r
    rw [List.map_cons]
    by_cases h : p.1 = k
    · rw [if_pos h]
      by_cases e : p.1 = j
      · rw [valV_pos (p := (p.1, y)) e, valV_pos e, Option.map_some, if_pos (e.symm.trans h)]
      · rw [valV_neg (p := (p.1, y)) e, valV_neg e, ih]
    · rw [if_neg h]
      by_cases e : p.1 = j
      · rw [valV_pos (p := p) e, valV_pos e, Option.map_some, if_neg (fun z => h (e.trans z))]
      · rw [valV_neg (p := p) e, valV_neg e, ih]
theorem valV_snoc (k j : κ) (y : V) : ∀ kvs : List (κ × V), valV kvs k = none → valV (kvs ++ [(k, y)]) j = if j = k then some y else valV kvs j
  | [], _ => by
    by_cases e : k = j
    · rw [if_pos e.symm]; exact valV_pos (p := (k, y)) e
    · rw [if_neg (fun z => e z.symm)]; exact valV_neg (p := (k, y)) e
  | p :: r, hn => by
    rw [List.cons_append]
    have hk : ¬ p.1 = k := fun z => by rw [valV_pos z] at hn; cases hn
    rw [valV_neg hk] at hn
    have ih := valV_snoc k j y r hn
    by_cases e : p.1 = j
    · rw [valV_pos e, valV_pos e, if_neg (fun z => hk (e.trans z))]
    · rw [valV_neg e, valV_neg e, ih]
theorem valV_put (kvs : List (κ × V)) (k j : κ) (y : V) : valV (putK kvs k y) j = if j = k then some y else valV kvs j := by
  unfold putK
  by_cases a : (kvs.any fun kv => decide (kv.1 = k)) = true
  · rw [if_pos a, valV_map]
    rw [valV_any] at a
    by_cases e : j = k
    · obtain ⟨x, hx⟩ := Option.isSome_iff_exists.mp a
      rw [if_pos e, e, hx, Option.map_some, if_pos rfl]
    · rw [if_neg e]
      cases valV kvs j with
      | none => rfl
      | some x => rw [Option.map_some, if_neg e]
  · rw [if_neg a]
    refine valV_snoc k j y kvs ?_
    rw [valV_any] at a
    cases q : valV kvs k with
    | none => rfl
    | some x => rw [q] at a; exact (a rfl).elim
theorem length_putK (kvs : List (κ × V)) (k : κ) (v : V) : (putK kvs k v).length ≤ kvs.length + 1 := by
  unfold putK
  split
  · rw [List.length_map]; omega
  · rw [List.length_append, List.length_cons, List.length_nil]; omega
theorem putK_new {kvs : List (κ × V)} {k : κ} (v : V) (h : valV kvs k = none) : putK kvs k v = kvs ++ [(k, v)] := by
  unfold putK
  rw [valV_any, h]
  exact if_neg (by decide)
theorem RelO.isSome_eq {o : Option V} {u : Option Value} (r : RelO o u) : o.isSome = u.isSome := by
  cases o with
  | none => cases u with
    | none => rfl
    | some _ => exact (show False from r).elim
  | some _ => cases u with
    | none => exact (show False from r).elim
    | some _ => rfl
theorem RelO.getD {o : Option V} {u : Option Value} {d : V} {d' : Value} (r : RelO o u) (rd : RelV d d') : RelV (o.getD d) (u.getD d') := by
  cases o with
  | none => cases u with
    | none => exact rd
    | some _ => exact (show False from r).elim
  | some _ => cases u with
    | none => exact (show False from r).elim
    | some _ => exact r
theorem KV.val {kvs : List (κ × V)} {vs : List (κ × Value)} (r : KV kvs vs) (k : κ) : RelO (valV kvs k) (valueAt vs k) := by
  unfold KV at r
  induction r with
  | nil => exact True.intro
  | @cons p q ps qs h t ih =>
    obtain ⟨h1, h2⟩ := h
    by_cases e : p.1 = k
    · have e' : q.1 = k := h1.symm.trans e
      have b : valueAt (q :: qs) k = some q.2 := by simp [valueAt, List.find?_cons, e']
      rw [valV_pos e, b]; exact h2
    · have e' : ¬ q.1 = k := fun z => e (h1.trans z)
      have b : valueAt (q :: qs) k = valueAt qs k := by simp [valueAt, List.find?_cons, e']
      rw [valV_neg e, b]; exact ih
theorem KV.any {kvs : List (κ × V)} {vs : List (κ × Value)} (r : KV kvs vs) (k : κ) : (kvs.any fun kv => decide (kv.1 = k)) = vs.any fun kv => decide (kv.1 = k) := by
  unfold KV at r
  induction r with
  | nil => rfl
  | cons h t ih => rw [List.any_cons, List.any_cons, ih, h.1]
theorem KV.repl {kvs : List (κ × V)} {vs : List (κ × Value)} (r : KV kvs vs) (k : κ) {y : V} {u : Value} (ry : RelV y u) :
    KV (kvs.map fun kv => if kv.1 = k then (kv.1, y) else kv) (vs.map fun kv => if kv.1 = k then (kv.1, u) else kv) := by
  unfold KV at r ⊢
  induction r with
  | nil => exact .nil
  | @cons p q ps qs h t ih =>
    rw [List.map_cons, List.map_cons]
    refine .cons ?_ ih
    obtain ⟨h1, h2⟩ := h
    by_cases e : p.1 = k
    · rw [if_pos e, if_pos (h1.symm.trans e)]; exact ⟨h1, ry⟩
    · rw [if_neg e, if_neg (fun z => e (h1.trans z))]; exact ⟨h1, h2⟩
theorem KV.put {kvs : List (κ × V)} {vs : List (κ × Value)} (r : KV kvs vs) (k : κ) {y : V} {u : Value} (ry : RelV y u) : KV (putK kvs k y) (stored vs k u) := by
  unfold putK stored
  rw [r.any k]
  by_cases e : (vs.any fun kv => decide (kv.1 = k)) = true
  · rw [if_pos e, if_pos e]; exact r.repl k ry
  · rw [if_neg e, if_neg e]; exact Paired.snoc r ⟨rfl, ry⟩
theorem KV.length {kvs : List (κ × V)} {vs : List (κ × Value)} (r : KV kvs vs) : kvs.length = vs.length := Paired.length r
end
theorem kV_is {P : Program} {w : World} {k : Key} {u : Value} (r : RelV (kV k) u) : (mixKind P w).is k u = true := by
  cases k with
  | inl i => obtain ⟨t, e⟩ := (show ∃ t, u = Value.int i t from r); subst e; exact mixKind_int P w i t
  | inr x => obtain ⟨t, e⟩ := (show ∃ t, u = Value.str x t from r); subst e; exact mixKind_str P w x t
theorem items_are {P : Program} {w : World} : ∀ {ks : List Key} {us : List Value}, Vals (ks.map kV) us → ItemsAre (mixKind P w) ks us
  | [], _, r => by rw [List.map_nil] at r; cases r; exact .nil
  | k :: ks, _, r => by
    rw [List.map_cons] at r
    cases r with
    | cons h t => exact .cons (kV_is h) (items_are t)
abbrev KT (H : Hp) : List (List Key × V) → List (List Key × Addr × Value) → Prop := Paired fun p q => p.1 = q.1 ∧ H q.2.1 = some (.tup (p.1.map kV)) ∧ RelV p.2 q.2.2
theorem KT.val {H : Hp} {kvs : List (List Key × V)} {xs : List (List Key × Addr × Value)} (r : KT H kvs xs) (k : List Key) : RelO (valV kvs k) ((atKey xs k).map (·.2)) := by
  induction r with
  | nil => exact True.intro
  | @cons p q ps qs h t ih =>
    obtain ⟨h1, _, h2⟩ := h
    by_cases e : p.1 = k
    · have e' : q.1 = k := h1.symm.trans e
      have b : atKey (q :: qs) k = some q.2 := by simp [atKey, List.find?_cons, e']
      rw [valV_pos e, b]; exact h2
    · have e' : ¬ q.1 = k := fun z => e (h1.trans z)
      have b : atKey (q :: qs) k = atKey qs k := by simp [atKey, List.find?_cons, e']
      rw [valV_neg e, b]; exact ih
theorem KT.repl {H : Hp} {kvs : List (List Key × V)} {xs : List (List Key × Addr × Value)} (r : KT H kvs xs) (k : List Key) {y : V} {u : Value} (ry : RelV y u) :
    KT H (kvs.map fun kv => if kv.1 = k then (kv.1, y) else kv) (xs.map (putAt k u)) := by
  induction r with
  | nil => exact .nil
  | @cons p q ps qs h t ih =>
    rw [List.map_cons, List.map_cons]
    refine .cons ?_ ih
    obtain ⟨h1, h2, h3⟩ := h
    unfold putAt
    by_cases e : p.1 = k
    · rw [if_pos e, if_pos (h1.symm.trans e)]; exact ⟨h1, h2, ry⟩
    · rw [if_neg e, if_neg (fun z => e (h1.trans z))]; exact ⟨h1, h2, h3⟩
theorem KT.put {H : Hp} {kvs : List (List Key × V)} {xs : List (List Key × Addr × Value)} (r : KT H kvs xs) (k : List Key) {b : Addr} {y : V} {u : Value} (hb : H b = some (.tup (k.map kV))) (ry : RelV y u) :
    KT H (putK kvs k y) (storedH xs k b u) := by
  have e : (kvs.any fun kv => decide (kv.1 = k)) = (atKey xs k).isSome := by
    rw [valV_any, (r.val k).isSome_eq, Option.isSome_map]
  unfold putK storedH
  rw [e]
  by_cases q : (atKey xs k).isSome = true
  · rw [if_pos q, if_pos q]; exact r.repl k ry
  · rw [if_neg q, if_neg q]; exact Paired.snoc r ⟨rfl, hb, ry⟩
theorem KT.keeps {H H' : Hp} {kvs : List (List Key × V)} {xs : List (List Key × Addr × Value)} (r : KT H kvs xs) (ht : ∀ b ys, H b = some (.tup ys) → H' b = some (.tup ys)) : KT H' kvs xs :=
  Paired.mapP r fun _ _ z => ⟨z.1, ht _ _ z.2.1, z.2.2⟩
section
variable {P : Program} {w : World} {H : Hp} {h : Heap} {a : Addr}
theorem rd_of {u : HO} (ok : HOk P w H h) (e : Rd H a u) : ObjOk P w H h a u := e.ok ok
theorem dk_rd {kvs : List (Key × V)} (ok : HOk P w H h) (e : Rd H a (.dK kvs)) : kvs.length ≤ sizeLine ∧ (a == sysModules) = false ∧ ∃ vs, KV kvs vs ∧ h.DictOf (mixKind P w) a vs :=
  show ObjOk P w H h a (.dK kvs) from rd_of ok e
theorem dk_of {kvs : List (Key × V)} (ok : HOk P w H h) (e : H a = some (.dK kvs)) : kvs.length ≤ sizeLine ∧ (a == sysModules) = false ∧ ∃ vs, KV kvs vs ∧ h.DictOf (mixKind P w) a vs := dk_rd ok (.inl e)
theorem key_of {ks : List Key} (ok : HOk P w H h) (e : H a = some (.tup (ks.map kV))) : (tupleKind (mixKind P w)).is h ks a := by
  obtain ⟨_, its, r, o, h1, h2, n, h3⟩ := (show ObjOk P w H h a (.tup (ks.map kV)) from ok a _ e)
  exact ⟨o, its.toArray, n, h1, h2, h3, by simpa using items_are r⟩
theorem dt_rd {kvs : List (List Key × V)} (ok : HOk P w H h) (e : Rd H a (.dT kvs)) : kvs.length ≤ sizeLine ∧ (a == sysModules) = false ∧
    ∃ xs, KT H kvs xs ∧ h.DictOfH (tupleKind (mixKind P w)) a xs := by
  obtain ⟨z, y, xs, r, o, es, ep, h1, h2, h3, h4, h5⟩ := (show ObjOk P w H h a (.dT kvs) from rd_of ok e)
  refine ⟨z, y, xs, r, o, es, ep, h1, h2, h3, h4, fun x hx => ?_, h5⟩
  have all : ∀ {l : List (List Key × V)} {m : List (List Key × Addr × Value)}, KT H l m → ∀ x ∈ m, (tupleKind (mixKind P w)).is h x.1 x.2.1 := by
    intro l m q
    induction q with
    | nil => intro x hx; exact nomatch hx
    | @cons p q ps qs hq t ih =>
      intro x hx
      rcases List.mem_cons.mp hx with e | hx
      · subst e
        exact key_of ok (by rw [← hq.1]; exact hq.2.1)
      · exact ih x hx
  exact all r x hx
theorem dt_of {kvs : List (List Key × V)} (ok : HOk P w H h) (e : H a = some (.dT kvs)) : kvs.length ≤ sizeLine ∧ (a == sysModules) = false ∧
    ∃ xs, KT H kvs xs ∧ h.DictOfH (tupleKind (mixKind P w)) a xs := dt_rd ok (.inl e)
end
def DGet (H : Hp) (a : Addr) (y : V) (r : Option V) : Prop :=
  (∃ kvs k, Rd H a (.dK kvs) ∧ y = kV k ∧ r = valV kvs k) ∨ ∃ kvs k b, Rd H a (.dT kvs) ∧ y = .ref b ∧ H b = some (.tup (k.map kV)) ∧ r = valV kvs k
def DPut (H : Hp) (a : Addr) (y v : V) (H' : Hp) : Prop :=
  (∃ kvs k, H a = some (.dK kvs) ∧ y = kV k ∧ kvs.length < sizeLine ∧ H' = upd H a (.dK (putK kvs k v))) ∨
  ∃ kvs k b, H a = some (.dT kvs) ∧ y = .ref b ∧ H b = some (.tup (k.map kV)) ∧ kvs.length < sizeLine ∧ H' = upd H a (.dT (putK kvs k v))
theorem DGet.k {H : Hp} {a : Addr} {kvs : List (Key × V)} {k : Key} (e : H a = some (.dK kvs)) : DGet H a (kV k) (valV kvs k) := .inl ⟨kvs, k, .inl e, rfl, rfl⟩
theorem DPut.k {H : Hp} {a : Addr} {kvs : List (Key × V)} {k : Key} {v : V} (e : H a = some (.dK kvs)) (hl : kvs.length < sizeLine) : DPut H a (kV k) v (upd H a (.dK (putK kvs k v))) := .inl ⟨kvs, k, e, rfl, hl, rfl⟩
section
variable {X : Cx} {pins : List (Addr × Obj)} {σ : St} {H : Hp} {s : Shared} {a : Addr} {y v : V} {u r : Value} {o : Option V} {A : Around} {E : Value → Shared → Prop}
theorem Inv.big (I : Inv X pins σ H s) : sysModules < s.heap.objs.size := by
  have h : mainGlobals < s.heap.objs.size := (I.mod.glob.keeps I.bk).lt
  exact Nat.lt_trans (by decide) h
theorem d_getItem {Q : Value → Shared → Prop} (hu : A.units + 1 < cLine) (I : Inv X pins σ H s) (g : DGet H a y (some v)) (ry : RelV y u) (h : ∀ w' s', Inv X pins σ H s' → RelV v w' → Q w' s') :
    wpAny (model X.prog X.w) A (getItem (.ref a) u) Q E s := by
  rcases g with ⟨kvs, k, e, ey, l⟩ | ⟨kvs, k, b, e, ey, eb, l⟩
  · subst ey
    obtain ⟨z, hd, vs, rel, dd⟩ := dk_rd I.hok e
    obtain ⟨w', hw, rw'⟩ := RelO.some_of (v := v) (o := valueAt vs k) (by rw [l]; exact rel.val k)
    exact wpAny_getItem_of (kV_is ry) dd.mapOf hw (h w' _ (I.tok _) rw')
  · subst ey
    cases (show u = Value.ref b from ry)
    obtain ⟨z, hd, xs, rel, dd⟩ := dt_rd I.hok e
    obtain ⟨w', hw, rw'⟩ := RelO.some_of (v := v) (o := (atKey xs k).map (·.2)) (by rw [l]; exact rel.val k)
    obtain ⟨p, hp, hp2⟩ := Option.map_eq_some_iff.mp hw
    refine wpAny_getItem_heap (tupleKind_room_in1 hu) (key_of I.hok eb) dd hp ?_
    rw [hp2]
    exact h w' _ (I.tok _) rw'
theorem d_write {h' : Heap} {t' : Nat} {ob : HO} (I : Inv X pins σ H s) (mu : Mut (H a)) (hs : Heap.SameBut a s.heap h') (he : ∃ q, h'.get? a = some q) (new : ObjOk X.prog X.w (upd H a ob) h' a ob) :
    Inv X pins σ (upd H a ob) { s with heap := h', toks := t' } :=
  I.write (x := a) (e := a) mu (.inl rfl) (fun b q hb z => (hs.2 b hb).trans z) he new
theorem dk_new {P : Program} {w : World} {H' : Hp} {h' : Heap} {kvs : List (Key × V)} {vs : List (Key × Value)} (z : kvs.length ≤ sizeLine) (hd : (a == sysModules) = false) (rel : KV kvs vs) (dd : h'.DictOf (mixKind P w) a vs) :
    ObjOk P w H' h' a (.dK kvs) := ⟨z, hd, vs, rel, dd⟩
theorem d_setItem {H' : Hp} {Q : Unit → Shared → Prop} (hu : A.units + 1 < cLine) (I : Inv X pins σ H s) (g : DPut H a y v H') (ry : RelV y u) (rv : RelV v r) (h : ∀ s', Inv X pins σ H' s' → Q () s') :
    wpAny (model X.prog X.w) A (setItem (.ref a) u r) Q E s := by
  rcases g with ⟨kvs, k, e, ey, l, eH⟩ | ⟨kvs, k, b, e, ey, eb, l, eH⟩
  · subst ey eH
    obtain ⟨z, hd, vs, rel, dd⟩ := dk_of I.hok e
    have hz : vs.length ≤ sizeLine := by rw [← rel.length]; exact z
    have hl : (putK kvs k v).length ≤ sizeLine := by have := length_putK kvs k v; omega
    refine wpAny_setItem_pairs (hsz := hz) (kV_is ry) dd fun h' dd' hs => h _ ?_
    have he : ∃ q, h'.get? a = some q := let ⟨q, _, _, hq, _⟩ := dd'; ⟨q, hq⟩
    exact d_write I (by rw [e]; exact True.intro) hs he (dk_new hl hd (rel.put k rv) dd')
  · subst ey eH
    cases (show u = Value.ref b from ry)
    obtain ⟨z, hd, xs, rel, dd⟩ := dt_of I.hok e
    have hz : xs.length ≤ sizeLine := by rw [← Paired.length rel]; exact z
    have hl : (putK kvs k v).length ≤ sizeLine := by have := length_putK kvs k v; omega
    refine wpAny_setItem_heap (hsz := hz) (tupleKind_room_in1 hu) (key_of I.hok eb) dd fun h' dd' hs => h _ ?_
    obtain ⟨q, es, ep, hq, h2, h3, h4, _, h5⟩ := dd'
    refine d_write I (by rw [e]; exact True.intro) hs ⟨q, hq⟩ ⟨hl, hd, _, (rel.put k eb rv).keeps fun c ys ec => ?_, q, es, ep, hq, h2, h3, h4, h5⟩
    rw [upd_ne (ne_of ec e (fun z => nomatch z))]
    exact ec
end
section
variable {X : Cx} {pins : List (Addr × Obj)} {σ : St} {H : Hp} {s : Shared} {a : Addr} {kvs : List (Key × V)} {k : Key} {u : Value} {A : Around} {E : Value → Shared → Prop}
end
def NoSl (i : Expr) : Prop := ∀ ov iv, subscripted i false ov iv = operate [ov, iv] (getItem ov iv)
theorem subD_of {prog : Program} {w : World} {A : Around} {E : Value → Shared → Prop} {s : Shared} {env : Env} {value slice : Expr} {pos : Pos} {T id : String} {Q : Value → Shared → Prop}
    (hl : typeLookup (.type T) "__getitem__" = pure (some (.builtin id))) (hs : NoSl slice)
    (h : wpAny (model prog w) A (eval value env) (fun o s₁ => wpAny (model prog w) A (eval slice env) (fun i s₂ => s₂.TypeIs o T ∧ wpAny (model prog w) A (getItem o i) Q E s₂) E s₁) E s) :
    wpAny (model prog w) A (eval (.Subscript value slice pos) env) Q E s := by
  refine Subscript_ (wpAny_mono h (fun o s₁ h₁ => wpAny_mono h₁ (fun i s₂ h₂ => ?_) fun _ _ x => x) fun _ _ x => x)
  obtain ⟨hT, h₂⟩ := h₂
  unfold subscriptTail
  refine wpAny_bind ?_
  rw [getitemInPython_of_ne hT.not_modules]
  refine wpAny_bind (wpAny_specialOf hT hl ?_)
  have fin : wpAny (model prog w) A (subscripted slice false o i) (fun r s₃ => wpAny (model prog w) A (letTemporaryGo value o r >>= fun _ => pure r) Q E s₃) E s₂ := by
    rw [hs o i]
    exact wpAny_operating (wpAny_mono h₂ (fun r s₃ h₃ => wpAny_bind (wpAny_letTemporaryGo (wpAny_pure h₃))) fun _ _ x => x)
  first
    | exact wpAny_pure (wpAny_bind fin)
    | exact wpAny_bind (wpAny_pure (wpAny_bind fin))
    | exact wpAny_bind fin
theorem dict_typeIs {X : Cx} {pins : List (Addr × Obj)} {σ : St} {H : Hp} {s : Shared} {a : Addr} {y : V} {o : Option V} (I : Inv X pins σ H s) (g : DGet H a y o) : s.TypeIs (.ref a) "dict" := by
  rcases g with ⟨kvs, k, e, _, _⟩ | ⟨kvs, k, b, e, _, _, _⟩
  · obtain ⟨_, _, vs, _, dd⟩ := dk_rd I.hok e
    exact dd.typeIs
  · obtain ⟨_, _, xs, _, dd⟩ := dt_rd I.hok e
    exact dd.typeIs
def tDGet (td ty : TE) : TE := fun σ H Q => td σ H fun x H1 => ty σ H1 fun y H2 => ∃ a v, x = .ref a ∧ DGet H2 a y (some v) ∧ Q v H2
def sDPut (td ty tv : TE) : TS := fun D σ H => tv σ H fun v H1 => td σ H1 fun x H2 => ty σ H2 fun y H3 => ∃ a H4, x = .ref a ∧ DPut H3 a y v H4 ∧ D.nx σ H4
section
variable {X : Cx} {o i e value : Expr} {pos pos' tpos : Pos} {td ty tv : TE}
theorem pe_dget (hu : X.A.units + 1 < cLine) (ho : PE X o td) (hi : PE X i ty) (hs : NoSl i) : PE X (.Subscript o i pos) (tDGet td ty) := by
  intro pins s σ H Q I h
  refine subD_of PySem.F.slot_dict_getitem.lookup hs (thn (ho pins s σ H _ I h) fun u s1 ⟨x, H1, I1, rx, q1⟩ => thn (hi pins s1 σ H1 _ I1 q1) fun iv s2 ⟨y, H2, I2, ry, a, v, ex, g, q2⟩ => ?_)
  subst ex
  obtain rfl : u = Value.ref a := rx
  exact ⟨dict_typeIs I2 g, d_getItem hu I2 g ry fun w' s3 I3 rw' => ⟨v, H2, I3, rw', q2⟩⟩
theorem ps_dput (hu : X.A.units + 1 < cLine) (ho : PE X o td) (hi : PE X i ty) (hv : PE X value tv) (hs : swapsWith value (some (.Subscript o i pos')) pos.line X.env = pure false) :
    PS X (.Assign [.Subscript o i pos'] value pos) (sDPut td ty tv) := by
  intro pins s σ H D I h
  refine wpAny_Assign_Subscript (thn (hv pins s σ H _ I h) fun r s1 ⟨v, H1, I1, rv, q1⟩ => thn (ho pins s1 σ H1 _ I1 q1) fun u s2 ⟨x, H2, I2, rx, q2⟩ => thn (hi pins s2 σ H2 _ I2 q2) fun iv s3 ⟨y, H3, I3, ry, a, H4, ex, g, q3⟩ => ?_) hs
  subst ex
  obtain rfl : u = Value.ref a := rx
  exact d_setItem hu I3 g ry rv fun s4 I4 => ⟨σ, H4, I4, q3⟩
end
theorem dk_empty {P : Program} {w : World} {H : Hp} (h : Heap) (hb : sysModules < h.objs.size) : ObjOk P w H (h.push { cls := .type "dict", data := .dict #[] }) h.objs.size (.dK []) :=
  ⟨Nat.zero_le _, beq_eq_false_iff_ne.mpr (Ne.symm (Nat.ne_of_lt hb)), [], .nil, Heap.DictOf.new h⟩
def tDNewK : TE := fun _ H Q => ∀ p, H p = none → Q (.ref p) (upd H p (.dK []))
section
variable {X : Cx} {pos : Pos}
theorem pe_dnewK : PE X (.Dict [] [] pos) tDNewK := fun pins s σ H Q I h =>
  wpAny_Dict_empty ⟨.ref s.heap.objs.size, _, I.laid (a := s.heap.objs.size) (o := .dK []) (t' := s.toks) (fun _ _ q => Heap.get?_push_of_some _ q) (Nat.le_refl _) (dk_empty s.heap I.big), rfl, h _ (I.hok.fresh (Nat.le_refl _))⟩
end
structure M2 (X : Cx) (o : Expr) (m : Str) (apos : Pos) (e f : Expr) (cpos : Pos) : Prop where
  base : attributeBase o m X.env (eval o X.env) = eval o X.env
  few : ((backTo cpos (starEach [e, f] X.env)).all (fun x => !x.1) && (backToKw cpos (keywordEach [] X.env)).all (fun x => x.1.isSome)
    && decide (([e, f] : List Expr).length + ([] : List Keyword).length + (if ([] : List Keyword).isEmpty then 0 else 1) < 30)) = true
  line : (apos.endLine == cpos.line) = true
  trees : backTo cpos (starEach [e, f] X.env) = [(false, eval e X.env), (false, eval f X.env)]
def IsD (H : Hp) (a : Addr) : Prop := (∃ kvs, Rd H a (.dK kvs)) ∨ ∃ kvs, Rd H a (.dT kvs)
theorem isD_at {X : Cx} {pins : List (Addr × Obj)} {σ : St} {H : Hp} {s : Shared} {a : Addr} (I : Inv X pins σ H s) (d : IsD H a) :
    s.TypeIs (.ref a) "dict" ∧ (∀ b, Value.ref a = .ref b → ∃ ob, s.heap.get? b = some ob ∧ ob.dict = none) ∧ (a == sysModules) = false := by
  rcases d with ⟨kvs, e⟩ | ⟨kvs, e⟩
  · obtain ⟨_, hd, vs, _, dd⟩ := dk_rd I.hok e
    refine ⟨dd.typeIs, fun b q => ?_, hd⟩
    cases q
    obtain ⟨ob, _, _, h1, h2, _⟩ := dd
    exact ⟨ob, h1, h2.2.1⟩
  · obtain ⟨_, hd, xs, _, dd⟩ := dt_rd I.hok e
    refine ⟨dd.typeIs, fun b q => ?_, hd⟩
    cases q
    obtain ⟨ob, _, _, h1, h2, _⟩ := dd
    exact ⟨ob, h1, h2.2.1⟩
section
variable {X : Cx} {pins : List (Addr × Obj)} {σ : St} {H : Hp} {s : Shared} {a : Addr} {y d : V} {u r : Value} {o : Option V} {A : Around} {E : Value → Shared → Prop}
theorem d_get2 {Q : Value → Shared → Prop} (hu : A.units + 1 < cLine) (I : Inv X pins σ H s) (g : DGet H a y o) (ry : RelV y u) (rd : RelV d r) (h : ∀ w' s', Inv X pins σ H s' → RelV (o.getD d) w' → Q w' s') :
    wpAny (model X.prog X.w) A (call (.builtin "dict.get") [.ref a, u, r]) Q E s := by
  rcases g with ⟨kvs, k, e, ey, l⟩ | ⟨kvs, k, b, e, ey, eb, l⟩
  · subst ey
    obtain ⟨z, hd, vs, rel, dd⟩ := dk_rd I.hok e
    refine call_meetsIn PySem.F.slot_dict_get dd.typeIs PySem.F.entry_dict_get (PySem.F.args_dict_get_3 _ _ _) (meets_dict_get_default (mixKind X.prog X.w) a (kV_is ry) hd r) ⟨_, dd.mapOf, h _ _ (I.tok _) ?_⟩
    rw [l]
    exact (rel.val k).getD rd
  · subst ey
    cases (show u = Value.ref b from ry)
    obtain ⟨z, hd, xs, rel, dd⟩ := dt_rd I.hok e
    refine call_meetsIn PySem.F.slot_dict_get dd.typeIs PySem.F.entry_dict_get (PySem.F.args_dict_get_3 _ _ _) (meetsH_dict_get_default (tupleKind (mixKind X.prog X.w)) a b hd r) ⟨tupleKind_room_in1 hu, k, xs, key_of I.hok eb, dd, h _ _ (I.tok _) ?_⟩
    rw [l]
    exact (rel.val k).getD rd
end
def tDGet2 (td ty tx : TE) : TE := fun σ H Q => td σ H fun x H1 => ∃ a, x = .ref a ∧ IsD H1 a ∧ ty σ H1 fun y H2 => tx σ H2 fun z H3 => ∃ o, DGet H3 a y o ∧ Q (o.getD z) H3
section
variable {X : Cx} {o e f : Expr} {apos cpos : Pos} {td ty tx : TE}
theorem pe_dget2 (hu : X.A.units + 1 < cLine) (ho : PE X o td) (he : PE X e ty) (hf : PE X f tx) (m : M2 X o "get" apos e f cpos) : PE X (.Call (.Attribute o "get" apos) [e, f] [] cpos) (tDGet2 td ty tx) := by
  intro pins s σ H Q I h
  refine wpAny_Call_method m.base m.few m.line PySem.F.plainAttrs_dict PySem.F.slot_dict_get PySem.F.type_dict_get (thn (ho pins s σ H _ I h) fun u s1 ⟨x, H1, I1, rx, a, ex, d, q1⟩ => ?_)
  subst ex
  obtain rfl : u = Value.ref a := rx
  obtain ⟨t1, t2, _⟩ := isD_at I1 d
  refine ⟨t1, t2, ?_⟩
  rw [m.trees]
  refine Calls.callWith_builtin rfl (Calls.evalArgs_plain (Calls.spliced_cons (thn (he pins s1 σ H1 _ I1 q1) fun iv s2 ⟨y, H2, I2, ry, q2⟩ =>
    Calls.spliced_cons (thn (hf pins s2 σ H2 _ I2 q2) fun fv s3 ⟨z, H3, I3, rz, ov, g, q3⟩ => Calls.spliced_nil ?_))))
  exact d_get2 hu I3 g ry rz fun w' s4 I4 rw' => ⟨_, H3, I4, rw', q3⟩
end
section
variable {X : Cx} {pins : List (Addr × Obj)} {σ : St} {H : Hp} {s : Shared} {a : Addr} {kvs : List (Key × V)} {A : Around} {E : Value → Shared → Prop}
end
section
variable {X : Cx} {pins : List (Addr × Obj)} {σ : St} {H : Hp} {s : Shared} {a : Addr} {y : V} {u : Value} {A : Around} {E : Value → Shared → Prop}
end
end L2
namespace L2
open PySem PySem.Spec PyProof.Rows
section
variable {X : Cx}
end
section
variable {κ : Type} [DecidableEq κ]
theorem nd_snoc : ∀ {l : List κ} {k : κ}, l.Nodup → ¬ k ∈ l → (l ++ [k]).Nodup
  | [], k, _, _ => by simp
  | a :: r, k, h, hk => by
    obtain ⟨h1, h2⟩ := List.nodup_cons.mp h
    show (a :: (r ++ [k])).Nodup
    refine List.nodup_cons.mpr ⟨fun m => ?_, nd_snoc h2 fun m => hk (List.mem_cons.mpr (Or.inr m))⟩
    rcases List.mem_append.mp m with q | q
    · exact h1 q
    · exact hk (List.mem_cons.mpr (Or.inl (List.mem_singleton.mp q).symm))
end
end L2
set_option maxRecDepth 100000
set_option Elab.async false
set_option linter.all false
namespace L2
open PySem PySem.Spec PySem.W PyProof.Rows
inductive DV where
  | f (v : V) | t (ds : List DV) | l (ds : List DV)
mutual
def deq : DV → DV → Bool
  | .f a, .f b => eqV a b
  | .t as, .t bs => deqs as bs
  | .l as, .l bs => deqs as bs
  | _, _ => false
def deqs : List DV → List DV → Bool
  | [], [] => true
  | a :: as, b :: bs => deq a b && deqs as bs
  | _, _ => false
end
mutual
def dep : DV → Nat
  | .f _ => 0
  | .t as => deps as + 1
  | .l as => deps as + 1
def deps : List DV → Nat
  | [] => 0
  | a :: as => max (dep a) (deps as)
end
mutual
def DRel (K : Frag) (H : Hp) : DV → V → Prop
  | .f v, x => x = v ∧ flatV v = true
  | .t ds, x => ∃ a xs, x = .ref a ∧ SqT K H a xs ∧ DRels K H ds xs
  | .l ds, x => ∃ a xs, x = .ref a ∧ SqL K H a xs ∧ DRels K H ds xs
def DRels (K : Frag) (H : Hp) : List DV → List V → Prop
  | [], [] => True
  | d :: ds, x :: xs => DRel K H d x ∧ DRels K H ds xs
  | _, _ => False
end
mutual
theorem deq_self : ∀ (d : DV) (K : Frag) (H : Hp) (x : V), DRel K H d x → deq d d = true
  | .f v, K, H, x, h => by
    simp only [DRel] at h
    simp only [deq]; exact eqV_self h.2
  | .t ds, K, H, x, h => by
    simp only [DRel] at h
    obtain ⟨a, xs, _, _, h⟩ := h
    simp only [deq]; exact deqs_self ds K H xs h
  | .l ds, K, H, x, h => by
    simp only [DRel] at h
    obtain ⟨a, xs, _, _, h⟩ := h
    simp only [deq]; exact deqs_self ds K H xs h
theorem deqs_self : ∀ (ds : List DV) (K : Frag) (H : Hp) (xs : List V), DRels K H ds xs → deqs ds ds = true
  | [], K, H, xs, h => by simp only [deqs]
  | d :: ds, K, H, [], h => by simp only [DRels] at h
  | d :: ds, K, H, x :: xs, h => by
    simp only [DRels] at h
    simp only [deqs, Bool.and_eq_true]
    exact ⟨deq_self d K H x h.1, deqs_self ds K H xs h.2⟩
end
def eqD (as bs : List DV) (j : Nat) : Bool := match as[j]?, bs[j]? with
  | some a, some b => deq a b
  | _, _ => true
theorem deqs_all : ∀ (as bs : List DV), as.length = bs.length → (List.range as.length).all (eqD as bs) = deqs as bs
  | [], [], _ => by simp [deqs]
  | a :: as, b :: bs, h => by
    have ih := deqs_all as bs (by simpa using h)
    rw [List.length_cons, List.range_succ_eq_map, List.all_cons, List.all_map]
    have e0 : eqD (a :: as) (b :: bs) 0 = deq a b := by simp [eqD]
    have e1 : (eqD (a :: as) (b :: bs) ∘ Nat.succ) = eqD as bs := by funext j; simp [eqD, Function.comp]
    rw [e0, e1, ih]
    simp only [deqs]
  | [], _ :: _, h => by simp at h
  | _ :: _, [], h => by simp at h
theorem deqs_len : ∀ (as bs : List DV), as.length ≠ bs.length → deqs as bs = false
  | [], [], h => absurd rfl h
  | a :: as, b :: bs, h => by
    have ih := deqs_len as bs (by simpa using h)
    simp only [deqs, ih, Bool.and_false]
  | [], _ :: _, _ => by simp only [deqs]
  | _ :: _, [], _ => by simp only [deqs]
theorem DRels.len {K : Frag} {H : Hp} : ∀ {ds : List DV} {xs : List V}, DRels K H ds xs → ds.length = xs.length
  | [], [], _ => rfl
  | d :: ds, x :: xs, h => by
    simp only [DRels] at h
    rw [List.length_cons, List.length_cons, DRels.len h.2]
  | [], _ :: _, h => by simp only [DRels] at h
  | _ :: _, [], h => by simp only [DRels] at h
section
variable {X : Cx} {pins : List (Addr × Obj)} {σ : St} {H : Hp} {s : Shared}
theorem not_both {a : Addr} {xs ys : List V} (I : Inv X pins σ H s) (h1 : SqT X.K H a xs) (h2 : SqL X.K H a ys) : False := by
  obtain ⟨_, _, ⟨o, e, c, _⟩, _⟩ := I.tuple h1
  obtain ⟨_, _, p, _⟩ := I.list h2
  obtain ⟨o', e', c', _⟩ := p.isList
  rw [e] at e'; cases e'
  rw [c] at c'
  injection c' with c'
  exact absurd c' (by decide)
mutual
theorem deq_same (I : Inv X pins σ H s) : ∀ (d1 d2 : DV) (x : V), DRel X.K H d1 x → DRel X.K H d2 x → deq d1 d2 = true
  | .f v, .f w, x, h1, h2 => by
    simp only [DRel] at h1 h2
    rw [← h1.1, ← h2.1] at *
    simp only [deq]; exact eqV_self h1.2
  | .t as, .t bs, x, h1, h2 => by
    simp only [DRel] at h1 h2
    obtain ⟨a, xs, rfl, q1, r1⟩ := h1
    obtain ⟨b, ys, e, q2, r2⟩ := h2
    cases e
    cases I.tuple_inj q1 q2
    simp only [deq]; exact deqs_same I as bs xs r1 r2
  | .l as, .l bs, x, h1, h2 => by
    simp only [DRel] at h1 h2
    obtain ⟨a, xs, rfl, q1, r1⟩ := h1
    obtain ⟨b, ys, e, q2, r2⟩ := h2
    cases e
    cases I.list_inj q1 q2
    simp only [deq]; exact deqs_same I as bs xs r1 r2
  | .f v, .t bs, x, h1, h2 => by
    simp only [DRel] at h1 h2
    obtain ⟨b, ys, e, _⟩ := h2
    have := h1.2; rw [← h1.1, e] at this; cases this
  | .f v, .l bs, x, h1, h2 => by
    simp only [DRel] at h1 h2
    obtain ⟨b, ys, e, _⟩ := h2
    have := h1.2; rw [← h1.1, e] at this; cases this
  | .t bs, .f v, x, h1, h2 => by
    simp only [DRel] at h1 h2
    obtain ⟨b, ys, e, _⟩ := h1
    have := h2.2; rw [← h2.1, e] at this; cases this
  | .l bs, .f v, x, h1, h2 => by
    simp only [DRel] at h1 h2
    obtain ⟨b, ys, e, _⟩ := h1
    have := h2.2; rw [← h2.1, e] at this; cases this
  | .t as, .l bs, x, h1, h2 => by
    simp only [DRel] at h1 h2
    obtain ⟨a, xs, rfl, q1, r1⟩ := h1
    obtain ⟨b, ys, e, q2, r2⟩ := h2
    cases e
    exact (not_both I q1 q2).elim
  | .l as, .t bs, x, h1, h2 => by
    simp only [DRel] at h1 h2
    obtain ⟨a, xs, rfl, q1, r1⟩ := h1
    obtain ⟨b, ys, e, q2, r2⟩ := h2
    cases e
    exact (not_both I q2 q1).elim
theorem deqs_same (I : Inv X pins σ H s) : ∀ (as bs : List DV) (xs : List V), DRels X.K H as xs → DRels X.K H bs xs → deqs as bs = true
  | [], [], _, _, _ => by simp only [deqs]
  | a :: as, b :: bs, x :: xs, h1, h2 => by
    simp only [DRels] at h1 h2
    simp only [deqs, Bool.and_eq_true]
    exact ⟨deq_same I a b x h1.1 h2.1, deqs_same I as bs xs h1.2 h2.2⟩
  | [], _ :: _, [], h1, h2 => by simp only [DRels] at h2
  | [], _ :: _, _ :: _, h1, h2 => by simp only [DRels] at h1
  | _ :: _, [], [], h1, h2 => by simp only [DRels] at h1
  | _ :: _, [], _ :: _, h1, h2 => by simp only [DRels] at h2
  | _ :: _, _ :: _, [], h1, h2 => by simp only [DRels] at h1
end
theorem flat_tup {A : Around} {y : V} {u : Value} {a : Addr} {items : Array Value} (fy : flatV y = true) (ry : RelV y u) (h : s.heap.IsTuple a items) (hu : A.units < cLine) : SeqAt.EqAt A s u (.ref a) false := by
  cases y with
  | non => cases ry; exact .none_tuple h hu
  | bl b => cases ry; exact .bool_tuple b h hu
  | int b => obtain ⟨t, rfl⟩ := ry; exact .int_tuple b t h hu
  | str b => obtain ⟨t, rfl⟩ := ry; exact .str_tuple b t h hu
  | _ => cases fy
theorem flat_lst {A : Around} {y : V} {u : Value} {a : Addr} {items : Array Value} (fy : flatV y = true) (ry : RelV y u) (h : s.heap.IsList a items) (hu : A.units < cLine) : SeqAt.EqAt A s u (.ref a) false := by
  cases y with
  | non => cases ry; exact .none_list h hu
  | bl b => cases ry; exact .bool_list b h hu
  | int b => obtain ⟨t, rfl⟩ := ry; exact .int_list b t h hu
  | str b => obtain ⟨t, rfl⟩ := ry; exact .str_list b t h hu
  | _ => cases fy
theorem tup_flat {A : Around} {y : V} {u : Value} {a : Addr} {items : Array Value} (fy : flatV y = true) (ry : RelV y u) (h : s.heap.IsTuple a items) (hu : A.units < cLine) : SeqAt.EqAt A s (.ref a) u false := by
  cases y with
  | non => cases ry; exact .tuple_none h hu
  | bl b => cases ry; exact .tuple_bool b h hu
  | int b => obtain ⟨t, rfl⟩ := ry; exact .tuple_int b t h hu
  | str b => obtain ⟨t, rfl⟩ := ry; exact .tuple_str b t h hu
  | _ => cases fy
theorem lst_flat {A : Around} {y : V} {u : Value} {a : Addr} {items : Array Value} (fy : flatV y = true) (ry : RelV y u) (h : s.heap.IsList a items) (hu : A.units < cLine) : SeqAt.EqAt A s (.ref a) u false := by
  cases y with
  | non => cases ry; exact .list_none h hu
  | bl b => cases ry; exact .list_bool b h hu
  | int b => obtain ⟨t, rfl⟩ := ry; exact .list_int b t h hu
  | str b => obtain ⟨t, rfl⟩ := ry; exact .list_str b t h hu
  | _ => cases fy
theorem items_eq {A : Around} {as bs : List DV} {xs ys : List V} {us vs : List Value} (h1 : DRels X.K H as xs) (h2 : DRels X.K H bs ys) (r1 : Vals xs us) (r2 : Vals ys vs)
    (ih : ∀ (j : Nat) (a b : DV) (u v : Value), as[j]? = some a → bs[j]? = some b → us[j]? = some u → vs[j]? = some v → SeqAt.EqAt A s u v (deq a b)) :
    ∀ j (g1 : j < us.toArray.size) (g2 : j < vs.toArray.size), SeqAt.EqAt A s us.toArray[j] vs.toArray[j] (eqD as bs j) := by
  intro j g1 g2
  have l1 := h1.len
  have l2 := h2.len
  have m1 := r1.length
  have m2 := r2.length
  have g1' : j < us.length := by simpa using g1
  have g2' : j < vs.length := by simpa using g2
  have e : eqD as bs j = deq as[j] bs[j] := by simp [eqD, show j < as.length by omega, show j < bs.length by omega]
  rw [e]
  exact ih j _ _ _ _ (List.getElem?_eq_getElem (by omega)) (List.getElem?_eq_getElem (by omega)) (by simp [g1']) (by simp [g2'])
mutual
theorem eqAt_D (I : Inv X pins σ H s) : ∀ (d1 d2 : DV) (x y : V) (u v : Value) (A : Around), DRel X.K H d1 x → DRel X.K H d2 y → RelV x u → RelV y v → A.units + dep d1 < cLine → SeqAt.EqAt A s u v (deq d1 d2)
  | .f a, .f b, x, y, u, v, A, h1, h2, r1, r2, hu => by
    simp only [DRel] at h1 h2
    simp only [deq]
    rw [h1.1] at r1; rw [h2.1] at r2
    exact eqAt_V r1 r2 h1.2 h2.2
  | .f a, .t bs, x, y, u, v, A, h1, h2, r1, r2, hu => by
    simp only [DRel] at h1 h2
    obtain ⟨b, ys, rfl, q2, _⟩ := h2
    obtain ⟨vs, _, p2, _⟩ := I.tuple q2
    simp only [deq]
    rw [h1.1] at r1; cases r2
    exact flat_tup h1.2 r1 p2 (by omega)
  | .f a, .l bs, x, y, u, v, A, h1, h2, r1, r2, hu => by
    simp only [DRel] at h1 h2
    obtain ⟨b, ys, rfl, q2, _⟩ := h2
    obtain ⟨vs, _, p2, _⟩ := I.list q2
    simp only [deq]
    rw [h1.1] at r1; cases r2
    exact flat_lst h1.2 r1 p2.isList (by omega)
  | .t as, .f b, x, y, u, v, A, h1, h2, r1, r2, hu => by
    simp only [DRel] at h1 h2
    obtain ⟨a, xs, rfl, q1, _⟩ := h1
    obtain ⟨us, _, p1, _⟩ := I.tuple q1
    simp only [deq]
    rw [h2.1] at r2; cases r1
    exact tup_flat h2.2 r2 p1 (by omega)
  | .l as, .f b, x, y, u, v, A, h1, h2, r1, r2, hu => by
    simp only [DRel] at h1 h2
    obtain ⟨a, xs, rfl, q1, _⟩ := h1
    obtain ⟨us, _, p1, _⟩ := I.list q1
    simp only [deq]
    rw [h2.1] at r2; cases r1
    exact lst_flat h2.2 r2 p1.isList (by omega)
  | .t as, .l bs, x, y, u, v, A, h1, h2, r1, r2, hu => by
    simp only [DRel] at h1 h2
    obtain ⟨a, xs, rfl, q1, _⟩ := h1
    obtain ⟨b, ys, rfl, q2, _⟩ := h2
    obtain ⟨us, _, p1, _⟩ := I.tuple q1
    obtain ⟨vs, _, p2, _⟩ := I.list q2
    simp only [deq]
    cases r1; cases r2
    exact .tuple_list p1 p2.isList (by omega)
  | .l as, .t bs, x, y, u, v, A, h1, h2, r1, r2, hu => by
    simp only [DRel] at h1 h2
    obtain ⟨a, xs, rfl, q1, _⟩ := h1
    obtain ⟨b, ys, rfl, q2, _⟩ := h2
    obtain ⟨us, _, p1, _⟩ := I.list q1
    obtain ⟨vs, _, p2, _⟩ := I.tuple q2
    simp only [deq]
    cases r1; cases r2
    exact .list_tuple p1.isList p2 (by omega)
  | .t as, .t bs, x, y, u, v, A, h1, h2, r1, r2, hu => by
    by_cases hxy : x = y
    · subst hxy
      rw [deq_same I _ _ x h1 h2]
      simp only [DRel] at h1
      obtain ⟨a, xs, rfl, _⟩ := h1
      cases r1; cases r2
      exact .same _
    simp only [DRel] at h1 h2
    obtain ⟨a, xs, rfl, q1, d1⟩ := h1
    obtain ⟨b, ys, rfl, q2, d2⟩ := h2
    obtain ⟨us, m1, p1, _⟩ := I.tuple q1
    obtain ⟨vs, m2, p2, _⟩ := I.tuple q2
    cases r1; cases r2
    simp only [dep] at hu
    have he := items_eq (A := A.in1) d1 d2 m1 m2 (eqAt_Ds I as bs xs ys us vs A.in1 d1 d2 m1 m2 (by show A.units + 1 + _ < _; omega))
    have hr := SeqAt.RcAt.tuples (A := A) p1 p2 (by omega) he
    have hq : ((List.range (min us.toArray.size vs.toArray.size)).all (eqD as bs) && us.toArray.size == vs.toArray.size) = deqs as bs := by
      have l1 := d1.len; have l2 := d2.len; have l3 := m1.length; have l4 := m2.length
      have e1 : us.toArray.size = as.length := by simp; omega
      have e2 : vs.toArray.size = bs.length := by simp; omega
      rw [e1, e2]
      by_cases hl : as.length = bs.length
      · rw [← hl, Nat.min_self, deqs_all as bs hl]; simp
      · rw [deqs_len as bs hl]; simp [hl]
    rw [hq] at hr
    simp only [deq]
    exact .of_refs (fun z => hxy (by rw [z])) hr
  | .l as, .l bs, x, y, u, v, A, h1, h2, r1, r2, hu => by
    by_cases hxy : x = y
    · subst hxy
      rw [deq_same I _ _ x h1 h2]
      simp only [DRel] at h1
      obtain ⟨a, xs, rfl, _⟩ := h1
      cases r1; cases r2
      exact .same _
    simp only [DRel] at h1 h2
    obtain ⟨a, xs, rfl, q1, d1⟩ := h1
    obtain ⟨b, ys, rfl, q2, d2⟩ := h2
    obtain ⟨us, m1, p1, _⟩ := I.list q1
    obtain ⟨vs, m2, p2, _⟩ := I.list q2
    cases r1; cases r2
    simp only [dep] at hu
    have l1 := d1.len; have l2 := d2.len; have l3 := m1.length; have l4 := m2.length
    have e1 : us.toArray.size = as.length := by simp; omega
    have e2 : vs.toArray.size = bs.length := by simp; omega
    simp only [deq]
    by_cases hl : as.length = bs.length
    · have he := items_eq (A := A.in1) d1 d2 m1 m2 (eqAt_Ds I as bs xs ys us vs A.in1 d1 d2 m1 m2 (by show A.units + 1 + _ < _; omega))
      have hr := SeqAt.RcAt.lists (A := A) p1.isList p2.isList (by omega) (by omega) he
      rw [e1, deqs_all as bs hl] at hr
      exact .of_refs (fun z => hxy (by rw [z])) hr
    · rw [deqs_len as bs hl]
      exact .of_refs (fun z => hxy (by rw [z])) (SeqAt.RcAt.lists_lengths p1.isList p2.isList (by simp; omega) (by omega))
theorem eqAt_Ds (I : Inv X pins σ H s) : ∀ (as bs : List DV) (xs ys : List V) (us vs : List Value) (A : Around), DRels X.K H as xs → DRels X.K H bs ys → Vals xs us → Vals ys vs → A.units + deps as < cLine →
    ∀ (j : Nat) (a b : DV) (u v : Value), as[j]? = some a → bs[j]? = some b → us[j]? = some u → vs[j]? = some v → SeqAt.EqAt A s u v (deq a b)
  | [], _, _, _, _, _, _, _, _, _, _, _, j, a, b, u, v, e1, _, _, _ => by simp at e1
  | _ :: _, [], _, _, _, _, _, _, _, _, _, _, j, a, b, u, v, _, e2, _, _ => by simp at e2
  | d :: as, d' :: bs, [], _, _, _, _, h1, _, _, _, _, j, a, b, u, v, _, _, _, _ => by simp only [DRels] at h1
  | d :: as, d' :: bs, _ :: _, [], _, _, _, _, h2, _, _, _, j, a, b, u, v, _, _, _, _ => by simp only [DRels] at h2
  | d :: as, d' :: bs, x :: xs, y :: ys, _, _, A, h1, h2, .cons r1 m1, .cons r2 m2, hu, 0, a, b, u, v, e1, e2, e3, e4 => by
    simp only [DRels] at h1 h2
    simp only [deps] at hu
    cases e1; cases e2; cases e3; cases e4
    exact eqAt_D I d d' x y _ _ A h1.1 h2.1 r1 r2 (by omega)
  | d :: as, d' :: bs, x :: xs, y :: ys, _, _, A, h1, h2, .cons r1 m1, .cons r2 m2, hu, j + 1, a, b, u, v, e1, e2, e3, e4 => by
    simp only [DRels] at h1 h2
    simp only [deps] at hu
    exact eqAt_Ds I as bs xs ys _ _ A h1.2 h2.2 m1 m2 (by omega) j a b u v e1 e2 e3 e4
end
end
section
variable {X : Cx} {pins : List (Addr × Obj)} {σ : St} {H : Hp} {s : Shared}
end
section
variable {X : Cx}
def flats (xs : List V) : List DV := xs.map .f
theorem flats_rel {K : Frag} {H : Hp} : ∀ {xs : List V}, xs.all flatV = true → DRels K H (flats xs) xs
  | [], _ => by simp only [flats, List.map_nil, DRels]
  | x :: xs, h => by
    rw [List.all_cons, Bool.and_eq_true] at h
    show DRels K H (.f x :: flats xs) (x :: xs)
    simp only [DRels, DRel]
    exact ⟨⟨trivial, h.1⟩, flats_rel h.2⟩
theorem flats_dep : ∀ (xs : List V), deps (flats xs) = 0
  | [] => by simp only [flats, List.map_nil, deps]
  | x :: xs => by
    show deps (.f x :: flats xs) = 0
    simp only [deps, dep, flats_dep xs]; rfl
def cutS (z : Str) (lo hi : Option Int) : Str := ⟨((z.cps.toList.drop (HT.sIx z.length 0 lo)).take (HT.sIx z.length z.length hi - HT.sIx z.length 0 lo)).toArray⟩
theorem slice_ix (lo hi : Option Int) (n : Nat) : Builtin.Str.strSliceIndices lo hi 1 n = (List.range (HT.sIx n n hi - HT.sIx n 0 lo)).map fun m => HT.sIx n 0 lo + m := by
  have clip : ∀ (o : Option Int) (d : Nat), (match o with | none => ((d : Nat) : Int) | some i => max 0 (min (if i < 0 then i + (n : Int) else i) (n : Int))) = ((HT.sIx n d o : Nat) : Int) := by
    intro o d
    cases o with
    | none => rfl
    | some v =>
      show max 0 (min (if v < 0 then v + (n : Int) else v) (n : Int)) = (((if v < 0 then (v + (n : Int)).toNat else min v.toNat n) : Nat) : Int)
      by_cases hv : v < 0
      · rw [if_pos hv, if_pos hv]; omega
      · rw [if_neg hv, if_neg hv]; omega
  have key : ∀ a b : Nat, sliceRange (a : Int) (b : Int) 1 = (List.range (b - a)).map fun m => a + m := by
    intro a b
    unfold sliceRange
    simp only [show (1 : Int) > 0 by decide, if_true, Int.ediv_one]
    have hc : (if (a : Int) < (b : Int) then ((b : Int) - (a : Int) + 1 - 1) else 0).toNat = b - a := by split <;> omega
    rw [hc]
    refine List.map_congr_left fun m _ => ?_
    omega
  unfold Builtin.Str.strSliceIndices
  simp only [show (1 : Int) > 0 by decide, if_true]
  exact (congr (congrArg (fun p q => sliceRange p q 1) (clip lo 0)) (clip hi n)).trans (key _ _)
theorem pick_at (l : List Nat) (a : Nat) : ∀ k : Nat, ((List.range k).map fun m => a + m).filterMap (fun j => l[j]?) = (l.drop a).take k
  | 0 => by simp
  | k + 1 => by
    rw [List.range_succ, List.map_append, List.filterMap_append, pick_at l a k, List.take_add_one]
    congr 1
    simp only [List.map_cons, List.map_nil, List.filterMap_cons, List.filterMap_nil, List.getElem?_drop]
    cases l[a + k]? <;> rfl
theorem cut_made (z : Str) (t : Tok) (l u : Option (Int × Tok)) : ∃ b : Bool, PySem.sliceMade z t l u none = if b then .val (.str (cutS z (l.map (·.1)) (u.map (·.1))) t) else .str (cutS z (l.map (·.1)) (u.map (·.1))) := by
  have hp : ((PySem.slicePicked z l u none).filterMap (z.cps[·]?)).toArray = (cutS z (l.map (·.1)) (u.map (·.1))).cps := by
    unfold PySem.slicePicked cutS
    rw [show ((none : Option (Int × Tok)).map (·.1)).getD 1 = (1 : Int) from rfl, slice_ix]
    have e : (fun (j : Nat) => z.cps[j]?) = fun (j : Nat) => z.cps.toList[j]? := by funext j; simp
    rw [e, pick_at]
  unfold PySem.sliceMade
  by_cases hw : (((none : Option (Int × Tok)).map (·.1)).getD 1 == 1 && (PySem.slicePicked z l u none).length == z.length) = true
  · refine ⟨true, ?_⟩
    rw [if_pos hw, if_pos rfl]
    have hl : (PySem.slicePicked z l u none).length = z.length := by
      rw [Bool.and_eq_true] at hw; simpa using hw.2
    have hz : cutS z (l.map (·.1)) (u.map (·.1)) = z := by
      unfold PySem.slicePicked at hl
      rw [show ((none : Option (Int × Tok)).map (·.1)).getD 1 = (1 : Int) from rfl, slice_ix, List.length_map, List.length_range] at hl
      have h1 := HT.sIx_le z.length 0 (Nat.zero_le _) (l.map (·.1))
      have h2 := HT.sIx_le z.length z.length (Nat.le_refl _) (u.map (·.1))
      by_cases h0 : z.length = 0
      · have e1 : z.cps.toList = [] := List.eq_nil_of_length_eq_zero (by rw [Array.length_toList]; exact h0)
        cases z with
        | mk cps =>
          unfold cutS
          have e1 : cps.toList = [] := e1
          simp only [e1, List.drop_nil, List.take_nil]
          congr 1
          exact Array.toList_inj.mp (by rw [e1])
      · have ha : HT.sIx z.length 0 (l.map (·.1)) = 0 := by omega
        have hb : HT.sIx z.length z.length (u.map (·.1)) = z.length := by omega
        cases z with
        | mk cps =>
          unfold cutS
          rw [ha, hb, List.drop_zero, Nat.sub_zero]
          congr 1
          have : cps.toList.take (Str.length ⟨cps⟩) = cps.toList := List.take_of_length_le (by rw [Array.length_toList]; exact Nat.le_refl _)
          rw [this]
    rw [hz]
  · refine ⟨false, ?_⟩
    rw [if_neg hw, hp]
    rfl
def rSlS : V → Option Int → Option Int → Hp → VK → Prop := fun x lo hi H Q => ∃ z, x = .str z ∧ z.length ≤ sizeLine ∧ Q (.str (cutS z lo hi)) H
theorem cutS_len (z : Str) (lo hi : Option Int) : (cutS z lo hi).length ≤ z.length := by
  show ((z.cps.toList.drop _).take _).toArray.size ≤ z.cps.size
  rw [List.size_toArray, List.length_take, List.length_drop, Array.length_toList]
  omega
theorem sl_str : SlR X rSlS := by
  intro pins s σ H x v vl vu lo hi sl Q I rx hs pl pu h
  obtain ⟨z, rfl, hz, q⟩ := h
  obtain ⟨t, rfl⟩ := rx
  refine ⟨"str", _, F.slot_str_getitem.lookup, typeIs_str _ _ _, ?_⟩
  have fin : ∀ (l u : Option (Int × Tok)), l.map (·.1) = lo → u.map (·.1) = hi → s.heap.IsSlice sl l u none → wpAny (model X.prog X.w) X.A (getItem (.str z t) (.ref sl)) (EP X pins σ Q) X.xe s := by
    intro l u el eu hsl
    refine wpAny_getItem_str_slice hsl rfl ?_
    obtain ⟨b, e⟩ := cut_made z t l u
    rw [e, el, eu]
    cases b with
    | true => exact ⟨.str (cutS z lo hi), H, I, ⟨t, rfl⟩, q⟩
    | false => exact ⟨Nat.le_trans (cutS_len z lo hi) hz, .str (cutS z lo hi), H, I.tok _, ⟨_, rfl⟩, q⟩
  cases pl with
  | none =>
    cases pu with
    | none => exact fin none none rfl rfl hs
    | int j tj => exact fin none (some (j, tj)) rfl rfl hs
  | int i ti =>
    cases pu with
    | none => exact fin (some (i, ti)) none rfl rfl hs
    | int j tj => exact fin (some (i, ti)) (some (j, tj)) rfl rfl hs
end
theorem lcR {te : TE} {cs : St} {H1 : Hp} {Q : Addr → Hp → Prop} {lo : Int} {n : Nat} (f : Nat → V) (hz : n ≤ sizeLine)
    (hx : ∀ (i : Nat) (H' : Hp) (R : VK), i < n → Same H1 H' → R (f i) H' → te (some (.int (lo + i)) :: cs) H' R) (q : ∀ D H2, New H1 D (.lst ((List.range n).map f)) H2 → Q D H2) :
    ∀ D, H1 D = none → ∃ W : Nat → Nat → List V → Hp → Prop, (∃ m, W 0 m [] (upd H1 D (.lst []))) ∧ ∀ i m ys H, W i m ys H →
      H D = some (.lst ys) ∧ (((Itr lo n).stop i H ∧ Q D H) ∨ ((Itr lo n).go i H ∧ ys.length < sizeLine ∧ ∀ x H', (Itr lo n).yld i H x H' → tYes (some x :: cs) H' fun b H2 =>
        if b = true then te (some x :: cs) H2 fun y H3 => H3 D = some (.lst ys) ∧ ∃ m', m' < m ∧ W (i + 1) m' (ys ++ [y]) (upd H3 D (.lst (ys ++ [y]))) else ∃ m', m' < m ∧ W (i + 1) m' ys H2)) := by
  intro D hD
  refine ⟨fun i m ys H => m = n - i ∧ i ≤ n ∧ ys = (List.range i).map f ∧ H = upd H1 D (.lst ys), ⟨n, by simp, Nat.zero_le _, by simp, rfl⟩, ?_⟩
  rintro i m ys H ⟨rfl, hi, hys, rfl⟩
  have s1 : Same H1 (upd H1 D (.lst ys)) := Same.upd (Same.refl H1) hD
  refine ⟨upd_same, ?_⟩
  by_cases hlt : i < n
  · have hyl : ys.length = i := by rw [hys, List.length_map, List.length_range]
    refine .inr ⟨hlt, by omega, fun x H' y => ?_⟩
    obtain ⟨e, y⟩ := y
    subst e y
    unfold tYes
    dsimp only
    rw [if_pos rfl]
    refine hx i _ _ hlt s1 ⟨upd_same, n - (i + 1), by omega, rfl, hlt, ?_, by rw [upd_upd]⟩
    rw [List.range_succ, List.map_append, ← hys]; rfl
  · have e : i = n := by omega
    subst e
    refine .inl ⟨Nat.le_refl _, ?_⟩
    rw [hys]
    exact q D _ ⟨hD, rfl⟩
def rLenS : List V → Hp → VK → Prop := fun xs H Q => ∃ z, xs = [.str z] ∧ z.length ≤ sizeLine ∧ Q (.int z.length) H
theorem call_lenS {X : Cx} : CallR X (.builtin "len") rLenS := call_len_str
def rAddS : R2 := fun x y H Q => ∃ i j, x = .str i ∧ y = .str j ∧ i.length + j.length ≤ sizeLine ∧ Q (.str (i ++ j)) H
theorem op_addS {X : Cx} : OpR X (binaryOp .Add) rAddS := op_add_str
section
variable {σ : St} {H : Hp} {Q : VK} {D : Ends}
theorem i_addS {x y : Str} (h : x.length + y.length ≤ sizeLine) (q : Q (.str (x ++ y)) H) : rAddS (.str x) (.str y) H Q := ⟨x, y, rfl, rfl, h, q⟩
theorem i_slS {z : Str} {lo hi : Option Int} (h : z.length ≤ sizeLine) (q : Q (.str (cutS z lo hi)) H) : rSlS (.str z) lo hi H Q := ⟨z, rfl, h, q⟩
theorem i_ixS {K : Frag} {z : Str} {i : Int} {c : Nat} (h : z.length ≤ sizeLine) (a : atI z.cps.toList i = some c) (q : Q (.str ⟨#[c]⟩) H) : rIx K (.str z) (.int i) H Q := .inr (.inr ⟨z, i, c, rfl, rfl, h, a, q⟩)
theorem i_bm0 {K : Frag} {T : String} {r : V → List V → Hp → VK → Prop} {to : TE} (q : to σ H fun x H1 => tyV K T x H1 ∧ r x [] H1 Q) : tBM0 K T r to σ H Q := q
theorem i_bm {K : Frag} {T : String} {r : V → List V → Hp → VK → Prop} {to : TE} {t : TA} (q : to σ H fun x H1 => tyV K T x H1 ∧ t σ H1 fun xs H2 => r x xs H2 Q) : tBM K T r to t σ H Q := q
end
theorem PE.imp {X : Cx} {e : Expr} {t t' : TE} (h : PE X e t) (i : ∀ σ H Q, t' σ H Q → t σ H Q) : PE X e t' := fun pins s σ H Q I q => h pins s σ H Q I (i _ _ _ q)
def tMakeA (C : Addr) : TE := fun _ H Q => ∀ x dx H2, NewI H x dx C [] H2 → Q (.ref x) H2
theorem pe_makeA {X : Cx} {C : Addr} {x : Str} {p pos : Pos} (M : MkN X.K C) (hg : Gl X x) (hm : X.mg x = some (.ref C)) (hdb : (x == ("__debug__" : Str)) = false := by decide) : PE X (.Call (.Name x p) [] [] pos) (tMakeA C) :=
  (pe_makeN M hg hm hdb).imp fun _ _ _ q x dx hx hd ne => q x dx _ ⟨hx, hd, ne, rfl⟩
theorem i_iteDt {c A B : Prop} [Decidable c] (h : c) (q : A) : if decide c = true then A else B := by rw [decide_eq_true h]; exact iteT q
theorem i_iteDf {c A B : Prop} [Decidable c] (h : ¬ c) (q : B) : if decide c = true then A else B := by rw [decide_eq_false h]; exact iteF q
theorem i_lenS {z : Str} {H : Hp} {Q : VK} (h : z.length ≤ sizeLine) (q : Q (.int z.length) H) : rLenS [.str z] H Q := ⟨z, rfl, h, q⟩
theorem i_inL {K : Frag} {x : V} {p : Addr} {xs : List V} {H : Hp} {Q : VK} (h : SqL K H p xs) (fx : flatV x = true) (f : xs.all flatV = true) (q : Q (.bl (inV x xs)) H) : rIn K false x (.ref p) H Q := ⟨p, xs, rfl, .inl h, fx, f, q⟩
theorem i_ninL {K : Frag} {x : V} {p : Addr} {xs : List V} {H : Hp} {Q : VK} (h : SqL K H p xs) (fx : flatV x = true) (f : xs.all flatV = true) (q : Q (.bl (!inV x xs)) H) : rIn K true x (.ref p) H Q := ⟨p, xs, rfl, .inl h, fx, f, q⟩
end L2
set_option maxRecDepth 100000
set_option Elab.async false
set_option linter.all false
namespace L2
open PySem PySem.Spec PySem.W PyProof.Rows
theorem Inv.turnedL {X : Cx} {pins : List (Addr × Obj)} {σ : St} {H : Hp} {s : Shared} {h' : Heap} {t' : Nat} {fp : List Addr} (I : Inv X pins σ H s) (f : ∀ b ∈ fp, FpOk X pins H b) (k : ∀ b o, b ∉ fp → s.heap.get? b = some o → h'.get? b = some o) :
    Inv X pins σ H { s with heap := h', toks := t' } := by
  have nit : ∀ b u, H b = some u → b ∉ fp := fun b u e z => by rw [(f b z).1] at e; cases e
  refine I.step (g' := s.gens) (d' := s.drawn) (ch := fp) (fun b hb => ?_) (fun b o _ _ hc e _ => k b o hc e) (fun b o _ _ hc e _ => ⟨o.slots, k b o hc e⟩) (fun _ _ _ _ n => n)
    (fun b o hc e => ⟨o, k b o hc e⟩) (fun _ _ e => e) (fun _ _ _ e => e) (fun b ps e => ⟨#[], by rw [e]; simp⟩) (fun m hm => ?_) (fun b u e => ?_) I.bare
  · obtain ⟨f0, f1, f2, f3, f4, f5⟩ := f b hb
    exact ⟨f3, f1, f4, f5⟩
  · obtain ⟨o, es, ep, ho, r⟩ := hm
    exact ⟨o, es, ep, k _ o (fun z => (f _ z).2.1 rfl) ho, r⟩
  · refine (I.hok b u e).stay (fun c v hc q => k c v ?_ q) (fun _ q => q) fun _ _ q => q
    rcases hc with z | z
    · rw [z]; exact nit b u e
    · exact nit c _ z
def Its (z : Str) : It := ⟨fun i _ => i < z.cps.size, fun i H x H' => H' = H ∧ ∃ c, z.cps.toList[i]? = some c ∧ x = .str ⟨#[c]⟩, fun i _ => i = z.cps.size⟩
theorem turn_str {P : Program} {w : World} {K : Frag} {tg : Expr} (it : Addr) (z : Str) (t : Tok) (ty : String) (hty : ty = "str_ascii_iterator" ∨ ty = "str_iterator") : Turn P w K tg (Its z) [it] it (fun i h => h.IsStrIter it ty z t i) where
  mem := by simp
  obj := fun i h st b hb => by
    have e : b = it := by simpa using hb
    subst e
    obtain ⟨o, ho, _, hd⟩ := st
    exact ⟨o, ho, fun v q => by rw [hd] at q; cases q⟩
  keep := fun i h h' st k => let ⟨o, ho, r⟩ := st; ⟨o, k it (by simp) o ho, r⟩
  item := by
    intro X hP hw hK hc i pins s σ H E I hf st hg
    subst hP hw hK
    have W : Walks X.prog X.w X.A it [it] [it] z.cps.size (SignAt z) (fun i h => h.IsStrIter it ty z t i) := by
      rcases hty with rfl | rfl
      · exact Walks.strAscii (I.ok.hd hc) it z t
      · exact Walks.strWide (I.ok.hd hc) it z t
    refine W.item i s _ _ hg st fun v h' tk hv st' kk => ?_
    obtain ⟨c, u, hc1, rfl⟩ := hv
    have I1 : Inv X pins σ H { s with heap := h', toks := tk } := I.turnedL hf fun b o hb e => kk b o hb e
    obtain ⟨o, ho, hcl, hd⟩ := id st'
    refine ⟨_, rfl, go_of (s := { s with heap := h', toks := tk }) (n := ty) ho hcl hd (by rcases hty with rfl | rfl <;> decide) ⟨.str ⟨#[c]⟩, H, I1, ⟨u, rfl⟩, ⟨rfl, c, by simpa using hc1, rfl⟩, st', fun b hb => (hf b hb).1⟩⟩
  done := by
    intro X hP hw hK hc i pins s σ H E I hf st hg
    subst hP hw hK
    have W : Walks X.prog X.w X.A it [it] [it] z.cps.size (SignAt z) (fun i h => h.IsStrIter it ty z t i) := by
      rcases hty with rfl | rfl
      · exact Walks.strAscii (I.ok.hd hc) it z t
      · exact Walks.strWide (I.ok.hd hc) it z t
    have e : i = z.cps.size := hg
    subst e
    exact W.done s _ _ st fun h' tk kk => ⟨rfl, I.turnedL hf fun b o hb e => kk b o hb e⟩
  self := fun _ _ _ _ _ st h => by
    rcases hty with rfl | rfl
    · exact wpAny_pyIter_striter_ascii st h
    · exact wpAny_pyIter_striter_wide st h
def iStr (tl : TE) : TI := fun σ H R => tl σ H fun x H1 => ∃ z, x = .str z ∧ R (Its z) H1
theorem pi_str {X : Cx} {tg l : Expr} {tl : TE} (hl : PE X l tl) : PI X tg l (iStr tl) := by
  intro pins s σ H R I h
  refine thn (hl pins s σ H _ I h) fun v s1 ⟨x, H1, I1, r1, q1⟩ => ?_
  obtain ⟨z, e, q⟩ := q1
  subst e
  obtain ⟨t, rfl⟩ := r1
  have fin : ∀ ty : String, (ty = "str_ascii_iterator" ∨ ty = "str_iterator") → PIE X pins σ tg R (.ref s1.heap.objs.size) { s1 with heap := s1.heap.push { cls := .type ty, data := .fields #[.str z t, .int 0 0] } } := fun ty hty => by
    refine ⟨s1.heap.objs.size, [s1.heap.objs.size], _, _, H1, rfl, I1.kept (t' := s1.toks) fun b o e => Heap.get?_push_of_some _ e, turn_str _ z t ty hty, ⟨_, Heap.get?_push_size _ rfl, rfl, rfl⟩, fun b hb => ?_, q⟩
    have e : b = s1.heap.objs.size := by simpa using hb
    subst e
    exact I1.fpOk (Nat.le_refl _) (I1.hok.fresh (Nat.le_refl _))
  cases ha : z.cps.all (· < 128)
  · exact wpAny_pyIter_wide ha (fin _ (.inr rfl))
  · exact wpAny_pyIter_ascii ha (fin _ (.inl rfl))
def Ite (K : Frag) (l : Addr) : It :=
  ⟨fun i H => ∃ xs x, SqL K H l xs ∧ xs[i]? = some x, fun i H v H' => ∃ T x, v = .ref T ∧ New H T (.tup [.int (i : Int), x]) H' ∧ ∀ xs, SqL K H l xs → xs[i]? = some x, fun i H => ∃ xs, SqL K H l xs ∧ xs.length ≤ i⟩
theorem turn_enum {P : Program} {w : World} {K : Frag} {es : List Expr} {k : Nat} {tp : Pos} (e it l : Addr) (hei : e ≠ it) : Turn P w K (.Tuple es k tp) (Ite K l) [e, it] e (fun i h => (∃ old, IsEnum h e it (i : Nat) old) ∧ h.IsListIter it l i) where
  mem := by simp
  obj := fun i h st b hb => by
    obtain ⟨⟨old, he⟩, o, ho, hc, hd⟩ := st
    rcases List.mem_cons.mp hb with rfl | hb
    · exact ⟨_, he, fun v z => by cases z⟩
    · have e2 : b = it := by simpa using hb
      subst e2
      exact ⟨o, ho, fun v z => by rw [hd] at z; cases z⟩
  keep := fun i h h' st kk => by
    obtain ⟨⟨old, he⟩, o, ho, r⟩ := st
    exact ⟨⟨old, kk e (by simp) _ he⟩, o, kk it (by simp) _ ho, r⟩
  item := by
    intro X hP hw hK hc i pins s σ H E I hf st hg
    subst hP hw hK
    obtain ⟨⟨old, he⟩, hit⟩ := st
    obtain ⟨xs, x, hS, hx⟩ := hg
    obtain ⟨its, rv, p, hz⟩ := I.list hS
    obtain ⟨u, hu, ru⟩ := rv.get hx
    refine wpAny_pyNext_enum_item he hit p.isList (show its.toArray[i]? = some u by simpa using hu) hei fun h' ho hit' hT hsz hk => ⟨_, rfl, ?_⟩
    have I1 : Inv X pins σ H { s with heap := h', toks := s.toks + 1 } := I.turnedL hf fun b o hb q => hk b o (fun z => hb (by simp [z])) (fun z => hb (by simp [z])) q
    have helt : e < s.heap.objs.size := Heap.lt_size he
    have hilt : it < s.heap.objs.size := by obtain ⟨_, x, _⟩ := hit; exact Heap.lt_size x
    refine wpAny_letOwnedTupleGo_enum ho fun h2 he2 hs2 => ?_
    have I2 : Inv X pins σ H { s with heap := h2, toks := s.toks + 1 } := I1.turnedL hf fun b o hb q => (hs2.2 b (fun z => hb (by simp [z]))).trans q
    have hTn : H s.heap.objs.size = none := I.hok.fresh (Nat.le_refl _)
    have hTe : s.heap.objs.size ≠ e := Nat.ne_of_gt helt
    have hT2 : h2.get? s.heap.objs.size = some { cls := .type "tuple", data := .seq #[.int i s.toks, u] } := (hs2.2 _ hTe).trans hT
    have I3 : Inv X pins σ (upd H s.heap.objs.size (.tup [.int (i : Int), x])) { s with heap := h2, toks := s.toks + 1 } := by
      refine I2.track (I.fpOk (Nat.le_refl _) hTn) ⟨by show 2 ≤ sizeLine; decide, [.int i s.toks, u], .cons ⟨_, rfl⟩ (.cons ru .nil), ⟨_, hT2, rfl, _, rfl⟩⟩
    refine ⟨.ref s.heap.objs.size, _, I3, rfl, ⟨_, x, rfl, ⟨hTn, rfl⟩, fun ys hy => ?_⟩, ⟨⟨u, by simpa using he2⟩, ?_⟩, fun b hb => ?_⟩
    · cases I.list_inj hS hy; exact hx
    · exact hit'.at fun o q => (hs2.2 it hei.symm).trans q
    · have hne : b ≠ s.heap.objs.size := by
        rcases List.mem_cons.mp hb with z | z
        · rw [z]; exact Nat.ne_of_lt helt
        · rw [show b = it by simpa using z]; exact Nat.ne_of_lt hilt
      rw [upd_ne hne]; exact (hf b hb).1
  done := by
    intro X hP hw hK hc i pins s σ H E I hf st hg
    subst hP hw hK
    obtain ⟨⟨old, he⟩, hit⟩ := st
    obtain ⟨xs, hS, hl⟩ := hg
    obtain ⟨its, rv, p, hz⟩ := I.list hS
    have hlen := rv.length
    refine wpAny_pyNext_enum_end (I.ok.hd hc) he hit p.isList (by simp; omega) fun h' hx => ⟨rfl, ?_⟩
    exact I.turnedL (t' := s.toks) hf fun b o hb q => hx b o (fun z => hb (by simp [z])) q
  self := fun _ _ _ _ _ ⟨⟨_, he⟩, _⟩ h => wpAny_pyIter_enum he h
def iEnum (K : Frag) (ta : TA) : TI := fun σ H R => ta σ H fun vs H1 => ∃ l, vs = [.ref l] ∧ (∃ xs, SqL K H1 l xs) ∧ R (Ite K l) H1
theorem pi_enum {X : Cx} {es : List Expr} {k : Nat} {tp : Pos} {a : Expr} {ta : TA} {p pos : Pos} (hg : Gl X "enumerate") (hm : X.mg "enumerate" = none) (ha : PA X [a] ta) (hs : starEach [a] X.env = [(false, eval a X.env)] := by rfl) : PI X (.Tuple es k tp) (.Call (.Name "enumerate" p) [a] [] pos) (iEnum X.K ta) := by
  intro pins s σ H R I h
  refine Call_ (ld_blt I hg hm PyProof.Rows.boot_enumerate (PyProof.Rows.callWith_type1 (thn (ha pos pins s σ H _ I h) fun us s1 ⟨vs, H1, I1, r1, q1⟩ => ?_) hs rfl))
  obtain ⟨l, e, ⟨xs, hS⟩, q⟩ := q1
  subst e
  cases r1 with
  | cons r rr =>
    cases rr
    cases r
    obtain ⟨its, rv, pl, hz⟩ := I1.list hS
    refine call_enumerate_list pl.isList fun h' he hit hsz hk => ?_
    have hne : s1.heap.objs.size + 1 ≠ s1.heap.objs.size := Nat.succ_ne_self _
    have I2 : Inv X pins σ H1 { s1 with heap := h' } := I1.kept (t' := s1.toks) fun b o e => hk b o e
    refine wpAny_pyIter_enum he ⟨s1.heap.objs.size + 1, [s1.heap.objs.size + 1, s1.heap.objs.size], _, _, H1, rfl, I2, turn_enum _ _ l hne, ⟨⟨_, he⟩, hit⟩, fun b hb => ?_, q⟩
    have hb' : s1.heap.objs.size ≤ b := by
      rcases List.mem_cons.mp hb with z | z
      · rw [z]; exact Nat.le_succ _
      · rw [show b = s1.heap.objs.size by simpa using z]; exact Nat.le_refl _
    exact I1.fpOk hb' (I1.hok.fresh hb')
theorem for_enum {K : Frag} {l : Addr} {xs : List V} {g : TG} {tb : TS} {D : Ends} {σ : St} {H : Hp} (Pv : Nat → St → Hp → Prop) (h0 : Pv 0 σ H) (hl : ∀ i σ H, i ≤ xs.length → Pv i σ H → SqL K H l xs)
    (hs : ∀ i x T σ H H', xs[i]? = some x → Pv i σ H → New H T (.tup [.int (i : Int), x]) H' → g (.ref T) σ H' fun σ2 H2 => tb { D with nx := Pv (i + 1), ct := Pv (i + 1), bk := D.nx } σ2 H2) (hd : ∀ σ H, Pv xs.length σ H → D.nx σ H) :
    ∃ W : Nat → Nat → St → Hp → Prop, (∃ m, W 0 m σ H) ∧ ∀ i m σ H, W i m σ H →
      ((Ite K l).stop i H ∧ D.nx σ H) ∨ ((Ite K l).go i H ∧ ∃ N : St → Hp → Prop, (∀ σ' H', N σ' H' → ∃ m', m' < m ∧ W (i + 1) m' σ' H') ∧ ∀ x H', (Ite K l).yld i H x H' → g x σ H' fun σ2 H2 => tb { D with nx := N, ct := N, bk := D.nx } σ2 H2) := by
  refine ⟨fun i m σ H => m = xs.length - i ∧ i ≤ xs.length ∧ Pv i σ H, ⟨xs.length, by simp, Nat.zero_le _, h0⟩, ?_⟩
  rintro i m σ H ⟨rfl, hi, p⟩
  have q := hl i σ H hi p
  by_cases hlt : i < xs.length
  · refine .inr ⟨⟨xs, xs[i], q, by simp [hlt]⟩, Pv (i + 1), fun σ' H' p' => ⟨xs.length - (i + 1), by omega, rfl, hlt, p'⟩, fun v H' y => ?_⟩
    obtain ⟨T, x, rfl, hN, y⟩ := y
    exact hs i x T σ H H' (y xs q) p hN
  · have e : i = xs.length := by omega
    subst e
    exact .inl ⟨⟨xs, q, Nat.le_refl _⟩, hd σ H p⟩
def rAll (K : Frag) : List V → Hp → VK → Prop := fun xs H Q => ∃ p bs, xs = [.ref p] ∧ SqL K H p (List.map V.bl bs) ∧ Q (.bl (bs.all id)) H
theorem call_all {X : Cx} (hc : X.calm = true) : CallR X (.builtin "all") (rAll X.K) := by
  intro pins s σ H xs us Q I r h
  obtain ⟨p, bs, rfl, hS, q⟩ := h
  obtain ⟨u, rfl, ru⟩ := r.one
  cases ru
  obtain ⟨its, rv, pl, hz⟩ := I.list hS
  have hl := pl.isList
  have hlt : p < s.heap.objs.size := by obtain ⟨_, e, _⟩ := hl; exact Heap.lt_size e
  have hlen : bs.length = its.length := by have := rv.length; simpa using this
  refine call_all_walk (wpAny_pyIter_list hl ?_)
  refine ⟨s.heap.objs.size, [s.heap.objs.size, p], [s.heap.objs.size], its.toArray.size, _, _, fun i => (bs[i]?).getD true, rfl, Walks.list (A := X.A.in1) (I.ok.hd hc) _ p (Nat.ne_of_lt hlt) its.toArray,
    ⟨⟨_, Heap.get?_push_size _ rfl, rfl, rfl⟩, hl.push _⟩, fun i v s' Q' E' hP hQ => ?_, fun h' tk hk => ?_⟩
  · have hP' : its[i]? = some v := by simpa using hP
    have hi : i < bs.length := by rw [hlen]; exact (List.getElem?_eq_some_iff.mp hP').1
    obtain ⟨u, hu, ru⟩ := rv.get (i := i) (x := .bl bs[i]) (by rw [List.getElem?_map, List.getElem?_eq_getElem hi]; rfl)
    rw [hP'] at hu; cases hu
    cases ru
    simp only [List.getElem?_eq_getElem hi, Option.getD_some] at hQ
    exact wpAny_truthy_bool hQ
  · have e : ((List.range its.toArray.size).all fun i => (bs[i]?).getD true) = bs.all id := by
      rw [List.size_toArray, ← hlen]; exact LSm.range_all bs
    rw [e]
    exact ⟨.bl (bs.all id), H, I.kept (t' := tk) (LSm.kept_iter hk), rfl, q⟩
theorem i_all {K : Frag} {p : Addr} {bs : List Bool} {H : Hp} {Q : VK} (h : SqL K H p (List.map V.bl bs)) (q : Q (.bl (bs.all id)) H) : rAll K [.ref p] H Q := ⟨p, bs, rfl, h, q⟩
def rInS : R2 := fun x y H Q => ∃ (c : Nat) (j : Str), x = .str ⟨#[c]⟩ ∧ y = .str j ∧ Q (.bl (decide (c ∈ j.cps.toList))) H
theorem op_inS {X : Cx} : OpR X (compareOp .In) rInS := fun pins s σ H x y v u Q I rx ry ⟨c, j, e1, e2, q⟩ => op_in_str pins s σ H x y v u Q I rx ry ⟨⟨#[c]⟩, j, e1, e2, by
  rw [PySem.StrLaws.found_one]; exact q⟩
theorem lcT {K : Frag} {a : Addr} {te : TE} {cs : St} {H1 : Hp} {Q : Addr → Hp → Prop} (xs : List V) (f : V → V) (hS : SqT K H1 a xs) (hz : xs.length ≤ sizeLine)
    (hx : ∀ (i : Nat) (v : V) (H' : Hp) (R : VK), xs[i]? = some v → Same H1 H' → R (f v) H' → te (some v :: cs) H' R) (q : ∀ D H2, New H1 D (.lst (xs.map f)) H2 → Q D H2) :
    ∃ a', V.ref a = .ref a' ∧ (∃ xs, SqT K H1 a' xs) ∧ ∀ D, H1 D = none → ∃ W : Nat → Nat → List V → Hp → Prop, (∃ m, W 0 m [] (upd H1 D (.lst []))) ∧ ∀ i m ys H, W i m ys H →
      H D = some (.lst ys) ∧ (((Itt K a').stop i H ∧ Q D H) ∨ ((Itt K a').go i H ∧ ys.length < sizeLine ∧ ∀ x H', (Itt K a').yld i H x H' → tYes (some x :: cs) H' fun b H2 =>
        if b = true then te (some x :: cs) H2 fun y H3 => H3 D = some (.lst ys) ∧ ∃ m', m' < m ∧ W (i + 1) m' (ys ++ [y]) (upd H3 D (.lst (ys ++ [y]))) else ∃ m', m' < m ∧ W (i + 1) m' ys H2)) := by
  refine ⟨a, rfl, ⟨xs, hS⟩, fun D hD => ?_⟩
  refine ⟨fun i m ys H => m = xs.length - i ∧ i ≤ xs.length ∧ ys = (xs.take i).map f ∧ H = upd H1 D (.lst ys), ⟨xs.length, by simp, Nat.zero_le _, by simp, rfl⟩, ?_⟩
  rintro i m ys H ⟨rfl, hi, hys, rfl⟩
  have s1 : Same H1 (upd H1 D (.lst ys)) := Same.upd (Same.refl H1) hD
  have q1 := s1.tup hS
  refine ⟨upd_same, ?_⟩
  by_cases hlt : i < xs.length
  · have hyl : ys.length = i := by rw [hys, List.length_map, List.length_take]; omega
    refine .inr ⟨⟨xs, xs[i], q1, by simp [hlt]⟩, by omega, fun x H' y => ?_⟩
    obtain ⟨e, y⟩ := y
    subst e
    have hxi := y xs q1
    unfold tYes; dsimp only
    rw [if_pos rfl]
    refine (hx i x _ _ hxi s1 ⟨upd_same, xs.length - (i + 1), by omega, rfl, hlt, ?_, by rw [upd_upd]⟩)
    rw [List.take_add_one, List.map_append, ← hys, hxi]; rfl
  · have e : i = xs.length := by omega
    subst e
    refine .inl ⟨⟨xs, q1, Nat.le_refl _⟩, ?_⟩
    rw [hys, List.take_length]
    exact q D _ ⟨hD, rfl⟩
theorem lcS {te : TE} {cs : St} {H1 : Hp} {Q : Addr → Hp → Prop} (z : Str) (f : Nat → V) (hz : z.length ≤ sizeLine)
    (hx : ∀ (c : Nat) (H' : Hp) (R : VK), c ∈ z.cps.toList → Same H1 H' → R (f c) H' → te (some (.str ⟨#[c]⟩) :: cs) H' R) (q : ∀ D H2, New H1 D (.lst (z.cps.toList.map f)) H2 → Q D H2) :
    ∃ z', V.str z = .str z' ∧ ∀ D, H1 D = none → ∃ W : Nat → Nat → List V → Hp → Prop, (∃ m, W 0 m [] (upd H1 D (.lst []))) ∧ ∀ i m ys H, W i m ys H →
      H D = some (.lst ys) ∧ (((Its z').stop i H ∧ Q D H) ∨ ((Its z').go i H ∧ ys.length < sizeLine ∧ ∀ x H', (Its z').yld i H x H' → tYes (some x :: cs) H' fun b H2 =>
        if b = true then te (some x :: cs) H2 fun y H3 => H3 D = some (.lst ys) ∧ ∃ m', m' < m ∧ W (i + 1) m' (ys ++ [y]) (upd H3 D (.lst (ys ++ [y]))) else ∃ m', m' < m ∧ W (i + 1) m' ys H2)) := by
  refine ⟨z, rfl, fun D hD => ?_⟩
  have hsz : z.cps.toList.length = z.cps.size := Array.length_toList
  have hz' : z.cps.size ≤ sizeLine := hz
  refine ⟨fun i m ys H => m = z.cps.size - i ∧ i ≤ z.cps.size ∧ ys = (z.cps.toList.take i).map f ∧ H = upd H1 D (.lst ys), ⟨z.cps.size, by simp, Nat.zero_le _, by simp, rfl⟩, ?_⟩
  rintro i m ys H ⟨rfl, hi, hys, rfl⟩
  have s1 : Same H1 (upd H1 D (.lst ys)) := Same.upd (Same.refl H1) hD
  refine ⟨upd_same, ?_⟩
  by_cases hlt : i < z.cps.size
  · have hyl : ys.length = i := by rw [hys, List.length_map, List.length_take]; omega
    refine .inr ⟨hlt, by omega, fun x H' y => ?_⟩
    obtain ⟨e, c, hc, rfl⟩ := y
    subst e
    unfold tYes; dsimp only
    rw [if_pos rfl]
    refine (hx c _ _ (List.mem_iff_getElem?.mpr ⟨i, hc⟩) s1 ⟨upd_same, z.cps.size - (i + 1), by omega, rfl, hlt, ?_, by rw [upd_upd]⟩)
    rw [List.take_add_one, List.map_append, ← hys, hc]; rfl
  · have e : i = z.cps.size := by omega
    refine .inl ⟨e, ?_⟩
    have : ys = z.cps.toList.map f := by rw [hys, e, ← hsz, List.take_length]
    rw [this]
    exact q D _ ⟨hD, rfl⟩
def SameB (D : Addr) (H H' : Hp) : Prop := ∀ b u, b ≠ D → H b = some u → H' b = some u
theorem SameB.of {D : Addr} {H H' : Hp} (s : Same H H') : SameB D H H' := fun b u _ e => s b u e
theorem SameB.upd (D : Addr) (H : Hp) (o : HO) : SameB D H (L2.upd H D o) := fun b u n e => by rw [upd_ne n]; exact e
structure LcIt (J : It) (n : Nat) (H1 : Hp) (xs : Nat → V) : Prop where
  go : ∀ i H, i < n → Same H1 H → J.go i H
  yld : ∀ i H x H', i < n → Same H1 H → J.yld i H x H' → H' = H ∧ x = xs i
  stop : ∀ H, Same H1 H → J.stop n H
theorem LcIt.lst {K : Frag} {a : Addr} {H1 : Hp} {xs : List V} (hS : SqL K H1 a xs) : LcIt (Itl K a) xs.length H1 (fun i => xs.getD i .non) where
  go := fun i H hi s => ⟨xs, xs[i], s.seq hS, by simp [hi]⟩
  yld := fun i H x H' hi s y => by
    obtain ⟨e, y⟩ := y
    refine ⟨e, ?_⟩
    have := y xs (s.seq hS)
    rw [List.getD, this]; rfl
  stop := fun H s => ⟨xs, s.seq hS, Nat.le_refl _⟩
theorem LcIt.rng {lo : Int} {n : Nat} {H1 : Hp} : LcIt (Itr lo n) n H1 (fun i => .int (lo + i)) where
  go := fun i H hi s => hi
  yld := fun i H x H' hi s y => y
  stop := fun H s => Nat.le_refl _
theorem lcN {J : It} {n : Nat} {xs : Nat → V} {te : TE} {cs : St} {H1 : Hp} {Q : Addr → Hp → Prop} (L : LcIt J n H1 xs) (Pe : Addr → Nat → V → Hp → Prop) (hz : n ≤ sizeLine)
    (hm : ∀ D i y H H', SameB D H H' → Pe D i y H → Pe D i y H')
    (hx : ∀ (D : Addr) (i : Nat) (H' : Hp) (R : VK), i < n → H1 D = none → (∃ ys, H' D = some (.lst ys)) → Same H1 H' → (∀ y H'', Same H' H'' → Pe D i y H'' → R y H'') → te (some (xs i) :: cs) H' R)
    (q : ∀ D ys H2, H1 D = none → Same H1 H2 → H2 D = some (.lst ys) → ys.length = n → (∀ i y, ys[i]? = some y → Pe D i y H2) → Q D H2) :
    ∀ D, H1 D = none → ∃ W : Nat → Nat → List V → Hp → Prop, (∃ m, W 0 m [] (upd H1 D (.lst []))) ∧ ∀ i m ys H, W i m ys H →
      H D = some (.lst ys) ∧ ((J.stop i H ∧ Q D H) ∨ (J.go i H ∧ ys.length < sizeLine ∧ ∀ x H', J.yld i H x H' → tYes (some x :: cs) H' fun b H2 =>
        if b = true then te (some x :: cs) H2 fun y H3 => H3 D = some (.lst ys) ∧ ∃ m', m' < m ∧ W (i + 1) m' (ys ++ [y]) (upd H3 D (.lst (ys ++ [y]))) else ∃ m', m' < m ∧ W (i + 1) m' ys H2)) := by
  intro D hD
  refine ⟨fun i m ys H => m = n - i ∧ i ≤ n ∧ ys.length = i ∧ H D = some (.lst ys) ∧ Same H1 H ∧ ∀ j y, ys[j]? = some y → Pe D j y H, ⟨n, by simp, Nat.zero_le _, rfl, upd_same, Same.new hD, fun j y e => by simp at e⟩, ?_⟩
  rintro i m ys H ⟨rfl, hi, hyl, hHD, s1, hP⟩
  refine ⟨hHD, ?_⟩
  by_cases hlt : i < n
  · refine .inr ⟨L.go i H hlt s1, by omega, fun x H' y => ?_⟩
    obtain ⟨e, ex⟩ := L.yld i H x H' hlt s1 y
    subst e ex
    unfold tYes; dsimp only
    rw [if_pos rfl]
    refine hx D i _ _ hlt hD ⟨ys, hHD⟩ s1 fun y H'' s2 pe => ⟨s2 _ _ hHD, n - (i + 1), by omega, rfl, hlt, by simp [hyl], upd_same, fun b u e => ?_, fun j y' ej => ?_⟩
    · rw [upd_ne (ne_of_none e hD)]; exact s2 _ _ (s1 _ _ e)
    · refine hm D j y' _ _ (SameB.upd D H'' _) ?_
      by_cases hj : j < ys.length
      · rw [List.getElem?_append_left hj] at ej
        exact hm D j y' _ _ (SameB.of s2) (hP j y' ej)
      · rw [List.getElem?_append_right (by omega)] at ej
        have hj0 : j - ys.length = 0 := by
          by_cases h0 : j - ys.length = 0
          · exact h0
          · rw [List.getElem?_eq_none (by simp; omega)] at ej; cases ej
        rw [hj0] at ej
        have e1 : y = y' := by simpa using ej
        have e2 : j = i := by omega
        rw [← e1, e2]; exact pe
  · have e : i = n := by omega
    subst e
    exact .inl ⟨L.stop H s1, q D ys H hD s1 hHD hyl hP⟩
theorem lcNL {K : Frag} {a : Addr} {te : TE} {cs : St} {H1 : Hp} {Q : Addr → Hp → Prop} (xs : List V) (Pe : Addr → Nat → V → Hp → Prop) (hS : SqL K H1 a xs) (hz : xs.length ≤ sizeLine)
    (hm : ∀ D i y H H', SameB D H H' → Pe D i y H → Pe D i y H')
    (hx : ∀ (D : Addr) (i : Nat) (v : V) (H' : Hp) (R : VK), xs[i]? = some v → H1 D = none → (∃ ys, H' D = some (.lst ys)) → Same H1 H' → (∀ y H'', Same H' H'' → Pe D i y H'' → R y H'') → te (some v :: cs) H' R)
    (q : ∀ D ys H2, H1 D = none → Same H1 H2 → H2 D = some (.lst ys) → ys.length = xs.length → (∀ i y, ys[i]? = some y → Pe D i y H2) → Q D H2) :
    ∃ a', V.ref a = .ref a' ∧ (∃ xs, SqL K H1 a' xs) ∧ ∀ D, H1 D = none → ∃ W : Nat → Nat → List V → Hp → Prop, (∃ m, W 0 m [] (upd H1 D (.lst []))) ∧ ∀ i m ys H, W i m ys H →
      H D = some (.lst ys) ∧ (((Itl K a').stop i H ∧ Q D H) ∨ ((Itl K a').go i H ∧ ys.length < sizeLine ∧ ∀ x H', (Itl K a').yld i H x H' → tYes (some x :: cs) H' fun b H2 =>
        if b = true then te (some x :: cs) H2 fun y H3 => H3 D = some (.lst ys) ∧ ∃ m', m' < m ∧ W (i + 1) m' (ys ++ [y]) (upd H3 D (.lst (ys ++ [y]))) else ∃ m', m' < m ∧ W (i + 1) m' ys H2)) :=
  ⟨a, rfl, ⟨xs, hS⟩, lcN (LcIt.lst hS) Pe hz hm (fun D i H' R hi hD hy s r => by
    refine hx D i _ H' R ?_ hD hy s r
    rw [List.getD, List.getElem?_eq_getElem hi]; rfl) q⟩
structure HasV (K : Frag) (x : Str) (v : V) : Prop where
  ex : ∃ u, nsIn K mainGlobals x = some (some u) ∧ RelV v u
theorem hasV_int {K : Frag} {x : Str} {i : Int} {t : Tok} (h : nsIn K mainGlobals x = some (some (.int i t))) : HasV K x (.int i) := ⟨_, h, ⟨_, rfl⟩⟩
theorem hasV_str {K : Frag} {x : Str} {z : Str} {t : Tok} (h : nsIn K mainGlobals x = some (some (.str z t))) : HasV K x (.str z) := ⟨_, h, ⟨_, rfl⟩⟩
theorem pe_val {X : Cx} {x : Str} {v : V} {pos : Pos} (h : ∃ u, X.mg x = some u ∧ RelV v u) (hg : Gl X x) (hd : (x == ("__debug__" : Str)) = false := by decide) : PE X (.Name x pos) (tC v) := by
  obtain ⟨u, hm, r⟩ := h
  exact pe_glob hg hm r hd
theorem HasV.mg {K : Frag} {x : Str} {v : V} {h : Heap} {mg : Str → Option Value} (V : HasV K x v) (Kb : K.In h) (G : h.Ns mainGlobals mg) : ∃ u, mg x = some u ∧ RelV v u :=
  let ⟨u, a, r⟩ := V.ex
  ⟨u, PySem.W.mg_of Kb G a, r⟩
structure HasCI (K : Frag) (x : Str) (C : Addr) (qual : Str) (st : Stmt) : Prop where
  ns : nsIn K mainGlobals x = some (some (.ref C))
  cl : Cls K C
  ex : ∃ f fd, Mk K C f ∧ Fun K "__init__" qual st f fd
theorem hasCI_mk {K : Frag} {x qual : Str} {C : Addr} {st : Stmt} {f : Addr} {oc : Value} {od an : Option Addr} {osl : Array (Option Value)} {kV doc pm cdv ct : Value} (a : nsIn K mainGlobals x = some (some (.ref C))) (pg : plainGet K C Str.empty = true) (hd : hasDictIn K C = true) (po : plainOver K C = true)
    (sa : findIn K (.ref C) "__setattr__" = some (some (.builtin "object.__setattr__"))) (mk : makesIn K C = true) (i : findIn K (.ref C) "__init__" = some (some (.ref f))) (fn : isFn K (.ref f) = true) (kc : keepIn K (.ref C) = true)
    (l : K.lookup f = some ⟨oc, od, .func (PySem.W.fnOf "__init__" qual (defArgs st) (defBody st) (defScope st) .none kV doc pm an cdv ct), osl⟩)
    (c : codeIn K cdv qual = true) (k : keepIn K (.ref f) = true) : HasCI K x C qual st :=
  ⟨a, ⟨pg, hd, po, sa⟩, f, _, ⟨mk, i, fn, kc⟩, fun_mk l c k⟩
structure MkI (P : Program) (w : World) (K : Frag) (mg : Str → Option Value) (base : Heap) (k : Nat) (C : Addr) (ps : List Str) (sp : Sp) : Prop where
  ex : ∃ f fd, Mk K C f ∧ FnOk P w K mg base CX0 k f fd ps sp ∧ Binds K fd ps []
theorem HasCI.mki {P : Program} {w : World} {K : Frag} {mg : Str → Option Value} {base : Heap} {k : Nat} {x : Str} {C : Addr} {qual : Str} {st : Stmt} {N ps : List Str} {sp : Sp} (F : HasCI K x C qual st) (S : FnScope N ps (defScope st))
    (hbi : ∀ (kV doc pm : Value) (an : Option Addr) (cdv ct : Value) (us : List Value), us.length = ps.length → bindArgs (PySem.W.fnOf "__init__" qual (defArgs st) (defBody st) (defScope st) .none kV doc pm an cdv ct) ⟨us, []⟩ = pure (ps.zip us))
    (len : ∀ vs H Q E, sp vs H Q E → vs.length = ps.length)
    (hbody : ∀ (f : Addr) (cdv : Value) (A : Around) (outer : List Env) (s : Shared) (H : Hp) (vs : List V) (Q : VK) (E : XK), Room k (A.deeper (envOfC qual (defScope st) s.heap.objs.size f cdv)) → sp vs H Q E →
      ∃ t, PSs (cxOf CX0 P w K mg base N qual (defScope st) f cdv A outer s H E).nox (defBody st) t ∧ t { nx := fun _ H' => Q .non H', rt := Q } (start N vs) H) :
    MkI P w K mg base (k + 1) C ps sp := by
  obtain ⟨f, fd, a, F⟩ := F.ex
  exact ⟨f, fd, a, F.ok S len (hbody f), F.binds hbi⟩
theorem pe_makeI {X : Cx} {k : Nat} {C : Addr} {x : Str} {ps : List Str} {sp : Sp} {e : Expr} {es : List Expr} {t : TA} {p pos : Pos} (M : MkI X.prog X.w X.K X.mg X.base k C ps sp) (hr : Room (k + 1) X.A) (hg : Gl X x) (hm : X.mg x = some (.ref C)) (ha : PA X (e :: es) t)
    (hdb : (x == ("__debug__" : Str)) = false := by decide) (he : starEach (e :: es) X.env = (false, eval e X.env) :: starEach es X.env := by rfl) (hpl : (backTo pos (starEach es X.env)).any (·.1) = false := by rfl) :
    PE X (.Call (.Name x p) (e :: es) [] pos) (tMake C sp [] E0 t) := by
  obtain ⟨f, fd, m, F, hb⟩ := M.ex
  exact pe_make m F hr hg hm hb .nil pass0 ha hdb he hpl
theorem i_makeI {C : Addr} {sp : Sp} {t : TA} {σ : St} {H : Hp} {Q : VK} (q : t σ H fun vs H1 => ∀ x dx, H1 x = none → H1 dx = none → dx ≠ x → sp (.ref x :: (vs ++ [])) (upd (upd H1 dx (.own x)) x (.ins C dx [])) (fun v H2 => v = .non ∧ Q (.ref x) H2) E0) : tMake C sp [] E0 t σ H Q := q
section
variable {X : Cx} {K : Frag}
theorem ix_seqK (h : X.K = K) : IxR X (rIx K) := h ▸ ix_seq
theorem call_isiK (h : X.K = K) : CallR X (.builtin "isinstance") (rIsi K) := h ▸ call_isi
theorem call_tupleK (h : X.K = K) : CallR X (.type "tuple") (rTupleA K) := h ▸ call_tupleA
end
section
variable {K : Frag} {σ : St} {H : Hp} {Q : VK} {D : Ends}
theorem i_tupI {tl : TE} {R : It → Hp → Prop} (q : tl σ H fun x H1 => ∃ a, x = .ref a ∧ (∃ xs, SqT K H1 a xs) ∧ R (Itt K a) H1) : iTup K tl σ H R := q
theorem i_strI {tl : TE} {R : It → Hp → Prop} (q : tl σ H fun x H1 => ∃ z, x = .str z ∧ R (Its z) H1) : iStr tl σ H R := q
theorem i_enumI {ta : TA} {R : It → Hp → Prop} (q : ta σ H fun vs H1 => ∃ l, vs = [.ref l] ∧ (∃ xs, SqL K H1 l xs) ∧ R (Ite K l) H1) : iEnum K ta σ H R := q
theorem i_fld {ta : TE} {f : Str} (q : ta σ H fun x H1 => ∃ a C dx fs v, x = .ref a ∧ H1 a = some (.ins C dx fs) ∧ Cls K C ∧ NoAttr K C f ∧ fs.lookup f = some v ∧ Q v H1) : tFld K ta f σ H Q := q
theorem i_setFld {ta tv : TE} {f : Str} (q : tv σ H fun y H1 => ta σ H1 fun x H2 => ∃ a C dx fs, x = .ref a ∧ H2 a = some (.ins C dx fs) ∧ Cls K C ∧ NoAttr K C f ∧ fs.length < 1000 ∧ D.nx σ (upd H2 a (.ins C dx (putF f y fs)))) : sFld K ta tv f D σ H := q
theorem i_dget2 {td ty tx : TE} (q : td σ H fun x H1 => ∃ a, x = .ref a ∧ IsD H1 a ∧ ty σ H1 fun y H2 => tx σ H2 fun z H3 => ∃ o, DGet H3 a y o ∧ Q (o.getD z) H3) : tDGet2 td ty tx σ H Q := q
theorem i_dput {td ty tv : TE} (q : tv σ H fun v H1 => td σ H1 fun x H2 => ty σ H2 fun y H3 => ∃ a H4, x = .ref a ∧ DPut H3 a y v H4 ∧ D.nx σ H4) : sDPut td ty tv D σ H := q
theorem i_dnew (q : ∀ p, H p = none → Q (.ref p) (upd H p (.dK []))) : tDNewK σ H Q := q
theorem i_max {i j : Int} (q : Q (.int (max i j)) H) : ∃ i' j', [V.int i, V.int j] = [.int i', .int j'] ∧ Q (.int (if j' > i' then j' else i')) H :=
  ⟨i, j, rfl, by
    have e : (if j > i then j else i) = max i j := by by_cases h : j > i <;> simp [h] <;> omega
    rw [e]; exact q⟩
theorem i_chain {r r' : R2} {ta tb tc : TE} (q : ta σ H fun x H1 => tb σ H1 fun y H2 => r x y H2 fun z H3 => ∃ k, z = .bl k ∧ (if k = true then tc σ H3 fun w' H4 => r' y w' H4 Q else Q (.bl false) H3)) : tChain r r' ta tb tc σ H Q := q
theorem i_append {l : Addr} {xs : List V} {y : V} (h : H l = some (.lst xs)) (z : xs.length < sizeLine) (q : Q .non (upd H l (.lst (xs ++ [y])))) : rAppend (.ref l) [y] H Q := ⟨l, xs, y, rfl, rfl, h, z, q⟩
theorem i_inS {c : Nat} {j : Str} (q : Q (.bl (decide (c ∈ j.cps.toList))) H) : rInS (.str ⟨#[c]⟩) (.str j) H Q := ⟨c, j, rfl, rfl, q⟩
theorem i_isiI {i : Int} (kII : kitOne K (.type "int") (.type "int") = some true) (q : Q (.bl true) H) : rIsi K [.int i, .ty "int"] H Q := ⟨_, _, _, _, rfl, rfl, .int i, kII, q⟩
theorem i_isiT {a : Addr} {xs : List V} {T : String} {b : Bool} (e : H a = some (.tup xs)) (k : kitOne K (.type "tuple") (.type T) = some b) (q : Q (.bl b) H) : rIsi K [.ref a, .ty T] H Q := ⟨_, _, _, _, rfl, rfl, .tup e, k, q⟩
theorem i_isiL {a : Addr} {xs : List V} {T : String} {b : Bool} (e : H a = some (.lst xs)) (k : kitOne K (.type "list") (.type T) = some b) (q : Q (.bl b) H) : rIsi K [.ref a, .ty T] H Q := ⟨_, _, _, _, rfl, rfl, .lst e, k, q⟩
theorem i_gtup {n : Nat} {t : TGs} {a : Addr} {xs : List V} {Q : St → Hp → Prop} (h : SqT K H a xs) (l : xs.length = n) (q : t xs σ H Q) : gTup K n t (.ref a) σ H Q := ⟨a, xs, rfl, h, l, q⟩
theorem i_gcons {t : TG} {u : TGs} {v : V} {r : List V} {Q : St → Hp → Prop} (q : t v σ H fun σ' H' => u r σ' H' Q) : gCons t u (v :: r) σ H Q := ⟨v, r, rfl, q⟩
theorem i_gnil {Q : St → Hp → Prop} (q : Q σ H) : gNil [] σ H Q := ⟨rfl, q⟩
end
end L2
set_option maxRecDepth 100000
set_option Elab.async false
set_option linter.all false
namespace HT
open PySem PySem.Spec PyProof.Rows
section
variable {prog : Program} {w : World} {A : Around} {E : Value → Shared → Prop} {s : Shared}
end
end HT
namespace L2
open PySem PySem.Spec PySem.W PyProof.Rows
section
variable {X : Cx} {k : Nat} {f C : Addr} {fd : FuncData} {ps : List Str} {sp : Sp} {ES : XS} {x : Str} {p pos : Pos} {e : Expr} {es : List Expr} {t : TA} {dvs : List V} {ds : List Value}
end
section
variable {X : Cx}
end
section
variable {X : Cx}
end
section
variable {prog : Program} {w : World} {A : Around} {E : Value → Shared → Prop} {s : Shared}
end
end L2
set_option maxRecDepth 100000
set_option Elab.async false
set_option linter.all false
namespace HT
open PySem PySem.Spec PyProof.Rows
section
variable {prog : Program} {w : World} {A : Around} {E : Value → Shared → Prop} {s : Shared}
end
end HT
namespace L2
open PySem PySem.Spec PySem.W PyProof.Rows
section
variable {X : Cx}
end
section
variable {X : Cx} {tg : Expr}
end
section
variable {X : Cx}
end
section
variable {X : Cx} {e : Expr} {t : TA} {p p' pos pos' : Pos}
end
section
variable {σ : St} {H : Hp} {Q : VK} {td ty : TE}
theorem i_dix (q : td σ H fun x H1 => ty σ H1 fun y H2 => ∃ a v, x = .ref a ∧ DGet H2 a y (some v) ∧ Q v H2) : tDGet td ty σ H Q := q
end
end L2
set_option maxRecDepth 100000
set_option Elab.async false
set_option linter.all false
namespace L2
open PySem PySem.Spec PySem.W PyProof.Rows
section
variable {X : Cx} {pins : List (Addr × Obj)} {σ : St} {H : Hp} {s : Shared}
end
section
variable {X : Cx}
open Classical in
open Classical in
end
theorem lcF {J : It} {n : Nat} {xs : Nat → V} {tf : TT} {te : TE} {cs : St} {H1 : Hp} {Q : Addr → Hp → Prop} (L : LcIt J n H1 xs) (p : Nat → Bool) (f : Nat → V) (hz : n ≤ sizeLine)
    (hf : ∀ (i : Nat) (H' : Hp) (R : Bool → Hp → Prop), i < n → Same H1 H' → R (p i) H' → tf (some (xs i) :: cs) H' R)
    (hx : ∀ (i : Nat) (H' : Hp) (R : VK), i < n → p i = true → Same H1 H' → R (f i) H' → te (some (xs i) :: cs) H' R)
    (q : ∀ D H2, New H1 D (.lst (((List.range n).filter p).map f)) H2 → Q D H2) :
    ∀ D, H1 D = none → ∃ W : Nat → Nat → List V → Hp → Prop, (∃ m, W 0 m [] (upd H1 D (.lst []))) ∧ ∀ i m ys H, W i m ys H →
      H D = some (.lst ys) ∧ ((J.stop i H ∧ Q D H) ∨ (J.go i H ∧ ys.length < sizeLine ∧ ∀ x H', J.yld i H x H' → tf (some x :: cs) H' fun b H2 =>
        if b = true then te (some x :: cs) H2 fun y H3 => H3 D = some (.lst ys) ∧ ∃ m', m' < m ∧ W (i + 1) m' (ys ++ [y]) (upd H3 D (.lst (ys ++ [y]))) else ∃ m', m' < m ∧ W (i + 1) m' ys H2)) := by
  intro D hD
  refine ⟨fun i m ys H => m = n - i ∧ i ≤ n ∧ ys = ((List.range i).filter p).map f ∧ H = upd H1 D (.lst ys), ⟨n, by simp, Nat.zero_le _, by simp, rfl⟩, ?_⟩
  rintro i m ys H ⟨rfl, hi, hys, rfl⟩
  have s1 : Same H1 (upd H1 D (.lst ys)) := Same.upd (Same.refl H1) hD
  refine ⟨upd_same, ?_⟩
  by_cases hlt : i < n
  · have hyl : ys.length ≤ i := by
      rw [hys, List.length_map]
      exact Nat.le_trans (List.length_filter_le _ _) (Nat.le_of_eq List.length_range)
    refine .inr ⟨L.go i _ hlt s1, by omega, fun x H' y => ?_⟩
    obtain ⟨e, ex⟩ := L.yld i _ x H' hlt s1 y
    subst e ex
    refine hf i _ _ hlt s1 ?_
    cases hp : p i with
    | true =>
      rw [if_pos rfl]
      refine hx i _ _ hlt hp s1 ⟨upd_same, n - (i + 1), by omega, rfl, hlt, ?_, by rw [upd_upd]⟩
      rw [List.range_succ, List.filter_append, List.map_append, ← hys]
      simp [hp]
    | false =>
      rw [if_neg (by decide)]
      refine ⟨n - (i + 1), by omega, rfl, hlt, ?_, rfl⟩
      rw [List.range_succ, List.filter_append, List.map_append, ← hys]
      simp [hp]
  · have e : i = n := by omega
    subst e
    exact .inl ⟨L.stop _ s1, by rw [hys]; exact q D _ ⟨hD, rfl⟩⟩
theorem LcIt.tup {K : Frag} {a : Addr} {H1 : Hp} {xs : List V} (hS : SqT K H1 a xs) : LcIt (Itt K a) xs.length H1 (fun i => xs.getD i .non) where
  go := fun i H hi s => ⟨xs, xs[i], s.tup hS, by simp [hi]⟩
  yld := fun i H x H' hi s y => by
    obtain ⟨e, y⟩ := y
    refine ⟨e, ?_⟩
    have := y xs (s.tup hS)
    rw [List.getD, this]; rfl
  stop := fun H s => ⟨xs, s.tup hS, Nat.le_refl _⟩
end L2
set_option maxRecDepth 100000
set_option Elab.async false
set_option linter.all false
namespace L2
open PySem PySem.Spec PySem.W PyProof.Rows
section
variable {X : Cx} {scope : Scope} {x : Str} {caps : List Str} {ix : List Nat} {pins : List (Addr × Obj)} {σ : St} {H : Hp} {s : Shared}
end
end L2
set_option maxRecDepth 100000
set_option Elab.async false
set_option linter.all false
namespace L2
open PySem PySem.Spec PySem.W PyProof.Rows
section
variable {X : Cx} {scope : Scope} {xs : List Str} {caps : List Str} {ix : List Nat} {pins : List (Addr × Obj)} {σ : St} {H : Hp} {s : Shared}
end
end L2
set_option Elab.async false
set_option linter.all false
set_option maxHeartbeats 4000000
namespace L2
open PySem PyProof PyProof.Rows PySem.W
section
variable {X : Cx}
end
end L2
set_option Elab.async false
set_option linter.all false
set_option maxHeartbeats 4000000
set_option maxRecDepth 100000
namespace PySem
open Sem (wp)
namespace F
end F
section
variable {prog : Program} {w : World} {K : Type} [DecidableEq K] {knd : KeyKind prog w K} {A : Around} {R : Result → Shared → Prop}
end
section
variable {w : World} {prog : Program} {K : Type} [DecidableEq K] {knd : KeyKind prog w K} {s : Shared} {A : Around} {E : Value → Shared → Prop}
end
end PySem
namespace L2
open PySem PyProof PyProof.Rows PySem.W
section
variable {X : Cx}
end
end L2
set_option Elab.async false
set_option linter.all false
set_option maxHeartbeats 4000000
set_option maxRecDepth 100000
namespace L2
open PySem PySem.Spec PyProof PyProof.Rows PySem.W
section
variable {X : Cx} {pins : List (Addr × Obj)} {σ : St} {H : Hp} {s : Shared}
theorem Inv.freeze {d : Addr} {kvs : List (Key × V)} (I : Inv X pins σ H s) (e : H d = some (.dK kvs)) : ∃ o, Inv X pins σ (upd H d (.frz o (.dK kvs))) s := by
  obtain ⟨z, y, vs, r, ob, es, ep, g, c⟩ := (show ObjOk X.prog X.w H s.heap d (.dK kvs) from I.hok d _ e)
  refine ⟨ob, ?_⟩
  have new : ObjOk X.prog X.w (upd H d (.frz ob (.dK kvs))) s.heap d (.frz ob (.dK kvs)) := ⟨g, z, y, vs, r, ob, es, ep, g, c⟩
  exact I.write (t' := s.toks) (h' := s.heap) (by rw [e]; exact True.intro) (.inl rfl) (fun b u _ q => q) ⟨ob, g⟩ new
theorem Inv.thaw {d : Addr} {ob : Obj} {kvs : List (Key × V)} (I : Inv X pins σ H s) (e : H d = some (.frz ob (.dK kvs))) (h0 : ∀ o u, X.H₀ d ≠ some (.frz o u)) : Inv X pins σ (upd H d (.dK kvs)) s := by
  have hn : ∀ b, H b = none → b ≠ d := fun b n z => by rw [z, e] at n; cases n
  obtain ⟨g, q⟩ := (show ObjOk X.prog X.w H s.heap d (.frz ob (.dK kvs)) from I.hok d _ e)
  have ho : ∀ a b, H b = some (.own a) → upd H d (.dK kvs) b = some (.own a) := fun a b r => by
    rw [upd_ne (fun z => by rw [z, e] at r; cases r)]; exact r
  have ht : ∀ b xs, H b = some (.tup xs) → upd H d (.dK kvs) b = some (.tup xs) := fun b xs r => by
    rw [upd_ne (fun z => by rw [z, e] at r; cases r)]; exact r
  refine ⟨I.ok, I.os, I.bare, ⟨I.base.keep, I.base.slot, fun b o e1 n hx => ?_, I.base.there, fun b xs e1 => ht b xs (I.base.tups b xs e1), fun b o u e1 => ?_, fun b ps e1 => ?_⟩, I.loc, I.cell, ?_, fun x c e1 => ?_, fun p hp => ?_, fun b u e1 => ?_, I.len⟩
  · rw [upd_ne (hn b (I.base.free b o e1 n hx))]; exact I.base.free b o e1 n hx
  · have := I.base.frzs b o u e1
    rw [upd_ne (fun z => h0 o u (by rw [← z]; exact e1))]; exact this
  · obtain ⟨m, q'⟩ := I.base.tbls b ps e1
    exact ⟨m, by rw [upd_ne (fun z => by rw [z, e] at q'; cases q')]; exact q'⟩
  · rw [upd_ne (hn _ I.free)]; exact I.free
  · rw [upd_ne (hn _ (I.freeC x c e1))]; exact I.freeC x c e1
  · obtain ⟨a, b, c⟩ := I.pin p hp
    exact ⟨a, by rw [upd_ne (hn _ b)]; exact b, c⟩
  · by_cases hb : b = d
    · subst hb
      rw [upd_same] at e1
      cases e1
      exact q.stay (fun _ _ _ z => z) (ho b) ht
    · rw [upd_ne hb] at e1
      exact (I.hok b u e1).stay (fun _ _ _ z => z) (ho b) ht
def tFz (ts : TS) : TS := fun D σ H => ∃ (d : Addr) (kvs : List (Key × V)), H d = some (.dK kvs) ∧ ∀ o, ts
  { nx := fun σ' H' => H' d = some (.frz o (.dK kvs)) ∧ D.nx σ' (upd H' d (.dK kvs)), rt := fun v H' => H' d = some (.frz o (.dK kvs)) ∧ D.rt v (upd H' d (.dK kvs)),
    bk := fun σ' H' => H' d = some (.frz o (.dK kvs)) ∧ D.bk σ' (upd H' d (.dK kvs)), ct := fun σ' H' => H' d = some (.frz o (.dK kvs)) ∧ D.ct σ' (upd H' d (.dK kvs)) } σ (upd H d (.frz o (.dK kvs)))
theorem ps_fz {st : Stmt} {ts : TS} (h : PS X st ts) : PS X st (tFz ts) := by
  intro pins s σ H D I q
  obtain ⟨d, kvs, e, q⟩ := q
  have h0 : ∀ o u, X.H₀ d ≠ some (.frz o u) := fun o u z => by have := I.base.frzs d o u z; rw [e] at this; cases this
  obtain ⟨o, I1⟩ := I.freeze e
  refine thn (h pins s σ _ _ I1 (q o)) fun f s' z => ?_
  cases f with
  | next => obtain ⟨σ', H', I', a, b⟩ := z; exact ⟨σ', _, I'.thaw a h0, b⟩
  | brk => obtain ⟨σ', H', I', a, b⟩ := z; exact ⟨σ', _, I'.thaw a h0, b⟩
  | cont => obtain ⟨σ', H', I', a, b⟩ := z; exact ⟨σ', _, I'.thaw a h0, b⟩
  | ret v => obtain ⟨x, σ', H', I', r, a, b⟩ := z; exact ⟨x, σ', _, I'.thaw a h0, r, b⟩
theorem i_fz {ts : TS} {D : Ends} {d : Addr} {kvs : List (Key × V)} (e : H d = some (.dK kvs)) (q : ∀ o, ts
  { nx := fun σ' H' => H' d = some (.frz o (.dK kvs)) ∧ D.nx σ' (upd H' d (.dK kvs)), rt := fun v H' => H' d = some (.frz o (.dK kvs)) ∧ D.rt v (upd H' d (.dK kvs)),
    bk := fun σ' H' => H' d = some (.frz o (.dK kvs)) ∧ D.bk σ' (upd H' d (.dK kvs)), ct := fun σ' H' => H' d = some (.frz o (.dK kvs)) ∧ D.ct σ' (upd H' d (.dK kvs)) } σ (upd H d (.frz o (.dK kvs)))) : tFz ts D σ H := ⟨d, kvs, e, q⟩
end
def Iti (d : Addr) (o : Obj) (kvs : List (Key × V)) : It :=
  ⟨fun i H => H d = some (.frz o (.dK kvs)) ∧ i < kvs.length,
   fun i H v H' => ∃ T k x, v = .ref T ∧ New H T (.tup [L2.kV k, x]) H' ∧ kvs[i]? = some (k, x),
   fun i H => H d = some (.frz o (.dK kvs)) ∧ kvs.length ≤ i⟩
theorem key_rel {P : Program} {w : World} {k : Key} {u : Value} (h : (mixKind P w).is k u = true) : RelV (L2.kV k) u := by
  rcases keyIs_shape (show keyIs k u = true from h) with ⟨i, t, rfl, rfl⟩ | ⟨z, t, rfl, rfl⟩
  · exact ⟨t, rfl⟩
  · exact ⟨t, rfl⟩
theorem KV.at : ∀ {kvs : List (Key × V)} {vs : List (Key × Value)}, KV kvs vs → ∀ {i : Nat} {k : Key} {x : V}, kvs[i]? = some (k, x) → ∃ u, vs[i]? = some (k, u) ∧ RelV x u := by
  intro kvs vs r
  induction r with
  | nil => intro i k x e; simp at e
  | @cons p q ps qs h _ ih =>
    intro i k x e
    cases i with
    | zero =>
      simp only [List.getElem?_cons_zero, Option.some.injEq] at e
      subst e
      obtain ⟨q1, q2⟩ := q
      have e1 : k = q1 := h.1
      subst e1
      exact ⟨q2, rfl, h.2⟩
    | succ i =>
      obtain ⟨u, e1, e2⟩ := ih (i := i) (k := k) (x := x) (by simpa using e)
      exact ⟨u, by simpa using e1, e2⟩
theorem dictAt_frz {X : Cx} {pins : List (Addr × Obj)} {σ : St} {H : Hp} {s : Shared} {d : Addr} {o : Obj} {kvs : List (Key × V)} {es0 : Array DictEntry} {ep : Nat} (I : Inv X pins σ H s) (e : H d = some (.frz o (.dK kvs))) (ho : o.data = .dict es0 ep) :
    ∃ vs, KV kvs vs ∧ s.heap.DictAt (mixKind X.prog X.w) d vs ep := by
  obtain ⟨g, z, y, vs, r, ob, es, ep', g', c, hd, rest⟩ := (show ObjOk X.prog X.w H s.heap d (.frz o (.dK kvs)) from I.hok d _ e)
  rw [g] at g'
  cases g'
  rw [ho] at hd
  cases hd
  exact ⟨vs, r, o, es0, g, c, ho, rest⟩
theorem turn_items {P : Program} {w : World} {K : PySem.W.Frag} {es : List Expr} {k : Nat} {tp : Pos} (it d : Addr) (o : Obj) (kvs : List (Key × V)) {es0 : Array DictEntry} {ep : Nat} (ho : o.data = .dict es0 ep) :
    Turn P w K (.Tuple es k tp) (Iti d o kvs) [it] it (fun i h => ∃ ok ov, IsItemIter h it d i kvs.length ep ok ov) where
  mem := by simp
  obj := fun i h st b hb => by
    obtain ⟨ok, ov, he⟩ := st
    have e : b = it := by simpa using hb
    subst e
    exact ⟨_, he, fun v z => by cases z⟩
  keep := fun i h h' st kk => by
    obtain ⟨ok, ov, he⟩ := st
    exact ⟨ok, ov, kk it (by simp) _ he⟩
  item := by
    intro X hP hw hK hc i pins s σ H E I hf st hg
    subst hP hw hK
    obtain ⟨ok, ov, he⟩ := st
    obtain ⟨hd, hi⟩ := hg
    obtain ⟨vs, rel, hm⟩ := dictAt_frz I hd ho
    have hl := rel.length
    obtain ⟨kk, x, hx⟩ : ∃ kk x, kvs[i]? = some (kk, x) := ⟨kvs[i].1, kvs[i].2, List.getElem?_eq_getElem hi⟩
    obtain ⟨u, hu, ru⟩ := rel.at hx
    have he0 : IsItemIter s.heap it d i vs.length ep ok ov := by rw [← hl]; exact he
    refine wpAny_pyNext_items_item he0 hm hu fun key h' hkey ho' hT hsz hk => ⟨_, rfl, ?_⟩
    have I1 : Inv X pins σ H { s with heap := h' } := I.turnedL (t' := s.toks) hf fun b o hb q => hk b o (fun z => hb (by simp [z])) q
    have hlt : it < s.heap.objs.size := Heap.lt_size he
    refine wpAny_letOwnedTupleGo_items ho' fun h2 he2 hs2 => ?_
    have I2 : Inv X pins σ H { s with heap := h2 } := I1.turnedL (t' := s.toks) hf fun b o hb q => (hs2.2 b (fun z => hb (by simp [z]))).trans q
    have hTn : H s.heap.objs.size = none := I.hok.fresh (Nat.le_refl _)
    have hT2 : h2.get? s.heap.objs.size = some { cls := .type "tuple", data := .seq #[key, u] } := (hs2.2 _ (Nat.ne_of_gt hlt)).trans hT
    have I3 : Inv X pins σ (upd H s.heap.objs.size (.tup [L2.kV kk, x])) { s with heap := h2 } := by
      refine I2.track (I.fpOk (Nat.le_refl _) hTn) ⟨by show 2 ≤ sizeLine; decide, [key, u], .cons (key_rel hkey) (.cons ru .nil), ⟨_, hT2, rfl, _, rfl⟩⟩
    refine ⟨.ref s.heap.objs.size, _, I3, rfl, ⟨_, kk, x, rfl, ⟨hTn, rfl⟩, hx⟩, ⟨_, _, by rw [hl]; exact he2⟩, fun b hb => ?_⟩
    have hne : b ≠ s.heap.objs.size := by rw [show b = it by simpa using hb]; exact Nat.ne_of_lt hlt
    rw [upd_ne hne]; exact (hf b hb).1
  done := by
    intro X hP hw hK hc i pins s σ H E I hf st hg
    subst hP hw hK
    obtain ⟨ok, ov, he⟩ := st
    obtain ⟨hd, hi⟩ := hg
    obtain ⟨vs, rel, hm⟩ := dictAt_frz I hd ho
    have hl := rel.length
    have he0 : IsItemIter s.heap it d i vs.length ep ok ov := by rw [← hl]; exact he
    refine wpAny_pyNext_items_end (I.ok.hd hc) he0 hm (List.getElem?_eq_none (by omega)) fun h' hx => ⟨rfl, ?_⟩
    exact I.turnedL (t' := s.toks) hf fun b o hb q => hx b o (fun z => hb (by simp [z])) q
  self := fun _ _ _ _ _ ⟨_, _, he⟩ h => PySem.W.kcp_self he h
def iItems (to : TE) : TI := fun σ H R => to σ H fun x H1 => ∃ d o kvs, x = .ref d ∧ H1 d = some (.frz o (.dK kvs)) ∧ R (Iti d o kvs) H1
theorem pi_items {X : Cx} {es : List Expr} {k : Nat} {tp : Pos} {oe : Expr} {to : TE} {apos cpos : Pos} (hoe : PE X oe to) (hbase : attributeBase oe "items" X.env (eval oe X.env) = eval oe X.env := by rfl)
    (hline : (apos.endLine == cpos.line) = true := by rfl) : PI X (.Tuple es k tp) (.Call (.Attribute oe "items" apos) [] [] cpos) (iItems to) := by
  intro pins s σ H R I h
  refine wpAny_Call_method0_late hbase hline (thn (hoe pins s σ H _ I h) fun v s1 ⟨x, H1, I1, r1, d, o, kvs, ex, hd, q⟩ => ?_)
  subst ex
  obtain rfl : v = Value.ref d := r1
  obtain ⟨t1, t2, t3⟩ := isD_at I1 (.inl ⟨kvs, .inr ⟨o, hd⟩⟩)
  refine ⟨"dict", "dict.items", PySem.F.plainAttrs_dict, PySem.F.slot_dict_items, PySem.F.type_dict_items, t1, t2, Calls.callWith_builtin rfl (PySem.evalArgs_none ?_)⟩
  obtain ⟨g, z, y, vs, rel, ob, es0, ep, g', c, hdat, rest⟩ := (show ObjOk X.prog X.w H1 s1.heap d (.frz o (.dK kvs)) from I1.hok d _ hd)
  have eo : ob = o := by rw [g] at g'; exact (Option.some.inj g').symm
  subst eo
  have hl := rel.length
  refine call_meetsIn PySem.F.slot_dict_items t1 PySem.F.entry_dict_items (PySem.F.args_dict_items_1 _) (meets_dict_items (mixKind X.prog X.w) d t3) ⟨⟨vs, ob, es0, ep, g, c, hdat, rest⟩, ?_⟩
  have hm : (s1.heap.push { cls := .type "dict_items", data := .fields #[.ref d] }).DictAt (mixKind X.prog X.w) d vs ep := Heap.DictAt.push (knd := mixKind X.prog X.w) ⟨ob, es0, g, c, hdat, rest⟩ _
  refine wpAny_pyIter_items (knd := mixKind X.prog X.w) (kvs := vs) (ep := ep) (d := d) ⟨_, Heap.get?_push_size _ rfl, rfl, rfl⟩ hm ?_
  have I2 : Inv X pins σ H1 { s1 with heap := s1.heap.push { cls := .type "dict_items", data := .fields #[.ref d] } } := I1.kept (t' := s1.toks) fun b o e => Heap.get?_push_of_some _ e
  refine ⟨_, [(s1.heap.push { cls := .type "dict_items", data := .fields #[.ref d] }).objs.size], _, _, H1, rfl, I2.kept (t' := s1.toks) fun b o e => Heap.get?_push_of_some _ e, turn_items _ d ob kvs hdat, ⟨.none, .none, ?_⟩, fun b hb => ?_, q⟩
  · rw [hl]; exact Heap.get?_push_size _ rfl
  · have e : b = (s1.heap.push { cls := .type "dict_items", data := .fields #[.ref d] }).objs.size := by simpa using hb
    subst e
    exact I2.fpOk (Nat.le_refl _) (I2.hok.fresh (Nat.le_refl _))
theorem i_items {to : TE} {σ : St} {H : Hp} {R : It → Hp → Prop} (q : to σ H fun x H1 => ∃ d o kvs, x = .ref d ∧ H1 d = some (.frz o (.dK kvs)) ∧ R (Iti d o kvs) H1) : iItems to σ H R := q
theorem for_items {d : Addr} {o : Obj} {kvs : List (Key × V)} {g : TG} {tb : TS} {D : Ends} {σ : St} {H : Hp} (Pv : Nat → St → Hp → Prop) (h0 : Pv 0 σ H) (hl : ∀ i σ H, i ≤ kvs.length → Pv i σ H → H d = some (.frz o (.dK kvs)))
    (hs : ∀ i k x T σ H H', kvs[i]? = some (k, x) → Pv i σ H → New H T (.tup [L2.kV k, x]) H' → g (.ref T) σ H' fun σ2 H2 => tb { D with nx := Pv (i + 1), ct := Pv (i + 1), bk := D.nx } σ2 H2) (hd : ∀ σ H, Pv kvs.length σ H → D.nx σ H) :
    ∃ W : Nat → Nat → St → Hp → Prop, (∃ m, W 0 m σ H) ∧ ∀ i m σ H, W i m σ H →
      ((Iti d o kvs).stop i H ∧ D.nx σ H) ∨ ((Iti d o kvs).go i H ∧ ∃ N : St → Hp → Prop, (∀ σ' H', N σ' H' → ∃ m', m' < m ∧ W (i + 1) m' σ' H') ∧ ∀ x H', (Iti d o kvs).yld i H x H' → g x σ H' fun σ2 H2 => tb { D with nx := N, ct := N, bk := D.nx } σ2 H2) := by
  refine ⟨fun i m σ H => m = kvs.length - i ∧ i ≤ kvs.length ∧ Pv i σ H, ⟨kvs.length, by simp, Nat.zero_le _, h0⟩, ?_⟩
  rintro i m σ H ⟨rfl, hi, hp⟩
  have hf := hl i σ H hi hp
  by_cases hlt : i < kvs.length
  · refine .inr ⟨⟨hf, hlt⟩, Pv (i + 1), fun σ' H' h' => ⟨kvs.length - (i + 1), by omega, rfl, by omega, h'⟩, fun v H' yy => ?_⟩
    obtain ⟨T, k, x, rfl, hN, hq⟩ := yy
    exact hs i k x T σ H H' hq hp hN
  · have ei : i = kvs.length := by omega
    subst ei
    exact .inl ⟨⟨hf, Nat.le_refl _⟩, hd σ H hp⟩
def DD (H : Hp) (x y : V) : Prop := ∃ (a b : Addr) (ka kb : List (Key × V)), x = .ref a ∧ y = .ref b ∧ H a = some (.dK ka) ∧ H b = some (.dK kb) ∧ ka.length = kb.length ∧
  ∀ (i : Nat) (k : Key) (v : V), ka[i]? = some (k, v) → ∃ (p q : Addr) (xs : List V), v = .ref p ∧ valV kb k = some (.ref q) ∧ H p = some (.lst xs) ∧ H q = some (.lst xs) ∧ xs.all flatV = true
section
variable {X : Cx} {pins : List (Addr × Obj)} {σ : St} {H : Hp} {s : Shared}
theorem hits_of (I : Inv X pins σ H s) {A : Around} (hu : A.units + 1 < cLine) {kb : List (Key × V)} {vb : List (Key × Value)} (rb : KV kb vb) : ∀ {ka : List (Key × V)} {va : List (Key × Value)}, KV ka va →
    (∀ (i : Nat) (k : Key) (v : V), ka[i]? = some (k, v) → ∃ (p q : Addr) (xs : List V), v = .ref p ∧ valV kb k = some (.ref q) ∧ H p = some (.lst xs) ∧ H q = some (.lst xs) ∧ xs.all flatV = true) →
    KeqHits A s vb va true := by
  intro ka va r
  induction r with
  | nil => intro _; exact .nil
  | @cons p q ps qs h _ ih =>
    intro hk
    obtain ⟨k, v⟩ := p
    obtain ⟨k', u⟩ := q
    obtain ⟨e1, ru⟩ := h
    have e1' : k = k' := e1
    subst e1'
    obtain ⟨a, b, xs, ev, eb, ha, hb, fl⟩ := hk 0 k v rfl
    have hrest := ih fun i k v e => hk (i + 1) k v (by simpa using e)
    have rv := rb.val k
    rw [eb] at rv
    obtain ⟨y, ey, ry⟩ : ∃ y, valueAt vb k = some y ∧ RelV (.ref b) y := by
      cases hv : valueAt vb k with
      | none => rw [hv] at rv; exact rv.elim
      | some y => rw [hv] at rv; exact ⟨y, rfl, rv⟩
    have ru' : RelV v u := ru
    rw [ev] at ru'
    have hD : ∀ c : Addr, H c = some (.lst xs) → DRel X.K H (.l (flats xs)) (.ref c) := fun c hc => by
      simp only [DRel]; exact ⟨c, xs, rfl, .inl (.inl hc), flats_rel fl⟩
    have he := eqAt_D I (.l (flats xs)) (.l (flats xs)) (.ref a) (.ref b) u y A (hD a ha) (hD b hb) ru' ry (by simp only [dep, flats_dep]; omega)
    rw [deq_self _ X.K H _ (hD a ha)] at he
    have := KeqHits.hit (kb := vb) (k := k) ey he hrest
    simpa using this
theorem eq_DD (I : Inv X pins σ H s) {x y : V} {u v : Value} {A : Around} {E Q : Value → Shared → Prop} (h : DD H x y) (rx : RelV x u) (ry : RelV y v) (hu : A.units + 2 < cLine) (q : Q (.bool true) s) : wpAny (model X.prog X.w) A (compareOp .Eq u v) Q E s := by
  obtain ⟨a, b, ka, kb, rfl, rfl, ha, hb, hl, hk⟩ := h
  cases rx
  cases ry
  obtain ⟨_, la, va, ra, da⟩ := dk_of I.hok ha
  obtain ⟨_, lb, vb, rb, db⟩ := dk_of I.hok hb
  have hits := hits_of I (A := A.in1) (by show A.units + 1 + 1 < _; omega) rb ra hk
  have hl' : va.length = vb.length := by rw [← ra.length, ← rb.length]; exact hl
  refine keq_eq (knd := mixKind X.prog X.w) (r := true) la lb da db (by omega) (fun _ => hits) ?_
  rw [hl', beq_self_eq_true]; exact q
end
section
variable {X : Cx}
def rEqDs (K : PySem.W.Frag) : R2 := fun x y H Q => ∃ p q xs ys, x = .ref p ∧ y = .ref q ∧ SqL K H p xs ∧ SqL K H q ys ∧ xs.length = ys.length ∧ (∀ (i : Nat) u v, xs[i]? = some u → ys[i]? = some v → DD H u v) ∧ Q (.bl true) H
def EqIn (P : Program) (w : World) (A : Around) (s : Shared) (y x : Value) : Prop := ∀ (E : Value → Shared → Prop) (Q : Bool → Shared → Prop), Q true s → wpAny (model P w) A (eqBool y x) Q E s
theorem dd_loop {P : Program} {w : World} {l b : Addr} {xs ys : Array Value} {n1 n2 : Nat} {d1 d2 : Option Addr} {s1 s2 : Array (Option Value)} (hz : xs.size = ys.size) : ∀ (m i : Nat), xs.size - i = m →
    MeetsIn P w (Builtin.«list.__eq__.loop» ⟨[.ref l, .ref b, rawInt i, rawInt 2], []⟩) (fun A R s => s.heap.get? l = some { cls := .type "list", dict := d1, data := .seq xs n1, slots := s1 } ∧ s.heap.get? b = some { cls := .type "list", dict := d2, data := .seq ys n2, slots := s2 } ∧
      (∀ j (g1 : j < xs.size) (g2 : j < ys.size), EqIn P w A.in1 s xs[j] ys[j]) ∧ R (.ok (.ret (.bool true))) s) := by
  intro m
  induction m with
  | zero =>
    intro i hi A R s q
    obtain ⟨hp, gg, dr, tk, os⟩ := s
    obtain ⟨q1, q2, qe, qr⟩ := q
    wp_walk using wpAny_loadPart' q1, wpAny_loadPart' q2
    have z1 : xs[((i : Nat) : Int).toNat]? = none := by simp; omega
    have z2 : ys[((i : Nat) : Int).toNat]? = none := by simp; omega
    rw [z1, z2]
    wp_walk using wpAny_loadPart' q1, wpAny_loadPart' q2
    show R (.ok (.ret (.bool (xs.size == ys.size)))) _
    rw [hz, beq_self_eq_true]
    exact qr
  | succ m ih =>
    intro i hi A R s q
    obtain ⟨hp, gg, dr, tk, os⟩ := s
    obtain ⟨q1, q2, qe, qr⟩ := q
    wp_walk using wpAny_loadPart' q1, wpAny_loadPart' q2
    have i1 : i < xs.size := by omega
    have i2 : i < ys.size := by omega
    have z1 : xs[((i : Nat) : Int).toNat]? = some xs[i] := by simp [i1]
    have z2 : ys[((i : Nat) : Int).toNat]? = some ys[i] := by simp [i2]
    have zc : ((i : Int) + 1) = ((i + 1 : Nat) : Int) := by omega
    rw [z1, z2]
    refine wpAny_bind (qe i i1 i2 _ _ ?_)
    wp_walk
    rw [zc]
    refine ⟨plainId_quiet PySem.MeetsSeq3.plain_eq_loop _, codeAny_builtin PySem.MeetsSeq3.entry_eq_loop ?_⟩
    rw [Around.under_plainId PySem.MeetsSeq3.plain_eq_loop _]
    exact ih (i + 1) (by omega) A R _ ⟨q1, q2, qe, qr⟩
theorem dd_lists {P : Program} {w : World} {A : Around} {E Q : Value → Shared → Prop} {s : Shared} {l b : Addr} {xs ys : Array Value} (hl : s.heap.IsList l xs) (hb : s.heap.IsList b ys) (hz : xs.size = ys.size) (hu : A.units < cLine)
    (he : ∀ j (g1 : j < xs.size) (g2 : j < ys.size), EqIn P w A.in1 s xs[j] ys[j]) (q : Q (.bool true) s) : wpAny (model P w) A (compareOp .Eq (.ref l) (.ref b)) Q E s := by
  obtain ⟨⟨c1, d1, dat1, s1⟩, o1, k1, n1, e1⟩ := id hl
  obtain ⟨⟨c2, d2, dat2, s2⟩, o2, k2, n2, e2⟩ := id hb
  simp only at k1 e1 k2 e2
  subst k1 e1 k2 e2
  have M : MeetsIn P w (Builtin.«list.__eq__» ⟨[.ref l, .ref b], []⟩) (fun A R s => s.heap.get? l = some { cls := .type "list", dict := d1, data := .seq xs n1, slots := s1 } ∧ s.heap.get? b = some { cls := .type "list", dict := d2, data := .seq ys n2, slots := s2 } ∧
      (∀ j (g1 : j < xs.size) (g2 : j < ys.size), EqIn P w A.in1 s xs[j] ys[j]) ∧ R (.ok (.ret (.bool true))) s) := by
    intro A R s q
    obtain ⟨hp, gg, dr, tk, os⟩ := s
    obtain ⟨q1, q2, qe, qr⟩ := q
    have f3 := AutoSeq1.sub_list_list
    have hne : ¬ (xs.size != ys.size) = true := by simp [hz]
    wp_walk using wpAny_loadPart' q1, wpAny_loadPart' q2
    refine ⟨plainId_quiet PySem.MeetsSeq3.plain_eq_loop _, codeAny_builtin PySem.MeetsSeq3.entry_eq_loop ?_⟩
    rw [Around.under_plainId PySem.MeetsSeq3.plain_eq_loop _]
    exact dd_loop hz _ 0 rfl A R _ ⟨q1, q2, qe, qr⟩
  refine wpAny_richCompare_same_room (op := .Eq) ⟨_, o1, rfl⟩ ⟨_, o2, rfl⟩ PySem.F.slot_list_eq (call_meetsIn PySem.F.slot_list_eq ⟨_, o1, rfl⟩ PySem.F.entry_list_eq (PySem.F.args_list_eq_2 _ _) M ⟨o1, o2, he, show Value.bool true ≠ Value.notImplemented ∧ Q (.bool true) s from ⟨fun x => (nomatch x), q⟩⟩) hu
theorem op_eqDs (hu : X.A.units + 64 < cLine) : OpR X (compareOp .Eq) (rEqDs X.K) := by
  intro pins s σ H x y v u Q I rx ry h
  obtain ⟨p, q, xs, ys, rfl, rfl, hp, hq, hl, hd, hQ⟩ := h
  cases rx
  cases ry
  obtain ⟨us, m1, p1, _⟩ := I.list hp
  obtain ⟨vs, m2, p2, _⟩ := I.list hq
  have l1 := m1.length
  have l2 := m2.length
  refine dd_lists p1.isList p2.isList (by simp; omega) (by omega) (fun j h1 h2 => ?_) ⟨.bl true, H, I, rfl, hQ⟩
  have h1' : j < us.length := by simpa using h1
  have h2' : j < vs.length := by simpa using h2
  have hx := List.getElem?_eq_getElem (show j < xs.length by omega)
  have hy := List.getElem?_eq_getElem (show j < ys.length by omega)
  have hdd := hd j _ _ hx hy
  obtain ⟨u1, e1, r1⟩ := m1.get hx
  obtain ⟨u2, e2, r2⟩ := m2.get hy
  have f1 : us.toArray[j] = u1 := by
    have := List.getElem?_eq_getElem h1'
    rw [e1] at this
    simpa using (Option.some.inj this).symm
  have f2 : vs.toArray[j] = u2 := by
    have := List.getElem?_eq_getElem h2'
    rw [e2] at this
    simpa using (Option.some.inj this).symm
  rw [f1, f2]
  intro E' Q' q'
  have hdd' := hdd
  obtain ⟨a, b, ka, kb, ea, eb, _⟩ := hdd
  rw [ea] at r1
  rw [eb] at r2
  have r1' : u1 = Value.ref a := r1
  have r2' : u2 = Value.ref b := r2
  subst r1'
  subst r2'
  by_cases nab : a = b
  · subst nab
    exact SeqAt.EqAt.same _ X.prog X.w E' Q' q'
  rw [ea, eb] at hdd'
  unfold eqBool
  refine wpAny_holding (wpAny_ite_split (fun z => ?_) fun _ => ?_)
  · have z' := eq_of_beq z
    injection z' with z'
    exact absurd z' nab
  · exact wpAny_bind (eq_DD I hdd' rfl rfl (by show X.A.units + 1 + 2 < _; omega) (wpAny_truthy_bool q'))
end
theorem pe_fldK {X : Cx} {K : PySem.W.Frag} {e : Expr} {f : Str} {pos : Pos} {ta : TE} (hK : X.K = K) (he : PE X e ta) (hb : attributeBase e f X.env (eval e X.env) = eval e X.env) : PE X (.Attribute e f pos) (tFld K ta f) := by
  subst hK; exact pe_fld he hb
theorem lcFN {J : It} {n : Nat} {xs : Nat → V} {tf : TT} {te : TE} {cs : St} {H1 : Hp} {Q : Addr → Hp → Prop} (L : LcIt J n H1 xs) (p : Nat → Bool) (Pe : Addr → Nat → V → Hp → Prop) (hz : n ≤ sizeLine)
    (hm : ∀ D i y H H', SameB D H H' → Pe D i y H → Pe D i y H')
    (hf : ∀ (i : Nat) (H' : Hp) (R : Bool → Hp → Prop), i < n → Same H1 H' → R (p i) H' → tf (some (xs i) :: cs) H' R)
    (hx : ∀ (D : Addr) (i : Nat) (H' : Hp) (R : VK), i < n → p i = true → H1 D = none → (∃ ys, H' D = some (.lst ys)) → Same H1 H' → (∀ y H'', Same H' H'' → Pe D i y H'' → R y H'') → te (some (xs i) :: cs) H' R)
    (q : ∀ D ys H2, H1 D = none → Same H1 H2 → H2 D = some (.lst ys) → ys.length = ((List.range n).filter p).length → (∀ (j : Nat) (y : V) (i : Nat), ys[j]? = some y → ((List.range n).filter p)[j]? = some i → Pe D i y H2) → Q D H2) :
    ∀ D, H1 D = none → ∃ W : Nat → Nat → List V → Hp → Prop, (∃ m, W 0 m [] (upd H1 D (.lst []))) ∧ ∀ i m ys H, W i m ys H →
      H D = some (.lst ys) ∧ ((J.stop i H ∧ Q D H) ∨ (J.go i H ∧ ys.length < sizeLine ∧ ∀ x H', J.yld i H x H' → tf (some x :: cs) H' fun b H2 =>
        if b = true then te (some x :: cs) H2 fun y H3 => H3 D = some (.lst ys) ∧ ∃ m', m' < m ∧ W (i + 1) m' (ys ++ [y]) (upd H3 D (.lst (ys ++ [y]))) else ∃ m', m' < m ∧ W (i + 1) m' ys H2)) := by
  intro D hD
  refine ⟨fun i m ys H => m = n - i ∧ i ≤ n ∧ ys.length = ((List.range i).filter p).length ∧ H D = some (.lst ys) ∧ Same H1 H ∧ ∀ (j : Nat) (y : V) (k : Nat), ys[j]? = some y → ((List.range i).filter p)[j]? = some k → Pe D k y H,
    ⟨n, by simp, Nat.zero_le _, rfl, upd_same, Same.new hD, fun j y k e => by simp at e⟩, ?_⟩
  rintro i m ys H ⟨rfl, hi, hyl, hHD, s1, hP⟩
  refine ⟨hHD, ?_⟩
  by_cases hlt : i < n
  · have hle : ys.length ≤ i := by
      rw [hyl]
      exact Nat.le_trans (List.length_filter_le _ _) (Nat.le_of_eq List.length_range)
    refine .inr ⟨L.go i _ hlt s1, by omega, fun x H' y => ?_⟩
    obtain ⟨e, ex⟩ := L.yld i _ x H' hlt s1 y
    subst e ex
    refine hf i _ _ hlt s1 ?_
    cases hp : p i with
    | true =>
      rw [if_pos rfl]
      refine hx D i _ _ hlt hp hD ⟨ys, hHD⟩ s1 fun y H'' s2 hy => ⟨s2 _ _ hHD, n - (i + 1), by omega, rfl, hlt, ?_, upd_same, ?_, ?_⟩
      · rw [List.range_succ, List.filter_append, List.length_append, List.length_append, hyl]
        simp [hp]
      · intro b u e
        rw [upd_ne (ne_of_none e hD)]
        exact s2 _ _ (s1 _ _ e)
      · intro j y' k e1 e2
        have sB : SameB D H' (upd H'' D (.lst (ys ++ [y]))) := fun b u n e => by rw [upd_ne n]; exact s2 _ _ e
        have sB2 : SameB D H'' (upd H'' D (.lst (ys ++ [y]))) := fun b u n e => by rw [upd_ne n]; exact e
        rw [List.range_succ, List.filter_append] at e2
        by_cases hj : j < ys.length
        · rw [List.getElem?_append_left hj] at e1
          rw [List.getElem?_append_left (by omega)] at e2
          exact hm D k y' _ _ sB (hP j y' k e1 e2)
        · rw [List.getElem?_append_right (by omega)] at e1
          rw [List.getElem?_append_right (by omega)] at e2
          have h0 : j - ys.length = 0 := by
            by_cases h0 : j - ys.length = 0
            · exact h0
            · rw [List.getElem?_eq_none (by simp; omega)] at e1; cases e1
          rw [h0] at e1
          rw [← hyl, h0] at e2
          have e1' : y = y' := by simpa using e1
          have e2' : i = k := by simpa [hp] using e2
          subst e1'
          subst e2'
          exact hm D i y _ _ sB2 hy
    | false =>
      rw [if_neg (by decide)]
      refine ⟨n - (i + 1), by omega, rfl, hlt, ?_, hHD, s1, ?_⟩
      · rw [List.range_succ, List.filter_append, List.length_append, hyl]
        simp [hp]
      · intro j y' k e1 e2
        rw [List.range_succ, List.filter_append] at e2
        have e3 : List.filter p [i] = [] := by simp [hp]
        rw [e3, List.append_nil] at e2
        exact hP j y' k e1 e2
  · have e : i = n := by omega
    subst e
    exact .inl ⟨L.stop _ s1, q D ys H hD s1 hHD hyl hP⟩
def CDivB : Int → Int → Prop := fun _ j => 0 < j ∧ j.natAbs.log2 < 9000
theorem op_fdivB {X : Cx} : OpR X (binaryOp .FloorDiv) (rI CDivB fun i j => .int (i / j)) := opI fun i j _ _ _ _ _ hc q => by
  have h1 : (0 : Int) < j := hc.1
  exact floordiv_int (by omega) (by rw [Int.fdiv_eq_ediv_of_nonneg i (by omega)]; exact q) (.inl (PyProof.noPylong_of_log2 hc.2))
theorem i_divB {g : Int → Int → V} {i j : Int} {H : Hp} {Q : VK} (c : 0 < j ∧ j.natAbs.log2 < 9000) (q : Q (g i j) H) : rI CDivB g (.int i) (.int j) H Q := ⟨i, j, rfl, rfl, c, q⟩
theorem i_rng2 {ta : TA} {σ : St} {H : Hp} {R : It → Hp → Prop} (q : ta σ H fun vs H1 => ∃ i j : Int, vs = [.int i, .int j] ∧ (-(2 ^ 62) ≤ i ∧ i < 2 ^ 62 ∧ -(2 ^ 62) ≤ j ∧ j < 2 ^ 62) ∧ R (Itr i (j - i).toNat) H1) : iRng2 ta σ H R := q
theorem i_min {i j : Int} {H : Hp} {Q : VK} (q : Q (.int (if j < i then j else i)) H) : ∃ i' j', [V.int i, V.int j] = [.int i', .int j'] ∧ Q (.int (if j' < i' then j' else i')) H := ⟨i, j, rfl, q⟩
end L2
set_option Elab.async false
set_option linter.all false
set_option maxRecDepth 100000
set_option maxHeartbeats 4000000
namespace Lap
open PySem L2
seal PE PA PT PS PSs PW PI PG PO
local macro_rules | `(tactic| walk_at "rd1") => `(tactic| first
  | (with_reducible refine i_callX ?_) | (with_reducible refine i_chain ?_) | (with_reducible refine i_gcons ?_) | (with_reducible refine i_gnil ?_) | (with_reducible refine i_inS ?_) | (with_reducible refine i_max ?_) | (with_reducible refine i_raise ?_) | (with_reducible refine i_bm0 ?_) | (with_reducible refine i_bm ?_) | (with_reducible refine i_fmt ?_) | (with_reducible refine i_jNil ?_) | (with_reducible refine i_jRepr ?_) | (with_reducible refine i_jPlain ?_) | (with_reducible refine i_lstA ?_) | (with_reducible refine i_tupA ?_)
  | (with_reducible refine i_seq ?_) | (with_reducible refine i_sl ?_) | (with_reducible refine i_noPart ?_) | (with_reducible refine i_part ?_) | (with_reducible refine i_partI ?_) | (with_reducible refine i_eqB ?_) | (with_reducible refine i_ret ?_) | (with_reducible refine i_ifS ?_) | (with_reducible refine i_asg ?_) | (with_reducible refine i_name ?_) | (with_reducible refine i_next ?_) | (with_reducible refine i_drop ?_)
  | (with_reducible refine i_op ?_) | (with_reducible refine i_un ?_) | (with_reducible refine i_C ?_)
  | ((with_reducible show tVar _ _ _ _); refine ⟨_, rfl, ?_⟩)
  | (with_reducible refine i_I0 ?_) | (with_reducible refine i_U ?_) | (with_reducible refine i_test ?_) | (with_reducible refine i_B ?_) | (with_reducible refine i_bl ?_)
  | (with_reducible refine i_eqI ?_) | (with_reducible refine i_eqS ?_) | (with_reducible refine i_neI ?_) | (with_reducible refine i_neS ?_)
  | (with_reducible refine i_and ?_) | (with_reducible refine i_or ?_) | (with_reducible refine i_not ?_) | (with_reducible refine i_andV ?_) | (with_reducible refine i_orV ?_) | (with_reducible refine i_notV ?_) | (with_reducible refine i_if ?_)
  | (with_reducible refine i_call ?_) | (with_reducible refine i_CB ?_) | (with_reducible refine i_nil ?_) | (with_reducible refine i_cons ?_)
  | (with_reducible refine iteT ?_) | (with_reducible refine iteF ?_) | (with_reducible refine iteNT ?_) | (with_reducible refine iteNF ?_)
  | ((with_reducible refine i_mod ?_ ?_); (first | assumption | (decide +kernel) | omega))
  | ((with_reducible refine i_div ?_ ?_); (decide +kernel))
  | ((with_reducible refine i_pow ?_ ?_); (decide +kernel)))
local macro_rules | `(tactic| walk_at "rd") => `(tactic| repeat (walk_at "rd1"))
def top (i : Nat) : Stmt := PySem.Challenge.pw_lapwork_k13_table.main.body.getD i (.Pass ⟨0, 0, 0, 0⟩)
abbrev st_Deed_of : Stmt := inClass (top 15) 1
theorem sc_Deed_of : FnScope ["self", "numbers", "measure"] ["self", "numbers", "measure"] (defScope st_Deed_of) := ⟨rfl, rfl, rfl, by decide +kernel, rfl, by decide +kernel, by decide +kernel⟩
abbrev st_Sum_of : Stmt := inClass (top 16) 1
theorem sc_Sum_of : FnScope ["self", "numbers", "measure"] ["self", "numbers", "measure"] (defScope st_Sum_of) := ⟨rfl, rfl, rfl, by decide +kernel, rfl, by decide +kernel, by decide +kernel⟩
abbrev st_Less_of : Stmt := inClass (top 17) 1
theorem sc_Less_of : FnScope ["self", "numbers", "measure"] ["self", "numbers", "measure"] (defScope st_Less_of) := ⟨rfl, rfl, rfl, by decide +kernel, rfl, by decide +kernel, by decide +kernel⟩
abbrev st_Times_of : Stmt := inClass (top 18) 1
theorem sc_Times_of : FnScope ["self", "numbers", "measure"] ["self", "numbers", "measure"] (defScope st_Times_of) := ⟨rfl, rfl, rfl, by decide +kernel, rfl, by decide +kernel, by decide +kernel⟩
abbrev st_Least_of : Stmt := inClass (top 19) 1
theorem sc_Least_of : FnScope ["self", "numbers", "measure"] ["self", "numbers", "measure"] (defScope st_Least_of) := ⟨rfl, rfl, rfl, by decide +kernel, rfl, by decide +kernel, by decide +kernel⟩
abbrev st_Most_of : Stmt := inClass (top 20) 1
theorem sc_Most_of : FnScope ["self", "numbers", "measure"] ["self", "numbers", "measure"] (defScope st_Most_of) := ⟨rfl, rfl, rfl, by decide +kernel, rfl, by decide +kernel, by decide +kernel⟩
abbrev st_Pick_of : Stmt := inClass (top 21) 1
theorem sc_Pick_of : FnScope ["self", "numbers", "measure"] ["self", "numbers", "measure"] (defScope st_Pick_of) := ⟨rfl, rfl, rfl, by decide +kernel, rfl, by decide +kernel, by decide +kernel⟩
abbrev st_Deed_wants : Stmt := inClass (top 15) 0
theorem sc_Deed_wants : FnScope ["self"] ["self"] (defScope st_Deed_wants) := ⟨rfl, rfl, rfl, by decide +kernel, rfl, by decide +kernel, by decide +kernel⟩
abbrev st_Sum_wants : Stmt := inClass (top 16) 0
theorem sc_Sum_wants : FnScope ["self"] ["self"] (defScope st_Sum_wants) := ⟨rfl, rfl, rfl, by decide +kernel, rfl, by decide +kernel, by decide +kernel⟩
abbrev st_Less_wants : Stmt := inClass (top 17) 0
theorem sc_Less_wants : FnScope ["self"] ["self"] (defScope st_Less_wants) := ⟨rfl, rfl, rfl, by decide +kernel, rfl, by decide +kernel, by decide +kernel⟩
abbrev st_Times_wants : Stmt := inClass (top 18) 0
theorem sc_Times_wants : FnScope ["self"] ["self"] (defScope st_Times_wants) := ⟨rfl, rfl, rfl, by decide +kernel, rfl, by decide +kernel, by decide +kernel⟩
abbrev st_Least_wants : Stmt := inClass (top 19) 0
theorem sc_Least_wants : FnScope ["self"] ["self"] (defScope st_Least_wants) := ⟨rfl, rfl, rfl, by decide +kernel, rfl, by decide +kernel, by decide +kernel⟩
abbrev st_Most_wants : Stmt := inClass (top 20) 0
theorem sc_Most_wants : FnScope ["self"] ["self"] (defScope st_Most_wants) := ⟨rfl, rfl, rfl, by decide +kernel, rfl, by decide +kernel, by decide +kernel⟩
abbrev st_Pick_wants : Stmt := inClass (top 21) 0
theorem sc_Pick_wants : FnScope ["self"] ["self"] (defScope st_Pick_wants) := ⟨rfl, rfl, rfl, by decide +kernel, rfl, by decide +kernel, by decide +kernel⟩
abbrev st_Take_wants : Stmt := inClass (top 24) 0
theorem sc_Take_wants : FnScope ["self"] ["self"] (defScope st_Take_wants) := ⟨rfl, rfl, rfl, by decide +kernel, rfl, by decide +kernel, by decide +kernel⟩
abbrev st_deed_of : Stmt := top 25
theorem sc_deed_of : FnScope ["word"] ["word"] (defScope st_deed_of) := ⟨rfl, rfl, rfl, by decide +kernel, rfl, by decide +kernel, by decide +kernel⟩
abbrev st_is_name : Stmt := top 39
theorem sc_is_name : FnScope ["text"] ["text"] (defScope st_is_name) := ⟨rfl, rfl, rfl, by decide +kernel, rfl, by decide +kernel, by decide +kernel⟩
abbrev st_is_lettered : Stmt := top 40
theorem sc_is_lettered : FnScope ["text"] ["text"] (defScope st_is_lettered) := ⟨rfl, rfl, rfl, by decide +kernel, rfl, by decide +kernel, by decide +kernel⟩
abbrev st_Loop___init__ : Stmt := inClass (top 44) 0
theorem sc_Loop___init__ : FnScope ["self", "measure", "rows"] ["self", "measure", "rows"] (defScope st_Loop___init__) := ⟨rfl, rfl, rfl, by decide +kernel, rfl, by decide +kernel, by decide +kernel⟩
abbrev st_Loop_rows : Stmt := inClass (top 44) 1
theorem sc_Loop_rows : FnScope ["self"] ["self"] (defScope st_Loop_rows) := ⟨rfl, rfl, rfl, by decide +kernel, rfl, by decide +kernel, by decide +kernel⟩
abbrev st_Loop_deepest : Stmt := inClass (top 44) 2
theorem sc_Loop_deepest : FnScope ["self", "name"] ["self", "name"] (defScope st_Loop_deepest) := ⟨rfl, rfl, rfl, by decide +kernel, rfl, by decide +kernel, by decide +kernel⟩
abbrev st_check_measure : Stmt := top 45
theorem sc_check_measure : FnScope ["measure"] ["measure"] (defScope st_check_measure) := ⟨rfl, rfl, rfl, by decide +kernel, rfl, by decide +kernel, by decide +kernel⟩
abbrev st_check_rows : Stmt := top 46
theorem sc_check_rows : FnScope ["rows", "names", "place", "row", "above", "read"] ["rows"] (defScope st_check_rows) := ⟨rfl, rfl, rfl, by decide +kernel, rfl, by decide +kernel, by decide +kernel⟩
abbrev st_check_head : Stmt := top 47
theorem sc_check_head : FnScope ["name", "word", "reads", "above"] ["name", "word", "reads", "above"] (defScope st_check_head) := ⟨rfl, rfl, rfl, by decide +kernel, rfl, by decide +kernel, by decide +kernel⟩
abbrev st_check_read : Stmt := top 48
theorem sc_check_read : FnScope ["read", "names", "above"] ["read", "names", "above"] (defScope st_check_read) := ⟨rfl, rfl, rfl, by decide +kernel, rfl, by decide +kernel, by decide +kernel⟩
abbrev st_check_number : Stmt := top 49
theorem sc_check_number : FnScope ["number"] ["number"] (defScope st_check_number) := ⟨rfl, rfl, rfl, by decide +kernel, rfl, by decide +kernel, by decide +kernel⟩
abbrev st_check_look_back : Stmt := top 50
theorem sc_check_look_back : FnScope ["name", "back", "names", "above"] ["name", "back", "names", "above"] (defScope st_check_look_back) := ⟨rfl, rfl, rfl, by decide +kernel, rfl, by decide +kernel, by decide +kernel⟩
abbrev st_copy_of_row : Stmt := top 51
theorem sc_copy_of_row : FnScope ["row", "reads"] ["row"] (defScope st_copy_of_row) := ⟨rfl, rfl, rfl, by decide +kernel, rfl, by decide +kernel, by decide +kernel⟩
abbrev st_depths_of : Stmt := top 52
theorem sc_depths_of : FnScope ["rows", "depths", "row", "read"] ["rows"] (defScope st_depths_of) := ⟨rfl, rfl, rfl, by decide +kernel, rfl, by decide +kernel, by decide +kernel⟩
abbrev st_law_cell_at : Stmt := top 54
theorem sc_law_cell_at : FnScope ["_law_script", "_law_k"] ["_law_script", "_law_k"] (defScope st_law_cell_at) := ⟨rfl, rfl, rfl, by decide +kernel, rfl, by decide +kernel, by decide +kernel⟩
abbrev st_law_whole : Stmt := top 55
theorem sc_law_whole : FnScope ["_law_found"] ["_law_found"] (defScope st_law_whole) := ⟨rfl, rfl, rfl, by decide +kernel, rfl, by decide +kernel, by decide +kernel⟩
abbrev st_law_mix : Stmt := top 57
theorem sc_law_mix : FnScope ["_law_cell", "_law_k", "_law_number"] ["_law_cell", "_law_k"] (defScope st_law_mix) := ⟨rfl, rfl, rfl, by decide +kernel, rfl, by decide +kernel, by decide +kernel⟩
abbrev st_law_letters : Stmt := top 58
theorem sc_law_letters : FnScope ["_law_number", "_law_many", "_law_made_here", "_law_k"] ["_law_number", "_law_many"] (defScope st_law_letters) := ⟨rfl, rfl, rfl, by decide +kernel, rfl, by decide +kernel, by decide +kernel⟩
abbrev st_law_names : Stmt := top 59
theorem sc_law_names : FnScope ["_law_script", "_law_many", "_law_number", "_law_place", "_law_made_here", "_law_at", "_law_own", "_law_word", "_law_sign"] ["_law_script", "_law_many"] (defScope st_law_names) := ⟨rfl, rfl, rfl, by decide +kernel, rfl, by decide +kernel, by decide +kernel⟩
abbrev st_law_wants : Stmt := top 60
theorem sc_law_wants : FnScope ["_law_word"] ["_law_word"] (defScope st_law_wants) := ⟨rfl, rfl, rfl, by decide +kernel, rfl, by decide +kernel, by decide +kernel⟩
abbrev st_law_row : Stmt := top 61
theorem sc_law_row : FnScope ["_law_script", "_law_names_here", "_law_at", "_law_words", "_law_number", "_law_word", "_law_reads", "_law_k", "_law_back", "_law_spot"] ["_law_script", "_law_names_here", "_law_at", "_law_words"] (defScope st_law_row) := ⟨rfl, rfl, rfl, by decide +kernel, rfl, by decide +kernel, by decide +kernel⟩
abbrev st_law_rows : Stmt := top 62
theorem sc_law_rows : FnScope ["_law_script", "_law_many", "_law_words", "_law_names_here"] ["_law_script", "_law_many"] (defScope st_law_rows) := ⟨rfl, rfl, rfl, by decide +kernel, rfl, by decide +kernel, by decide +kernel⟩
abbrev st_law_measure : Stmt := top 63
theorem sc_law_measure : FnScope ["_law_script", "_law_number"] ["_law_script"] (defScope st_law_measure) := ⟨rfl, rfl, rfl, by decide +kernel, rfl, by decide +kernel, by decide +kernel⟩
abbrev st_law_deepest : Stmt := top 64
theorem sc_law_deepest : FnScope ["_law_rows_here", "_law_name", "_law_found", "_law_row_here", "_law_read"] ["_law_rows_here", "_law_name"] (defScope st_law_deepest) := ⟨rfl, rfl, rfl, by decide +kernel, rfl, by decide +kernel, by decide +kernel⟩
abbrev st_Run___init__ : Stmt := inClass (top 28) 0
theorem sc_Run___init__ : FnScope ["self", "loop", "feeds", "begin", "row"] ["self", "loop", "feeds", "begin"] (defScope st_Run___init__) := ⟨rfl, rfl, rfl, by decide +kernel, rfl, by decide +kernel, by decide +kernel⟩
abbrev st_Run_made_at : Stmt := inClass (top 28) 1
theorem sc_Run_made_at : FnScope ["self", "name", "turn"] ["self", "name", "turn"] (defScope st_Run_made_at) := ⟨rfl, rfl, rfl, by decide +kernel, rfl, by decide +kernel, by decide +kernel⟩
abbrev st_Run_numbers_for : Stmt := inClass (top 28) 2
theorem sc_Run_numbers_for : FnScope ["self", "row", "turn"] ["self", "row", "turn"] (defScope st_Run_numbers_for) := ⟨rfl, rfl, rfl, by decide +kernel, rfl, by decide +kernel, by decide +kernel⟩
abbrev st_Run_number_read : Stmt := inClass (top 28) 3
theorem sc_Run_number_read : FnScope ["self", "read", "turn"] ["self", "read", "turn"] (defScope st_Run_number_read) := ⟨rfl, rfl, rfl, by decide +kernel, rfl, by decide +kernel, by decide +kernel⟩
abbrev st_Run_do_turn : Stmt := inClass (top 28) 4
theorem sc_Run_do_turn : FnScope ["self", "turn", "row", "numbers"] ["self", "turn"] (defScope st_Run_do_turn) := ⟨rfl, rfl, rfl, by decide +kernel, rfl, by decide +kernel, by decide +kernel⟩
abbrev st_Run_last_made : Stmt := inClass (top 28) 5
theorem sc_Run_last_made : FnScope ["self", "name", "turns"] ["self", "name", "turns"] (defScope st_Run_last_made) := ⟨rfl, rfl, rfl, by decide +kernel, rfl, by decide +kernel, by decide +kernel⟩
abbrev st_table : Stmt := top 29
theorem sc_table : FnScope ["loop", "turns", "feeds", "begin", "done"] ["loop", "turns", "feeds", "begin"] (defScope st_table) := ⟨rfl, rfl, rfl, by decide +kernel, rfl, by decide +kernel, by decide +kernel⟩
abbrev st_outcome : Stmt := top 30
theorem sc_outcome : FnScope ["loop", "turns", "feeds", "begin", "done", "told", "deep"] ["loop", "turns", "feeds", "begin"] (defScope st_outcome) := ⟨rfl, rfl, rfl, by decide +kernel, rfl, by decide +kernel, by decide +kernel⟩
abbrev st_done_run : Stmt := top 31
theorem sc_done_run : FnScope ["loop", "turns", "feeds", "begin", "done", "turn"] ["loop", "turns", "feeds", "begin"] (defScope st_done_run) := ⟨rfl, rfl, rfl, by decide +kernel, rfl, by decide +kernel, by decide +kernel⟩
abbrev st_check_run : Stmt := top 32
theorem sc_check_run : FnScope ["loop", "turns", "feeds", "begin"] ["loop", "turns", "feeds", "begin"] (defScope st_check_run) := ⟨rfl, rfl, rfl, by decide +kernel, rfl, by decide +kernel, by decide +kernel⟩
abbrev st_check_turns : Stmt := top 33
theorem sc_check_turns : FnScope ["turns"] ["turns"] (defScope st_check_turns) := ⟨rfl, rfl, rfl, by decide +kernel, rfl, by decide +kernel, by decide +kernel⟩
abbrev st_check_feeds : Stmt := top 34
theorem sc_check_feeds : FnScope ["loop", "turns", "feeds", "row"] ["loop", "turns", "feeds"] (defScope st_check_feeds) := ⟨rfl, rfl, rfl, by decide +kernel, rfl, by decide +kernel, by decide +kernel⟩
abbrev st_check_begin : Stmt := top 35
theorem sc_check_begin : FnScope ["loop", "begin", "row"] ["loop", "begin"] (defScope st_check_begin) := ⟨rfl, rfl, rfl, by decide +kernel, rfl, by decide +kernel, by decide +kernel⟩
abbrev st_law_alike : Stmt := top 56
theorem sc_law_alike : FnScope ["_law_found", "_law_due", "_law_k"] ["_law_found", "_law_due"] (defScope st_law_alike) := ⟨rfl, rfl, rfl, by decide +kernel, rfl, by decide +kernel, by decide +kernel⟩
abbrev st_law_given : Stmt := top 65
theorem sc_law_given : FnScope ["_law_script", "_law_at", "_law_most", "_law_made_here", "_law_k", "_law_cell", "_law_number"] ["_law_script", "_law_at", "_law_most"] (defScope st_law_given) := ⟨rfl, rfl, rfl, by decide +kernel, rfl, by decide +kernel, by decide +kernel⟩
abbrev st_law_feeds : Stmt := top 66
theorem sc_law_feeds : FnScope ["_law_script", "_law_rows_here", "_law_turns", "_law_made_here", "_law_at"] ["_law_script", "_law_rows_here", "_law_turns"] (defScope st_law_feeds) := ⟨rfl, rfl, rfl, by decide +kernel, rfl, by decide +kernel, by decide +kernel⟩
abbrev st_law_begin : Stmt := top 67
theorem sc_law_begin : FnScope ["_law_script", "_law_rows_here", "_law_made_here", "_law_at", "_law_deep"] ["_law_script", "_law_rows_here"] (defScope st_law_begin) := ⟨rfl, rfl, rfl, by decide +kernel, rfl, by decide +kernel, by decide +kernel⟩
abbrev st_law_makes : Stmt := top 68
theorem sc_law_makes : FnScope ["_law_word", "_law_numbers", "_law_measure_here", "_law_rests"] ["_law_word", "_law_numbers", "_law_measure_here"] (defScope st_law_makes) := ⟨rfl, rfl, rfl, by decide +kernel, rfl, by decide +kernel, by decide +kernel⟩
abbrev st_law_gets : Stmt := top 69
theorem sc_law_gets : FnScope ["_law_row_here", "_law_made_here", "_law_turn", "_law_feeds_here", "_law_begin_here", "_law_measure_here", "_law_found", "_law_read"] ["_law_row_here", "_law_made_here", "_law_turn", "_law_feeds_here", "_law_begin_here", "_law_measure_here"] (defScope st_law_gets) := ⟨rfl, rfl, rfl, by decide +kernel, rfl, by decide +kernel, by decide +kernel⟩
abbrev st_law_made : Stmt := top 70
theorem sc_law_made : FnScope ["_law_measure_here", "_law_rows_here", "_law_turns", "_law_feeds_here", "_law_begin_here", "_law_made_here", "_law_row_here", "_law_turn", "_law_numbers"] ["_law_measure_here", "_law_rows_here", "_law_turns", "_law_feeds_here", "_law_begin_here"] (defScope st_law_made) := ⟨rfl, rfl, rfl, by decide +kernel, rfl, by decide +kernel, by decide +kernel⟩
abbrev st_law_ends : Stmt := top 71
theorem sc_law_ends : FnScope ["_law_measure_here", "_law_rows_here", "_law_turns", "_law_made_here", "_law_begin_here", "_law_ends_here", "_law_row_here", "_law_deep", "_law_last", "_law_k"] ["_law_measure_here", "_law_rows_here", "_law_turns", "_law_made_here", "_law_begin_here"] (defScope st_law_ends) := ⟨rfl, rfl, rfl, by decide +kernel, rfl, by decide +kernel, by decide +kernel⟩
abbrev st_law_pairs : Stmt := top 72
theorem sc_law_pairs : FnScope ["_law_found", "_law_due", "_law_k"] ["_law_found", "_law_due"] (defScope st_law_pairs) := ⟨rfl, rfl, rfl, by decide +kernel, rfl, by decide +kernel, by decide +kernel⟩
abbrev st_law_copy : Stmt := top 73
theorem sc_law_copy : FnScope ["_law_lists", "_law_made_here", "_law_name", "_law_row_here"] ["_law_lists"] (defScope st_law_copy) := ⟨rfl, rfl, rfl, by decide +kernel, rfl, by decide +kernel, by decide +kernel⟩
abbrev st_law_outcome : Stmt := top 74
theorem sc_law_outcome : FnScope ["_law_found", "_law_told", "_law_ends_here"] ["_law_found", "_law_told", "_law_ends_here"] (defScope st_law_outcome) := ⟨rfl, rfl, rfl, by decide +kernel, rfl, by decide +kernel, by decide +kernel⟩
abbrev st_law : Stmt := top 75
theorem sc_law : FnScope ["_law_script", "_law_head", "_law_rows_here", "_law_measure_here", "_law_turns", "_law_feeds_here", "_law_begin_here", "_law_row_here", "_law_handed", "_law_made_here", "_law_every", "_law_told", "_law_ends_here", "_law_loop", "_law_found", "_law_name"] ["_law_script"] (defScope st_law) := ⟨rfl, rfl, rfl, by decide +kernel, rfl, by decide +kernel, by decide +kernel⟩
inductive Xk where
  | Loop
  | Run
  deriving DecidableEq
structure Tp0 (K : PySem.W.Frag) (C : Dk → Addr) (CE : Xk → Addr) : Prop where
  c_Sum : HasC K "Sum" (C .sum)
  c_Less : HasC K "Less" (C .less)
  c_Times : HasC K "Times" (C .times)
  c_Least : HasC K "Least" (C .least)
  c_Most : HasC K "Most" (C .most)
  c_Pick : HasC K "Pick" (C .pick)
  c_Same : HasC K "Same" (C .same)
  c_Tell : HasC K "Tell" (C .tell)
  c_Take : HasC K "Take" (C .take)
  g_Loop : PySem.W.nsIn K mainGlobals "Loop" = some (some (.ref (CE .Loop)))
  g_Run : PySem.W.nsIn K mainGlobals "Run" = some (some (.ref (CE .Run)))
structure Tp1 (K : PySem.W.Frag) (C : Dk → Addr) (CE : Xk → Addr) : Prop where
  f_of_sum : HasM K (C .sum) "of" "Sum.of" st_Sum_of
  f_of_less : HasM K (C .less) "of" "Less.of" st_Less_of
  f_of_times : HasM K (C .times) "of" "Times.of" st_Times_of
  f_of_least : HasM K (C .least) "of" "Least.of" st_Least_of
  f_of_most : HasM K (C .most) "of" "Most.of" st_Most_of
  f_of_pick : HasM K (C .pick) "of" "Pick.of" st_Pick_of
  f_of_same : HasM K (C .same) "of" "Deed.of" st_Deed_of
  f_of_tell : HasM K (C .tell) "of" "Deed.of" st_Deed_of
  f_of_take : HasM K (C .take) "of" "Deed.of" st_Deed_of
  f_wa_sum : HasM K (C .sum) "wants" "Sum.wants" st_Sum_wants
  f_wa_less : HasM K (C .less) "wants" "Less.wants" st_Less_wants
  f_wa_times : HasM K (C .times) "wants" "Times.wants" st_Times_wants
  f_wa_least : HasM K (C .least) "wants" "Least.wants" st_Least_wants
  f_wa_most : HasM K (C .most) "wants" "Most.wants" st_Most_wants
  f_wa_pick : HasM K (C .pick) "wants" "Pick.wants" st_Pick_wants
  f_wa_same : HasM K (C .same) "wants" "Deed.wants" st_Deed_wants
  f_wa_tell : HasM K (C .tell) "wants" "Deed.wants" st_Deed_wants
  f_wa_take : HasM K (C .take) "wants" "Take.wants" st_Take_wants
  i_Loop : HasCI K "Loop" (CE .Loop) "Loop.__init__" st_Loop___init__
  f_Loop_rows : HasM K (CE .Loop) "rows" "Loop.rows" st_Loop_rows
  f_Loop_deepest : HasM K (CE .Loop) "deepest" "Loop.deepest" st_Loop_deepest
  i_Run : HasCI K "Run" (CE .Run) "Run.__init__" st_Run___init__
  f_Run_made_at : HasM K (CE .Run) "made_at" "Run.made_at" st_Run_made_at
  f_Run_number_read : HasM K (CE .Run) "number_read" "Run.number_read" st_Run_number_read
  f_Run_numbers_for : HasM K (CE .Run) "numbers_for" "Run.numbers_for" st_Run_numbers_for
  f_Run_do_turn : HasM K (CE .Run) "do_turn" "Run.do_turn" st_Run_do_turn
  f_Run_last_made : HasM K (CE .Run) "last_made" "Run.last_made" st_Run_last_made
  w_LETTERS : HasV K "LETTERS" (.str (Str.ofString "abcdefghijklmnopqrstuvwxyz"))
  w_MOST_LETTERS : HasV K "MOST_LETTERS" (.int 12)
  w_MOST_ROWS : HasV K "MOST_ROWS" (.int 12)
  w_MOST_BACK : HasV K "MOST_BACK" (.int 6)
  w_MOST_TURNS : HasV K "MOST_TURNS" (.int 300)
  f_table : HasF K "table" st_table
  f_outcome : HasF K "outcome" st_outcome
  f_run : HasF K "done_run" st_done_run
  f_crun : HasF K "check_run" st_check_run
structure Tp2 (K : PySem.W.Frag) (C : Dk → Addr) (CE : Xk → Addr) : Prop where
  f_cturns : HasF K "check_turns" st_check_turns
  f_cfeeds : HasF K "check_feeds" st_check_feeds
  f_cbegin : HasF K "check_begin" st_check_begin
  f_deed : HasF K "deed_of" st_deed_of
  f_islet : HasF K "is_lettered" st_is_lettered
  f_isname : HasF K "is_name" st_is_name
  f_cmeas : HasF K "check_measure" st_check_measure
  f_crows : HasF K "check_rows" st_check_rows
  f_chead : HasF K "check_head" st_check_head
  f_cread : HasF K "check_read" st_check_read
  f_cnum : HasF K "check_number" st_check_number
  f_clook : HasF K "check_look_back" st_check_look_back
  f_copy : HasF K "copy_of_row" st_copy_of_row
  f_depths : HasF K "depths_of" st_depths_of
  f_cell : HasF K "_law_cell_at" st_law_cell_at
  f_whole : HasF K "_law_whole" st_law_whole
  f_mix : HasF K "_law_mix" st_law_mix
  f_letters : HasF K "_law_letters" st_law_letters
  f_names : HasF K "_law_names" st_law_names
  f_wants : HasF K "_law_wants" st_law_wants
  f_row : HasF K "_law_row" st_law_row
  f_rows : HasF K "_law_rows" st_law_rows
  f_measure : HasF K "_law_measure" st_law_measure
  f_deepest : HasF K "_law_deepest" st_law_deepest
  f_alike : HasF K "_law_alike" st_law_alike
  f_given : HasF K "_law_given" st_law_given
  f_feeds : HasF K "_law_feeds" st_law_feeds
  f_begin : HasF K "_law_begin" st_law_begin
  f_makes : HasF K "_law_makes" st_law_makes
  f_gets : HasF K "_law_gets" st_law_gets
  f_made : HasF K "_law_made" st_law_made
  f_ends : HasF K "_law_ends" st_law_ends
  f_pairs : HasF K "_law_pairs" st_law_pairs
  f_copyL : HasF K "_law_copy" st_law_copy
  f_outc : HasF K "_law_outcome" st_law_outcome
  z_len : PySem.W.nsIn K mainGlobals "len" = some none
structure Tp3 (K : PySem.W.Frag) (C : Dk → Addr) (CE : Xk → Addr) : Prop where
  z_isinstance : PySem.W.nsIn K mainGlobals "isinstance" = some none
  z_int : PySem.W.nsIn K mainGlobals "int" = some none
  z_bool : PySem.W.nsIn K mainGlobals "bool" = some none
  z_range : PySem.W.nsIn K mainGlobals "range" = some none
  z_min : PySem.W.nsIn K mainGlobals "min" = some none
  z_max : PySem.W.nsIn K mainGlobals "max" = some none
  z_list : PySem.W.nsIn K mainGlobals "list" = some none
  z_tuple : PySem.W.nsIn K mainGlobals "tuple" = some none
  z_str : PySem.W.nsIn K mainGlobals "str" = some none
  z_all : PySem.W.nsIn K mainGlobals "all" = some none
  z_enumerate : PySem.W.nsIn K mainGlobals "enumerate" = some none
  kII : PySem.W.kitOne K (.type "int") (.type "int") = some true
  kIB : PySem.W.kitOne K (.type "int") (.type "bool") = some false
  kTT : PySem.W.kitOne K (.type "tuple") (.type "tuple") = some true
  kTI : PySem.W.kitOne K (.type "tuple") (.type "int") = some false
  kIT : PySem.W.kitOne K (.type "int") (.type "tuple") = some false
  kLL : PySem.W.kitOne K (.type "list") (.type "list") = some true
  kSS : PySem.W.kitOne K (.type "str") (.type "str") = some true
  nM : NoAttr K (CE .Loop) "measure"
  nK : NoAttr K (CE .Loop) "kept"
  nD : NoAttr K (CE .Loop) "depths"
  nRL : NoAttr K (CE .Run) "loop"
  nRF : NoAttr K (CE .Run) "feeds"
  nRB : NoAttr K (CE .Run) "begin"
  nRM : NoAttr K (CE .Run) "made"
structure Tp (K : PySem.W.Frag) (C : Dk → Addr) (CE : Xk → Addr) : Prop extends Tp0 K C CE, Tp1 K C CE, Tp2 K C CE, Tp3 K C CE
structure Txt (K : PySem.W.Frag) (mg : Str → Option Value) (C : Dk → Addr) (CE : Xk → Addr) : Prop extends Tp K C CE where
  mg_Sum : mg "Sum" = some (.ref (C .sum))
  mg_Less : mg "Less" = some (.ref (C .less))
  mg_Times : mg "Times" = some (.ref (C .times))
  mg_Least : mg "Least" = some (.ref (C .least))
  mg_Most : mg "Most" = some (.ref (C .most))
  mg_Pick : mg "Pick" = some (.ref (C .pick))
  mg_Same : mg "Same" = some (.ref (C .same))
  mg_Tell : mg "Tell" = some (.ref (C .tell))
  mg_Take : mg "Take" = some (.ref (C .take))
  mg_Loop : mg "Loop" = some (.ref (CE .Loop))
  mg_Run : mg "Run" = some (.ref (CE .Run))
  nlen : mg "len" = none
  nisi : mg "isinstance" = none
  nint : mg "int" = none
  nbool : mg "bool" = none
  nrange : mg "range" = none
  nmin : mg "min" = none
  nmax : mg "max" = none
  nlist : mg "list" = none
  ntuple : mg "tuple" = none
  nstr : mg "str" = none
  nall : mg "all" = none
  nenumerate : mg "enumerate" = none
  v_LETTERS : ∃ u, mg "LETTERS" = some u ∧ RelV (.str (Str.ofString "abcdefghijklmnopqrstuvwxyz")) u
  v_MOST_LETTERS : ∃ u, mg "MOST_LETTERS" = some u ∧ RelV (.int 12) u
  v_MOST_ROWS : ∃ u, mg "MOST_ROWS" = some u ∧ RelV (.int 12) u
  v_MOST_BACK : ∃ u, mg "MOST_BACK" = some u ∧ RelV (.int 6) u
  v_MOST_TURNS : ∃ u, mg "MOST_TURNS" = some u ∧ RelV (.int 300) u
section
variable {K : PySem.W.Frag} {mg : Str → Option Value} {C : Dk → Addr} {CE : Xk → Addr}
theorem Txt.cl (T : Txt K mg C CE) : ∀ d, Cls K (C d)
  | .sum => T.c_Sum.cl
  | .less => T.c_Less.cl
  | .times => T.c_Times.cl
  | .least => T.c_Least.cl
  | .most => T.c_Most.cl
  | .pick => T.c_Pick.cl
  | .same => T.c_Same.cl
  | .tell => T.c_Tell.cl
  | .take => T.c_Take.cl
theorem Txt.mk_Sum (T : Txt K mg C CE) : MkN K (C .sum) := T.c_Sum.mkn
theorem Txt.mk_Less (T : Txt K mg C CE) : MkN K (C .less) := T.c_Less.mkn
theorem Txt.mk_Times (T : Txt K mg C CE) : MkN K (C .times) := T.c_Times.mkn
theorem Txt.mk_Least (T : Txt K mg C CE) : MkN K (C .least) := T.c_Least.mkn
theorem Txt.mk_Most (T : Txt K mg C CE) : MkN K (C .most) := T.c_Most.mkn
theorem Txt.mk_Pick (T : Txt K mg C CE) : MkN K (C .pick) := T.c_Pick.mkn
theorem Txt.mk_Same (T : Txt K mg C CE) : MkN K (C .same) := T.c_Same.mkn
theorem Txt.mk_Tell (T : Txt K mg C CE) : MkN K (C .tell) := T.c_Tell.mkn
theorem Txt.mk_Take (T : Txt K mg C CE) : MkN K (C .take) := T.c_Take.mkn
theorem Tp.txt {h : Heap} (T : Tp K C CE) (X : K.In h) (G : h.Ns mainGlobals mg) : Txt K mg C CE where
  toTp := T
  mg_Sum := PySem.W.mg_of X G T.c_Sum.ns
  mg_Less := PySem.W.mg_of X G T.c_Less.ns
  mg_Times := PySem.W.mg_of X G T.c_Times.ns
  mg_Least := PySem.W.mg_of X G T.c_Least.ns
  mg_Most := PySem.W.mg_of X G T.c_Most.ns
  mg_Pick := PySem.W.mg_of X G T.c_Pick.ns
  mg_Same := PySem.W.mg_of X G T.c_Same.ns
  mg_Tell := PySem.W.mg_of X G T.c_Tell.ns
  mg_Take := PySem.W.mg_of X G T.c_Take.ns
  mg_Loop := PySem.W.mg_of X G T.g_Loop
  mg_Run := PySem.W.mg_of X G T.g_Run
  nlen := PySem.W.mg_none_of X G T.z_len
  nisi := PySem.W.mg_none_of X G T.z_isinstance
  nint := PySem.W.mg_none_of X G T.z_int
  nbool := PySem.W.mg_none_of X G T.z_bool
  nrange := PySem.W.mg_none_of X G T.z_range
  nmin := PySem.W.mg_none_of X G T.z_min
  nmax := PySem.W.mg_none_of X G T.z_max
  nlist := PySem.W.mg_none_of X G T.z_list
  ntuple := PySem.W.mg_none_of X G T.z_tuple
  nstr := PySem.W.mg_none_of X G T.z_str
  nall := PySem.W.mg_none_of X G T.z_all
  nenumerate := PySem.W.mg_none_of X G T.z_enumerate
  v_LETTERS := T.w_LETTERS.mg X G
  v_MOST_LETTERS := T.w_MOST_LETTERS.mg X G
  v_MOST_ROWS := T.w_MOST_ROWS.mg X G
  v_MOST_BACK := T.w_MOST_BACK.mg X G
  v_MOST_TURNS := T.w_MOST_TURNS.mg X G
end
def Dk.wants : Dk → Nat
  | .pick => 3 | .same => 1 | .tell => 1 | .take => 0 | _ => 2
def spWants (d : Dk) : Sp := fun vs H Q _ => ∃ a : Addr, vs = [.ref a] ∧ Q (.int (d.wants : Nat)) H
def spWhole : Sp := fun vs H Q _ => ∃ i : Int, vs = [.int i] ∧ Q (.bl true) H
def spCell (K : PySem.W.Frag) : Sp := fun vs H Q _ => ∃ (a : Addr) (ns : List Int) (k : Nat), vs = [.ref a, .int (k : Int)] ∧ SqL K H a (ns.map V.int) ∧ ∀ i : Int, Q (.int i) H
def spMix : Sp := fun vs H Q _ => ∃ (c : Int) (k : Nat), vs = [.int c, .int (k : Int)] ∧ k ≤ 100 ∧ ∀ m : Nat, Q (.int (m : Int)) H
section
variable {P : Program} {w : World} {K : PySem.W.Frag} {mg : Str → Option Value} {base : Heap} {C : Dk → Addr} {CE : Xk → Addr}
theorem lenOf {d : Dk} : ∀ vs H Q E, spOf K d vs H Q E → vs.length = ["self", "numbers", "measure"].length := by
  rintro vs H Q E ⟨a, p, ns, m, rfl, _⟩
  rfl
theorem of_sum (T : Txt K mg C CE) : ∃ f fd, Meth K (C .sum) "of" f ∧ FnOk P w K mg base CX0 1 f fd ["self", "numbers", "measure"] (spOf K .sum) ∧ Binds K fd ["self", "numbers", "measure"] [] := by
  refine T.f_of_sum.fn sc_Sum_of (fun _ _ _ _ _ _ us hl => match us, hl with | [_, _, _], _ => rfl) lenOf (fun f cdv A outer s H vs Q E hr h => ?_)
  obtain ⟨a, p, ns, m, rfl, hS, hn, hm, ho, q⟩ := h
  have hn' : 2 ≤ ns.length := hn
  refine ⟨_, (pss_one (ps_ret (pe_op op_mod (pe_op op_add (pe_ix ix_seq (pv 1) pe_int (fun _ _ => rfl)) (pe_ix ix_seq (pv 1) pe_int (fun _ _ => rfl))) (pv 2)))), ?_⟩
  repeat' (first
    | (walk_at "rd1")
    | ((with_reducible show rIx _ (V.ref _) (V.int _) _ _); (first | refine i_ixL hS (at_ints 0 (by omega)) ?_ | refine i_ixL hS (at_ints 1 (by omega)) ?_ | refine i_ixL hS (at_ints 2 (by omega)) ?_))
    | ((with_reducible refine i_mul ?_ ?_); (exact ho rfl))
    | (refine ⟨_, _, rfl, ?_⟩)
    | (with_reducible refine i_iteI (fun e => ?_) (fun e => ?_)))
  exact q
theorem of_less (T : Txt K mg C CE) : ∃ f fd, Meth K (C .less) "of" f ∧ FnOk P w K mg base CX0 1 f fd ["self", "numbers", "measure"] (spOf K .less) ∧ Binds K fd ["self", "numbers", "measure"] [] := by
  refine T.f_of_less.fn sc_Less_of (fun _ _ _ _ _ _ us hl => match us, hl with | [_, _, _], _ => rfl) lenOf (fun f cdv A outer s H vs Q E hr h => ?_)
  obtain ⟨a, p, ns, m, rfl, hS, hn, hm, ho, q⟩ := h
  have hn' : 2 ≤ ns.length := hn
  refine ⟨_, (pss_one (ps_ret (pe_op op_mod (pe_op op_sub (pe_ix ix_seq (pv 1) pe_int (fun _ _ => rfl)) (pe_ix ix_seq (pv 1) pe_int (fun _ _ => rfl))) (pv 2)))), ?_⟩
  repeat' (first
    | (walk_at "rd1")
    | ((with_reducible show rIx _ (V.ref _) (V.int _) _ _); (first | refine i_ixL hS (at_ints 0 (by omega)) ?_ | refine i_ixL hS (at_ints 1 (by omega)) ?_ | refine i_ixL hS (at_ints 2 (by omega)) ?_))
    | ((with_reducible refine i_mul ?_ ?_); (exact ho rfl))
    | (refine ⟨_, _, rfl, ?_⟩)
    | (with_reducible refine i_iteI (fun e => ?_) (fun e => ?_)))
  exact q
theorem of_times (T : Txt K mg C CE) : ∃ f fd, Meth K (C .times) "of" f ∧ FnOk P w K mg base CX0 1 f fd ["self", "numbers", "measure"] (spOf K .times) ∧ Binds K fd ["self", "numbers", "measure"] [] := by
  refine T.f_of_times.fn sc_Times_of (fun _ _ _ _ _ _ us hl => match us, hl with | [_, _, _], _ => rfl) lenOf (fun f cdv A outer s H vs Q E hr h => ?_)
  obtain ⟨a, p, ns, m, rfl, hS, hn, hm, ho, q⟩ := h
  have hn' : 2 ≤ ns.length := hn
  refine ⟨_, (pss_one (ps_ret (pe_op op_mod (pe_op op_mulO (pe_ix ix_seq (pv 1) pe_int (fun _ _ => rfl)) (pe_ix ix_seq (pv 1) pe_int (fun _ _ => rfl))) (pv 2)))), ?_⟩
  repeat' (first
    | (walk_at "rd1")
    | ((with_reducible show rIx _ (V.ref _) (V.int _) _ _); (first | refine i_ixL hS (at_ints 0 (by omega)) ?_ | refine i_ixL hS (at_ints 1 (by omega)) ?_ | refine i_ixL hS (at_ints 2 (by omega)) ?_))
    | ((with_reducible refine i_mul ?_ ?_); (exact ho rfl))
    | (refine ⟨_, _, rfl, ?_⟩)
    | (with_reducible refine i_iteI (fun e => ?_) (fun e => ?_)))
  exact q
theorem of_least (T : Txt K mg C CE) : ∃ f fd, Meth K (C .least) "of" f ∧ FnOk P w K mg base CX0 1 f fd ["self", "numbers", "measure"] (spOf K .least) ∧ Binds K fd ["self", "numbers", "measure"] [] := by
  refine T.f_of_least.fn sc_Least_of (fun _ _ _ _ _ _ us hl => match us, hl with | [_, _, _], _ => rfl) lenOf (fun f cdv A outer s H vs Q E hr h => ?_)
  obtain ⟨a, p, ns, m, rfl, hS, hn, hm, ho, q⟩ := h
  have hn' : 2 ≤ ns.length := hn
  refine ⟨_, (pss_one (ps_ret (pe_callB (call_min2 rfl) rfl T.nmin PyProof.Rows.boot_min (pa_cons (pe_op op_mod (pe_ix ix_seq (pv 1) pe_int (fun _ _ => rfl)) (pv 2)) (pa_cons (pe_op op_mod (pe_ix ix_seq (pv 1) pe_int (fun _ _ => rfl)) (pv 2)) pa_nil (se rfl)) (se rfl)) (he := se rfl) (hpl := nst rfl)))), ?_⟩
  repeat' (first
    | (walk_at "rd1")
    | ((with_reducible show rIx _ (V.ref _) (V.int _) _ _); (first | refine i_ixL hS (at_ints 0 (by omega)) ?_ | refine i_ixL hS (at_ints 1 (by omega)) ?_ | refine i_ixL hS (at_ints 2 (by omega)) ?_))
    | ((with_reducible refine i_mul ?_ ?_); (exact ho rfl))
    | (refine ⟨_, _, rfl, ?_⟩)
    | (with_reducible refine i_iteI (fun e => ?_) (fun e => ?_)))
  exact q
theorem of_most (T : Txt K mg C CE) : ∃ f fd, Meth K (C .most) "of" f ∧ FnOk P w K mg base CX0 1 f fd ["self", "numbers", "measure"] (spOf K .most) ∧ Binds K fd ["self", "numbers", "measure"] [] := by
  refine T.f_of_most.fn sc_Most_of (fun _ _ _ _ _ _ us hl => match us, hl with | [_, _, _], _ => rfl) lenOf (fun f cdv A outer s H vs Q E hr h => ?_)
  obtain ⟨a, p, ns, m, rfl, hS, hn, hm, ho, q⟩ := h
  have hn' : 2 ≤ ns.length := hn
  refine ⟨_, (pss_one (ps_ret (pe_callB (call_max2 rfl) rfl T.nmax PyProof.Rows.boot_max (pa_cons (pe_op op_mod (pe_ix ix_seq (pv 1) pe_int (fun _ _ => rfl)) (pv 2)) (pa_cons (pe_op op_mod (pe_ix ix_seq (pv 1) pe_int (fun _ _ => rfl)) (pv 2)) pa_nil (se rfl)) (se rfl)) (he := se rfl) (hpl := nst rfl)))), ?_⟩
  repeat' (first
    | (walk_at "rd1")
    | ((with_reducible show rIx _ (V.ref _) (V.int _) _ _); (first | refine i_ixL hS (at_ints 0 (by omega)) ?_ | refine i_ixL hS (at_ints 1 (by omega)) ?_ | refine i_ixL hS (at_ints 2 (by omega)) ?_))
    | ((with_reducible refine i_mul ?_ ?_); (exact ho rfl))
    | (refine ⟨_, _, rfl, ?_⟩)
    | (with_reducible refine i_iteI (fun e => ?_) (fun e => ?_)))
  first | exact q | (rw [show max (ns.getD 0 0 % m) (ns.getD 1 0 % m) = (if ns.getD 1 0 % m > ns.getD 0 0 % m then ns.getD 1 0 % m else ns.getD 0 0 % m) by split <;> omega]; exact q)
theorem of_pick (T : Txt K mg C CE) : ∃ f fd, Meth K (C .pick) "of" f ∧ FnOk P w K mg base CX0 1 f fd ["self", "numbers", "measure"] (spOf K .pick) ∧ Binds K fd ["self", "numbers", "measure"] [] := by
  refine T.f_of_pick.fn sc_Pick_of (fun _ _ _ _ _ _ us hl => match us, hl with | [_, _, _], _ => rfl) lenOf (fun f cdv A outer s H vs Q E hr h => ?_)
  obtain ⟨a, p, ns, m, rfl, hS, hn, hm, ho, q⟩ := h
  have hn' : 3 ≤ ns.length := hn
  refine ⟨_, (pss_cons (ps_if (pt_cmpR op_eq (pe_op op_mod (pe_ix ix_seq (pv 1) pe_int (fun _ _ => rfl)) (pv 2)) pe_int (nomark _)) (pss_one (ps_ret (pe_op op_mod (pe_ix ix_seq (pv 1) pe_int (fun _ _ => rfl)) (pv 2)))) pss_nil)
    (pss_one (ps_ret (pe_op op_mod (pe_ix ix_seq (pv 1) pe_int (fun _ _ => rfl)) (pv 2))))), ?_⟩
  repeat' (first
    | (walk_at "rd1")
    | ((with_reducible show rIx _ (V.ref _) (V.int _) _ _); (first | refine i_ixL hS (at_ints 0 (by omega)) ?_ | refine i_ixL hS (at_ints 1 (by omega)) ?_ | refine i_ixL hS (at_ints 2 (by omega)) ?_))
    | ((with_reducible refine i_mul ?_ ?_); (exact ho rfl))
    | (refine ⟨_, _, rfl, ?_⟩)
    | (with_reducible refine i_iteI (fun e => ?_) (fun e => ?_)))
  all_goals
    have q' : Q (.int (if ns.getD 0 0 % m = 0 then ns.getD 2 0 % m else ns.getD 1 0 % m)) H := q
    first
    | (rw [if_pos (by assumption)] at q'; exact q')
    | (rw [if_neg (by assumption)] at q'; exact q')
theorem of_same (T : Txt K mg C CE) : ∃ f fd, Meth K (C .same) "of" f ∧ FnOk P w K mg base CX0 1 f fd ["self", "numbers", "measure"] (spOf K .same) ∧ Binds K fd ["self", "numbers", "measure"] [] := by
  refine T.f_of_same.fn sc_Deed_of (fun _ _ _ _ _ _ us hl => match us, hl with | [_, _, _], _ => rfl) lenOf (fun f cdv A outer s H vs Q E hr h => ?_)
  obtain ⟨a, p, ns, m, rfl, hS, hn, hm, ho, q⟩ := h
  have hn' : 1 ≤ ns.length := hn
  refine ⟨_, (pss_one (ps_ret (pe_op op_mod (pe_ix ix_seq (pv 1) pe_int (fun _ _ => rfl)) (pv 2)))), ?_⟩
  repeat' (first
    | (walk_at "rd1")
    | ((with_reducible show rIx _ (V.ref _) (V.int _) _ _); (first | refine i_ixL hS (at_ints 0 (by omega)) ?_ | refine i_ixL hS (at_ints 1 (by omega)) ?_ | refine i_ixL hS (at_ints 2 (by omega)) ?_))
    | ((with_reducible refine i_mul ?_ ?_); (exact ho rfl))
    | (refine ⟨_, _, rfl, ?_⟩)
    | (with_reducible refine i_iteI (fun e => ?_) (fun e => ?_)))
  exact q
theorem of_tell (T : Txt K mg C CE) : ∃ f fd, Meth K (C .tell) "of" f ∧ FnOk P w K mg base CX0 1 f fd ["self", "numbers", "measure"] (spOf K .tell) ∧ Binds K fd ["self", "numbers", "measure"] [] := by
  refine T.f_of_tell.fn sc_Deed_of (fun _ _ _ _ _ _ us hl => match us, hl with | [_, _, _], _ => rfl) lenOf (fun f cdv A outer s H vs Q E hr h => ?_)
  obtain ⟨a, p, ns, m, rfl, hS, hn, hm, ho, q⟩ := h
  have hn' : 1 ≤ ns.length := hn
  refine ⟨_, (pss_one (ps_ret (pe_op op_mod (pe_ix ix_seq (pv 1) pe_int (fun _ _ => rfl)) (pv 2)))), ?_⟩
  repeat' (first
    | (walk_at "rd1")
    | ((with_reducible show rIx _ (V.ref _) (V.int _) _ _); (first | refine i_ixL hS (at_ints 0 (by omega)) ?_ | refine i_ixL hS (at_ints 1 (by omega)) ?_ | refine i_ixL hS (at_ints 2 (by omega)) ?_))
    | ((with_reducible refine i_mul ?_ ?_); (exact ho rfl))
    | (refine ⟨_, _, rfl, ?_⟩)
    | (with_reducible refine i_iteI (fun e => ?_) (fun e => ?_)))
  exact q
theorem of_take (T : Txt K mg C CE) : ∃ f fd, Meth K (C .take) "of" f ∧ FnOk P w K mg base CX0 1 f fd ["self", "numbers", "measure"] (spOf K .take) ∧ Binds K fd ["self", "numbers", "measure"] [] := by
  refine T.f_of_take.fn sc_Deed_of (fun _ _ _ _ _ _ us hl => match us, hl with | [_, _, _], _ => rfl) lenOf (fun f cdv A outer s H vs Q E hr h => ?_)
  obtain ⟨a, p, ns, m, rfl, hS, hn, hm, ho, q⟩ := h
  have hn' : 1 ≤ ns.length := hn
  refine ⟨_, (pss_one (ps_ret (pe_op op_mod (pe_ix ix_seq (pv 1) pe_int (fun _ _ => rfl)) (pv 2)))), ?_⟩
  repeat' (first
    | (walk_at "rd1")
    | ((with_reducible show rIx _ (V.ref _) (V.int _) _ _); (first | refine i_ixL hS (at_ints 0 (by omega)) ?_ | refine i_ixL hS (at_ints 1 (by omega)) ?_ | refine i_ixL hS (at_ints 2 (by omega)) ?_))
    | ((with_reducible refine i_mul ?_ ?_); (exact ho rfl))
    | (refine ⟨_, _, rfl, ?_⟩)
    | (with_reducible refine i_iteI (fun e => ?_) (fun e => ?_)))
  exact q
theorem m_of (T : Txt K mg C CE) : MethI P w K mg base 1 "of" ["self", "numbers", "measure"] C (spOf K) := by
  refine ⟨fun d => ⟨T.cl d, ?_⟩⟩
  cases d
  · exact of_sum T
  · exact of_less T
  · exact of_times T
  · exact of_least T
  · exact of_most T
  · exact of_pick T
  · exact of_same T
  · exact of_tell T
  · exact of_take T
theorem wa_sum (T : Txt K mg C CE) : ∃ f fd, Meth K (C .sum) "wants" f ∧ FnOk P w K mg base CX0 1 f fd ["self"] (spWants .sum) ∧ Binds K fd ["self"] [] := by
  refine T.f_wa_sum.fn sc_Sum_wants (fun _ _ _ _ _ _ us hl => match us, hl with | [_], _ => rfl) (by rintro vs H Q E ⟨a, rfl, _⟩; rfl) (fun f cdv A outer s H vs Q E hr h => ?_)
  obtain ⟨a, rfl, q⟩ := h
  refine ⟨_, (pss_one (ps_ret pe_int)), ?_⟩
  walk_at "rd"
  exact q
theorem wa_less (T : Txt K mg C CE) : ∃ f fd, Meth K (C .less) "wants" f ∧ FnOk P w K mg base CX0 1 f fd ["self"] (spWants .less) ∧ Binds K fd ["self"] [] := by
  refine T.f_wa_less.fn sc_Less_wants (fun _ _ _ _ _ _ us hl => match us, hl with | [_], _ => rfl) (by rintro vs H Q E ⟨a, rfl, _⟩; rfl) (fun f cdv A outer s H vs Q E hr h => ?_)
  obtain ⟨a, rfl, q⟩ := h
  refine ⟨_, (pss_one (ps_ret pe_int)), ?_⟩
  walk_at "rd"
  exact q
theorem wa_times (T : Txt K mg C CE) : ∃ f fd, Meth K (C .times) "wants" f ∧ FnOk P w K mg base CX0 1 f fd ["self"] (spWants .times) ∧ Binds K fd ["self"] [] := by
  refine T.f_wa_times.fn sc_Times_wants (fun _ _ _ _ _ _ us hl => match us, hl with | [_], _ => rfl) (by rintro vs H Q E ⟨a, rfl, _⟩; rfl) (fun f cdv A outer s H vs Q E hr h => ?_)
  obtain ⟨a, rfl, q⟩ := h
  refine ⟨_, (pss_one (ps_ret pe_int)), ?_⟩
  walk_at "rd"
  exact q
theorem wa_least (T : Txt K mg C CE) : ∃ f fd, Meth K (C .least) "wants" f ∧ FnOk P w K mg base CX0 1 f fd ["self"] (spWants .least) ∧ Binds K fd ["self"] [] := by
  refine T.f_wa_least.fn sc_Least_wants (fun _ _ _ _ _ _ us hl => match us, hl with | [_], _ => rfl) (by rintro vs H Q E ⟨a, rfl, _⟩; rfl) (fun f cdv A outer s H vs Q E hr h => ?_)
  obtain ⟨a, rfl, q⟩ := h
  refine ⟨_, (pss_one (ps_ret pe_int)), ?_⟩
  walk_at "rd"
  exact q
theorem wa_most (T : Txt K mg C CE) : ∃ f fd, Meth K (C .most) "wants" f ∧ FnOk P w K mg base CX0 1 f fd ["self"] (spWants .most) ∧ Binds K fd ["self"] [] := by
  refine T.f_wa_most.fn sc_Most_wants (fun _ _ _ _ _ _ us hl => match us, hl with | [_], _ => rfl) (by rintro vs H Q E ⟨a, rfl, _⟩; rfl) (fun f cdv A outer s H vs Q E hr h => ?_)
  obtain ⟨a, rfl, q⟩ := h
  refine ⟨_, (pss_one (ps_ret pe_int)), ?_⟩
  walk_at "rd"
  exact q
theorem wa_pick (T : Txt K mg C CE) : ∃ f fd, Meth K (C .pick) "wants" f ∧ FnOk P w K mg base CX0 1 f fd ["self"] (spWants .pick) ∧ Binds K fd ["self"] [] := by
  refine T.f_wa_pick.fn sc_Pick_wants (fun _ _ _ _ _ _ us hl => match us, hl with | [_], _ => rfl) (by rintro vs H Q E ⟨a, rfl, _⟩; rfl) (fun f cdv A outer s H vs Q E hr h => ?_)
  obtain ⟨a, rfl, q⟩ := h
  refine ⟨_, (pss_one (ps_ret pe_int)), ?_⟩
  walk_at "rd"
  exact q
theorem wa_same (T : Txt K mg C CE) : ∃ f fd, Meth K (C .same) "wants" f ∧ FnOk P w K mg base CX0 1 f fd ["self"] (spWants .same) ∧ Binds K fd ["self"] [] := by
  refine T.f_wa_same.fn sc_Deed_wants (fun _ _ _ _ _ _ us hl => match us, hl with | [_], _ => rfl) (by rintro vs H Q E ⟨a, rfl, _⟩; rfl) (fun f cdv A outer s H vs Q E hr h => ?_)
  obtain ⟨a, rfl, q⟩ := h
  refine ⟨_, (pss_one (ps_ret pe_int)), ?_⟩
  walk_at "rd"
  exact q
theorem wa_tell (T : Txt K mg C CE) : ∃ f fd, Meth K (C .tell) "wants" f ∧ FnOk P w K mg base CX0 1 f fd ["self"] (spWants .tell) ∧ Binds K fd ["self"] [] := by
  refine T.f_wa_tell.fn sc_Deed_wants (fun _ _ _ _ _ _ us hl => match us, hl with | [_], _ => rfl) (by rintro vs H Q E ⟨a, rfl, _⟩; rfl) (fun f cdv A outer s H vs Q E hr h => ?_)
  obtain ⟨a, rfl, q⟩ := h
  refine ⟨_, (pss_one (ps_ret pe_int)), ?_⟩
  walk_at "rd"
  exact q
theorem wa_take (T : Txt K mg C CE) : ∃ f fd, Meth K (C .take) "wants" f ∧ FnOk P w K mg base CX0 1 f fd ["self"] (spWants .take) ∧ Binds K fd ["self"] [] := by
  refine T.f_wa_take.fn sc_Take_wants (fun _ _ _ _ _ _ us hl => match us, hl with | [_], _ => rfl) (by rintro vs H Q E ⟨a, rfl, _⟩; rfl) (fun f cdv A outer s H vs Q E hr h => ?_)
  obtain ⟨a, rfl, q⟩ := h
  refine ⟨_, (pss_one (ps_ret pe_int)), ?_⟩
  walk_at "rd"
  exact q
theorem m_wants (T : Txt K mg C CE) : MethI P w K mg base 1 "wants" ["self"] C spWants := by
  refine ⟨fun d => ⟨T.cl d, ?_⟩⟩
  cases d
  · exact wa_sum T
  · exact wa_less T
  · exact wa_times T
  · exact wa_least T
  · exact wa_most T
  · exact wa_pick T
  · exact wa_same T
  · exact wa_tell T
  · exact wa_take T
theorem d_deed (T : Txt K mg C CE) (Kb : K.In base) (G : base.Ns mainGlobals mg) : Df P w K mg base 1 "deed_of" ["word"] (spDeedA C) := by
  refine T.f_deed.df Kb G sc_deed_of (fun _ _ _ _ _ _ us hl => match us, hl with | [_], _ => rfl) (by rintro vs H Q E ⟨d, rfl, _⟩; rfl) (fun f cdv A outer s H vs Q E hr h => ?_)
  refine ⟨_, (pss_cons (ps_if (pt_cmpR op_eq (pv 0) pe_str (nomark _)) (pss_one (ps_ret (pe_makeA T.mk_Sum rfl T.mg_Sum))) pss_nil)
    (pss_cons (ps_if (pt_cmpR op_eq (pv 0) pe_str (nomark _)) (pss_one (ps_ret (pe_makeA T.mk_Less rfl T.mg_Less))) pss_nil)
    (pss_cons (ps_if (pt_cmpR op_eq (pv 0) pe_str (nomark _)) (pss_one (ps_ret (pe_makeA T.mk_Times rfl T.mg_Times))) pss_nil)
    (pss_cons (ps_if (pt_cmpR op_eq (pv 0) pe_str (nomark _)) (pss_one (ps_ret (pe_makeA T.mk_Least rfl T.mg_Least))) pss_nil)
    (pss_cons (ps_if (pt_cmpR op_eq (pv 0) pe_str (nomark _)) (pss_one (ps_ret (pe_makeA T.mk_Most rfl T.mg_Most))) pss_nil)
    (pss_cons (ps_if (pt_cmpR op_eq (pv 0) pe_str (nomark _)) (pss_one (ps_ret (pe_makeA T.mk_Pick rfl T.mg_Pick))) pss_nil)
    (pss_cons (ps_if (pt_cmpR op_eq (pv 0) pe_str (nomark _)) (pss_one (ps_ret (pe_makeA T.mk_Same rfl T.mg_Same))) pss_nil)
    (pss_cons (ps_if (pt_cmpR op_eq (pv 0) pe_str (nomark _)) (pss_one (ps_ret (pe_makeA T.mk_Tell rfl T.mg_Tell))) pss_nil)
    (pss_cons (ps_if (pt_cmpR op_eq (pv 0) pe_str (nomark _)) (pss_one (ps_ret (pe_makeA T.mk_Take rfl T.mg_Take))) pss_nil)
    (pss_one ps_never)))))))))), ?_⟩
  obtain ⟨d, rfl, k⟩ := h
  cases d
  all_goals
    repeat (first
      | (walk_at "rd1")
      | ((with_reducible refine i_iteSe ?_ ?_); (rfl))
      | ((with_reducible refine i_iteSf ?_ ?_); (decide +kernel)))
    exact k
theorem d_whole (T : Txt K mg C CE) (Kb : K.In base) (G : base.Ns mainGlobals mg) : Df P w K mg base 1 "_law_whole" ["_law_found"] spWhole := by
  refine T.f_whole.df Kb G sc_law_whole (fun _ _ _ _ _ _ us hl => match us, hl with | [_], _ => rfl) (by rintro vs H Q E ⟨i, rfl, _⟩; rfl) (fun f cdv A outer s H vs Q E hr h => ?_)
  obtain ⟨i, rfl, q⟩ := h
  refine ⟨_, (pss_one (ps_ret (pe_and (pe_callB call_isi rfl T.nisi PyProof.Rows.boot_isinstance (pa_cons (pv 0) (pa_cons (pe_bltn (v := .ty "int") rfl T.nint PyProof.Rows.boot_int rfl) pa_nil (se rfl)) (se rfl)) (he := se rfl) (hpl := nst rfl)) (pe_one (pe_not (pe_callB call_isi rfl T.nisi PyProof.Rows.boot_isinstance (pa_cons (pv 0) (pa_cons (pe_bltn (v := .ty "bool") rfl T.nbool PyProof.Rows.boot_bool rfl) pa_nil (se rfl)) (se rfl)) (he := se rfl) (hpl := nst rfl))))))), ?_⟩
  walk_at "rd"
  refine ⟨_, _, _, _, rfl, rfl, .int i, T.kII, ?_⟩
  walk_at "rd"
  refine ⟨_, _, _, _, rfl, rfl, .int i, T.kIB, ?_⟩
  walk_at "rd"
  exact q
theorem d_cell (T : Txt K mg C CE) (Kb : K.In base) (G : base.Ns mainGlobals mg) : Df P w K mg base 1 "_law_cell_at" ["_law_script", "_law_k"] (spCell K) := by
  refine T.f_cell.df Kb G sc_law_cell_at (fun _ _ _ _ _ _ us hl => match us, hl with | [_, _], _ => rfl) (by rintro vs H Q E ⟨a, ns, k, rfl, _⟩; rfl) (fun f cdv A outer s H vs Q E hr h => ?_)
  obtain ⟨a, ns, k, rfl, hS, q⟩ := h
  refine ⟨_, (pss_cons (ps_if (pt_cmpR op_lt (pv 1) (pe_callB call_len_seq rfl T.nlen PySem.boot_len (pa_cons (pv 0) pa_nil (se rfl)) (he := se rfl) (hpl := nst rfl)) (nomark _)) (pss_one (ps_ret (pe_ix ix_seq (pv 0) (pv 1) (fun _ _ => rfl)))) pss_nil)
    (pss_one (ps_ret pe_int))), ?_⟩
  walk_at "rd"
  refine ⟨a, _, rfl, .inl hS, ?_⟩
  walk_at "rd"
  refine i_iteD (fun hk => ?_) (fun hk => ?_)
  · walk_at "rd"
    rw [List.length_map] at hk
    refine i_ixL hS (at_ints k (by omega)) ?_
    exact q _
  · walk_at "rd"
    exact q _
theorem mod_b (x : Int) {m : Int} (h : 0 < m) : 0 ≤ x % m ∧ x % m < m := ⟨Int.emod_nonneg x (by omega), Int.emod_lt_of_pos x h⟩
theorem ok_of {a b : Int} (m n : Nat) (a0 : 0 ≤ a) (a1 : a < 2 ^ m) (b0 : 0 ≤ b) (b1 : b < 2 ^ n) (h : m + n ≤ 134217728) : IntMulOk a b := by
  refine mulOk_abs m n ?_ ?_ h
  · have : ((a.natAbs : Nat) : Int) < ((2 ^ m : Nat) : Int) := by
      rw [Int.natCast_pow]; show _ < (2 : Int) ^ m; omega
    exact Int.ofNat_lt.mp this
  · have : ((b.natAbs : Nat) : Int) < ((2 ^ n : Nat) : Int) := by
      rw [Int.natCast_pow]; show _ < (2 : Int) ^ n; omega
    exact Int.ofNat_lt.mp this
theorem d_mix (T : Txt K mg C CE) (Kb : K.In base) (G : base.Ns mainGlobals mg) : Df P w K mg base 1 "_law_mix" ["_law_cell", "_law_k"] spMix := by
  refine T.f_mix.df Kb G sc_law_mix (fun _ _ _ _ _ _ us hl => match us, hl with | [_, _], _ => rfl) (by rintro vs H Q E ⟨c, k, rfl, _⟩; rfl) (fun f cdv A outer s H vs Q E hr h => ?_)
  obtain ⟨c, k, rfl, hk, q⟩ := h
  refine ⟨_, (pss_cons (ps_set (i := 2) sc_law_mix.nd rfl (by first | exact Or.inl rfl | exact Or.inr rfl) (pe_op op_mod (pv 0) (pe_op op_pow pe_int pe_int)))
    (pss_cons (ps_set (i := 2) sc_law_mix.nd rfl (by first | exact Or.inl rfl | exact Or.inr rfl) (pe_op op_mod (pe_op op_mulO (pe_op op_add (pe_op op_add (pe_op op_mulO (pv 2) (pv 2)) (pe_op op_mulO (pe_op op_mulO pe_int (pv 1)) (pv 1))) pe_int) pe_int) (pe_op op_add (pe_op op_pow pe_int pe_int) pe_int)))
    (pss_one (ps_ret (pe_op op_mod (pe_op op_mulO (pv 2) pe_int) (pe_op op_add (pe_op op_pow pe_int pe_int) pe_int)))))), ?_⟩
  walk_at "rd"
  have b := mod_b c (show (0 : Int) < 10 ^ (60 : Int).toNat by decide +kernel)
  have e60 : (10 : Int) ^ (60 : Int).toNat < 2 ^ 200 := by decide +kernel
  generalize c % 10 ^ (60 : Int).toNat = n at *
  obtain ⟨b0, b1⟩ := b
  refine i_mul (ok_of 200 200 b0 (by omega) b0 (by omega) (by decide)) ?_
  walk_at "rd"
  refine i_mul (IntMulOk.of_left (by decide)) ?_
  walk_at "rd"
  have hk2 : (40503 : Int) * (k : Int) < 2 ^ 64 := by omega
  refine i_mul (ok_of 64 64 (by omega) hk2 (by omega) (by omega) (by decide)) ?_
  clear hk2 e60 b1 b0
  walk_at "rd"
  refine i_mul (IntMulOk.of_right (by decide)) ?_
  walk_at "rd"
  have b2 := mod_b ((n * n + 40503 * (k : Int) * (k : Int) + 7919) * 1812433253982451697) (show (0 : Int) < 10 ^ (18 : Int).toNat + 9 by decide +kernel)
  have e18 : (10 : Int) ^ (18 : Int).toNat + 9 < 2 ^ 64 := by decide +kernel
  generalize (n * n + 40503 * (k : Int) * (k : Int) + 7919) * 1812433253982451697 % (10 ^ (18 : Int).toNat + 9) = m2 at *
  refine i_mul (ok_of 64 200 b2.1 (by omega) (by decide) (by decide) (by decide)) ?_
  clear e18 b2
  walk_at "rd"
  have b3 := mod_b (m2 * 739108512309184756019283746561) (show (0 : Int) < 10 ^ (40 : Int).toNat + 121 by decide +kernel)
  generalize m2 * 739108512309184756019283746561 % (10 ^ (40 : Int).toNat + 121) = m3 at *
  obtain ⟨r, rfl⟩ := Int.eq_ofNat_of_zero_le b3.1
  exact q r
theorem at_all {α : Type} {l : List α} {i : Int} {p : α → Prop} (hp : ∀ c ∈ l, p c) (h0 : 0 ≤ i) (h1 : i < l.length) : ∃ c, p c ∧ atI l i = some c := by
  obtain ⟨k, rfl⟩ := Int.eq_ofNat_of_zero_le h0
  have hk : k < l.length := by omega
  exact ⟨l[k], hp _ (List.getElem_mem hk), atI_nat (List.getElem?_eq_getElem hk)⟩
theorem app_list (x y : Str) : (x ++ y).cps.toList = x.cps.toList ++ y.cps.toList := by
  show (x.cps ++ y.cps).toList = _
  simp
theorem len_list (x : Str) : x.cps.toList.length = x.length := Array.length_toList
theorem cut_take (w : Str) (p : Nat) (h : p ≤ w.length) : (cutS w none (some (p : Int))).cps.toList = w.cps.toList.take p := by
  show ((w.cps.toList.drop (HT.sIx w.length 0 none)).take (HT.sIx w.length w.length (some (p : Int)) - HT.sIx w.length 0 none)).toArray.toList = _
  have e1 : HT.sIx w.length 0 none = 0 := rfl
  have e2 : HT.sIx w.length w.length (some (p : Int)) = p := by
    show (if (p : Int) < 0 then ((p : Int) + (w.length : Int)).toNat else min (p : Int).toNat w.length) = p
    rw [if_neg (by omega)]; omega
  rw [e1, e2]; simp
theorem cut_drop (w : Str) (p : Nat) (h : p ≤ w.length) : (cutS w (some (p : Int)) none).cps.toList = w.cps.toList.drop p := by
  show ((w.cps.toList.drop (HT.sIx w.length 0 (some (p : Int)))).take (HT.sIx w.length w.length none - HT.sIx w.length 0 (some (p : Int)))).toArray.toList = _
  have e1 : HT.sIx w.length w.length none = w.length := rfl
  have e2 : HT.sIx w.length 0 (some (p : Int)) = p := by
    show (if (p : Int) < 0 then ((p : Int) + (w.length : Int)).toNat else min (p : Int).toNat w.length) = p
    rw [if_neg (by omega)]; omega
  rw [e1, e2]
  have : (w.cps.toList.drop p).length ≤ w.length - p := by rw [List.length_drop, len_list]; omega
  simp only [List.toList_toArray]
  exact List.take_of_length_le this
def Lo (z : Str) : Prop := ∀ c ∈ z.cps.toList, 97 ≤ c ∧ c ≤ 122
theorem line_big : 10000 ≤ sizeLine := by rw [sizeLine_eq]; decide
def spLetters : Sp := fun vs H Q _ => ∃ (n many : Nat), vs = [.int (n : Int), .int (many : Int)] ∧ many ≤ 12 ∧ ∀ z : Str, z.length = many → Lo z → Q (.str z) H
theorem d_letters (T : Txt K mg C CE) (Kb : K.In base) (G : base.Ns mainGlobals mg) : Df P w K mg base 1 "_law_letters" ["_law_number", "_law_many"] spLetters := by
  refine T.f_letters.df Kb G sc_law_letters (fun _ _ _ _ _ _ us hl => match us, hl with | [_, _], _ => rfl) (by rintro vs H Q E ⟨n, many, rfl, _⟩; rfl) (fun f cdv A outer s H vs Q E hr h => ?_)
  obtain ⟨n, many, rfl, hm, q⟩ := h
  refine ⟨_, (pss_cons (ps_set (i := 2) sc_law_letters.nd rfl (by first | exact Or.inl rfl | exact Or.inr rfl) pe_str)
    (pss_cons (ps_for PassesOwn.never rfl (pi_range1 rfl T.nrange (pa_cons (pv 1) pa_nil (se rfl))) (pg_name (i := 3) sc_law_letters.nd rfl (Or.inl rfl))
      (pss_cons (ps_set (i := 2) sc_law_letters.nd rfl (by first | exact Or.inl rfl | exact Or.inr rfl) (pe_op op_addS (pv 2) (pe_ix ix_seq pe_str (pe_op op_mod (pv 0) pe_int) (fun _ _ => rfl))))
    (pss_one (ps_set (i := 0) sc_law_letters.nd rfl (by first | exact Or.inl rfl | exact Or.inr rfl) (pe_op op_fdiv (pv 0) pe_int)))))
    (pss_one (ps_ret (pv 2))))), ?_⟩
  walk_at "rd"
  refine i_for (i_rng1 ?_)
  walk_at "rd"
  refine ⟨_, rfl, by omega, by omega, ?_⟩
  rw [Int.toNat_natCast]
  have lb := line_big
  refine for_range (lo := 0) (n := many) (fun i σ H2 => ∃ (m : Nat) (z : Str) (x : Option V), σ = [some (.int (m : Int)), some (.int (many : Int)), some (.str z), x] ∧ z.length = i ∧ Lo z ∧ H2 = H) ⟨n, _, none, rfl, by decide +kernel, (by unfold Lo; decide +kernel), rfl⟩ ?_ ?_
  · rintro i σ H2 hi ⟨m, z, x, rfl, hz, hL, rfl⟩
    walk_at "rd"
    have b := mod_b (m : Int) (show (0 : Int) < 26 by decide)
    obtain ⟨ch, hch, hat⟩ := at_all (l := (Str.ofString "abcdefghijklmnopqrstuvwxyz").cps.toList) (p := fun c => 97 ≤ c ∧ c ≤ 122) (by decide +kernel) b.1 (by
      have : (Str.ofString "abcdefghijklmnopqrstuvwxyz").cps.toList.length = 26 := by decide +kernel
      rw [this]; exact b.2)
    refine i_ixS (by decide +kernel) hat ?_
    refine i_addS (by show z.length + 1 ≤ sizeLine; omega) ?_
    walk_at "rd"
    refine ⟨m / 26, _, _, rfl, by rw [strLen_append, hz]; rfl, fun c hc => ?_, rfl⟩
    rw [app_list] at hc
    rcases List.mem_append.mp hc with h | h
    · exact hL c h
    · have : c = ch := by simpa using h
      rw [this]; exact hch
  · rintro σ H2 ⟨m, z, x, rfl, hz, hL, rfl⟩
    walk_at "rd"
    exact q z hz hL
def NmAt (place number i : Nat) (z : Str) : Prop := 1 ≤ z.length ∧ z.length ≤ 12 ∧ Lo z ∧ z.cps.toList[place]? = some (97 + (i + number) % 12)
def NamesOk (zs : List Str) : Prop := zs.length ≤ 12 ∧ ∃ place number : Nat, ∀ i z, zs[i]? = some z → NmAt place number i z
theorem twelve : ∀ j, j < 12 → (Str.ofString "abcdefghijkl").cps.toList[j]? = some (97 + j) := by decide +kernel
theorem nm_of {w : Str} {place number i : Nat} (hp : place < w.length) (hl : w.length ≤ 12) (hL : Lo w) : NmAt place number i ((cutS w none (some (place : Int)) ++ ⟨#[97 + (i + number) % 12]⟩) ++ cutS w (some ((place : Int) + 1)) none) := by
  have e1 := cut_take w place (Nat.le_of_lt hp)
  have e2 : (cutS w (some ((place : Int) + 1)) none).cps.toList = w.cps.toList.drop (place + 1) := cut_drop w (place + 1) hp
  have e : ((cutS w none (some (place : Int)) ++ ⟨#[97 + (i + number) % 12]⟩) ++ cutS w (some ((place : Int) + 1)) none).cps.toList = w.cps.toList.take place ++ [97 + (i + number) % 12] ++ w.cps.toList.drop (place + 1) := by
    rw [app_list, app_list, e1, e2]
  have el : ((cutS w none (some (place : Int)) ++ ⟨#[97 + (i + number) % 12]⟩) ++ cutS w (some ((place : Int) + 1)) none).length = w.length := by
    rw [← len_list, e, List.length_append, List.length_append, List.length_take, List.length_drop, len_list]
    simp only [List.length_cons, List.length_nil]; omega
  refine ⟨by omega, by omega, fun c hc => ?_, ?_⟩
  · rw [e] at hc
    rcases List.mem_append.mp hc with h | h
    · rcases List.mem_append.mp h with h | h
      · exact hL c (List.mem_of_mem_take h)
      · have : c = 97 + (i + number) % 12 := by simpa using h
        omega
    · exact hL c (List.mem_of_mem_drop h)
  · rw [e, List.append_assoc, List.getElem?_append_right (by rw [List.length_take, len_list]; omega)]
    have : place - (w.cps.toList.take place).length = 0 := by rw [List.length_take, len_list]; omega
    rw [this]; rfl
def spNames (K : PySem.W.Frag) : Sp := fun vs H Q _ => ∃ (a : Addr) (ns : List Int) (many : Nat), vs = [.ref a, .int (many : Int)] ∧ SqL K H a (ns.map V.int) ∧ many ≤ 12 ∧
  ∀ p H2 zs, Same H H2 → H2 p = some (.lst (List.map V.str zs)) → NamesOk zs → zs.length = many → Q (.ref p) H2
theorem d_names (T : Txt K mg C CE) (Kb : K.In base) (G : base.Ns mainGlobals mg) : Df P w K mg base 2 "_law_names" ["_law_script", "_law_many"] (spNames K) := by
  have D_law_cell_at : Df P w K mg base 1 "_law_cell_at" ["_law_script", "_law_k"] (spCell K) := d_cell T Kb G
  have D_law_mix : Df P w K mg base 1 "_law_mix" ["_law_cell", "_law_k"] spMix := d_mix T Kb G
  have D_law_letters : Df P w K mg base 1 "_law_letters" ["_law_number", "_law_many"] spLetters := d_letters T Kb G
  refine T.f_names.df Kb G sc_law_names (fun _ _ _ _ _ _ us hl => match us, hl with | [_, _], _ => rfl) (by rintro vs H Q E ⟨a, ns, many, rfl, _⟩; rfl) (fun f cdv A outer s H vs Q E hr h => ?_)
  obtain ⟨a, ns, many, rfl, hS, hm, q⟩ := h
  refine ⟨_, (pss_cons (ps_set (i := 2) sc_law_names.nd rfl (by first | exact Or.inl rfl | exact Or.inr rfl) (pe_callD D_law_mix (hr.mono (by decide)) rfl (pa_cons (pe_callD D_law_cell_at (hr.mono (by decide)) rfl (pa_cons (pv 0) (pa_cons pe_int pa_nil (se rfl)) (se rfl)) (he := se rfl) (hpl := nst rfl)) (pa_cons pe_int pa_nil (se rfl)) (se rfl)) (he := se rfl) (hpl := nst rfl)))
    (pss_cons (ps_set (i := 3) sc_law_names.nd rfl (by first | exact Or.inl rfl | exact Or.inr rfl) (pe_op op_mod (pv 2) pe_int))
    (pss_cons (ps_set (i := 4) sc_law_names.nd rfl (by first | exact Or.inl rfl | exact Or.inr rfl) (pe_lstA pa_nil))
    (pss_cons (ps_for PassesOwn.never rfl (pi_range1 rfl T.nrange (pa_cons (pv 1) pa_nil (se rfl))) (pg_name (i := 5) sc_law_names.nd rfl (Or.inl rfl))
      (pss_cons (ps_set (i := 6) sc_law_names.nd rfl (by first | exact Or.inl rfl | exact Or.inr rfl) (pe_op op_fdiv (pv 2) pe_int))
    (pss_cons (ps_join (ps_if (pt_cmpR op_gt (pe_op op_mod (pv 2) pe_int) pe_int (nomark _)) (pss_one (ps_set (i := 6) sc_law_names.nd rfl (by first | exact Or.inl rfl | exact Or.inr rfl) (pe_callD D_law_mix (hr.mono (by decide)) rfl (pa_cons (pe_callD D_law_cell_at (hr.mono (by decide)) rfl (pa_cons (pv 0) (pa_cons pe_int pa_nil (se rfl)) (se rfl)) (he := se rfl) (hpl := nst rfl)) (pa_cons (pe_op op_add pe_int (pv 5)) pa_nil (se rfl)) (se rfl)) (he := se rfl) (hpl := nst rfl)))) pss_nil))
    (pss_cons (ps_set (i := 7) sc_law_names.nd rfl (by first | exact Or.inl rfl | exact Or.inr rfl) (pe_callD D_law_letters (hr.mono (by decide)) rfl (pa_cons (pv 6) (pa_cons (pe_op op_add (pe_op op_add (pv 3) pe_int) (pe_op op_mod (pe_op op_fdiv (pv 2) pe_int) (pe_op op_sub pe_int (pv 3)))) pa_nil (se rfl)) (se rfl)) (he := se rfl) (hpl := nst rfl)))
    (pss_cons (ps_set (i := 8) sc_law_names.nd rfl (by first | exact Or.inl rfl | exact Or.inr rfl) (pe_ix ix_seq pe_str (pe_op op_mod (pe_op op_add (pv 5) (pv 2)) pe_int) (fun _ _ => rfl)))
    (pss_one (ps_expr (pe_bm PySem.F.plainAttrs_list PySem.F.slot_list_append PySem.F.type_list_append mt_append (pv 4) (pa_cons (pe_op op_addS (pe_op op_addS (pe_slice sl_str (pv 7) po_none (po_some (pv 3))) (pv 8)) (pe_slice sl_str (pv 7) (po_some (pe_op op_add (pv 3) pe_int)) po_none)) pa_nil (se rfl)) (hs := se rfl) (hplain := nst rfl)))))))))
    (pss_one (ps_ret (pv 4))))))), ?_⟩
  walk_at "rd"
  refine ⟨a, ns, 1, rfl, hS, fun c => ?_⟩
  walk_at "rd"
  refine ⟨c, 1, rfl, by decide, fun n => ?_⟩
  walk_at "rd"
  have bp := mod_b (n : Int) (show (0 : Int) < 8 by decide)
  obtain ⟨place, hpl⟩ := Int.eq_ofNat_of_zero_le bp.1
  rw [hpl] at bp
  rw [hpl]
  have hp8 : place < 8 := by omega
  clear bp hpl
  refine ⟨by show 0 ≤ sizeLine; exact Nat.zero_le _, fun D H1 hN1 => ?_⟩
  walk_at "rd"
  refine i_for (i_rng1 ?_)
  walk_at "rd"
  refine ⟨_, rfl, by omega, by omega, ?_⟩
  rw [Int.toNat_natCast]
  have lb := line_big
  refine for_range (lo := 0) (n := many) (fun i σ H2 => ∃ (zs : List Str) (x5 x6 x7 x8 : Option V), σ = [some (.ref a), some (.int (many : Int)), some (.int (n : Int)), some (.int (place : Int)), some (.ref D), x5, x6, x7, x8] ∧ zs.length = i ∧ H2 D = some (.lst (List.map V.str zs)) ∧ Same H H2 ∧ ∀ j z, zs[j]? = some z → NmAt place n j z)
    ⟨[], none, none, none, none, rfl, rfl, hN1.at, hN1.same, fun j z e => by simp at e⟩ ?_ ?_
  · rintro i σ H2 hi ⟨zs, x5, x6, x7, x8, rfl, hl, hD, s2, hz⟩
    have e0 : (0 : Int) + (i : Int) = (i : Int) := Int.zero_add _
    rw [e0]
    walk_at "rd"
    refine i_join (fun σ' H' => H' = H2 ∧ ∃ own : Nat, σ' = [some (.ref a), some (.int (many : Int)), some (.int (n : Int)), some (.int (place : Int)), some (.ref D), some (.int (i : Int)), some (.int (own : Int)), x7, x8]) ?_ ?_
    · walk_at "rd"
      refine i_iteD (fun _ => ?_) (fun _ => ?_)
      · walk_at "rd"
        refine ⟨a, ns, 1, rfl, s2.seq hS, fun c => ?_⟩
        walk_at "rd"
        refine ⟨c, 20 + i, rfl, by omega, fun m => ?_⟩
        walk_at "rd"
        exact ⟨rfl, m, rfl⟩
      · walk_at "rd"
        exact ⟨rfl, n / 4, rfl⟩
    rintro σ' H' ⟨rfl, own, rfl⟩
    walk_at "rd"
    have bq := mod_b ((n : Int) / 12) (show (0 : Int) < 12 - (place : Int) by omega)
    obtain ⟨ex, hex⟩ := Int.eq_ofNat_of_zero_le bq.1
    rw [hex] at bq
    rw [hex]
    refine ⟨own, place + 1 + ex, rfl, by omega, fun wd hwl hwL => ?_⟩
    walk_at "rd"
    have b12 : ((i : Int) + (n : Int)) % 12 = (((i + n) % 12 : Nat) : Int) := by omega
    have hat : atI (Str.ofString "abcdefghijkl").cps.toList (((i : Int) + (n : Int)) % 12) = some (97 + (i + n) % 12) := by
      rw [b12]; exact atI_nat (twelve _ (Nat.mod_lt _ (by decide)))
    refine i_ixS (by decide +kernel) hat ?_
    walk_at "rd"
    refine ⟨.inl ⟨rfl, _, .inl (.inl hD)⟩, ?_⟩
    walk_at "rd"
    have hw12 : wd.length ≤ 12 := by omega
    refine i_slS (by omega) ?_
    have c1 := cutS_len wd none (some (place : Int))
    have c2 := cutS_len wd (some ((place : Int) + 1)) none
    walk_at "rd"
    refine i_addS (by show _ + 1 ≤ _; omega) ?_
    walk_at "rd"
    refine i_slS (by omega) ?_
    refine i_addS (by rw [strLen_append]; show _ + 1 + _ ≤ _; omega) ?_
    walk_at "rd"
    refine i_append hD (by rw [List.length_map]; omega) ?_
    walk_at "rd"
    have hnm : NmAt place n i _ := nm_of (w := wd) (place := place) (number := n) (i := i) (by omega) hw12 hwL
    refine ⟨zs ++ [_], _, _, _, _, rfl, by rw [List.length_append, hl]; rfl, by rw [upd_same, List.map_append]; rfl, fun b u e => ?_, fun j z e => ?_⟩
    · rw [upd_ne (ne_of_none e hN1.free)]; exact s2 _ _ e
    · by_cases hj : j < zs.length
      · rw [List.getElem?_append_left hj] at e
        exact hz j z e
      · rw [List.getElem?_append_right (by omega)] at e
        have hj0 : j = i := by
          by_cases h0 : j - zs.length = 0
          · omega
          · rw [List.getElem?_eq_none (by simp; omega)] at e; cases e
        rw [hj0, show i - zs.length = 0 by omega] at e
        cases e
        rw [hj0]; exact hnm
  · rintro σ H2 ⟨zs, x5, x6, x7, x8, rfl, hl, hD, s2, hz⟩
    walk_at "rd"
    exact q D H2 zs s2 hD ⟨by omega, place, n, hz⟩ hl
inductive Rd where
  | num (i : Int) | back (z : Str) (b : Int)
def RdAt (H : Hp) : Rd → V → Prop
  | .num i, v => v = .int i
  | .back z b, v => ∃ a, v = .ref a ∧ H a = some (.tup [.str z, .int b])
structure RdsAt (H : Hp) (rs : List Rd) (vs : List V) : Prop where
  len : rs.length = vs.length
  at_ : ∀ (i : Nat) r v, rs[i]? = some r → vs[i]? = some v → RdAt H r v
structure Row where
  name : Str
  d : Dk
  reads : List Rd
def RowAt (H : Hp) (r : Row) (v : V) : Prop := ∃ p1 p2 vs, v = .ref p2 ∧ H p2 = some (.tup [.str r.name, .str r.d.word, .ref p1]) ∧ H p1 = some (.tup vs) ∧ RdsAt H r.reads vs
theorem RdAt.same {H H' : Hp} {r : Rd} {v : V} (s : Same H H') (h : RdAt H r v) : RdAt H' r v := by
  cases r with
  | num i => exact h
  | back z b => obtain ⟨a, e, q⟩ := h; exact ⟨a, e, s _ _ q⟩
theorem RdsAt.same {H H' : Hp} {rs : List Rd} {vs : List V} (s : Same H H') (h : RdsAt H rs vs) : RdsAt H' rs vs := ⟨h.len, fun i r v e1 e2 => (h.at_ i r v e1 e2).same s⟩
theorem RowAt.same {H H' : Hp} {r : Row} {v : V} (s : Same H H') (h : RowAt H r v) : RowAt H' r v := by
  obtain ⟨p1, p2, vs, e, h1, h2, h3⟩ := h
  exact ⟨p1, p2, vs, e, s _ _ h1, s _ _ h2, h3.same s⟩
def hide (D : Addr) (H : Hp) : Hp := fun b => if b = D then none else H b
theorem hide_same (D : Addr) (H : Hp) : Same (hide D H) H := fun b u e => by
  unfold hide at e
  by_cases hb : b = D
  · rw [if_pos hb] at e; cases e
  · rw [if_neg hb] at e; exact e
theorem hide_sameB {D : Addr} {H H' : Hp} (s : SameB D H H') : Same (hide D H) (hide D H') := fun b u e => by
  unfold hide at e ⊢
  by_cases hb : b = D
  · rw [if_pos hb] at e; cases e
  · rw [if_neg hb] at e ⊢; exact s b u hb e
theorem at_hide {D : Addr} {H : Hp} {ys xs : List V} {a : Addr} (hD : H D = some (.lst ys)) (h : H a = some (.tup xs)) : hide D H a = some (.tup xs) := by
  unfold hide
  rw [if_neg (fun z => by rw [z, hD] at h; cases h)]; exact h
theorem RdAt.hide {D : Addr} {H : Hp} {ys : List V} (hD : H D = some (.lst ys)) {r : Rd} {v : V} (h : RdAt H r v) : RdAt (hide D H) r v := by
  cases r with
  | num i => exact h
  | back z b => obtain ⟨a, e, q⟩ := h; exact ⟨a, e, at_hide hD q⟩
theorem RdsAt.hide {D : Addr} {H : Hp} {ys : List V} (hD : H D = some (.lst ys)) {rs : List Rd} {vs : List V} (h : RdsAt H rs vs) : RdsAt (hide D H) rs vs := ⟨h.len, fun i r v e1 e2 => (h.at_ i r v e1 e2).hide hD⟩
theorem RowAt.hide {D : Addr} {H : Hp} {ys : List V} (hD : H D = some (.lst ys)) {r : Row} {v : V} (h : RowAt H r v) : RowAt (hide D H) r v := by
  obtain ⟨p1, p2, vs, e, h1, h2, h3⟩ := h
  exact ⟨p1, p2, vs, e, at_hide hD h1, at_hide hD h2, h3.hide hD⟩
def RdOk (zs : List Str) (k : Nat) : Rd → Prop
  | .num i => 0 ≤ i ∧ i < 10 ^ 60
  | .back z b => ∃ j : Nat, zs[j]? = some z ∧ 0 ≤ b ∧ b ≤ 6 ∧ (b = 0 → j < k)
structure RowOk (zs : List Str) (k : Nat) (r : Row) : Prop where
  name : zs[k]? = some r.name
  many : r.reads.length = r.d.wants
  reads : ∀ rd ∈ r.reads, RdOk zs k rd
def spLWants : Sp := fun vs H Q _ => ∃ d : Dk, vs = [.str d.word] ∧ ∀ H2, Same H H2 → Q (.int (d.wants : Nat)) H2
theorem d_lwants (T : Txt K mg C CE) (Kb : K.In base) (G : base.Ns mainGlobals mg) : Df P w K mg base 1 "_law_wants" ["_law_word"] spLWants := by
  refine T.f_wants.df Kb G sc_law_wants (fun _ _ _ _ _ _ us hl => match us, hl with | [_], _ => rfl) (by rintro vs H Q E ⟨d, rfl, _⟩; rfl) (fun f cdv A outer s H vs Q E hr h => ?_)
  refine ⟨_, (pss_cons (ps_if (pt_cmpR op_eq (pv 0) pe_str (nomark _)) (pss_one (ps_ret pe_int)) pss_nil)
    (pss_cons (ps_if (PW.pt (pw_or (pt_cmpR op_eq (pv 0) pe_str (nomark _)) (pw_or1 (pt_cmpR op_eq (pv 0) pe_str (nomark _))))) (pss_one (ps_ret pe_int)) pss_nil)
    (pss_one (ps_ret (pe_ix ix_seq (pe_lstA (pa_cons pe_int (pa_cons pe_int pa_nil (se rfl)) (se rfl))) (pe_callTy call_int1 rfl T.nint PyProof.Rows.boot_int (pa_cons (pe_cmpR op_eq (pv 0) pe_str (nomark _)) pa_nil (se rfl)) (he := se rfl) (hpl := nst rfl)) (fun _ _ => rfl)))))), ?_⟩
  obtain ⟨d, rfl, k⟩ := h
  have e2 : ∀ b : Bool, atI [V.int 2, V.int 3] (if b then 1 else 0) = some (.int (if b then 3 else 2)) := by decide +kernel
  cases d
  all_goals
    repeat (first
      | (walk_at "rd1")
      | ((with_reducible refine i_iteSe ?_ ?_); (rfl))
      | ((with_reducible refine i_iteSf ?_ ?_); (decide +kernel)))
  all_goals first
    | exact k _ (Same.refl _)
    | (refine ⟨by show 2 ≤ sizeLine; decide, fun p H2 hN => ?_⟩
       walk_at "rd"
       refine .inr ⟨_, rfl, ?_⟩
       refine i_ixL hN.lst (e2 _) ?_
       first
         | (rw [show decide (V.str Dk.pick.word = V.str (Str.ofString "pick")) = true by decide +kernel]; exact k _ hN.same)
         | (rw [decide_eq_false (by intro e; exact absurd (V.str.inj e) (by decide +kernel))]; exact k _ hN.same))
def dks : List Dk := [.sum, .less, .times, .least, .most, .pick, .same, .tell, .take]
def wordsV : List V := dks.map fun d => V.str d.word
theorem at_dk {c : Int} (h0 : 0 ≤ c) (h1 : c < 9) : ∃ d : Dk, atI wordsV c = some (.str d.word) := by
  obtain ⟨k, rfl⟩ := Int.eq_ofNat_of_zero_le h0
  have hk : k < 9 := by omega
  refine ⟨dks[k]'hk, atI_nat ?_⟩
  unfold wordsV
  rw [List.getElem?_map, List.getElem?_eq_getElem (show k < dks.length from hk)]; rfl
theorem at_str {zs : List Str} {j : Nat} (h : j < zs.length) : ∃ z, zs[j]? = some z ∧ atI (List.map V.str zs) (j : Int) = some (.str z) :=
  ⟨zs[j], List.getElem?_eq_getElem h, atI_nat (by rw [List.getElem?_map, List.getElem?_eq_getElem h]; rfl)⟩
theorem RdsAt.snoc {H : Hp} {rs : List Rd} {vs : List V} {r : Rd} {v : V} (h : RdsAt H rs vs) (hr : RdAt H r v) : RdsAt H (rs ++ [r]) (vs ++ [v]) := by
  refine ⟨by rw [List.length_append, List.length_append, h.len]; rfl, fun i r' v' e1 e2 => ?_⟩
  have hl := h.len
  by_cases hi : i < rs.length
  · rw [List.getElem?_append_left hi] at e1
    rw [List.getElem?_append_left (by omega)] at e2
    exact h.at_ i r' v' e1 e2
  · rw [List.getElem?_append_right (by omega)] at e1
    rw [List.getElem?_append_right (by omega)] at e2
    have h0 : i - rs.length = 0 := by
      by_cases h0 : i - rs.length = 0
      · exact h0
      · rw [List.getElem?_eq_none (by simp; omega)] at e1; cases e1
    rw [h0] at e1; rw [show i - vs.length = 0 by omega] at e2
    cases e1; cases e2; exact hr
theorem hide_upd (D : Addr) (H : Hp) (o : HO) : hide D (upd H D o) = hide D H := by
  funext b
  unfold hide
  by_cases hb : b = D
  · rw [if_pos hb, if_pos hb]
  · rw [if_neg hb, if_neg hb, upd_ne hb]
theorem RdsAt.app {D : Addr} {H : Hp} {ys : List V} (hD : H D = some (.lst ys)) {rs : List Rd} {vs : List V} {o : HO} (h : RdsAt H rs vs) : RdsAt (upd H D o) rs vs := by
  have h1 := h.hide hD
  rw [← hide_upd D H o] at h1
  exact h1.same (hide_same D _)
theorem mem_snoc {rs : List Rd} {r : Rd} {p : Rd → Prop} (h : ∀ x ∈ rs, p x) (hr : p r) : ∀ x ∈ rs ++ [r], p x := fun x hx => by
  rcases List.mem_append.mp hx with h1 | h1
  · exact h x h1
  · rw [show x = r by simpa using h1]; exact hr
def spRow (K : PySem.W.Frag) : Sp := fun vs H Q _ => ∃ (a np wp : Addr) (ns : List Int) (zs : List Str) (k : Nat), vs = [.ref a, .ref np, .int (k : Int), .ref wp] ∧ SqL K H a (ns.map V.int) ∧ H np = some (.lst (List.map V.str zs)) ∧ H wp = some (.lst wordsV) ∧ NamesOk zs ∧ k < zs.length ∧
  ∀ r v H2, Same H H2 → RowAt H2 r v → RowOk zs k r → Q v H2
theorem wants3 (d : Dk) : d.wants ≤ 3 := by cases d <;> decide
theorem d_row (T : Txt K mg C CE) (Kb : K.In base) (G : base.Ns mainGlobals mg) : Df P w K mg base 2 "_law_row" ["_law_script", "_law_names_here", "_law_at", "_law_words"] (spRow K) := by
  have D_law_cell_at : Df P w K mg base 1 "_law_cell_at" ["_law_script", "_law_k"] (spCell K) := d_cell T Kb G
  have D_law_mix : Df P w K mg base 1 "_law_mix" ["_law_cell", "_law_k"] spMix := d_mix T Kb G
  have D_law_wants : Df P w K mg base 1 "_law_wants" ["_law_word"] spLWants := d_lwants T Kb G
  refine T.f_row.df Kb G sc_law_row (fun _ _ _ _ _ _ us hl => match us, hl with | [_, _, _, _], _ => rfl) (by rintro vs H Q E ⟨a, np, wp, ns, zs, k, rfl, _⟩; rfl) (fun f cdv A outer s H vs Q E hr h => ?_)
  obtain ⟨a, np, wp, ns, zs, k, rfl, hS, hnp, hwp, hzs, hk, q⟩ := h
  have h12 := hzs.1
  refine ⟨_, (pss_cons (ps_set (i := 4) sc_law_row.nd rfl (by first | exact Or.inl rfl | exact Or.inr rfl) (pe_callD D_law_mix (hr.mono (by decide)) rfl (pa_cons (pe_callD D_law_cell_at (hr.mono (by decide)) rfl (pa_cons (pv 0) (pa_cons (pe_op op_add pe_int (pv 2)) pa_nil (se rfl)) (se rfl)) (he := se rfl) (hpl := nst rfl)) (pa_cons (pv 2) pa_nil (se rfl)) (se rfl)) (he := se rfl) (hpl := nst rfl)))
    (pss_cons (ps_set (i := 5) sc_law_row.nd rfl (by first | exact Or.inl rfl | exact Or.inr rfl) (pe_ix ix_seq (pv 3) (pe_op op_mod (pv 4) (pe_callB call_len_seq rfl T.nlen PySem.boot_len (pa_cons (pv 3) pa_nil (se rfl)) (he := se rfl) (hpl := nst rfl))) (fun _ _ => rfl)))
    (pss_cons (ps_set (i := 4) sc_law_row.nd rfl (by first | exact Or.inl rfl | exact Or.inr rfl) (pe_op op_fdiv (pv 4) (pe_callB call_len_seq rfl T.nlen PySem.boot_len (pa_cons (pv 3) pa_nil (se rfl)) (he := se rfl) (hpl := nst rfl))))
    (pss_cons (ps_set (i := 6) sc_law_row.nd rfl (by first | exact Or.inl rfl | exact Or.inr rfl) (pe_lstA pa_nil))
    (pss_cons (ps_for PassesOwn.never rfl (pi_range1 rfl T.nrange (pa_cons (pe_callD D_law_wants (hr.mono (by decide)) rfl (pa_cons (pv 5) pa_nil (se rfl)) (he := se rfl) (hpl := nst rfl)) pa_nil (se rfl))) (pg_name (i := 7) sc_law_row.nd rfl (Or.inl rfl))
      (pss_cons (ps_set (i := 8) sc_law_row.nd rfl (by first | exact Or.inl rfl | exact Or.inr rfl) (pe_op op_mod (pv 4) pe_int))
    (pss_cons (ps_set (i := 9) sc_law_row.nd rfl (by first | exact Or.inl rfl | exact Or.inr rfl) (pe_op op_mod (pe_op op_fdiv (pv 4) pe_int) (pe_callB call_len_seq rfl T.nlen PySem.boot_len (pa_cons (pv 1) pa_nil (se rfl)) (he := se rfl) (hpl := nst rfl))))
    (pss_cons (ps_join (ps_if (PW.pt (pw_and (pt_cmpR op_eq (pv 8) pe_int (nomark _)) (pw_and1 (pt_cmpR op_ge (pv 9) (pv 2) (nomark _))))) (pss_one (ps_set (i := 8) sc_law_row.nd rfl (by first | exact Or.inl rfl | exact Or.inr rfl) (pe_op op_add pe_int (pe_op op_mod (pe_op op_fdiv (pv 4) pe_int) pe_int)))) pss_nil))
    (pss_cons (ps_join (ps_if (pt_cmpR op_eq (pe_op op_mod (pe_op op_fdiv (pv 4) pe_int) pe_int) pe_int (nomark _)) (pss_one (ps_expr (pe_bm PySem.F.plainAttrs_list PySem.F.slot_list_append PySem.F.type_list_append mt_append (pv 6) (pa_cons (pe_op op_mod (pe_callD D_law_cell_at (hr.mono (by decide)) rfl (pa_cons (pv 0) (pa_cons (pe_op op_add (pe_op op_add pe_int (pe_op op_mulO pe_int (pv 2))) (pv 7)) pa_nil (se rfl)) (se rfl)) (he := se rfl) (hpl := nst rfl)) (pe_op op_pow pe_int pe_int)) pa_nil (se rfl)) (hs := se rfl) (hplain := nst rfl)))) (pss_one (ps_expr (pe_bm PySem.F.plainAttrs_list PySem.F.slot_list_append PySem.F.type_list_append mt_append (pv 6) (pa_cons (pe_tupA (pa_cons (pe_ix ix_seq (pv 1) (pv 9) (fun _ _ => rfl)) (pa_cons (pv 8) pa_nil (se rfl)) (se rfl))) pa_nil (se rfl)) (hs := se rfl) (hplain := nst rfl))))))
    (pss_one (ps_set (i := 4) sc_law_row.nd rfl (by first | exact Or.inl rfl | exact Or.inr rfl) (pe_op op_fdiv (pv 4) pe_int))))))))
    (pss_one (ps_ret (pe_tupA (pa_cons (pe_ix ix_seq (pv 1) (pv 2) (fun _ _ => rfl)) (pa_cons (pv 5) (pa_cons (pe_callTy call_tupleA rfl T.ntuple PyProof.Rows.boot_tuple (pa_cons (pv 6) pa_nil (se rfl)) (he := se rfl) (hpl := nst rfl)) pa_nil (se rfl)) (se rfl)) (se rfl)))))))))), ?_⟩
  walk_at "rd"
  refine ⟨a, ns, 4 + k, rfl, hS, fun c => ?_⟩
  walk_at "rd"
  refine ⟨c, k, rfl, by omega, fun n => ?_⟩
  walk_at "rd"
  refine ⟨_, _, rfl, .inl (sqL_inj_of hwp), ?_⟩
  have e9 : (wordsV.length : Int) = 9 := rfl
  rw [e9]
  walk_at "rd"
  have b9 := mod_b (n : Int) (show (0 : Int) < 9 by decide)
  obtain ⟨d, hat⟩ := at_dk b9.1 b9.2
  refine i_ixL (sqL_inj_of hwp) hat ?_
  walk_at "rd"
  refine ⟨_, _, rfl, .inl (sqL_inj_of hwp), ?_⟩
  rw [e9]
  walk_at "rd"
  refine ⟨by show 0 ≤ sizeLine; exact Nat.zero_le _, fun D H1 hN1 => ?_⟩
  walk_at "rd"
  refine i_for (i_rng1 ?_)
  walk_at "rd"
  refine ⟨d, rfl, fun H2 s2 => ?_⟩
  walk_at "rd"
  have w3 := wants3 d
  refine ⟨_, rfl, by omega, by omega, ?_⟩
  rw [Int.toNat_natCast]
  have lb := line_big
  have hzl : 0 < zs.length := by omega
  refine for_range (lo := 0) (n := d.wants) (fun i σ H' => ∃ (m : Nat) (rs : List Rd) (vs : List V) (x7 x8 x9 : Option V), σ = [some (.ref a), some (.ref np), some (.int (k : Int)), some (.ref wp), some (.int (m : Int)), some (.str d.word), some (.ref D), x7, x8, x9] ∧ rs.length = i ∧ H' D = some (.lst vs) ∧ Same H H' ∧ RdsAt H' rs vs ∧ ∀ rd ∈ rs, RdOk zs k rd)
    ⟨n / 9, [], [], none, none, none, rfl, rfl, s2 _ _ hN1.at, hN1.same.trans s2, ⟨rfl, fun i r v e => by simp at e⟩, fun rd h => by simp at h⟩ ?_ ?_
  · rintro i σ H' hi ⟨m, rs, vs, x7, x8, x9, rfl, hrl, hD, s3, hrs, hok⟩
    have hvl := hrs.len
    have e0 : (0 : Int) + (i : Int) = (i : Int) := Int.zero_add _
    rw [e0]
    walk_at "rd"
    refine ⟨_, _, rfl, .inl (sqL_inj_of (s3 _ _ hnp)), ?_⟩
    rw [List.length_map]
    walk_at "rd"
    have b7 := mod_b (m : Int) (show (0 : Int) < 7 by decide)
    generalize (m : Int) % 7 = bk at *
    have bs := mod_b ((m : Int) / 7) (show (0 : Int) < (zs.length : Int) by omega)
    obtain ⟨spot, hsp⟩ := Int.eq_ofNat_of_zero_le bs.1
    rw [hsp] at bs ⊢
    clear hsp
    refine i_join (fun σ' H'' => H'' = H' ∧ ∃ b : Int, σ' = [some (.ref a), some (.ref np), some (.int (k : Int)), some (.ref wp), some (.int (m : Int)), some (.str d.word), some (.ref D), some (.int (i : Int)), some (.int b), some (.int (spot : Int))] ∧ 0 ≤ b ∧ b ≤ 6 ∧ (b = 0 → spot < k)) ?_ ?_
    · walk_at "rd"
      refine i_iteI (fun h0 => ?_) (fun h0 => ?_)
      · walk_at "rd"
        refine i_iteD (fun h1 => ?_) (fun h1 => ?_)
        · walk_at "rd"
          have b6 := mod_b ((m : Int) / 100) (show (0 : Int) < 6 by decide)
          exact ⟨rfl, _, rfl, by omega, by omega, by omega⟩
        · walk_at "rd"
          exact ⟨rfl, _, rfl, by omega, by omega, by omega⟩
      · walk_at "rd"
        exact ⟨rfl, _, rfl, by omega, by omega, fun z => absurd z h0⟩
    rintro σ' H'' ⟨rfl, b, rfl, b0, b1, b2⟩
    walk_at "rd"
    refine i_join (fun σ' H2' => ∃ (rs' : List Rd) (vs' : List V), σ' = [some (.ref a), some (.ref np), some (.int (k : Int)), some (.ref wp), some (.int (m : Int)), some (.str d.word), some (.ref D), some (.int (i : Int)), some (.int b), some (.int (spot : Int))] ∧ rs'.length = i + 1 ∧ H2' D = some (.lst vs') ∧ Same H H2' ∧ RdsAt H2' rs' vs' ∧ ∀ rd ∈ rs', RdOk zs k rd) ?_ ?_
    · have hDn : H D = none := hN1.free
      walk_at "rd"
      refine i_iteI (fun h0 => ?_) (fun h0 => ?_)
      · walk_at "rd"
        refine ⟨.inl ⟨rfl, _, sqL_inj_of hD⟩, ?_⟩
        walk_at "rd"
        refine i_mul (IntMulOk.of_left (by decide)) ?_
        walk_at "rd"
        refine ⟨a, ns, 16 + 3 * k + i, rfl, s3.seq hS, fun c => ?_⟩
        walk_at "rd"
        refine i_append hD (by omega) ?_
        have b60 := mod_b c (show (0 : Int) < 10 ^ (60 : Int).toNat by decide +kernel)
        generalize c % 10 ^ (60 : Int).toNat = v at *
        refine ⟨rs ++ [.num v], vs ++ [.int v], rfl, by rw [List.length_append, hrl]; rfl, upd_same, fun b' u e => ?_, RdsAt.snoc (r := .num v) (v := .int v) (hrs.app hD) rfl, mem_snoc (r := .num v) hok ⟨b60.1, b60.2⟩⟩
        rw [upd_ne (ne_of_none e hDn)]; exact s3 _ _ e
      · walk_at "rd"
        refine ⟨.inl ⟨rfl, _, sqL_inj_of hD⟩, ?_⟩
        walk_at "rd"
        obtain ⟨z, hz, hza⟩ := at_str (zs := zs) (j := spot) (by omega)
        refine i_ixL (sqL_inj_of (s3 _ _ hnp)) hza ?_
        walk_at "rd"
        refine ⟨by show 2 ≤ sizeLine; decide, fun t H3 hN3 => ?_⟩
        walk_at "rd"
        have hD3 := hN3.same _ _ hD
        refine i_append hD3 (by omega) ?_
        have hrd : RdAt H3 (.back z b) (.ref t) := ⟨t, rfl, hN3.at⟩
        have hrd' : RdAt (upd H3 D (.lst (vs ++ [.ref t]))) (.back z b) (.ref t) := by
          have h1 := hrd.hide hD3
          rw [← hide_upd D H3 (.lst (vs ++ [.ref t]))] at h1
          exact h1.same (hide_same D _)
        refine ⟨rs ++ [.back z b], vs ++ [.ref t], rfl, by rw [List.length_append, hrl]; rfl, upd_same, fun b' u e => ?_, RdsAt.snoc ((hrs.same hN3.same).app hD3) hrd', mem_snoc (r := .back z b) hok ⟨spot, hz, b0, b1, b2⟩⟩
        rw [upd_ne (ne_of_none e hDn)]; exact hN3.same _ _ (s3 _ _ e)
    rintro σ' H2' ⟨rs', vs', rfl, h1, h2, h3, h4, h5⟩
    walk_at "rd"
    exact ⟨m / 10000, rs', vs', _, _, _, rfl, h1, h2, h3, h4, h5⟩
  · rintro σ H' ⟨m, rs, vs, x7, x8, x9, rfl, hrl, hD, s3, hrs, hok⟩
    walk_at "rd"
    obtain ⟨z, hz, hza⟩ := at_str hk
    refine i_ixL (sqL_inj_of (s3 _ _ hnp)) hza ?_
    walk_at "rd"
    refine i_tupleAL (sqL_inj_of hD) fun p1 H3 hN3 => ?_
    walk_at "rd"
    refine ⟨by show 3 ≤ sizeLine; decide, fun p2 H4 hN4 => ?_⟩
    exact q ⟨z, d, rs⟩ _ _ ((s3.trans hN3.same).trans hN4.same) ⟨p1, p2, vs, rfl, hN4.at, hN4.same _ _ hN3.at, (hrs.same hN3.same).same hN4.same⟩ ⟨hz, hrl, hok⟩
theorem pick_list {α β : Type} : ∀ (ys : List β) (P : Nat → α → β → Prop), (∀ (i : Nat) y, ys[i]? = some y → ∃ r, P i r y) → ∃ rs : List α, rs.length = ys.length ∧ ∀ (i : Nat) r y, rs[i]? = some r → ys[i]? = some y → P i r y
  | [], _, _ => ⟨[], rfl, fun i r y e => by simp at e⟩
  | y :: ys, P, h => by
    obtain ⟨r, hr⟩ := h 0 y rfl
    obtain ⟨rs, hl, hP⟩ := pick_list ys (fun i => P (i + 1)) (fun i y' e => h (i + 1) y' e)
    refine ⟨r :: rs, by simp [hl], fun i r' y' e1 e2 => ?_⟩
    cases i with
    | zero => cases e1; cases e2; exact hr
    | succ i => exact hP i r' y' e1 e2
structure RowsAt (H : Hp) (rs : List Row) (us : List V) : Prop where
  len : rs.length = us.length
  at_ : ∀ (i : Nat) r u, rs[i]? = some r → us[i]? = some u → RowAt H r u
theorem RowsAt.same {H H' : Hp} {rs : List Row} {us : List V} (s : Same H H') (h : RowsAt H rs us) : RowsAt H' rs us := ⟨h.len, fun i r u e1 e2 => (h.at_ i r u e1 e2).same s⟩
structure RowsOk (zs : List Str) (rs : List Row) : Prop where
  names : NamesOk zs
  len : rs.length = zs.length
  at_ : ∀ (i : Nat) r, rs[i]? = some r → RowOk zs i r
def spRows (K : PySem.W.Frag) : Sp := fun vs H Q _ => ∃ (a : Addr) (ns : List Int) (many : Nat), vs = [.ref a, .int (many : Int)] ∧ SqL K H a (ns.map V.int) ∧ many ≤ 12 ∧
  ∀ p H2 zs rs us, Same H H2 → H2 p = some (.lst us) → RowsAt H2 rs us → RowsOk zs rs → rs.length = many → Q (.ref p) H2
theorem d_rows (T : Txt K mg C CE) (Kb : K.In base) (G : base.Ns mainGlobals mg) : Df P w K mg base 3 "_law_rows" ["_law_script", "_law_many"] (spRows K) := by
  have D_law_names : Df P w K mg base 2 "_law_names" ["_law_script", "_law_many"] (spNames K) := d_names T Kb G
  have D_law_row : Df P w K mg base 2 "_law_row" ["_law_script", "_law_names_here", "_law_at", "_law_words"] (spRow K) := d_row T Kb G
  refine T.f_rows.df Kb G sc_law_rows (fun _ _ _ _ _ _ us hl => match us, hl with | [_, _], _ => rfl) (by rintro vs H Q E ⟨a, ns, many, rfl, _⟩; rfl) (fun f cdv A outer s H vs Q E hr h => ?_)
  obtain ⟨a, ns, many, rfl, hS, hm, q⟩ := h
  refine ⟨_, (pss_cons (ps_set (i := 2) sc_law_rows.nd rfl (by first | exact Or.inl rfl | exact Or.inr rfl) (pe_lstA (pa_cons pe_str (pa_cons pe_str (pa_cons pe_str (pa_cons pe_str (pa_cons pe_str (pa_cons pe_str (pa_cons pe_str (pa_cons pe_str (pa_cons pe_str pa_nil (se rfl)) (se rfl)) (se rfl)) (se rfl)) (se rfl)) (se rfl)) (se rfl)) (se rfl)) (se rfl))))
    (pss_cons (ps_set (i := 3) sc_law_rows.nd rfl (by first | exact Or.inl rfl | exact Or.inr rfl) (pe_callD D_law_names (hr.mono (by decide)) rfl (pa_cons (pv 0) (pa_cons (pv 1) pa_nil (se rfl)) (se rfl)) (he := se rfl) (hpl := nst rfl)))
    (pss_one (ps_ret (pe_lc (Blk.of (caps := ["_law_script", "_law_names_here", "_law_words"]) (ix := [0, 3, 2]) rfl) rfl (pi_range1 rfl T.nrange (pa_cons (pv 1) pa_nil (se rfl))) (fun _ _ _ _ => pf_nil) (fun _ _ _ _ => (pe_callD D_law_row (hr.mono (by decide)) rfl (pa_cons (pv 1) (pa_cons (pv 2) (pa_cons (pv 0) (pa_cons (pv 3) pa_nil (se rfl)) (se rfl)) (se rfl)) (se rfl)) (he := se rfl) (hpl := nst rfl)))))))), ?_⟩
  walk_at "rd"
  refine ⟨by show 9 ≤ sizeLine; decide, fun wp H1 hN1 => ?_⟩
  walk_at "rd"
  refine ⟨a, ns, many, rfl, hN1.same.seq hS, hm, fun np H2 zs s2 hnp hzs hzl => ?_⟩
  walk_at "rd"
  refine i_lc (i_rng1 ?_)
  walk_at "rd"
  refine ⟨_, rfl, by omega, by omega, ?_⟩
  rw [Int.toNat_natCast]
  have lb := line_big
  have t2 := hN1.same.trans s2
  refine lcN LcIt.rng (fun D i y H' => ∃ r, RowOk zs i r ∧ RowAt (hide D H') r y) (by omega) (fun D i y H' H'' s h => ?_) (fun D i H' R hi hD hy s r => ?_) (fun D ys H' hD s hHD hyl hP => ?_)
  · obtain ⟨r, h1, h2⟩ := h
    exact ⟨r, h1, h2.same (hide_sameB s)⟩
  · obtain ⟨ys, hy⟩ := hy
    walk_at "rd"
    refine ⟨a, np, wp, ns, zs, i, by rw [Int.zero_add]; rfl, (t2.trans s).seq hS, s _ _ hnp, s _ _ (s2 _ _ hN1.at), hzs, by omega, fun rw v H'' s'' hrow hok => ?_⟩
    exact r v H'' s'' ⟨rw, hok, hrow.hide (s'' _ _ hy)⟩
  · obtain ⟨rs, hrl, hrs⟩ := pick_list ys (fun i r y => RowOk zs i r ∧ RowAt (hide D H') r y) hP
    refine q D H' zs rs ys (t2.trans s) hHD ⟨hrl, fun i r u e1 e2 => (hrs i r u e1 e2).2.same (hide_same D H')⟩ ⟨hzs, by omega, fun i r e => ?_⟩ (by omega)
    have hi : i < ys.length := by rw [← hrl]; exact (List.getElem?_eq_some_iff.mp e).1
    exact (hrs i r ys[i] e (List.getElem?_eq_getElem hi)).1
def spMeasure (K : PySem.W.Frag) : Sp := fun vs H Q _ => ∃ (a : Addr) (ns : List Int), vs = [.ref a] ∧ SqL K H a (ns.map V.int) ∧ ∀ m : Int, 2 ≤ m → m ≤ 10 ^ (60 : Int).toNat → Q (.int m) H
theorem d_measure (T : Txt K mg C CE) (Kb : K.In base) (G : base.Ns mainGlobals mg) : Df P w K mg base 2 "_law_measure" ["_law_script"] (spMeasure K) := by
  have D_law_cell_at : Df P w K mg base 1 "_law_cell_at" ["_law_script", "_law_k"] (spCell K) := d_cell T Kb G
  have D_law_mix : Df P w K mg base 1 "_law_mix" ["_law_cell", "_law_k"] spMix := d_mix T Kb G
  refine T.f_measure.df Kb G sc_law_measure (fun _ _ _ _ _ _ us hl => match us, hl with | [_], _ => rfl) (by rintro vs H Q E ⟨a, ns, rfl, _⟩; rfl) (fun f cdv A outer s H vs Q E hr h => ?_)
  obtain ⟨a, ns, rfl, hS, q⟩ := h
  refine ⟨_, (pss_cons (ps_set (i := 1) sc_law_measure.nd rfl (by first | exact Or.inl rfl | exact Or.inr rfl) (pe_callD D_law_mix (hr.mono (by decide)) rfl (pa_cons (pe_callD D_law_cell_at (hr.mono (by decide)) rfl (pa_cons (pv 0) (pa_cons pe_int pa_nil (se rfl)) (se rfl)) (he := se rfl) (hpl := nst rfl)) (pa_cons pe_int pa_nil (se rfl)) (se rfl)) (he := se rfl) (hpl := nst rfl)))
    (pss_cons (ps_if (pt_cmpR op_eq (pe_op op_mod (pv 1) pe_int) pe_int (nomark _)) (pss_one (ps_ret (pe_op op_add pe_int (pe_op op_mod (pe_op op_fdiv (pv 1) pe_int) pe_int)))) pss_nil)
    (pss_one (ps_ret (pe_op op_add pe_int (pe_op op_mod (pe_callD D_law_cell_at (hr.mono (by decide)) rfl (pa_cons (pv 0) (pa_cons pe_int pa_nil (se rfl)) (se rfl)) (he := se rfl) (hpl := nst rfl)) (pe_op op_sub (pe_op op_pow pe_int pe_int) pe_int))))))), ?_⟩
  walk_at "rd"
  refine ⟨a, ns, 2, rfl, hS, fun c => ?_⟩
  walk_at "rd"
  refine ⟨c, 2, rfl, by decide, fun n => ?_⟩
  walk_at "rd"
  have e60 : (1000 : Int) ≤ 10 ^ (60 : Int).toNat := by decide +kernel
  have p60 : (0 : Int) < 10 ^ (60 : Int).toNat - 1 := by omega
  refine i_iteI (fun _ => ?_) (fun _ => ?_)
  · clear e60 p60
    walk_at "rd"
    have b := mod_b ((n : Int) / 3) (show (0 : Int) < 30 by decide)
    have e60 : (1000 : Int) ≤ 10 ^ (60 : Int).toNat := by decide +kernel
    exact q _ (by omega) (by omega)
  · clear e60
    walk_at "rd"
    refine ⟨a, ns, 2, rfl, hS, fun c => ?_⟩
    walk_at "rd"
    have b := mod_b c p60
    generalize c % (10 ^ (60 : Int).toNat - 1) = r at *
    exact q _ (by omega) (by omega)
def rdDV : Rd → DV
  | .num i => .f (.int i)
  | .back z b => .t [.f (.str z), .f (.int b)]
theorem at_v {us : List V} {i : Nat} (h : i < us.length) : atI us (i : Int) = some us[i] := atI_nat (List.getElem?_eq_getElem h)
theorem max_of (a b : Int) : (if b > a then b else a) = max a b := by split <;> omega
def deepR (z : Str) (acc : Int) : Rd → Int
  | .num _ => acc
  | .back y b => if y = z then max acc b else acc
def deepRow (z : Str) (acc : Int) (r : Row) : Int := r.reads.foldl (deepR z) acc
def deep (rs : List Row) (z : Str) : Int := rs.foldl (deepRow z) 0
theorem fold_next {α β : Type} (f : β → α → β) (b : β) {l : List α} {i : Nat} {x : α} (h : l[i]? = some x) : (l.take (i + 1)).foldl f b = f ((l.take i).foldl f b) x := by
  rw [List.take_add_one, h, List.foldl_append]; rfl
def spDeepest : Sp := fun vs H Q _ => ∃ (p : Addr) (us : List V) (rs : List Row) (z : Str), vs = [.ref p, .str z] ∧ H p = some (.lst us) ∧ RowsAt H rs us ∧ Q (.int (deep rs z)) H
theorem d_deepest (T : Txt K mg C CE) (Kb : K.In base) (G : base.Ns mainGlobals mg) : Df P w K mg base 1 "_law_deepest" ["_law_rows_here", "_law_name"] spDeepest := by
  refine T.f_deepest.df Kb G sc_law_deepest (fun _ _ _ _ _ _ us hl => match us, hl with | [_, _], _ => rfl) (by rintro vs H Q E ⟨p, us, rs, z, rfl, _⟩; rfl) (fun f cdv A outer s H vs Q E hr h => ?_)
  obtain ⟨p, us, rs, z, rfl, hp, hu, q⟩ := h
  refine ⟨_, (pss_cons (ps_set (i := 2) sc_law_deepest.nd rfl (by first | exact Or.inl rfl | exact Or.inr rfl) pe_int)
    (pss_cons (ps_for PassesOwn.never rfl (pi_list (pv 0)) (pg_name (i := 3) sc_law_deepest.nd rfl (Or.inl rfl))
      (pss_one (ps_for PassesOwn.never rfl (pi_tup (pe_ix ix_seq (pv 3) pe_int (fun _ _ => rfl))) (pg_name (i := 4) sc_law_deepest.nd rfl (Or.inl rfl))
      (pss_one (ps_join (ps_if (PW.pt (pw_and (pt_val (pe_callB call_isi rfl T.nisi PyProof.Rows.boot_isinstance (pa_cons (pv 4) (pa_cons (pe_bltn (v := .ty "tuple") rfl T.ntuple PyProof.Rows.boot_tuple rfl) pa_nil (se rfl)) (se rfl)) (he := se rfl) (hpl := nst rfl))) (pw_and1 (pt_cmpR op_eq (pe_ix ix_seq (pv 4) pe_int (fun _ _ => rfl)) (pv 1) (nomark _))))) (pss_one (ps_set (i := 2) sc_law_deepest.nd rfl (by first | exact Or.inl rfl | exact Or.inr rfl) (pe_callB (call_max2 rfl) rfl T.nmax PyProof.Rows.boot_max (pa_cons (pv 2) (pa_cons (pe_ix ix_seq (pv 4) pe_int (fun _ _ => rfl)) pa_nil (se rfl)) (se rfl)) (he := se rfl) (hpl := nst rfl)))) pss_nil))))))
    (pss_one (ps_ret (pv 2))))), ?_⟩
  have l1 := hu.len
  walk_at "rd"
  refine i_for (i_list ?_)
  walk_at "rd"
  refine ⟨p, rfl, ⟨us, sqL_inj_of hp⟩, ?_⟩
  refine for_list (xs := us) (fun i σ H' => H' = H ∧ ∃ x3 x4, σ = [some (.ref p), some (.str z), some (.int ((rs.take i).foldl (deepRow z) 0)), x3, x4]) ⟨rfl, none, none, rfl⟩ (fun i σ H' _ h => by rw [h.1]; exact sqL_inj_of hp) ?_ ?_
  · rintro i u σ H' hui ⟨rfl, x3, x4, rfl⟩
    have hir : i < rs.length := by rw [l1]; exact (List.getElem?_eq_some_iff.mp hui).1
    have hri := List.getElem?_eq_getElem hir
    have r1 := hu.at_ i rs[i] u hri hui
    rw [fold_next (deepRow z) 0 hri]
    generalize rs[i] = rw at *
    generalize (rs.take i).foldl (deepRow z) 0 = acc at *
    obtain ⟨p1, p2, vs, rfl, h1, h2, h3⟩ := r1
    walk_at "rd"
    refine i_for (i_tupI ?_)
    walk_at "rd"
    refine i_ixT (.inl (.inl h1)) (show atI _ 2 = some (.ref p1) from rfl) ?_
    refine ⟨p1, rfl, ⟨vs, .inl (.inl h2)⟩, ?_⟩
    have l3 := h3.len
    refine for_tup (xs := vs) (fun j σ H2 => H2 = H' ∧ ∃ x4, σ = [some (.ref p), some (.str z), some (.int ((rw.reads.take j).foldl (deepR z) acc)), some (.ref p2), x4]) ⟨rfl, x4, rfl⟩ (fun j σ H2 _ h => by rw [h.1]; exact .inl (.inl h2)) ?_ ?_
    · rintro j v σ H2 hvj ⟨rfl, x4, rfl⟩
      have hjr : j < rw.reads.length := by rw [l3]; exact (List.getElem?_eq_some_iff.mp hvj).1
      have hrj := List.getElem?_eq_getElem hjr
      have r3 := h3.at_ j rw.reads[j] v hrj hvj
      rw [fold_next (deepR z) acc hrj]
      generalize rw.reads[j] = rd at *
      generalize (rw.reads.take j).foldl (deepR z) acc = ac at *
      walk_at "rd"
      refine i_join (fun σ' H' => H' = H2 ∧ σ' = [some (.ref p), some (.str z), some (.int (deepR z ac rd)), some (.ref p2), some v]) ?_ (fun σ' H' ⟨e1, e2⟩ => ⟨e1, _, e2⟩)
      cases rd with
      | num i =>
        have e : v = .int i := r3
        subst e
        walk_at "rd"
        refine ⟨_, _, _, _, rfl, rfl, .int i, T.kIT, ?_⟩
        walk_at "rd"
        exact ⟨rfl, rfl⟩
      | back y b =>
        obtain ⟨t, rfl, ht⟩ := r3
        walk_at "rd"
        refine i_isiT ht T.kTT ?_
        walk_at "rd"
        refine i_ixT (.inl (.inl ht)) (show atI _ 0 = some (.str y) from rfl) ?_
        walk_at "rd"
        by_cases hyz : y = z
        · refine i_iteSe hyz ?_
          walk_at "rd"
          refine i_ixT (.inl (.inl ht)) (show atI _ 1 = some (.int b) from rfl) ?_
          walk_at "rd"
          refine ⟨ac, b, rfl, ?_⟩
          rw [max_of]
          walk_at "rd"
          exact ⟨rfl, by simp [deepR, hyz]⟩
        · refine i_iteSf hyz ?_
          walk_at "rd"
          exact ⟨rfl, by simp [deepR, hyz]⟩
    · rintro σ H2 ⟨rfl, x4, rfl⟩
      refine ⟨rfl, some (.ref p2), x4, ?_⟩
      rw [← l3, List.take_length]; rfl
  · rintro σ H' ⟨rfl, x3, x4, rfl⟩
    walk_at "rd"
    rw [← l1, List.take_length]
    exact q
theorem in_let (c : Nat) (h : 97 ≤ c ∧ c ≤ 122) : c ∈ (Str.ofString "abcdefghijklmnopqrstuvwxyz").cps.toList := by
  have e : ∀ j, j < 26 → 97 + j ∈ (Str.ofString "abcdefghijklmnopqrstuvwxyz").cps.toList := by decide +kernel
  have := e (c - 97) (by omega)
  rwa [show 97 + (c - 97) = c by omega] at this
def spIsName : Sp := fun vs H Q _ => ∃ z : Str, vs = [.str z] ∧ 1 ≤ z.length ∧ z.length ≤ 12 ∧ Lo z ∧ ∀ H2, Same H H2 → Q (.bl true) H2
def spIsLet : Sp := fun vs H Q _ => ∃ z : Str, vs = [.str z] ∧ 1 ≤ z.length ∧ z.length ≤ 12 ∧ Lo z ∧ ∀ H2, Same H H2 → Q (.bl true) H2
theorem d_islet (T : Txt K mg C CE) (Kb : K.In base) (G : base.Ns mainGlobals mg) : Df P w K mg base 1 "is_lettered" ["text"] spIsLet := by
  refine T.f_islet.df Kb G sc_is_lettered (fun _ _ _ _ _ _ us hl => match us, hl with | [_], _ => rfl) (by rintro vs H Q E ⟨z, rfl, _⟩; rfl) (fun f cdv A outer s H vs Q E hr h => ?_)
  obtain ⟨z, rfl, h1, h2, hL, q⟩ := h
  refine ⟨_, (pss_one (ps_ret (pe_and (pe_cmpR op_gt (pe_callB call_lenS rfl T.nlen PySem.boot_len (pa_cons (pv 0) pa_nil (se rfl)) (he := se rfl) (hpl := nst rfl)) pe_int (nomark _)) (pe_one (pe_callB (call_all rfl) rfl T.nall PyProof.Rows.boot_all (pa_cons (pe_lc (Blk.of (caps := []) (ix := []) rfl) rfl (pi_str (pv 0)) (fun _ _ _ _ => pf_nil) (fun _ _ _ _ => (pe_cmpR op_inS (pv 0) (pe_val T.v_LETTERS rfl) (by with_unfolding_all rfl)))) pa_nil (se rfl)) (he := se rfl) (hpl := nst rfl)))))), ?_⟩
  have lb := line_big
  walk_at "rd"
  refine i_lenS (by omega) ?_
  walk_at "rd"
  refine i_iteDt (by omega) ?_
  walk_at "rd"
  refine i_lc (i_strI ?_)
  walk_at "rd"
  refine lcS z (fun c => .bl (decide (c ∈ (Str.ofString "abcdefghijklmnopqrstuvwxyz").cps.toList))) (by omega) (fun c H' R hc s r => ?_) (fun D H2 hN => ?_)
  · walk_at "rd"
    exact r
  · have e : z.cps.toList.map (fun c => V.bl (decide (c ∈ (Str.ofString "abcdefghijklmnopqrstuvwxyz").cps.toList))) = List.map V.bl (z.cps.toList.map fun c => decide (c ∈ (Str.ofString "abcdefghijklmnopqrstuvwxyz").cps.toList)) := by rw [List.map_map]; rfl
    rw [e] at hN
    walk_at "rd"
    refine i_all hN.lst ?_
    have ea : (z.cps.toList.map fun c => decide (c ∈ (Str.ofString "abcdefghijklmnopqrstuvwxyz").cps.toList)).all id = true := by
      rw [List.all_map, List.all_eq_true]
      intro c hc
      exact decide_eq_true (in_let c (hL c hc))
    rw [ea]
    exact q _ hN.same
theorem d_isname (T : Txt K mg C CE) (Kb : K.In base) (G : base.Ns mainGlobals mg) : Df P w K mg base 2 "is_name" ["text"] spIsName := by
  have Dis_lettered : Df P w K mg base 1 "is_lettered" ["text"] spIsLet := d_islet T Kb G
  refine T.f_isname.df Kb G sc_is_name (fun _ _ _ _ _ _ us hl => match us, hl with | [_], _ => rfl) (by rintro vs H Q E ⟨z, rfl, _⟩; rfl) (fun f cdv A outer s H vs Q E hr h => ?_)
  obtain ⟨z, rfl, h1, h2, hL, q⟩ := h
  refine ⟨_, (pss_one (ps_ret (pe_and (pe_callD Dis_lettered (hr.mono (by decide)) rfl (pa_cons (pv 0) pa_nil (se rfl)) (he := se rfl) (hpl := nst rfl)) (pe_one (pe_cmpR op_le (pe_callB call_lenS rfl T.nlen PySem.boot_len (pa_cons (pv 0) pa_nil (se rfl)) (he := se rfl) (hpl := nst rfl)) (pe_val T.v_MOST_LETTERS rfl) (nomark _)))))), ?_⟩
  have lb := line_big
  walk_at "rd"
  refine ⟨z, rfl, h1, h2, hL, fun H1 s1 => ?_⟩
  walk_at "rd"
  refine i_lenS (by omega) ?_
  walk_at "rd"
  rw [decide_eq_true (show (z.length : Int) ≤ 12 by omega)]
  exact q _ s1
def spCMeas : Sp := fun vs H Q _ => ∃ m : Int, vs = [.int m] ∧ 2 ≤ m ∧ m ≤ 10 ^ (60 : Int).toNat ∧ Q .non H
theorem d_cmeas (T : Txt K mg C CE) (Kb : K.In base) (G : base.Ns mainGlobals mg) : Df P w K mg base 1 "check_measure" ["measure"] spCMeas := by
  refine T.f_cmeas.df Kb G sc_check_measure (fun _ _ _ _ _ _ us hl => match us, hl with | [_], _ => rfl) (by rintro vs H Q E ⟨m, rfl, _⟩; rfl) (fun f cdv A outer s H vs Q E hr h => ?_)
  obtain ⟨m, rfl, h1, h2, q⟩ := h
  refine ⟨_, (pss_one (ps_if (pt_not (pt_chain op_le op_le pe_int (pv 0) (pe_op op_pow pe_int pe_int))) (pss_one ps_never) pss_nil)), ?_⟩
  walk_at "rd"
  refine i_iteDt h1 ?_
  walk_at "rd"
  rw [decide_eq_true h2]
  walk_at "rd"
  exact q
def spCNum : Sp := fun vs H Q _ => ∃ i : Int, vs = [.int i] ∧ 0 ≤ i ∧ i < 10 ^ (60 : Int).toNat ∧ Q .non H
theorem d_cnum (T : Txt K mg C CE) (Kb : K.In base) (G : base.Ns mainGlobals mg) : Df P w K mg base 1 "check_number" ["number"] spCNum := by
  refine T.f_cnum.df Kb G sc_check_number (fun _ _ _ _ _ _ us hl => match us, hl with | [_], _ => rfl) (by rintro vs H Q E ⟨m, rfl, _⟩; rfl) (fun f cdv A outer s H vs Q E hr h => ?_)
  obtain ⟨m, rfl, h1, h2, q⟩ := h
  refine ⟨_, (pss_one (ps_if (pt_not (pt_chain op_le op_lt pe_int (pv 0) (pe_op op_pow pe_int pe_int))) (pss_one ps_never) pss_nil)), ?_⟩
  walk_at "rd"
  refine i_iteDt h1 ?_
  walk_at "rd"
  rw [decide_eq_true h2]
  walk_at "rd"
  exact q
theorem inV_mem {z : Str} {zs : List Str} (h : z ∈ zs) : inV (.str z) (List.map V.str zs) = true := by
  refine List.any_eq_true.mpr ⟨.str z, List.mem_map.mpr ⟨z, h, rfl⟩, ?_⟩
  show (z == z) = true
  exact beq_self_eq_true _
theorem inV_not {z : Str} {zs : List Str} (h : ¬ z ∈ zs) : inV (.str z) (List.map V.str zs) = false := by
  refine Bool.eq_false_iff.mpr fun e => h ?_
  obtain ⟨y, hy, e⟩ := List.any_eq_true.mp e
  obtain ⟨x, hx, rfl⟩ := List.mem_map.mp hy
  have e' : (x == z) = true := e
  rw [← beq_iff_eq.mp e']; exact hx
theorem flat_strs (zs : List Str) : (List.map V.str zs).all flatV = true := by rw [List.all_map]; exact List.all_eq_true.mpr fun _ _ => rfl
def spCLook : Sp := fun vs H Q _ => ∃ (z : Str) (b : Int) (np ap : Addr) (zs as : List Str), vs = [.str z, .int b, .ref np, .ref ap] ∧ H np = some (.lst (List.map V.str zs)) ∧ H ap = some (.lst (List.map V.str as)) ∧ z ∈ zs ∧ 0 ≤ b ∧ b ≤ 6 ∧ (b = 0 → z ∈ as) ∧ Q .non H
theorem d_clook (T : Txt K mg C CE) (Kb : K.In base) (G : base.Ns mainGlobals mg) : Df P w K mg base 1 "check_look_back" ["name", "back", "names", "above"] spCLook := by
  refine T.f_clook.df Kb G sc_check_look_back (fun _ _ _ _ _ _ us hl => match us, hl with | [_, _, _, _], _ => rfl) (by rintro vs H Q E ⟨z, b, np, ap, zs, as, rfl, _⟩; rfl) (fun f cdv A outer s H vs Q E hr h => ?_)
  obtain ⟨z, b, np, ap, zs, as, rfl, hnp, hap, hz, b0, b6, ha, q⟩ := h
  refine ⟨_, (pss_cons (ps_if (pt_cmpR op_notIn_seq (pv 0) (pv 2) (by with_unfolding_all rfl)) (pss_one ps_never) pss_nil)
    (pss_cons (ps_if (pt_not (pt_chain op_le op_le pe_int (pv 1) (pe_val T.v_MOST_BACK rfl))) (pss_one ps_never) pss_nil)
    (pss_one (ps_if (PW.pt (pw_and (pt_cmpR op_eq (pv 1) pe_int (nomark _)) (pw_and1 (pt_cmpR op_notIn_seq (pv 0) (pv 3) (by with_unfolding_all rfl))))) (pss_one ps_never) pss_nil)))), ?_⟩
  walk_at "rd"
  refine i_ninL (sqL_inj_of hnp) rfl (flat_strs zs) ?_
  rw [inV_mem hz]
  walk_at "rd"
  refine i_iteDt b0 ?_
  walk_at "rd"
  rw [decide_eq_true b6]
  walk_at "rd"
  refine i_iteI (fun h0 => ?_) (fun h0 => ?_)
  · walk_at "rd"
    refine i_ninL (sqL_inj_of hap) rfl (flat_strs as) ?_
    rw [inV_mem (ha h0)]
    walk_at "rd"
    exact q
  · walk_at "rd"
    exact q
def spCRead : Sp := fun vs H Q _ => ∃ (v : V) (np ap : Addr) (zs : List Str) (k : Nat) (rd : Rd), vs = [v, .ref np, .ref ap] ∧ H np = some (.lst (List.map V.str zs)) ∧ H ap = some (.lst (List.map V.str (zs.take k))) ∧ RdAt H rd v ∧ RdOk zs k rd ∧ Q .non H
theorem d_cread (T : Txt K mg C CE) (Kb : K.In base) (G : base.Ns mainGlobals mg) : Df P w K mg base 2 "check_read" ["read", "names", "above"] spCRead := by
  have Dcheck_number : Df P w K mg base 1 "check_number" ["number"] spCNum := d_cnum T Kb G
  have Dcheck_look_back : Df P w K mg base 1 "check_look_back" ["name", "back", "names", "above"] spCLook := d_clook T Kb G
  refine T.f_cread.df Kb G sc_check_read (fun _ _ _ _ _ _ us hl => match us, hl with | [_, _, _], _ => rfl) (by rintro vs H Q E ⟨v, np, ap, zs, k, rd, rfl, _⟩; rfl) (fun f cdv A outer s H vs Q E hr h => ?_)
  obtain ⟨v, np, ap, zs, k, rd, rfl, hnp, hap, hrd, hok, q⟩ := h
  refine ⟨_, (pss_one (ps_if (pt_val (pe_callB call_isi rfl T.nisi PyProof.Rows.boot_isinstance (pa_cons (pv 0) (pa_cons (pe_bltn (v := .ty "int") rfl T.nint PyProof.Rows.boot_int rfl) pa_nil (se rfl)) (se rfl)) (he := se rfl) (hpl := nst rfl))) (pss_one (ps_expr (pe_callD Dcheck_number (hr.mono (by decide)) rfl (pa_cons (pv 0) pa_nil (se rfl)) (he := se rfl) (hpl := nst rfl)))) (pss_one (ps_expr (pe_callD Dcheck_look_back (hr.mono (by decide)) rfl (pa_cons (pe_ix ix_seq (pv 0) pe_int (fun _ _ => rfl)) (pa_cons (pe_ix ix_seq (pv 0) pe_int (fun _ _ => rfl)) (pa_cons (pv 1) (pa_cons (pv 2) pa_nil (se rfl)) (se rfl)) (se rfl)) (se rfl)) (he := se rfl) (hpl := nst rfl)))))), ?_⟩
  cases rd with
  | num i =>
    have e : v = .int i := hrd
    subst e
    walk_at "rd"
    refine i_isiI T.kII ?_
    walk_at "rd"
    refine ⟨i, rfl, hok.1, hok.2, ?_⟩
    walk_at "rd"
    exact q
  | back z b =>
    obtain ⟨t, rfl, ht⟩ := hrd
    obtain ⟨j, hj, b0, b6, bk⟩ := hok
    walk_at "rd"
    refine i_isiT ht T.kTI ?_
    walk_at "rd"
    refine i_ixT (.inl (.inl ht)) (show atI _ 0 = some (.str z) from rfl) ?_
    walk_at "rd"
    refine i_ixT (.inl (.inl ht)) (show atI _ 1 = some (.int b) from rfl) ?_
    walk_at "rd"
    refine ⟨z, b, np, ap, zs, zs.take k, rfl, hnp, hap, List.mem_iff_getElem?.mpr ⟨j, hj⟩, b0, b6, fun h0 => List.mem_iff_getElem?.mpr ⟨j, by rw [List.getElem?_take_of_lt (bk h0)]; exact hj⟩, ?_⟩
    walk_at "rd"
    exact q
def spCHead : Sp := fun vs H Q _ => ∃ (z : Str) (d : Dk) (p1 ap : Addr) (us : List V) (as : List Str), vs = [.str z, .str d.word, .ref p1, .ref ap] ∧ 1 ≤ z.length ∧ z.length ≤ 12 ∧ Lo z ∧ H p1 = some (.tup us) ∧ us.length = d.wants ∧ H ap = some (.lst (List.map V.str as)) ∧ ¬ z ∈ as ∧ ∀ H2, Same H H2 → Q .non H2
theorem d_chead (T : Txt K mg C CE) (Kb : K.In base) (G : base.Ns mainGlobals mg) : Df P w K mg base 3 "check_head" ["name", "word", "reads", "above"] spCHead := by
  have Dis_name : Df P w K mg base 2 "is_name" ["text"] spIsName := d_isname T Kb G
  have Ddeed_of : Df P w K mg base 1 "deed_of" ["word"] (spDeedA C) := d_deed T Kb G
  have Mwants : MethI P w K mg base 1 "wants" ["self"] C spWants := m_wants T
  refine T.f_chead.df Kb G sc_check_head (fun _ _ _ _ _ _ us hl => match us, hl with | [_, _, _, _], _ => rfl) (by rintro vs H Q E ⟨z, d, p1, ap, us, as, rfl, _⟩; rfl) (fun f cdv A outer s H vs Q E hr h => ?_)
  obtain ⟨z, d, p1, ap, us, as, rfl, z1, z12, hL, hp1, hul, hap, hna, q⟩ := h
  refine ⟨_, (pss_cons (ps_if (pt_not (pt_val (pe_callD Dis_name (hr.mono (by decide)) rfl (pa_cons (pv 0) pa_nil (se rfl)) (he := se rfl) (hpl := nst rfl)))) (pss_one ps_never) pss_nil)
    (pss_cons (ps_if (pt_cmpR op_in_seq (pv 0) (pv 3) (by with_unfolding_all rfl)) (pss_one ps_never) pss_nil)
    (pss_one (ps_if (pt_cmpR op_ne (pe_callB call_len_seq rfl T.nlen PySem.boot_len (pa_cons (pv 2) pa_nil (se rfl)) (he := se rfl) (hpl := nst rfl)) (pe_methI0 Mwants (pe_callD Ddeed_of (hr.mono (by decide)) rfl (pa_cons (pv 1) pa_nil (se rfl)) (he := se rfl) (hpl := nst rfl)) (hr.mono (by decide))) (nomark _)) (pss_one ps_never) pss_nil)))), ?_⟩
  walk_at "rd"
  refine ⟨z, rfl, z1, z12, hL, fun H1 s1 => ?_⟩
  walk_at "rd"
  refine i_inL (sqL_inj_of (s1 _ _ hap)) rfl (flat_strs as) ?_
  rw [inV_not hna]
  walk_at "rd"
  refine ⟨_, _, rfl, .inr (.inl (.inl (s1 _ _ hp1))), ?_⟩
  walk_at "rd"
  refine i_methI ?_
  walk_at "rd"
  refine ⟨d, rfl, fun x dx H2 hN2 => ?_⟩
  refine ⟨d, x, dx, [], rfl, hN2.at, rfl, ?_⟩
  walk_at "rd"
  refine ⟨x, rfl, ?_⟩
  walk_at "rd"
  rw [decide_eq_true (show V.int (us.length : Int) = V.int (d.wants : Nat) by rw [hul])]
  walk_at "rd"
  exact q _ (s1.trans hN2.same)
theorem cutV_take (xs : List V) (k : Nat) : cutV xs none (some (k : Int)) = xs.take k := by
  unfold cutV
  have e1 : HT.sIx xs.length 0 none = 0 := rfl
  have e2 : HT.sIx xs.length xs.length (some (k : Int)) = min k xs.length := by
    show (if (k : Int) < 0 then ((k : Int) + (xs.length : Int)).toNat else min (k : Int).toNat xs.length) = _
    rw [if_neg (by omega)]; omega
  rw [e1, e2, List.drop_zero, Nat.sub_zero]
  by_cases h : k ≤ xs.length
  · rw [Nat.min_eq_left h]
  · rw [Nat.min_eq_right (by omega), List.take_length, List.take_of_length_le (by omega)]
theorem nd_names {zs : List Str} (h : NamesOk zs) {i : Nat} {z : Str} (hz : zs[i]? = some z) : ¬ z ∈ zs.take i := by
  obtain ⟨h12, place, n, hn⟩ := h
  intro hm
  obtain ⟨j, hj⟩ := List.mem_iff_getElem?.mp hm
  have hji : j < i := by
    have := (List.getElem?_eq_some_iff.mp hj).1
    rw [List.length_take] at this; omega
  rw [List.getElem?_take_of_lt hji] at hj
  have hi12 : i < zs.length := (List.getElem?_eq_some_iff.mp hz).1
  have a := (hn i z hz).2.2.2
  have b := (hn j z hj).2.2.2
  rw [a] at b
  have := Option.some.inj b
  omega
def TK (H H' : Hp) : Prop := ∀ b xs, H b = some (.tup xs) → H' b = some (.tup xs)
theorem TK.upd {H : Hp} {x : Addr} {o u : HO} (h : H x = some o) (n : ∀ xs, o ≠ .tup xs) : TK H (L2.upd H x u) := fun b xs e => by
  rw [upd_ne (fun z => by rw [z, h] at e; exact n xs (Option.some.inj e))]; exact e
theorem RdAt.keep {H H' : Hp} {r : Rd} {v : V} (s : TK H H') (h : RdAt H r v) : RdAt H' r v := by
  cases r with
  | num i => exact h
  | back z b => obtain ⟨a, e, q⟩ := h; exact ⟨a, e, s _ _ q⟩
theorem RowAt.keep {H H' : Hp} {r : Row} {v : V} (s : TK H H') (h : RowAt H r v) : RowAt H' r v := by
  obtain ⟨p1, p2, vs, e, h1, h2, h3⟩ := h
  exact ⟨p1, p2, vs, e, s _ _ h1, s _ _ h2, h3.len, fun i r v e1 e2 => (h3.at_ i r v e1 e2).keep s⟩
theorem RowsAt.keep {H H' : Hp} {rs : List Row} {us : List V} (s : TK H H') (h : RowsAt H rs us) : RowsAt H' rs us := ⟨h.len, fun i r u e1 e2 => (h.at_ i r u e1 e2).keep s⟩
def spCRows : Sp := fun vs H Q _ => ∃ (p : Addr) (us : List V) (zs : List Str) (rs : List Row), vs = [.ref p] ∧ H p = some (.lst us) ∧ RowsAt H rs us ∧ RowsOk zs rs ∧ 1 ≤ rs.length ∧ ∀ H2, Same H H2 → Q .non H2
theorem d_crows (T : Txt K mg C CE) (Kb : K.In base) (G : base.Ns mainGlobals mg) : Df P w K mg base 4 "check_rows" ["rows"] spCRows := by
  have Dcheck_head : Df P w K mg base 3 "check_head" ["name", "word", "reads", "above"] spCHead := d_chead T Kb G
  have Dcheck_read : Df P w K mg base 2 "check_read" ["read", "names", "above"] spCRead := d_cread T Kb G
  refine T.f_crows.df Kb G sc_check_rows (fun _ _ _ _ _ _ us hl => match us, hl with | [_], _ => rfl) (by rintro vs H Q E ⟨p, us, zs, rs, rfl, _⟩; rfl) (fun f cdv A outer s H vs Q E hr h => ?_)
  obtain ⟨p, us, zs, rs, rfl, hp, hu, hok, h1, q⟩ := h
  refine ⟨_, (pss_cons (ps_if (pt_not (pt_chain op_le op_le pe_int (pe_callB call_len_seq rfl T.nlen PySem.boot_len (pa_cons (pv 0) pa_nil (se rfl)) (he := se rfl) (hpl := nst rfl)) (pe_val T.v_MOST_ROWS rfl))) (pss_one ps_never) pss_nil)
    (pss_cons (ps_lc (i := 1) sc_check_rows.nd rfl rfl (by with_unfolding_all rfl) (Blk.of (caps := []) (ix := []) rfl) rfl (pi_list (pv 0)) (fun _ _ _ _ => pf_nil) (fun _ _ _ _ => (pe_ix (ix_seqK (K := K) rfl) (pv 0) pe_int (fun _ _ => rfl))))
    (pss_one (ps_for PassesOwn.never rfl (pi_enum rfl T.nenumerate (pa_cons (pv 0) pa_nil (se rfl))) (pg_tup rfl (pgs_cons (pg_name (i := 2) sc_check_rows.nd rfl (Or.inl rfl)) (pgs_cons (pg_name (i := 3) sc_check_rows.nd rfl (Or.inl rfl)) pgs_nil)))
      (pss_cons (ps_set (i := 4) sc_check_rows.nd rfl (by first | exact Or.inl rfl | exact Or.inr rfl) (pe_slice sl_listA (pv 1) po_none (po_some (pv 2))))
    (pss_cons (ps_expr (pe_callD Dcheck_head (hr.mono (by decide)) rfl (pa_cons (pe_ix ix_seq (pv 3) pe_int (fun _ _ => rfl)) (pa_cons (pe_ix ix_seq (pv 3) pe_int (fun _ _ => rfl)) (pa_cons (pe_ix ix_seq (pv 3) pe_int (fun _ _ => rfl)) (pa_cons (pv 4) pa_nil (se rfl)) (se rfl)) (se rfl)) (se rfl)) (he := se rfl) (hpl := nst rfl)))
    (pss_one (ps_for PassesOwn.never rfl (pi_tup (pe_ix ix_seq (pv 3) pe_int (fun _ _ => rfl))) (pg_name (i := 5) sc_check_rows.nd rfl (Or.inl rfl))
      (pss_one (ps_expr (pe_callD Dcheck_read (hr.mono (by decide)) rfl (pa_cons (pv 5) (pa_cons (pv 1) (pa_cons (pv 4) pa_nil (se rfl)) (se rfl)) (se rfl)) (he := se rfl) (hpl := nst rfl)))))))))))), ?_⟩
  have l1 := hu.len
  have l2 := hok.len
  have l12 := hok.names.1
  have lb := line_big
  walk_at "rd"
  refine ⟨_, _, rfl, .inl (sqL_inj_of hp), ?_⟩
  walk_at "rd"
  refine i_iteDt (by omega) ?_
  walk_at "rd"
  rw [decide_eq_true (show (us.length : Int) ≤ 12 by omega)]
  walk_at "rd"
  refine i_setLc (i_lc (i_list ?_))
  walk_at "rd"
  refine lcNL us (fun D i y H' => ∃ r, rs[i]? = some r ∧ y = .str r.name) (sqL_inj_of hp) (by omega) (fun D i y H' H'' _ h => h) (fun D i v H' R hv hD hy s r => ?_) (fun D ys H1 hD s1 hHD hyl hP => ?_)
  · have hir : i < rs.length := by rw [l1]; exact (List.getElem?_eq_some_iff.mp hv).1
    have hri := List.getElem?_eq_getElem hir
    obtain ⟨p1, p2, vs, rfl, h1, h2, h3⟩ := (hu.at_ i rs[i] v hri hv).same s
    walk_at "rd"
    refine i_ixT (.inl (.inl h1)) (show atI _ 0 = some (.str rs[i].name) from rfl) ?_
    exact r _ _ (Same.refl _) ⟨rs[i], hri, rfl⟩
  have hnp : H1 D = some (.lst (List.map V.str zs)) := by
    rw [hHD]
    congr 1; congr 1
    refine List.ext_getElem? fun i => ?_
    rw [List.getElem?_map]
    by_cases hi : i < ys.length
    · obtain ⟨r, hr1, hr2⟩ := hP i ys[i] (List.getElem?_eq_getElem hi)
      rw [List.getElem?_eq_getElem hi, hr2, (hok.at_ i r hr1).name]; rfl
    · rw [List.getElem?_eq_none (by omega), List.getElem?_eq_none (by omega)]; rfl
  dsimp only
  refine i_for (i_enumI ?_)
  walk_at "rd"
  refine ⟨p, rfl, ⟨us, sqL_inj_of (s1 _ _ hp)⟩, ?_⟩
  refine for_enum (xs := us) (fun i σ H' => Same H1 H' ∧ ∃ x2 x3 x4 x5, σ = [some (.ref p), some (.ref D), x2, x3, x4, x5]) ⟨Same.refl _, none, none, none, none, rfl⟩ (fun i σ H' _ h => sqL_inj_of (h.1 _ _ (s1 _ _ hp))) ?_ ?_
  · rintro i u t σ H2 H3 hui ⟨s2, x2, x3, x4, x5, rfl⟩ hN3
    have s3 := s2.trans hN3.same
    have hir : i < rs.length := by rw [l1]; exact (List.getElem?_eq_some_iff.mp hui).1
    have hri := List.getElem?_eq_getElem hir
    have rok := hok.at_ i rs[i] hri
    have rat := (hu.at_ i rs[i] u hri hui).same (s1.trans s3)
    generalize rs[i] = rw at *
    obtain ⟨place, n, hn⟩ := hok.names.2
    have nm := hn i rw.name rok.name
    have nd := nd_names hok.names rok.name
    obtain ⟨p1, p2, vs, rfl, r1, r2, r3⟩ := rat
    have r3l := r3.len
    refine i_gtup hN3.tup rfl ?_
    walk_at "rd"
    refine i_slLA (sqL_inj_of (s3 _ _ hnp)) fun ap H4 hN4 => ?_
    rw [cutV_take, ← List.map_take] at hN4
    have s4 := s3.trans hN4.same
    walk_at "rd"
    refine i_ixT (.inl (.inl (hN4.same _ _ r1))) (show atI _ 0 = some (.str rw.name) from rfl) ?_
    walk_at "rd"
    refine i_ixT (.inl (.inl (hN4.same _ _ r1))) (show atI _ 1 = some (.str rw.d.word) from rfl) ?_
    walk_at "rd"
    refine i_ixT (.inl (.inl (hN4.same _ _ r1))) (show atI _ 2 = some (.ref p1) from rfl) ?_
    walk_at "rd"
    refine ⟨rw.name, rw.d, p1, ap, vs, zs.take i, rfl, nm.1, nm.2.1, nm.2.2.1, hN4.same _ _ r2, by rw [← r3l]; exact rok.many, hN4.at, nd, fun H5 s5 => ?_⟩
    walk_at "rd"
    dsimp only
    refine i_for (i_tupI ?_)
    walk_at "rd"
    refine i_ixT (.inl (.inl (s5 _ _ (hN4.same _ _ r1)))) (show atI _ 2 = some (.ref p1) from rfl) ?_
    have r2' := s5 _ _ (hN4.same _ _ r2)
    refine ⟨p1, rfl, ⟨vs, .inl (.inl r2')⟩, ?_⟩
    refine for_tup (xs := vs) (fun j σ H' => H' = H5 ∧ ∃ x5, σ = [some (.ref p), some (.ref D), some (.int (i : Int)), some (.ref p2), some (.ref ap), x5]) ⟨rfl, x5, rfl⟩ (fun j σ H' _ h => by rw [h.1]; exact .inl (.inl r2')) ?_ ?_
    · rintro j v σ H' hvj ⟨rfl, x5, rfl⟩
      have hjr : j < rw.reads.length := by rw [r3l]; exact (List.getElem?_eq_some_iff.mp hvj).1
      have hrj := List.getElem?_eq_getElem hjr
      have ra := ((r3.at_ j rw.reads[j] v hrj hvj).same hN4.same).same s5
      have ro := rok.reads rw.reads[j] (List.getElem_mem hjr)
      walk_at "rd"
      refine ⟨v, D, ap, zs, i, rw.reads[j], rfl, (s4.trans s5) _ _ hnp, s5 _ _ hN4.at, ra, ro, ?_⟩
      walk_at "rd"
      exact ⟨rfl, _, rfl⟩
    · rintro σ H' ⟨rfl, x5, rfl⟩
      exact ⟨s4.trans s5, _, _, _, _, rfl⟩
  · rintro σ H2 ⟨s2, x2, x3, x4, x5, rfl⟩
    exact q _ (s1.trans s2)
def spCopy : Sp := fun vs H Q _ => ∃ (u : V) (r : Row), vs = [u] ∧ r.reads.length ≤ 3 ∧ RowAt H r u ∧ ∀ v H2, Same H H2 → RowAt H2 r v → Q v H2
theorem d_copy (T : Txt K mg C CE) (Kb : K.In base) (G : base.Ns mainGlobals mg) : Df P w K mg base 1 "copy_of_row" ["row"] spCopy := by
  refine T.f_copy.df Kb G sc_copy_of_row (fun _ _ _ _ _ _ us hl => match us, hl with | [_], _ => rfl) (by rintro vs H Q E ⟨u, r, rfl, _⟩; rfl) (fun f cdv A outer s H vs Q E hr h => ?_)
  obtain ⟨u, r, rfl, hl3, hrow, q⟩ := h
  obtain ⟨p1, p2, vs, rfl, r1, r2, r3⟩ := hrow
  have r3l := r3.len
  have lb := line_big
  refine ⟨_, (pss_cons (ps_lc (i := 1) sc_copy_of_row.nd rfl rfl (by with_unfolding_all rfl) (Blk.of (caps := []) (ix := []) rfl) rfl (pi_tup (pe_ix ix_seq (pv 0) pe_int (fun _ _ => rfl))) (fun _ _ _ _ => pf_nil) (fun _ _ _ _ => (pe_ifExp (pt_val (pe_callB (call_isiK (K := K) rfl) rfl T.nisi PyProof.Rows.boot_isinstance (pa_cons (pv 0) (pa_cons (pe_bltn (v := .ty "int") rfl T.nint PyProof.Rows.boot_int rfl) pa_nil (se rfl)) (se rfl)) (he := se rfl) (hpl := nst rfl))) (pv 0) (pe_callTy (call_tupleK (K := K) rfl) rfl T.ntuple PyProof.Rows.boot_tuple (pa_cons (pv 0) pa_nil (se rfl)) (he := se rfl) (hpl := nst rfl)))))
    (pss_one (ps_ret (pe_tupA (pa_cons (pe_ix ix_seq (pv 0) pe_int (fun _ _ => rfl)) (pa_cons (pe_ix ix_seq (pv 0) pe_int (fun _ _ => rfl)) (pa_cons (pe_callTy call_tupleA rfl T.ntuple PyProof.Rows.boot_tuple (pa_cons (pv 1) pa_nil (se rfl)) (he := se rfl) (hpl := nst rfl)) pa_nil (se rfl)) (se rfl)) (se rfl)))))), ?_⟩
  walk_at "rd"
  refine i_setLc (i_lc (i_tupI ?_))
  walk_at "rd"
  refine i_ixT (.inl (.inl r1)) (show atI _ 2 = some (.ref p1) from rfl) ?_
  refine lcT vs id (.inl (.inl r2)) (by omega) (fun i v H' R hv s k => ?_) (fun D H1 hN1 => ?_)
  · have hir : i < r.reads.length := by rw [r3l]; exact (List.getElem?_eq_some_iff.mp hv).1
    have ra := (r3.at_ i r.reads[i] v (List.getElem?_eq_getElem hir) hv).same s
    generalize r.reads[i] = rd at *
    cases rd with
    | num i =>
      have e : v = .int i := ra
      subst e
      walk_at "rd"
      refine i_isiI T.kII ?_
      walk_at "rd"
      exact k
    | back z b =>
      obtain ⟨t, rfl, ht⟩ := ra
      walk_at "rd"
      refine i_isiT ht T.kTI ?_
      walk_at "rd"
      refine i_tupleAT (.inl (.inl ht)) ?_
      exact k
  rw [List.map_id] at hN1
  walk_at "rd"
  have r1' := hN1.same _ _ r1
  refine i_ixT (.inl (.inl r1')) (show atI _ 0 = some (.str r.name) from rfl) ?_
  walk_at "rd"
  refine i_ixT (.inl (.inl r1')) (show atI _ 1 = some (.str r.d.word) from rfl) ?_
  walk_at "rd"
  refine i_tupleAL hN1.lst fun p3 H2 hN2 => ?_
  walk_at "rd"
  refine ⟨by show 3 ≤ sizeLine; decide, fun p4 H3 hN3 => ?_⟩
  have s3 := (hN1.same.trans hN2.same).trans hN3.same
  exact q _ _ s3 ⟨p3, p4, vs, rfl, hN3.at, hN3.same _ _ hN2.at, r3.same s3⟩
def DepOf (kvs : List (Key × V)) (g : Str → Int) : Prop := ∀ z : Str, (valV kvs (Sum.inr z)).getD (.int 0) = .int (g z)
theorem DepOf.put {kvs : List (Key × V)} {g : Str → Int} (h : DepOf kvs g) (y : Str) (b : Int) : DepOf (putK kvs (Sum.inr y) (.int (max b (g y)))) (fun z => deepR z (g z) (.back y b)) := by
  intro z
  rw [valV_put]
  by_cases hz : z = y
  · subst hz
    simp [deepR, Int.max_comm]
  · have : ¬ (Sum.inr z : Key) = Sum.inr y := fun e => hz (Sum.inr.inj e)
    rw [if_neg this, h z]
    show V.int (g z) = V.int (if y = z then max (g z) b else g z)
    rw [if_neg fun e => hz e.symm]
def spDepths : Sp := fun vs H Q _ => ∃ (p : Addr) (us : List V) (rs : List Row), vs = [.ref p] ∧ H p = some (.lst us) ∧ RowsAt H rs us ∧ rs.length ≤ 12 ∧ (∀ r ∈ rs, r.reads.length ≤ 3) ∧ ∀ d kvs H2, Same H H2 → H2 d = some (.dK kvs) → DepOf kvs (deep rs) → Q (.ref d) H2
theorem d_depths (T : Txt K mg C CE) (Kb : K.In base) (G : base.Ns mainGlobals mg) : Df P w K mg base 1 "depths_of" ["rows"] spDepths := by
  refine T.f_depths.df Kb G sc_depths_of (fun _ _ _ _ _ _ us hl => match us, hl with | [_], _ => rfl) (by rintro vs H Q E ⟨p, us, rs, rfl, _⟩; rfl) (fun f cdv A outer s H vs Q E hr h => ?_)
  obtain ⟨p, us, rs, rfl, hp, hu, h12, h3, q⟩ := h
  refine ⟨_, (pss_cons (ps_set (i := 1) sc_depths_of.nd rfl (by first | exact Or.inl rfl | exact Or.inr rfl) pe_dnewK)
    (pss_cons (ps_for PassesOwn.never rfl (pi_list (pv 0)) (pg_name (i := 2) sc_depths_of.nd rfl (Or.inl rfl))
      (pss_one (ps_for PassesOwn.never rfl (pi_tup (pe_ix ix_seq (pv 2) pe_int (fun _ _ => rfl))) (pg_name (i := 3) sc_depths_of.nd rfl (Or.inl rfl))
      (pss_one (ps_join (ps_if (pt_not (pt_val (pe_callB call_isi rfl T.nisi PyProof.Rows.boot_isinstance (pa_cons (pv 3) (pa_cons (pe_bltn (v := .ty "int") rfl T.nint PyProof.Rows.boot_int rfl) pa_nil (se rfl)) (se rfl)) (he := se rfl) (hpl := nst rfl)))) (pss_one (ps_dput (hu_of hr) (pv 1) (pe_ix ix_seq (pv 3) pe_int (fun _ _ => rfl)) (pe_callB (call_max2 rfl) rfl T.nmax PyProof.Rows.boot_max (pa_cons (pe_ix ix_seq (pv 3) pe_int (fun _ _ => rfl)) (pa_cons (pe_dget2 (hu_of hr) (pv 1) (pe_ix ix_seq (pv 3) pe_int (fun _ _ => rfl)) pe_int ⟨rfl, rfl, rfl, rfl⟩) pa_nil (se rfl)) (se rfl)) (he := se rfl) (hpl := nst rfl)) rfl)) pss_nil))))))
    (pss_one (ps_ret (pv 1))))), ?_⟩
  have l1 := hu.len
  have lb := line_big
  walk_at "rd"
  refine i_dnew fun d hd => ?_
  have hs0 : Same H (upd H d (.dK [])) := Same.new hd
  have hd0 : upd H d (.dK []) d = some (.dK []) := upd_same
  generalize upd H d (.dK []) = H0 at *
  walk_at "rd"
  dsimp only
  refine i_for (i_list ?_)
  walk_at "rd"
  refine ⟨p, rfl, ⟨us, sqL_inj_of (hs0 _ _ hp)⟩, ?_⟩
  refine for_list (xs := us) (fun i σ H' => Same H H' ∧ ∃ kvs x2 x3, σ = [some (.ref p), some (.ref d), x2, x3] ∧ H' d = some (.dK kvs) ∧ kvs.length ≤ 3 * i ∧ DepOf kvs fun z => (rs.take i).foldl (deepRow z) 0)
    ⟨hs0, [], none, none, rfl, hd0, Nat.zero_le _, fun z => rfl⟩ (fun i σ H' _ h => sqL_inj_of (h.1 _ _ hp)) ?_ ?_
  · rintro i u σ H' hui ⟨s1, kvs, x2, x3, rfl, hdk, hkl, hdep⟩
    have hiu := (List.getElem?_eq_some_iff.mp hui).1
    have hir : i < rs.length := by rw [l1]; exact hiu
    have hri := List.getElem?_eq_getElem hir
    have r1 := hu.at_ i rs[i] u hri hui
    have hr3 := h3 rs[i] (List.getElem_mem hir)
    have hnx : (fun z => (rs.take (i + 1)).foldl (deepRow z) 0) = fun z => deepRow z ((rs.take i).foldl (deepRow z) 0) rs[i] := by
      funext z; exact fold_next (deepRow z) 0 hri
    rw [hnx]
    generalize rs[i] = rw at *
    generalize hg : (fun z => (rs.take i).foldl (deepRow z) 0) = g at *
    have hg' : (fun z => deepRow z ((rs.take i).foldl (deepRow z) 0) rw) = fun z => deepRow z (g z) rw := by rw [← hg]
    rw [hg']
    obtain ⟨p1, p2, vs, rfl, h1, h2, hv⟩ := r1
    have hvl := hv.len
    walk_at "rd"
    dsimp only
    refine i_for (i_tupI ?_)
    walk_at "rd"
    refine i_ixT (.inl (.inl (s1 _ _ h1))) (show atI _ 2 = some (.ref p1) from rfl) ?_
    refine ⟨p1, rfl, ⟨vs, .inl (.inl (s1 _ _ h2))⟩, ?_⟩
    refine for_tup (xs := vs) (fun j σ H2 => Same H H2 ∧ ∃ kvs x3, σ = [some (.ref p), some (.ref d), some (.ref p2), x3] ∧ H2 d = some (.dK kvs) ∧ kvs.length ≤ 3 * i + j ∧ DepOf kvs fun z => (rw.reads.take j).foldl (deepR z) (g z))
      ⟨s1, kvs, x3, rfl, hdk, hkl, hdep⟩ (fun j σ H2 _ h => .inl (.inl (h.1 _ _ h2))) ?_ ?_
    · rintro j v σ H2 hvj ⟨s2, kv2, x3, rfl, hd2, hk2, hdep2⟩
      have hjv := (List.getElem?_eq_some_iff.mp hvj).1
      have hjr : j < rw.reads.length := by rw [hvl]; exact hjv
      have hrj := List.getElem?_eq_getElem hjr
      have r3 := (hv.at_ j rw.reads[j] v hrj hvj).same s2
      have hnx2 : (fun z => (rw.reads.take (j + 1)).foldl (deepR z) (g z)) = fun z => deepR z ((rw.reads.take j).foldl (deepR z) (g z)) rw.reads[j] := by
        funext z; exact fold_next (deepR z) (g z) hrj
      rw [hnx2]
      generalize rw.reads[j] = rd at *
      generalize hg2 : (fun z => (rw.reads.take j).foldl (deepR z) (g z)) = g2 at *
      have hg2' : (fun z => deepR z ((rw.reads.take j).foldl (deepR z) (g z)) rd) = fun z => deepR z (g2 z) rd := by rw [← hg2]
      rw [hg2']
      walk_at "rd"
      refine i_join (fun σ' H3 => Same H H3 ∧ σ' = [some (.ref p), some (.ref d), some (.ref p2), some v] ∧ ∃ kv3, H3 d = some (.dK kv3) ∧ kv3.length ≤ 3 * i + (j + 1) ∧ DepOf kv3 fun z => deepR z (g2 z) rd) ?_ (fun σ' H3 ⟨a, b, kv3, c⟩ => ⟨a, kv3, _, b, c⟩)
      cases rd with
      | num i' =>
        have e : v = .int i' := r3
        subst e
        walk_at "rd"
        refine i_isiI T.kII ?_
        walk_at "rd"
        exact ⟨s2, rfl, kv2, hd2, by omega, hdep2⟩
      | back y b =>
        obtain ⟨t, rfl, ht⟩ := r3
        walk_at "rd"
        refine i_isiT ht T.kTI ?_
        walk_at "rd"
        refine i_dput ?_
        walk_at "rd"
        refine i_ixT (.inl (.inl ht)) (show atI _ 1 = some (.int b) from rfl) ?_
        walk_at "rd"
        refine i_dget2 ?_
        walk_at "rd"
        refine ⟨d, rfl, .inl ⟨kv2, .inl hd2⟩, ?_⟩
        walk_at "rd"
        refine i_ixT (.inl (.inl ht)) (show atI _ 0 = some (.str y) from rfl) ?_
        walk_at "rd"
        refine ⟨_, DGet.k (k := Sum.inr y) hd2, ?_⟩
        rw [hdep2 y]
        walk_at "rd"
        refine ⟨b, g2 y, rfl, ?_⟩
        rw [max_of]
        walk_at "rd"
        refine i_ixT (.inl (.inl ht)) (show atI _ 0 = some (.str y) from rfl) ?_
        refine ⟨d, _, rfl, DPut.k (k := Sum.inr y) hd2 (by omega), ?_⟩
        refine ⟨fun b' u e => ?_, rfl, _, upd_same, ?_, hdep2.put y b⟩
        · rw [upd_ne (ne_of_none e hd)]; exact s2 _ _ e
        · have := length_putK kv2 (Sum.inr y : Key) (.int (max b (g2 y))); omega
    · rintro σ H2 ⟨s2, kv2, x3, rfl, hd2, hk2, hdep2⟩
      refine ⟨s2, kv2, _, _, rfl, hd2, by omega, ?_⟩
      rw [← hvl, List.take_length] at hdep2
      exact hdep2
  · rintro σ H' ⟨s1, kvs, x2, x3, rfl, hdk, hkl, hdep⟩
    walk_at "rd"
    rw [← l1, List.take_length] at hdep
    exact q d kvs H' s1 hdk hdep
def LoopAt (CL : Addr) (H : Hp) (x k : Addr) (m : Int) (rs : List Row) : Prop := ∃ (dx d : Addr) (fs : List (Str × V)) (ws : List V) (kvs : List (Key × V)), H x = some (.ins CL dx fs) ∧ fs.lookup (Str.ofString "measure") = some (.int m) ∧ fs.lookup (Str.ofString "kept") = some (.ref k) ∧ fs.lookup (Str.ofString "depths") = some (.ref d) ∧ fs.lookup (Str.ofString "rows") = none ∧ fs.lookup (Str.ofString "deepest") = none ∧
  H k = some (.lst ws) ∧ RowsAt H rs ws ∧ H d = some (.dK kvs) ∧ DepOf kvs (deep rs)
theorem LoopAt.same {CL : Addr} {H H' : Hp} {x k : Addr} {m : Int} {rs : List Row} (s : Same H H') (h : LoopAt CL H x k m rs) : LoopAt CL H' x k m rs := by
  obtain ⟨dx, d, fs, ws, kvs, h1, a, b, c, e, f, h2, h3, h4, h5⟩ := h
  exact ⟨dx, d, fs, ws, kvs, s _ _ h1, a, b, c, e, f, s _ _ h2, h3.same s, s _ _ h4, h5⟩
def spLRows (CL : Addr) : Sp := fun vs H Q _ => ∃ (x k : Addr) (m : Int) (rs : List Row), vs = [.ref x] ∧ LoopAt CL H x k m rs ∧ ∀ p us H2, New H p (.lst us) H2 → RowsAt H2 rs us → Q (.ref p) H2
theorem m_rows (T : Txt K mg C CE) : MethI P w K mg base 1 "rows" ["self"] (fun _ : Unit => CE .Loop) (fun _ => spLRows (CE .Loop)) := by
  refine ⟨fun _ => ⟨T.i_Loop.cl, ?_⟩⟩
  refine T.f_Loop_rows.fn sc_Loop_rows (fun _ _ _ _ _ _ us hl => match us, hl with | [_], _ => rfl) (by rintro vs H Q E ⟨a, k, m, rs, rfl, _⟩; rfl) (fun f cdv A outer s H vs Q E hr h => ?_)
  obtain ⟨x, k, m, rs, rfl, hl, q⟩ := h
  obtain ⟨dx, d, fs, ws, kvs, h1, a, b, c, e, f', h2, h3, h4, h5⟩ := hl
  refine ⟨_, (pss_one (ps_ret (pe_callTy call_listA rfl T.nlist PyProof.Rows.boot_list (pa_cons (pe_fld (pv 0) rfl) pa_nil (se rfl)) (he := se rfl) (hpl := nst rfl)))), ?_⟩
  walk_at "rd"
  refine i_fld ?_
  walk_at "rd"
  refine ⟨x, _, dx, fs, .ref k, rfl, h1, T.i_Loop.cl, T.nK, b, ?_⟩
  walk_at "rd"
  refine i_listAL (sqL_inj_of h2) fun p H2 hN => ?_
  exact q p ws H2 hN (h3.same hN.same)
def spLDeep (CL : Addr) : Sp := fun vs H Q _ => ∃ (x k : Addr) (m : Int) (rs : List Row) (z : Str), vs = [.ref x, .str z] ∧ LoopAt CL H x k m rs ∧ Q (.int (deep rs z)) H
theorem m_deepest (T : Txt K mg C CE) : MethI P w K mg base 1 "deepest" ["self", "name"] (fun _ : Unit => CE .Loop) (fun _ => spLDeep (CE .Loop)) := by
  refine ⟨fun _ => ⟨T.i_Loop.cl, ?_⟩⟩
  refine T.f_Loop_deepest.fn sc_Loop_deepest (fun _ _ _ _ _ _ us hl => match us, hl with | [_, _], _ => rfl) (by rintro vs H Q E ⟨a, k, m, rs, z, rfl, _⟩; rfl) (fun f cdv A outer s H vs Q E hr h => ?_)
  obtain ⟨x, k, m, rs, z, rfl, hl, q⟩ := h
  obtain ⟨dx, d, fs, ws, kvs, h1, a, b, c, e, f', h2, h3, h4, h5⟩ := hl
  refine ⟨_, (pss_one (ps_ret (pe_dget2 (hu_of hr) (pe_fld (pv 0) rfl) (pv 1) pe_int ⟨rfl, rfl, rfl, rfl⟩))), ?_⟩
  walk_at "rd"
  refine i_dget2 ?_
  refine i_fld ?_
  walk_at "rd"
  refine ⟨x, _, dx, fs, .ref d, rfl, h1, T.i_Loop.cl, T.nD, c, ?_⟩
  refine ⟨d, rfl, .inl ⟨kvs, .inl h4⟩, ?_⟩
  walk_at "rd"
  refine ⟨_, DGet.k (k := Sum.inr z) h4, ?_⟩
  rw [h5 z]
  exact q
theorem reads3 {zs : List Str} {rs : List Row} (h : RowsOk zs rs) : ∀ r ∈ rs, r.reads.length ≤ 3 := fun r hr => by
  obtain ⟨i, hi⟩ := List.mem_iff_getElem?.mp hr
  rw [(h.at_ i r hi).many]; exact wants3 _
def spInit (CL : Addr) : Sp := fun vs H Q _ => ∃ (x dx p : Addr) (m : Int) (us : List V) (zs : List Str) (rs : List Row), vs = [.ref x, .int m, .ref p] ∧ H x = some (.ins CL dx []) ∧ 2 ≤ m ∧ m ≤ 10 ^ (60 : Int).toNat ∧ H p = some (.lst us) ∧ RowsAt H rs us ∧ RowsOk zs rs ∧ 1 ≤ rs.length ∧
  ∀ k H2, H k = none → SameB x H H2 → LoopAt CL H2 x k m rs → Q .non H2
theorem mk_loop (T : Txt K mg C CE) (Kb : K.In base) (G : base.Ns mainGlobals mg) : MkI P w K mg base 5 (CE .Loop) ["self", "measure", "rows"] (spInit (CE .Loop)) := by
  have Dcheck_measure : Df P w K mg base 1 "check_measure" ["measure"] spCMeas := d_cmeas T Kb G
  have Dcheck_rows : Df P w K mg base 4 "check_rows" ["rows"] spCRows := d_crows T Kb G
  have Dcopy_of_row : Df P w K mg base 1 "copy_of_row" ["row"] spCopy := d_copy T Kb G
  have Ddepths_of : Df P w K mg base 1 "depths_of" ["rows"] spDepths := d_depths T Kb G
  refine T.i_Loop.mki sc_Loop___init__ (fun _ _ _ _ _ _ us hl => match us, hl with | [_, _, _], _ => rfl) (by rintro vs H Q E ⟨x, dx, p, m, us, zs, rs, rfl, _⟩; rfl) (fun f cdv A outer s H vs Q E hr h => ?_)
  obtain ⟨x, dx, p, m, us, zs, rs, rfl, hx, m2, m60, hp, hu, hok, h1, q⟩ := h
  refine ⟨_, (pss_cons (ps_expr (pe_callD Dcheck_measure (hr.mono (by decide)) rfl (pa_cons (pv 1) pa_nil (se rfl)) (he := se rfl) (hpl := nst rfl)))
    (pss_cons (ps_expr (pe_callD Dcheck_rows (hr.mono (by decide)) rfl (pa_cons (pv 2) pa_nil (se rfl)) (he := se rfl) (hpl := nst rfl)))
    (pss_cons (ps_fld (pv 0) (pv 1) (by with_unfolding_all rfl))
    (pss_cons (ps_fld (pv 0) (pe_lc (Blk.of (caps := []) (ix := []) rfl) rfl (pi_list (pv 2)) (fun _ _ _ _ => pf_nil) (fun _ _ _ _ => (pe_callD Dcopy_of_row (hr.mono (by decide)) rfl (pa_cons (pv 0) pa_nil (se rfl)) (he := se rfl) (hpl := nst rfl)))) (by with_unfolding_all rfl))
    (pss_one (ps_fld (pv 0) (pe_callD Ddepths_of (hr.mono (by decide)) rfl (pa_cons (pe_fld (pv 0) rfl) pa_nil (se rfl)) (he := se rfl) (hpl := nst rfl)) (by with_unfolding_all rfl))))))), ?_⟩
  have l1 := hu.len
  have l2 := hok.len
  have l12 := hok.names.1
  have lb := line_big
  walk_at "rd"
  refine ⟨m, rfl, m2, m60, ?_⟩
  walk_at "rd"
  refine ⟨p, us, zs, rs, rfl, hp, hu, hok, h1, fun H1 s1 => ?_⟩
  clear m60
  walk_at "rd"
  refine i_setFld ?_
  walk_at "rd"
  refine ⟨x, _, dx, [], rfl, s1 _ _ hx, T.i_Loop.cl, T.nM, by show 0 < 1000; decide, ?_⟩
  have b2 : SameB x H (upd H1 x (.ins (CE .Loop) dx (putF (Str.ofString "measure") (.int m) []))) := fun b u n e => by rw [upd_ne n]; exact s1 _ _ e
  have x2 : upd H1 x (.ins (CE .Loop) dx (putF (Str.ofString "measure") (.int m) [])) x = some (.ins (CE .Loop) dx (putF (Str.ofString "measure") (.int m) [])) := upd_same
  have u2 : RowsAt (upd H1 x (.ins (CE .Loop) dx (putF (Str.ofString "measure") (.int m) []))) rs us := (hu.same s1).keep (TK.upd (s1 _ _ hx) (by intro xs z; cases z))
  have hpx : p ≠ x := ne_of hp hx (by intro z; cases z)
  have p2 := b2 p _ hpx hp
  generalize upd H1 x (.ins (CE .Loop) dx (putF (Str.ofString "measure") (.int m) [])) = H2 at *
  walk_at "rd"
  dsimp only
  refine i_setFld ?_
  refine i_lc (i_list ?_)
  walk_at "rd"
  refine lcNL us (fun D i y H' => ∃ r, rs[i]? = some r ∧ RowAt (hide D H') r y) (sqL_inj_of p2) (by omega) (fun D i y H' H'' s' h => ?_) (fun D i v H' R hv hD hy s' r => ?_) (fun k ws H3 hk s3 hk3 hwl hP => ?_)
  · obtain ⟨r, e1, e2⟩ := h
    exact ⟨r, e1, e2.same (hide_sameB s')⟩
  · obtain ⟨ys, hy⟩ := hy
    have hir : i < rs.length := by rw [l1]; exact (List.getElem?_eq_some_iff.mp hv).1
    have hri := List.getElem?_eq_getElem hir
    walk_at "rd"
    refine ⟨v, rs[i], rfl, reads3 hok _ (List.getElem_mem hir), (u2.at_ i rs[i] v hri hv).same s', fun v' H'' s'' hrow => ?_⟩
    exact r v' H'' s'' ⟨rs[i], hri, hrow.hide (s'' _ _ hy)⟩
  have w3 : RowsAt H3 rs ws := ⟨by omega, fun i r u e1 e2 => by
    obtain ⟨r', e3, e4⟩ := hP i u e2
    rw [e1] at e3; cases e3
    exact e4.same (hide_same k H3)⟩
  have x3 := s3 _ _ x2
  have hkx : k ≠ x := fun z => by rw [z, x2] at hk; cases hk
  have hk0 : H k = none := by
    cases e : H k with
    | none => rfl
    | some o => have := b2 k o hkx e; rw [hk] at this; cases this
  walk_at "rd"
  refine ⟨x, _, dx, _, rfl, x3, T.i_Loop.cl, T.nK, (show 1 < 1000 by decide), ?_⟩
  have b4 : SameB x H (upd H3 x (.ins (CE .Loop) dx (putF (Str.ofString "kept") (.ref k) (putF (Str.ofString "measure") (.int m) [])))) := fun b u n e => by rw [upd_ne n]; exact s3 _ _ (b2 b u n e)
  have x4 : upd H3 x (.ins (CE .Loop) dx (putF (Str.ofString "kept") (.ref k) (putF (Str.ofString "measure") (.int m) []))) x = some (.ins (CE .Loop) dx (putF (Str.ofString "kept") (.ref k) (putF (Str.ofString "measure") (.int m) []))) := upd_same
  have w4 : RowsAt (upd H3 x (.ins (CE .Loop) dx (putF (Str.ofString "kept") (.ref k) (putF (Str.ofString "measure") (.int m) [])))) rs ws := w3.keep (TK.upd x3 (by intro xs z; cases z))
  have k4 : upd H3 x (.ins (CE .Loop) dx (putF (Str.ofString "kept") (.ref k) (putF (Str.ofString "measure") (.int m) []))) k = some (.lst ws) := by rw [upd_ne hkx]; exact hk3
  generalize upd H3 x (.ins (CE .Loop) dx (putF (Str.ofString "kept") (.ref k) (putF (Str.ofString "measure") (.int m) []))) = H4 at *
  dsimp only
  refine i_setFld ?_
  walk_at "rd"
  refine i_fld ?_
  walk_at "rd"
  refine ⟨x, _, dx, _, .ref k, rfl, x4, T.i_Loop.cl, T.nK, rfl, ?_⟩
  walk_at "rd"
  refine ⟨k, ws, rs, rfl, k4, w4, by omega, reads3 hok, fun d kvs H5 s5 hd5 hdep => ?_⟩
  walk_at "rd"
  refine ⟨x, _, dx, _, rfl, s5 _ _ x4, T.i_Loop.cl, T.nD, (show 2 < 1000 by decide), ?_⟩
  have x5 := s5 _ _ x4
  refine q k _ hk0 (fun b u n e => by rw [upd_ne n]; exact s5 _ _ (b4 b u n e)) ⟨dx, d, _, ws, kvs, upd_same, rfl, rfl, rfl, rfl, rfl, ?_, (w4.same s5).keep (TK.upd x5 (by intro xs z; cases z)), ?_, hdep⟩
  · rw [upd_ne hkx]; exact s5 _ _ k4
  · rw [upd_ne (ne_of hd5 x5 (by intro z; cases z))]; exact hd5
theorem zz_not {place number i : Nat} {z : Str} (h : NmAt place number i z) : ¬ z = Str.ofString "zzzzzz" := by
  intro e
  have h1 := h.2.2.2
  rw [e] at h1
  have : ∀ c ∈ (Str.ofString "zzzzzz").cps.toList, c = 122 := by decide +kernel
  have := this _ (List.mem_iff_getElem?.mpr ⟨place, h1⟩)
  omega
theorem name_inj {zs : List Str} (h : NamesOk zs) {i j : Nat} {z : Str} (hi : zs[i]? = some z) (hj : zs[j]? = some z) : i = j := by
  rcases Nat.lt_trichotomy i j with l | l | l
  · exact absurd (List.mem_iff_getElem?.mpr ⟨i, by rw [List.getElem?_take_of_lt l]; exact hi⟩) (nd_names h hj)
  · exact l
  · exact absurd (List.mem_iff_getElem?.mpr ⟨j, by rw [List.getElem?_take_of_lt l]; exact hj⟩) (nd_names h hi)
theorem deepR_le (z : Str) (acc : Int) (rd : Rd) : acc ≤ deepR z acc rd := by
  cases rd with
  | num i => exact Int.le_refl _
  | back y b =>
    show acc ≤ if y = z then max acc b else acc
    split <;> omega
theorem foldR_le (z : Str) : ∀ (l : List Rd) (acc : Int), acc ≤ l.foldl (deepR z) acc
  | [], acc => Int.le_refl _
  | rd :: l, acc => Int.le_trans (deepR_le z acc rd) (foldR_le z l _)
theorem foldR_mem {z : Str} {b : Int} : ∀ {l : List Rd} {acc : Int}, Rd.back z b ∈ l → b ≤ l.foldl (deepR z) acc
  | rd :: l, acc, h => by
    rcases List.mem_cons.mp h with e | h
    · refine Int.le_trans ?_ (foldR_le z l _)
      rw [← e]
      show b ≤ if z = z then max acc b else acc
      rw [if_pos rfl]; omega
    · exact foldR_mem (l := l) h
theorem foldRow_le (z : Str) : ∀ (l : List Row) (acc : Int), acc ≤ l.foldl (deepRow z) acc
  | [], acc => Int.le_refl _
  | r :: l, acc => Int.le_trans (foldR_le z r.reads acc) (foldRow_le z l _)
theorem foldRow_mem {z : Str} {b : Int} {r : Row} (hb : Rd.back z b ∈ r.reads) : ∀ {l : List Row} {acc : Int}, r ∈ l → b ≤ l.foldl (deepRow z) acc
  | q :: l, acc, h => by
    rcases List.mem_cons.mp h with e | h
    · refine Int.le_trans ?_ (foldRow_le z l _)
      rw [← e]; exact foldR_mem hb
    · exact foldRow_mem hb (l := l) h
theorem deep_mem {rs : List Row} {z : Str} {b : Int} {r : Row} (hr : r ∈ rs) (hb : Rd.back z b ∈ r.reads) : b ≤ deep rs z := foldRow_mem hb hr
theorem deep_nn (rs : List Row) (z : Str) : 0 ≤ deep rs z := foldRow_le z rs 0
theorem foldR_6 {z : Str} : ∀ {l : List Rd} {acc : Int}, acc ≤ 6 → (∀ rd ∈ l, ∀ y b, rd = Rd.back y b → b ≤ 6) → l.foldl (deepR z) acc ≤ 6
  | [], acc, h, _ => h
  | rd :: l, acc, h, hl => by
    refine foldR_6 (l := l) ?_ fun rd' h' => hl rd' (List.mem_cons_of_mem _ h')
    cases rd with
    | num i => exact h
    | back y b =>
      have := hl _ List.mem_cons_self y b rfl
      show (if y = z then max acc b else acc) ≤ 6
      split <;> omega
theorem foldRow_6 {z : Str} : ∀ {l : List Row} {acc : Int}, acc ≤ 6 → (∀ r ∈ l, ∀ rd ∈ r.reads, ∀ y b, rd = Rd.back y b → b ≤ 6) → l.foldl (deepRow z) acc ≤ 6
  | [], acc, h, _ => h
  | r :: l, acc, h, hl => foldRow_6 (l := l) (foldR_6 h (hl r List.mem_cons_self)) fun r' h' => hl r' (List.mem_cons_of_mem _ h')
theorem deep_6 {zs : List Str} {rs : List Row} (h : RowsOk zs rs) (z : Str) : deep rs z ≤ 6 := by
  refine foldRow_6 (by decide) fun r hr rd hrd y b e => ?_
  obtain ⟨i, hi⟩ := List.mem_iff_getElem?.mp hr
  have := (h.at_ i r hi).reads rd hrd
  rw [e] at this
  obtain ⟨_, _, _, h6, _⟩ := this
  exact h6
abbrev Ls := List (Str × List Int)
abbrev Md := Str → List Int
def look (l : Ls) (z : Str) : List Int := (l.lookup z).getD []
def getR (m : Int) (bl : Ls) (M : Md) (t : Nat) : Rd → Int
  | .num i => i
  | .back z b => if (t : Int) < b then (look bl z).getD (b - t - 1).toNat 0 % m else (M z).getD ((t : Int) - b).toNat 0
def gets (m : Int) (fl bl : Ls) (M : Md) (t : Nat) (r : Row) : List Int := if r.d = .take then [(look fl r.name).getD t 0] else r.reads.map (getR m bl M t)
def stepR (m : Int) (fl bl : Ls) (t : Nat) (M : Md) (r : Row) : Md := fun z => if z = r.name then M z ++ [r.d.of (gets m fl bl M t r) m] else M z
def turnR (m : Int) (fl bl : Ls) (rs : List Row) (M : Md) (t : Nat) : Md := rs.foldl (stepR m fl bl t) M
def runR (m : Int) (fl bl : Ls) (rs : List Row) (n : Nat) : Md := (List.range n).foldl (turnR m fl bl rs) fun _ => []
theorem runR_next (m : Int) (fl bl : Ls) (rs : List Row) (n : Nat) : runR m fl bl rs (n + 1) = turnR m fl bl rs (runR m fl bl rs n) n := by
  unfold runR
  rw [List.range_succ, List.foldl_append]; rfl
def RdGo (bl : Ls) (zs : List Str) (M : Md) (t : Nat) : Rd → Prop
  | .num _ => True
  | .back z b => z ∈ zs ∧ 0 ≤ b ∧ ((t : Int) < b → ∃ l, bl.lookup z = some l ∧ (b - t - 1).toNat < l.length) ∧ (b ≤ (t : Int) → ((t : Int) - b).toNat < (M z).length)
def RowGo (fl bl : Ls) (zs : List Str) (M : Md) (t : Nat) (r : Row) : Prop := (r.d = .take → ∃ l, fl.lookup r.name = some l ∧ t < l.length) ∧ ∀ rd ∈ r.reads, RdGo bl zs M t rd
def FeOk (rs : List Row) (fl : Ls) (n : Nat) : Prop := ∀ r ∈ rs, r.d = .take → ∃ l, fl.lookup r.name = some l ∧ n ≤ l.length
def BeOk (rs : List Row) (bl : Ls) : Prop := ∀ r ∈ rs, 0 < deep rs r.name → ∃ l, bl.lookup r.name = some l ∧ deep rs r.name ≤ l.length
structure Going (zs : List Str) (m : Int) (i t : Nat) (M : Md) : Prop where
  len : ∀ (j : Nat) z, zs[j]? = some z → (M z).length = if j < i then t + 1 else t
  bd : ∀ z x, x ∈ M z → 0 ≤ x ∧ x < m
theorem Going.at {zs : List Str} {m : Int} {i t : Nat} {M : Md} (g : Going zs m i t M) (h0 : 0 < m) (z : Str) (k : Nat) : 0 ≤ (M z).getD k 0 ∧ (M z).getD k 0 < m := by
  rw [List.getD]
  cases hk : (M z)[k]? with
  | none => exact ⟨Int.le_refl _, h0⟩
  | some x => exact g.bd z x (List.mem_of_getElem? hk)
theorem of_b (d : Dk) (ns : List Int) {m : Int} (h : 0 < m) : 0 ≤ d.of ns m ∧ d.of ns m < m := by
  cases d <;> simp only [Dk.of]
  all_goals first
    | exact mod_b _ h
    | (split <;> exact mod_b _ h)
theorem Going.go {zs : List Str} {rs : List Row} {m : Int} {fl bl : Ls} {n i t : Nat} {M : Md} {r : Row} (g : Going zs m i t M) (hok : RowsOk zs rs) (hr : rs[i]? = some r) (hf : FeOk rs fl n) (hb : BeOk rs bl) (ht : t < n) : RowGo fl bl zs M t r := by
  have hm : r ∈ rs := List.mem_iff_getElem?.mpr ⟨i, hr⟩
  refine ⟨fun e => ?_, fun rd hrd => ?_⟩
  · obtain ⟨l, h1, h2⟩ := hf r hm e
    exact ⟨l, h1, by omega⟩
  · have ok := (hok.at_ i r hr).reads rd hrd
    cases rd with
    | num _ => trivial
    | back z b =>
      obtain ⟨j, hj, b0, b6, bk⟩ := ok
      refine ⟨List.mem_iff_getElem?.mpr ⟨j, hj⟩, b0, fun hlt => ?_, fun hle => ?_⟩
      · have hd := deep_mem hm hrd
        have hjl : j < rs.length := by rw [hok.len]; exact (List.getElem?_eq_some_iff.mp hj).1
        have hrj := List.getElem?_eq_getElem hjl
        have hn := (hok.at_ j rs[j] hrj).name
        rw [hj] at hn
        have hn' : z = rs[j].name := Option.some.inj hn
        obtain ⟨l, h1, h2⟩ := hb rs[j] (List.getElem_mem hjl) (by rw [← hn']; omega)
        rw [← hn'] at h1 h2
        exact ⟨l, h1, by omega⟩
      · rw [g.len j z hj]
        by_cases h0 : b = 0
        · rw [if_pos (bk h0)]; omega
        · split <;> omega
theorem Going.step {zs : List Str} {rs : List Row} {m : Int} {fl bl : Ls} {i t : Nat} {M : Md} {r : Row} (g : Going zs m i t M) (hok : RowsOk zs rs) (hr : rs[i]? = some r) (h0 : 0 < m) : Going zs m (i + 1) t (stepR m fl bl t M r) := by
  have hn := (hok.at_ i r hr).name
  refine ⟨fun j z hj => ?_, fun z x hx => ?_⟩
  · show (if z = r.name then M z ++ [r.d.of (gets m fl bl M t r) m] else M z).length = _
    by_cases hz : z = r.name
    · have hji : j = i := name_inj hok.names hj (by rw [hz]; exact hn)
      rw [if_pos hz, List.length_append, g.len j z hj, if_neg (by omega), if_pos (by omega)]; rfl
    · have hji : j ≠ i := fun e => hz (by rw [e, hn] at hj; exact (Option.some.inj hj).symm)
      rw [if_neg hz, g.len j z hj]
      by_cases hlt : j < i
      · rw [if_pos hlt, if_pos (by omega)]
      · rw [if_neg hlt, if_neg (by omega)]
  · have hx' : x ∈ (if z = r.name then M z ++ [r.d.of (gets m fl bl M t r) m] else M z) := hx
    by_cases hz : z = r.name
    · rw [if_pos hz] at hx'
      rcases List.mem_append.mp hx' with h | h
      · exact g.bd z x h
      · rw [show x = r.d.of (gets m fl bl M t r) m by simpa using h]; exact of_b _ _ h0
    · rw [if_neg hz] at hx'; exact g.bd z x hx'
theorem Going.take {zs : List Str} {rs : List Row} {m : Int} {fl bl : Ls} {t : Nat} {M : Md} (g : Going zs m 0 t M) (hok : RowsOk zs rs) (h0 : 0 < m) : ∀ i, i ≤ rs.length → Going zs m i t ((rs.take i).foldl (stepR m fl bl t) M)
  | 0, _ => by simpa using g
  | i + 1, h => by
    have hr := List.getElem?_eq_getElem (show i < rs.length by omega)
    rw [fold_next (stepR m fl bl t) M hr]
    exact (Going.take g hok h0 i (by omega)).step hok hr h0
theorem Going.turn {zs : List Str} {rs : List Row} {m : Int} {fl bl : Ls} {t : Nat} {M : Md} (g : Going zs m 0 t M) (hok : RowsOk zs rs) (h0 : 0 < m) : Going zs m 0 (t + 1) (turnR m fl bl rs M t) := by
  have h := Going.take (fl := fl) (bl := bl) g hok h0 rs.length (Nat.le_refl _)
  rw [List.take_length] at h
  refine ⟨fun j z hj => ?_, h.bd⟩
  have hl : j < rs.length := by rw [hok.len]; exact (List.getElem?_eq_some_iff.mp hj).1
  have := h.len j z hj
  rw [if_pos hl] at this
  rw [if_neg (by omega)]; exact this
theorem Going.run {zs : List Str} {rs : List Row} {m : Int} (fl bl : Ls) (hok : RowsOk zs rs) (h0 : 0 < m) : ∀ n, Going zs m 0 n (runR m fl bl rs n)
  | 0 => ⟨fun j z hj => by rw [if_neg (by omega)]; rfl, fun z x hx => by simp [runR] at hx⟩
  | n + 1 => by rw [runR_next]; exact (Going.run fl bl hok h0 n).turn hok h0
theorem getR_b {zs : List Str} {m : Int} {bl : Ls} {i t : Nat} {M : Md} {k : Nat} {rd : Rd} (g : Going zs m i t M) (h0 : 0 < m) (h60 : m ≤ 10 ^ 60) (ok : RdOk zs k rd) : 0 ≤ getR m bl M t rd ∧ getR m bl M t rd < 10 ^ 60 := by
  cases rd with
  | num v => exact ok
  | back z b =>
    show 0 ≤ (if (t : Int) < b then _ else _) ∧ (if (t : Int) < b then _ else _) < (10 : Int) ^ 60
    split
    · have := mod_b ((look bl z).getD (b - t - 1).toNat 0) h0
      omega
    · have := g.at h0 z ((t : Int) - b).toNat
      omega
theorem gets_b {zs : List Str} {m : Int} {fl bl : Ls} {i t k : Nat} {M : Md} {r : Row} (g : Going zs m i t M) (h0 : 0 < m) (h60 : m ≤ 10 ^ 60) (ok : RowOk zs k r) (hd : r.d ≠ .take) (j : Nat) : 0 ≤ (gets m fl bl M t r).getD j 0 ∧ (gets m fl bl M t r).getD j 0 < 10 ^ 60 := by
  unfold gets
  rw [if_neg hd, List.getD, List.getElem?_map]
  cases hj : r.reads[j]? with
  | none => exact ⟨Int.le_refl _, by show (0 : Int) < 10 ^ 60; decide⟩
  | some rd => exact getR_b g h0 h60 (ok.reads rd (List.mem_of_getElem? hj))
theorem gets_len {zs : List Str} {m : Int} {fl bl : Ls} {t k : Nat} {M : Md} {r : Row} (ok : RowOk zs k r) : r.d.need ≤ (gets m fl bl M t r).length := by
  unfold gets
  by_cases hd : r.d = .take
  · rw [if_pos hd, hd]; exact Nat.le_refl _
  · rw [if_neg hd, List.length_map, ok.many]
    revert hd
    cases r.d <;> intro hd <;> first | exact Nat.le_refl _ | exact absurd rfl hd
def endV (m : Int) (bl : Ls) (M : Md) (n : Nat) (z : Str) (k : Nat) : Int := if n < k + 1 then (look bl z).getD (k - n) 0 % m else (M z).getD (n - 1 - k) 0
def endsOf (m : Int) (bl : Ls) (rs : List Row) (M : Md) (n : Nat) (z : Str) : List Int := (List.range (deep rs z).toNat).map (endV m bl M n z)
def LiAt (H : Hp) (a : Str × List Int) (b : Key × V) : Prop := b.1 = Sum.inr a.1 ∧ ∃ p, b.2 = .ref p ∧ H p = some (.lst (List.map V.int a.2))
def LsAt (H : Hp) (d : Addr) (ls : Ls) : Prop := ∃ kvs, H d = some (.dK kvs) ∧ (ls.map (·.1)).Nodup ∧ Paired (LiAt H) ls kvs
theorem LiAt.same {H H' : Hp} (s : Same H H') {a : Str × List Int} {b : Key × V} (h : LiAt H a b) : LiAt H' a b := by
  obtain ⟨e, p, e2, hp⟩ := h
  exact ⟨e, p, e2, s _ _ hp⟩
theorem LsAt.same {H H' : Hp} {d : Addr} {ls : Ls} (s : Same H H') (h : LsAt H d ls) : LsAt H' d ls := by
  obtain ⟨kvs, e, n, r⟩ := h
  exact ⟨kvs, s _ _ e, n, Paired.mapP r fun a b z => z.same s⟩
theorem paired_none {H : Hp} : ∀ {ls : Ls} {kvs : List (Key × V)}, Paired (LiAt H) ls kvs → ∀ {z : Str}, ls.lookup z = none → valV kvs (Sum.inr z) = none := by
  intro ls kvs h
  induction h with
  | nil => intro z _; exact valV_nil
  | @cons a b l1 l2 h _ ih =>
    intro z e
    obtain ⟨e1, p, ep, hp⟩ := h
    obtain ⟨a1, a2⟩ := a
    rw [List.lookup_cons] at e
    cases hz : z == a1 with
    | true => rw [hz] at e; cases e
    | false =>
      rw [hz] at e
      have hz' : ¬ z = a1 := by simpa using hz
      rw [valV_neg (by rw [e1]; exact fun q => hz' (Sum.inr.inj q).symm)]
      exact ih e
theorem paired_some {H : Hp} : ∀ {ls : Ls} {kvs : List (Key × V)}, Paired (LiAt H) ls kvs → ∀ {z : Str} {l : List Int}, ls.lookup z = some l → ∃ p, valV kvs (Sum.inr z) = some (.ref p) ∧ H p = some (.lst (List.map V.int l)) := by
  intro ls kvs h
  induction h with
  | nil => intro z l e; simp at e
  | @cons a b l1 l2 h _ ih =>
    intro z l e
    obtain ⟨e1, p, ep, hp⟩ := h
    obtain ⟨a1, a2⟩ := a
    rw [List.lookup_cons] at e
    cases hz : z == a1 with
    | true =>
      rw [hz] at e
      have hz' : z = a1 := by simpa using hz
      have e' : a2 = l := Option.some.inj e
      exact ⟨p, by rw [valV_pos (by rw [e1, hz']), ep], by rw [← e']; exact hp⟩
    | false =>
      rw [hz] at e
      have hz' : ¬ z = a1 := by simpa using hz
      obtain ⟨q, h1, h2⟩ := ih e
      exact ⟨q, by rw [valV_neg (by rw [e1]; exact fun q => hz' (Sum.inr.inj q).symm)]; exact h1, h2⟩
theorem LsAt.isD {H : Hp} {d : Addr} {ls : Ls} (h : LsAt H d ls) : IsD H d := by
  obtain ⟨kvs, e, _⟩ := h
  exact .inl ⟨kvs, .inl e⟩
theorem LsAt.get {H : Hp} {d : Addr} {ls : Ls} {z : Str} {l : List Int} (h : LsAt H d ls) (e : ls.lookup z = some l) : ∃ p, DGet H d (.str z) (some (.ref p)) ∧ H p = some (.lst (List.map V.int l)) := by
  obtain ⟨kvs, hd, _, r⟩ := h
  obtain ⟨p, h1, h2⟩ := paired_some r e
  refine ⟨p, ?_, h2⟩
  rw [← h1]; exact DGet.k (k := Sum.inr z) hd
theorem LsAt.getN {H : Hp} {d : Addr} {ls : Ls} {z : Str} (h : LsAt H d ls) (e : ls.lookup z = none) : DGet H d (.str z) none := by
  obtain ⟨kvs, hd, _, r⟩ := h
  rw [← paired_none r e]; exact DGet.k (k := Sum.inr z) hd
theorem look_none : ∀ {ls : Ls} {z : Str}, ¬ z ∈ ls.map (·.1) → ls.lookup z = none
  | [], _, _ => rfl
  | (a, b) :: ls, z, h => by
    have h1 : ¬ z = a := fun e => h (by rw [e]; exact List.mem_cons_self)
    rw [List.lookup_cons, show (z == a) = false by simpa using h1]
    exact look_none fun q => h (List.mem_cons_of_mem _ q)
theorem look_mem : ∀ {ls : Ls} {z : Str}, z ∈ ls.map (·.1) → ∃ l, ls.lookup z = some l ∧ (z, l) ∈ ls
  | [], _, h => by simp at h
  | (a, b) :: ls, z, h => by
    rw [List.lookup_cons]
    cases hz : z == a with
    | true =>
      have hz' : z = a := by simpa using hz
      exact ⟨b, rfl, by rw [hz']; exact List.mem_cons_self⟩
    | false =>
      have hz' : ¬ z = a := by simpa using hz
      have h1 : z ∈ ls.map (·.1) := by
        rcases List.mem_cons.mp (show z ∈ a :: ls.map (·.1) from h) with e | e
        · exact absurd e hz'
        · exact e
      obtain ⟨l, e1, e2⟩ := look_mem h1
      exact ⟨l, e1, List.mem_cons_of_mem _ e2⟩
theorem look_app : ∀ {ls ms : Ls} {z : Str} {l : List Int}, ls.lookup z = some l → (ls ++ ms).lookup z = some l
  | [], _, _, _, h => by simp at h
  | (a, b) :: ls, ms, z, l, h => by
    rw [List.cons_append, List.lookup_cons]
    rw [List.lookup_cons] at h
    cases hz : z == a with
    | true => rw [hz] at h; exact h
    | false => rw [hz] at h; exact look_app h
theorem Paired.len' {α β : Type} {F : α → β → Prop} : ∀ {l : List α} {r : List β}, Paired F l r → l.length = r.length
  | _, _, .nil => rfl
  | _, _, .cons _ t => by rw [List.length_cons, List.length_cons, Paired.len' t]
theorem LsAt.add {H : Hp} {d p : Addr} {ls : Ls} {z : Str} {l : List Int} (h : LsAt H d ls) (hz : ¬ z ∈ ls.map (·.1)) (hp : H p = some (.lst (List.map V.int l))) (hl : ls.length < 1000) :
    ∃ H', DPut H d (.str z) (.ref p) H' ∧ SameB d H H' ∧ LsAt H' d (ls ++ [(z, l)]) := by
  obtain ⟨kvs, hd, n, r⟩ := h
  have hv := paired_none r (look_none hz)
  have lb := line_big
  have hlen := Paired.len' r
  refine ⟨_, DPut.k (k := Sum.inr z) hd (by omega), fun b u nb e => by rw [upd_ne nb]; exact e, kvs ++ [(Sum.inr z, .ref p)], ?_, ?_, ?_⟩
  · rw [upd_same, putK_new (.ref p) hv]
  · rw [List.map_append]; exact nd_snoc n hz
  · have hk : ∀ (q : Addr) (xs : List V), H q = some (.lst xs) → upd H d (.dK (putK kvs (Sum.inr z) (.ref p))) q = some (.lst xs) := fun q xs e => by
      rw [upd_ne (ne_of e hd (by intro z; cases z))]; exact e
    refine Paired.snoc (Paired.mapP r fun a b z => ?_) ⟨rfl, p, rfl, hk _ _ hp⟩
    obtain ⟨e1, q, e2, e3⟩ := z
    exact ⟨e1, q, e2, hk _ _ e3⟩
theorem LsAt.upd {H : Hp} {d b : Addr} {ls : Ls} {o u : HO} (h : LsAt H d ls) (hb : H b = some u) (n1 : ∀ kvs, u ≠ .dK kvs) (n2 : ∀ xs, u ≠ .lst xs) : LsAt (L2.upd H b o) d ls := by
  obtain ⟨kvs, hd, n, r⟩ := h
  refine ⟨kvs, ?_, n, Paired.mapP r fun a c z => ?_⟩
  · rw [upd_ne (ne_of hd hb (fun z => n1 _ z.symm))]; exact hd
  · obtain ⟨e1, q, e2, e3⟩ := z
    exact ⟨e1, q, e2, by rw [upd_ne (ne_of e3 hb (fun z => n2 _ z.symm))]; exact e3⟩
structure MadeAt (H : Hp) (d : Addr) (A : Str → Addr) (zs : List Str) (M : Md) : Prop where
  ex : ∃ kvs, H d = some (.dK kvs) ∧ kvs.length ≤ zs.length ∧ ∀ z ∈ zs, valV kvs (Sum.inr z) = some (.ref (A z))
  at_ : ∀ z ∈ zs, H (A z) = some (.lst (List.map V.int (M z)))
  inj : ∀ y ∈ zs, ∀ z ∈ zs, A y = A z → y = z
theorem MadeAt.same {H H' : Hp} {d : Addr} {A : Str → Addr} {zs : List Str} {M : Md} (s : Same H H') (h : MadeAt H d A zs M) : MadeAt H' d A zs M := by
  obtain ⟨kvs, e, l, v⟩ := h.ex
  exact ⟨⟨kvs, s _ _ e, l, v⟩, fun z hz => s _ _ (h.at_ z hz), h.inj⟩
theorem MadeAt.get {H : Hp} {d : Addr} {A : Str → Addr} {zs : List Str} {M : Md} {z : Str} (h : MadeAt H d A zs M) (hz : z ∈ zs) : DGet H d (.str z) (some (.ref (A z))) := by
  obtain ⟨kvs, e, l, v⟩ := h.ex
  rw [← v z hz]; exact DGet.k (k := Sum.inr z) e
theorem MadeAt.app {H : Hp} {d : Addr} {A : Str → Addr} {zs : List Str} {M M' : Md} {z : Str} {x : Int} (h : MadeAt H d A zs M) (hz : z ∈ zs) (hM : ∀ y, M' y = if y = z then M y ++ [x] else M y) : MadeAt (upd H (A z) (.lst (List.map V.int (M z) ++ [.int x]))) d A zs M' := by
  obtain ⟨kvs, e, l, v⟩ := h.ex
  refine ⟨⟨kvs, by rw [upd_ne (ne_of e (h.at_ z hz) (by intro z; cases z))]; exact e, l, v⟩, fun y hy => ?_, h.inj⟩
  by_cases hyz : y = z
  · subst hyz
    rw [upd_same, hM y, if_pos rfl, List.map_append]; rfl
  · rw [upd_ne (fun q => hyz (h.inj y hy z hz q)), hM y, if_neg hyz]; exact h.at_ y hy
theorem MadeAt.grow {H H1 : Hp} {d p : Addr} {A : Str → Addr} {zs : List Str} {i : Nat} {z : Str} (h : MadeAt H d A (zs.take i) fun _ => []) (hz : zs[i]? = some z) (nz : ¬ z ∈ zs.take i) (hl : zs.length ≤ 12) (hN : New H p (.lst []) H1) :
    ∃ H', DPut H1 d (.str z) (.ref p) H' ∧ SameB d H H' ∧ MadeAt H' d (fun y => if y = z then p else A y) (zs.take (i + 1)) fun _ => [] := by
  obtain ⟨kvs, e, l, v⟩ := h.ex
  have lb := line_big
  have hi : i < zs.length := (List.getElem?_eq_some_iff.mp hz).1
  rw [List.length_take] at l
  have e1 := hN.same _ _ e
  have hdp : d ≠ p := ne_of_none e hN.free
  have ht : zs.take (i + 1) = zs.take i ++ [z] := by rw [List.take_add_one, hz]; rfl
  refine ⟨_, DPut.k (k := Sum.inr z) e1 (by omega), fun b u nb q => by rw [upd_ne nb]; exact hN.same _ _ q, ⟨⟨_, upd_same, ?_, fun y hy => ?_⟩, fun y hy => ?_, fun y hy w hw q => ?_⟩⟩
  · have := length_putK kvs (Sum.inr z : Key) (.ref p)
    rw [List.length_take]; omega
  · rw [valV_put]
    by_cases hyz : y = z
    · rw [if_pos (by rw [hyz]), if_pos hyz]
    · rw [if_neg (fun q => hyz (Sum.inr.inj q)), if_neg hyz]
      refine v y ?_
      rw [ht] at hy
      rcases List.mem_append.mp hy with q | q
      · exact q
      · exact absurd (by simpa using q) hyz
  · by_cases hyz : y = z
    · rw [if_pos hyz, upd_ne (Ne.symm hdp)]; exact hN.at
    · rw [if_neg hyz]
      have hy' : y ∈ zs.take i := by
        rw [ht] at hy
        rcases List.mem_append.mp hy with q | q
        · exact q
        · exact absurd (by simpa using q) hyz
      have := hN.same _ _ (h.at_ y hy')
      rw [upd_ne (ne_of this e1 (by intro z; cases z))]; exact this
  · have hmem : ∀ y ∈ zs.take (i + 1), ¬ y = z → y ∈ zs.take i := fun y hy n => by
      rw [ht] at hy
      rcases List.mem_append.mp hy with q | q
      · exact q
      · exact absurd (by simpa using q) n
    by_cases hyz : y = z
    · by_cases hwz : w = z
      · rw [hyz, hwz]
      · rw [if_pos hyz, if_neg hwz] at q
        have := h.at_ w (hmem w hw hwz)
        rw [← q, hN.free] at this; cases this
    · by_cases hwz : w = z
      · rw [if_neg hyz, if_pos hwz] at q
        have := h.at_ y (hmem y hy hyz)
        rw [q, hN.free] at this; cases this
      · rw [if_neg hyz, if_neg hwz] at q
        exact h.inj y (hmem y hy hyz) w (hmem w hw hwz) q
def PrAt1 (S : Addr → Prop) (H : Hp) (a : Str × List Int) (u : V) : Prop := ∃ t p, u = .ref t ∧ H t = some (.tup [.str a.1, .ref p]) ∧ H p = some (.lst (List.map V.int a.2)) ∧ S p
structure PrAt (S : Addr → Prop) (H : Hp) (ps : Ls) (us : List V) : Prop where
  len : ps.length = us.length
  at_ : ∀ (i : Nat) a u, ps[i]? = some a → us[i]? = some u → PrAt1 S H a u
theorem PrAt.same {S : Addr → Prop} {H H' : Hp} {ps : Ls} {us : List V} (s : Same H H') (h : PrAt S H ps us) : PrAt S H' ps us := ⟨h.len, fun i a u e1 e2 => by
  obtain ⟨t, p, e, h1, h2, h3⟩ := h.at_ i a u e1 e2
  exact ⟨t, p, e, s _ _ h1, s _ _ h2, h3⟩⟩
theorem PrAt.mono {S S' : Addr → Prop} {H : Hp} {ps : Ls} {us : List V} (s : ∀ p, S p → S' p) (h : PrAt S H ps us) : PrAt S' H ps us := ⟨h.len, fun i a u e1 e2 => by
  obtain ⟨t, p, e, h1, h2, h3⟩ := h.at_ i a u e1 e2
  exact ⟨t, p, e, h1, h2, s p h3⟩⟩
theorem cut_ints (ns : List Int) (a b : Option Int) : ∃ ks : List Int, cutV (List.map V.int ns) a b = List.map V.int ks := by
  unfold cutV
  rw [List.length_map]
  exact ⟨_, by rw [← List.map_drop, ← List.map_take]⟩
def spGiven (K : PySem.W.Frag) : Sp := fun vs H Q _ => ∃ (a : Addr) (ns : List Int) (at' most : Nat), vs = [.ref a, .int (at' : Int), .int (most : Int)] ∧ SqL K H a (ns.map V.int) ∧ at' ≤ 100 ∧ most ≤ 400 ∧
  ∀ p H2 (l : List Int), Same H H2 → H p = none → H2 p = some (.lst (List.map V.int l)) → l.length = most → Q (.ref p) H2
theorem d_given (T : Txt K mg C CE) (Kb : K.In base) (G : base.Ns mainGlobals mg) : Df P w K mg base 1 "_law_given" ["_law_script", "_law_at", "_law_most"] (spGiven K) := by
  refine T.f_given.df Kb G sc_law_given (fun _ _ _ _ _ _ us hl => match us, hl with | [_, _, _], _ => rfl) (by rintro vs H Q E ⟨a, ns, at', most, rfl, _⟩; rfl) (fun f cdv A outer s H vs Q E hr h => ?_)
  obtain ⟨a, ns, at', most, rfl, hS, hat, hmo, q⟩ := h
  refine ⟨_, (pss_cons (ps_set (i := 3) sc_law_given.nd rfl (by first | exact Or.inl rfl | exact Or.inr rfl) (pe_lstA pa_nil))
    (pss_cons (ps_for PassesOwn.never rfl (pi_enum rfl T.nenumerate (pa_cons (pe_slice sl_listA (pv 0) (po_some (pv 1)) (po_some pe_int)) pa_nil (se rfl))) (pg_tup rfl (pgs_cons (pg_name (i := 4) sc_law_given.nd rfl (Or.inl rfl)) (pgs_cons (pg_name (i := 5) sc_law_given.nd rfl (Or.inl rfl)) pgs_nil)))
      (pss_cons (ps_set (i := 6) sc_law_given.nd rfl (by first | exact Or.inl rfl | exact Or.inr rfl) (pe_op op_mod (pv 5) (pe_op op_pow pe_int pe_int)))
    (pss_cons (ps_join (ps_if (pt_cmpR op_eq (pe_op op_mod (pe_op op_fdiv (pv 5) pe_int) pe_int) pe_int (nomark _)) (pss_one (ps_set (i := 6) sc_law_given.nd rfl (by first | exact Or.inl rfl | exact Or.inr rfl) (pe_un un_neg (pv 6)))) pss_nil))
    (pss_one (ps_if (pt_cmpR op_lt (pe_callB call_len_seq rfl T.nlen PySem.boot_len (pa_cons (pv 3) pa_nil (se rfl)) (he := se rfl) (hpl := nst rfl)) (pv 2) (nomark _)) (pss_one (ps_expr (pe_bm PySem.F.plainAttrs_list PySem.F.slot_list_append PySem.F.type_list_append mt_append (pv 3) (pa_cons (pv 6) pa_nil (se rfl)) (hs := se rfl) (hplain := nst rfl)))) pss_nil)))))
    (pss_cons (ps_for PassesOwn.never rfl (pi_range2 rfl T.nrange (pa_cons (pe_callB call_len_seq rfl T.nlen PySem.boot_len (pa_cons (pv 3) pa_nil (se rfl)) (he := se rfl) (hpl := nst rfl)) (pa_cons (pv 2) pa_nil (se rfl)) (se rfl))) (pg_name (i := 4) sc_law_given.nd rfl (Or.inl rfl))
      (pss_one (ps_expr (pe_bm PySem.F.plainAttrs_list PySem.F.slot_list_append PySem.F.type_list_append mt_append (pv 3) (pa_cons (pe_op op_add (pe_op op_mulO (pv 4) (pv 1)) (pv 2)) pa_nil (se rfl)) (hs := se rfl) (hplain := nst rfl)))))
    (pss_one (ps_ret (pv 3)))))), ?_⟩
  have lb := line_big
  walk_at "rd"
  refine ⟨by show 0 ≤ sizeLine; exact Nat.zero_le _, fun D H1 hN1 => ?_⟩
  walk_at "rd"
  refine i_for (i_enumI ?_)
  walk_at "rd"
  refine i_slLA (hN1.same.seq hS) fun sp H2 hN2 => ?_
  walk_at "rd"
  obtain ⟨ks, hks⟩ := cut_ints ns (some (at' : Int)) (some 63)
  rw [hks] at hN2
  have hDn : H D = none := hN1.free
  have hDsp : D ≠ sp := ne_of_none hN1.at hN2.free
  refine ⟨sp, rfl, ⟨_, hN2.lst⟩, ?_⟩
  refine for_enum (xs := List.map V.int ks) (fun i σ H' => Same H H' ∧ H' sp = some (.lst (List.map V.int ks)) ∧ ∃ (l : List Int) (x4 x5 x6 : Option V), σ = [some (.ref a), some (.int (at' : Int)), some (.int (most : Int)), some (.ref D), x4, x5, x6] ∧ H' D = some (.lst (List.map V.int l)) ∧ l.length ≤ most)
    ⟨hN1.same.trans hN2.same, hN2.at, [], none, none, none, rfl, hN2.same _ _ hN1.at, Nat.zero_le _⟩ (fun i σ H' _ h => sqL_inj_of h.2.1) ?_ ?_
  · rintro i u t σ H3 H4 hui ⟨s3, hsp, l, x4, x5, x6, rfl, hD, hll⟩ hN4
    rw [List.getElem?_map] at hui
    obtain ⟨c, hci, rfl⟩ : ∃ c, ks[i]? = some c ∧ V.int c = u := by
      cases hci : ks[i]? with
      | none => rw [hci] at hui; cases hui
      | some c => rw [hci] at hui; exact ⟨c, rfl, Option.some.inj hui⟩
    refine i_gtup hN4.tup rfl ?_
    walk_at "rd"
    refine i_join (fun σ' H' => H' = H4 ∧ ∃ v : Int, σ' = [some (.ref a), some (.int (at' : Int)), some (.int (most : Int)), some (.ref D), some (.int (i : Int)), some (.int c), some (.int v)]) ?_ ?_
    · walk_at "rd"
      refine i_iteI (fun _ => ?_) (fun _ => ?_)
      · walk_at "rd"
        exact ⟨rfl, _, rfl⟩
      · walk_at "rd"
        exact ⟨rfl, _, rfl⟩
    rintro σ' H' ⟨rfl, v, rfl⟩
    have hD4 := hN4.same _ _ hD
    have hsp4 := hN4.same _ _ hsp
    have s4 := s3.trans hN4.same
    walk_at "rd"
    refine ⟨_, _, rfl, .inl (sqL_inj_of hD4), ?_⟩
    walk_at "rd"
    refine i_iteD (fun hlt => ?_) (fun hlt => ?_)
    · walk_at "rd"
      refine ⟨.inl ⟨rfl, _, sqL_inj_of hD4⟩, ?_⟩
      walk_at "rd"
      rw [List.length_map] at hlt
      refine i_append hD4 (by rw [List.length_map]; omega) ?_
      refine ⟨fun b o e => ?_, ?_, l ++ [v], _, _, _, rfl, by rw [upd_same, List.map_append]; rfl, by rw [List.length_append, List.length_singleton]; omega⟩
      · rw [upd_ne (ne_of_none e hDn)]; exact s4 _ _ e
      · rw [upd_ne (Ne.symm hDsp)]; exact hsp4
    · walk_at "rd"
      exact ⟨s4, hsp4, l, _, _, _, rfl, hD4, hll⟩
  · rintro σ H3 ⟨s3, hsp, l, x4, x5, x6, rfl, hD, hll⟩
    dsimp only
    refine i_for (i_rng2 ?_)
    walk_at "rd"
    refine ⟨_, _, rfl, .inl (sqL_inj_of hD), ?_⟩
    walk_at "rd"
    rw [List.length_map]
    refine ⟨_, _, rfl, ⟨by omega, by omega, by omega, by omega⟩, ?_⟩
    refine for_range (lo := (l.length : Int)) (n := ((most : Int) - (l.length : Int)).toNat) (fun i σ H' => Same H H' ∧ ∃ (l' : List Int) (x4 x5 x6 : Option V), σ = [some (.ref a), some (.int (at' : Int)), some (.int (most : Int)), some (.ref D), x4, x5, x6] ∧ H' D = some (.lst (List.map V.int l')) ∧ l'.length = l.length + i)
      ⟨s3, l, _, _, _, rfl, hD, rfl⟩ ?_ ?_
    · rintro i σ H4 hi ⟨s4, l', y4, y5, y6, rfl, hD4, hl'⟩
      walk_at "rd"
      refine ⟨.inl ⟨rfl, _, sqL_inj_of hD4⟩, ?_⟩
      walk_at "rd"
      refine i_mul (ok_of 64 64 (by omega) (by omega) (by omega) (by omega) (by decide)) ?_
      walk_at "rd"
      refine i_append hD4 (by rw [List.length_map]; omega) ?_
      refine ⟨fun b o e => ?_, l' ++ [_], _, _, _, rfl, by rw [upd_same, List.map_append]; rfl, by rw [List.length_append, List.length_singleton]; omega⟩
      rw [upd_ne (ne_of_none e hDn)]; exact s4 _ _ e
    · rintro σ H4 ⟨s4, l', y4, y5, y6, rfl, hD4, hl'⟩
      walk_at "rd"
      exact q D H4 l' s4 hDn hD4 (by omega)
theorem word_ne {d e : Dk} (h : ¬ d = e) : ¬ d.word = e.word := by
  revert h
  cases d <;> cases e <;> intro h <;> first | exact absurd rfl h | decide +kernel
theorem nm_not {zs : List Str} {rs : List Row} (h : RowsOk zs rs) {i : Nat} {r : Row} (hr : rs[i]? = some r) (q : Row → Bool) : ¬ r.name ∈ ((rs.take i).filter q).map (·.name) := fun hm => by
  obtain ⟨r', hr', e⟩ := List.mem_map.mp hm
  obtain ⟨j, hj⟩ := List.mem_iff_getElem?.mp (List.mem_filter.mp hr').1
  have hji : j < i := by
    have := (List.getElem?_eq_some_iff.mp hj).1
    rw [List.length_take] at this; omega
  rw [List.getElem?_take_of_lt hji] at hj
  have h1 := (h.at_ j r' hj).name
  have h2 := (h.at_ i r hr).name
  rw [e] at h1
  have := name_inj h.names h1 h2
  omega
theorem filt_next {rs : List Row} {i : Nat} {r : Row} (hr : rs[i]? = some r) (q : Row → Bool) : ((rs.take (i + 1)).filter q).map (·.name) = ((rs.take i).filter q).map (·.name) ++ if q r = true then [r.name] else [] := by
  rw [List.take_add_one, hr, Option.toList_some, List.filter_append, List.map_append]
  cases hq : q r <;> simp [hq]
structure FedAt (H : Hp) (d : Addr) (rs : List Row) (q : Row → Bool) (n : Str → Int) (ls : Ls) : Prop where
  at_ : LsAt H d ls
  keys : ls.map (·.1) = (rs.filter q).map (·.name)
  lens : ∀ a ∈ ls, n a.1 ≤ (a.2.length : Int)
theorem FedAt.same {H H' : Hp} {d : Addr} {rs : List Row} {q : Row → Bool} {n : Str → Int} {ls : Ls} (s : Same H H') (h : FedAt H d rs q n ls) : FedAt H' d rs q n ls := ⟨h.at_.same s, h.keys, h.lens⟩
theorem FedAt.len {H : Hp} {d : Addr} {rs : List Row} {q : Row → Bool} {n : Str → Int} {ls : Ls} (h : FedAt H d rs q n ls) : ls.length ≤ rs.length := by
  have e : (ls.map (·.1)).length = ((rs.filter q).map (·.name)).length := by rw [h.keys]
  rw [List.length_map, List.length_map] at e
  have := List.length_filter_le q rs
  omega
theorem FedAt.next {H H3 : Hp} {d p : Addr} {rs : List Row} {q : Row → Bool} {n : Str → Int} {ls : Ls} {zs : List Str} {i : Nat} {r : Row} {l : List Int} (h : FedAt H d (rs.take i) q n ls) (s : Same H H3) (hok : RowsOk zs rs) (hr : rs[i]? = some r) (hq : q r = true)
    (hp : H3 p = some (.lst (List.map V.int l))) (hl : n r.name ≤ (l.length : Int)) : ∃ H', DPut H3 d (.str r.name) (.ref p) H' ∧ SameB d H3 H' ∧ FedAt H' d (rs.take (i + 1)) q n (ls ++ [(r.name, l)]) := by
  have hlen := h.len
  have h12 := hok.names.1
  have hrl := hok.len
  rw [List.length_take] at hlen
  obtain ⟨H', a, b, c⟩ := (h.at_.same s).add (z := r.name) (p := p) (l := l) (by rw [h.keys]; exact nm_not hok hr q) hp (by omega)
  refine ⟨H', a, b, c, ?_, fun x hx => ?_⟩
  · rw [List.map_append, h.keys, filt_next hr q, if_pos hq]; rfl
  · rcases List.mem_append.mp hx with z | z
    · exact h.lens x z
    · rw [show x = (r.name, l) by simpa using z]; exact hl
theorem FedAt.skip {H : Hp} {d : Addr} {rs : List Row} {q : Row → Bool} {n : Str → Int} {ls : Ls} {i : Nat} {r : Row} (h : FedAt H d (rs.take i) q n ls) (hr : rs[i]? = some r) (hq : q r = false) : FedAt H d (rs.take (i + 1)) q n ls :=
  ⟨h.at_, by rw [h.keys, filt_next hr q, hq]; simp, h.lens⟩
theorem FedAt.look {H : Hp} {d : Addr} {rs : List Row} {q : Row → Bool} {n : Str → Int} {ls : Ls} (h : FedAt H d rs q n ls) {r : Row} (hr : r ∈ rs) (hq : q r = true) : ∃ l, ls.lookup r.name = some l ∧ n r.name ≤ (l.length : Int) := by
  obtain ⟨l, e1, e2⟩ := look_mem (ls := ls) (z := r.name) (by rw [h.keys]; exact List.mem_map.mpr ⟨r, List.mem_filter.mpr ⟨hr, hq⟩, rfl⟩)
  exact ⟨l, e1, h.lens _ e2⟩
def isTake (r : Row) : Bool := decide (r.d = .take)
def isDeep (rs : List Row) (r : Row) : Bool := decide (0 < deep rs r.name)
def spFeeds (K : PySem.W.Frag) : Sp := fun vs H Q _ => ∃ (a p : Addr) (ns : List Int) (us : List V) (zs : List Str) (rs : List Row) (n : Nat), vs = [.ref a, .ref p, .int (n : Int)] ∧ SqL K H a (ns.map V.int) ∧ H p = some (.lst us) ∧ RowsAt H rs us ∧ RowsOk zs rs ∧ n ≤ 300 ∧
  ∀ d H2 (ls : Ls), Same H H2 → H d = none → FedAt H2 d rs isTake (fun _ => (n : Int)) ls → Q (.ref d) H2
theorem d_feeds (T : Txt K mg C CE) (Kb : K.In base) (G : base.Ns mainGlobals mg) : Df P w K mg base 2 "_law_feeds" ["_law_script", "_law_rows_here", "_law_turns"] (spFeeds K) := by
  have D_law_given : Df P w K mg base 1 "_law_given" ["_law_script", "_law_at", "_law_most"] (spGiven K) := d_given T Kb G
  refine T.f_feeds.df Kb G sc_law_feeds (fun _ _ _ _ _ _ us hl => match us, hl with | [_, _, _], _ => rfl) (by rintro vs H Q E ⟨a, p, ns, us, zs, rs, n, rfl, _⟩; rfl) (fun f cdv A outer s H vs Q E hr h => ?_)
  obtain ⟨a, p, ns, us, zs, rs, n, rfl, hS, hp, hu, hok, hn, q⟩ := h
  refine ⟨_, (pss_cons (ps_set (i := 3) sc_law_feeds.nd rfl (by first | exact Or.inl rfl | exact Or.inr rfl) pe_dnewK)
    (pss_cons (ps_for PassesOwn.never rfl (pi_range1 rfl T.nrange (pa_cons (pe_callB call_len_seq rfl T.nlen PySem.boot_len (pa_cons (pv 1) pa_nil (se rfl)) (he := se rfl) (hpl := nst rfl)) pa_nil (se rfl))) (pg_name (i := 4) sc_law_feeds.nd rfl (Or.inl rfl))
      (pss_one (ps_if (pt_cmpR op_eq (pe_ix ix_seq (pe_ix ix_seq (pv 1) (pv 4) (fun _ _ => rfl)) pe_int (fun _ _ => rfl)) pe_str (nomark _)) (pss_one (ps_dput (hu_of hr) (pv 3) (pe_ix ix_seq (pe_ix ix_seq (pv 1) (pv 4) (fun _ _ => rfl)) pe_int (fun _ _ => rfl)) (pe_callD D_law_given (hr.mono (by decide)) rfl (pa_cons (pv 0) (pa_cons (pv 4) (pa_cons (pe_op op_add (pv 2) (pe_op op_mod (pv 4) pe_int)) pa_nil (se rfl)) (se rfl)) (se rfl)) (he := se rfl) (hpl := nst rfl)) rfl)) pss_nil)))
    (pss_one (ps_ret (pv 3))))), ?_⟩
  have l1 := hu.len
  have l2 := hok.len
  have l12 := hok.names.1
  walk_at "rd"
  refine i_dnew fun d hd => ?_
  have hs0 : Same H (upd H d (.dK [])) := Same.new hd
  have hd0 : upd H d (.dK []) d = some (.dK []) := upd_same
  generalize upd H d (.dK []) = H0 at *
  walk_at "rd"
  dsimp only
  refine i_for (i_rng1 ?_)
  walk_at "rd"
  refine ⟨_, _, rfl, .inl (sqL_inj_of (hs0 _ _ hp)), ?_⟩
  refine ⟨_, rfl, by omega, by omega, ?_⟩
  rw [Int.toNat_natCast]
  refine for_range (lo := 0) (n := us.length) (fun i σ H' => Same H H' ∧ ∃ (ls : Ls) (x4 : Option V), σ = [some (.ref a), some (.ref p), some (.int (n : Int)), some (.ref d), x4] ∧ FedAt H' d (rs.take i) isTake (fun _ => (n : Int)) ls)
    ⟨hs0, [], none, rfl, ⟨[], hd0, List.nodup_nil, .nil⟩, rfl, fun a h => by simp at h⟩ ?_ ?_
  · rintro i σ H' hi ⟨s1, ls, x4, rfl, hF⟩
    have e0 : (0 : Int) + (i : Int) = (i : Int) := Int.zero_add _
    rw [e0]
    have hir : i < rs.length := by omega
    have hri := List.getElem?_eq_getElem hir
    have hui := List.getElem?_eq_getElem hi
    have a1 := at_v hi
    have r1 := (hu.at_ i rs[i] us[i] hri hui).same s1
    generalize rs[i] = rw at *
    generalize us[i] = u at *
    obtain ⟨p1, p2, vs, rfl, h1, h2, h3⟩ := r1
    walk_at "rd"
    refine i_ixL (sqL_inj_of (s1 _ _ hp)) a1 ?_
    walk_at "rd"
    refine i_ixT (.inl (.inl h1)) (show atI _ 1 = some (.str rw.d.word) from rfl) ?_
    walk_at "rd"
    by_cases ht : rw.d = .take
    · refine i_iteSe (by rw [ht]; rfl) ?_
      walk_at "rd"
      refine i_dput ?_
      walk_at "rd"
      refine ⟨a, ns, i, n + i % 2, rfl, s1.seq hS, by omega, by omega, fun lp H3 l s3 hfr hlp hll => ?_⟩
      walk_at "rd"
      refine i_ixL (sqL_inj_of (s3 _ _ (s1 _ _ hp))) a1 ?_
      walk_at "rd"
      refine i_ixT (.inl (.inl (s3 _ _ h1))) (show atI _ 0 = some (.str rw.name) from rfl) ?_
      obtain ⟨H4, hput, sb, hF4⟩ := hF.next s3 hok hri (show isTake rw = true from decide_eq_true ht) hlp (show (n : Int) ≤ (l.length : Int) by omega)
      refine ⟨d, H4, rfl, hput, fun b o e => ?_, _, _, rfl, hF4⟩
      exact sb b o (ne_of_none e hd) (s3 _ _ (s1 _ _ e))
    · refine i_iteSf (word_ne (e := .take) ht) ?_
      walk_at "rd"
      exact ⟨s1, ls, _, rfl, hF.skip hri (decide_eq_false ht)⟩
  · rintro σ H' ⟨s1, ls, x4, rfl, hF⟩
    walk_at "rd"
    rw [← l1, List.take_length] at hF
    exact q d H' ls s1 hd hF
def spBegin (K : PySem.W.Frag) : Sp := fun vs H Q _ => ∃ (a p : Addr) (ns : List Int) (us : List V) (zs : List Str) (rs : List Row), vs = [.ref a, .ref p] ∧ SqL K H a (ns.map V.int) ∧ H p = some (.lst us) ∧ RowsAt H rs us ∧ RowsOk zs rs ∧
  ∀ d H2 (ls : Ls), Same H H2 → H d = none → FedAt H2 d rs (isDeep rs) (deep rs) ls → Q (.ref d) H2
theorem d_begin (T : Txt K mg C CE) (Kb : K.In base) (G : base.Ns mainGlobals mg) : Df P w K mg base 2 "_law_begin" ["_law_script", "_law_rows_here"] (spBegin K) := by
  have D_law_given : Df P w K mg base 1 "_law_given" ["_law_script", "_law_at", "_law_most"] (spGiven K) := d_given T Kb G
  have D_law_deepest : Df P w K mg base 1 "_law_deepest" ["_law_rows_here", "_law_name"] spDeepest := d_deepest T Kb G
  refine T.f_begin.df Kb G sc_law_begin (fun _ _ _ _ _ _ us hl => match us, hl with | [_, _], _ => rfl) (by rintro vs H Q E ⟨a, p, ns, us, zs, rs, rfl, _⟩; rfl) (fun f cdv A outer s H vs Q E hr h => ?_)
  obtain ⟨a, p, ns, us, zs, rs, rfl, hS, hp, hu, hok, q⟩ := h
  refine ⟨_, (pss_cons (ps_set (i := 2) sc_law_begin.nd rfl (by first | exact Or.inl rfl | exact Or.inr rfl) pe_dnewK)
    (pss_cons (ps_for PassesOwn.never rfl (pi_range1 rfl T.nrange (pa_cons (pe_callB call_len_seq rfl T.nlen PySem.boot_len (pa_cons (pv 1) pa_nil (se rfl)) (he := se rfl) (hpl := nst rfl)) pa_nil (se rfl))) (pg_name (i := 3) sc_law_begin.nd rfl (Or.inl rfl))
      (pss_cons (ps_set (i := 4) sc_law_begin.nd rfl (by first | exact Or.inl rfl | exact Or.inr rfl) (pe_callD D_law_deepest (hr.mono (by decide)) rfl (pa_cons (pv 1) (pa_cons (pe_ix ix_seq (pe_ix ix_seq (pv 1) (pv 3) (fun _ _ => rfl)) pe_int (fun _ _ => rfl)) pa_nil (se rfl)) (se rfl)) (he := se rfl) (hpl := nst rfl)))
    (pss_one (ps_if (pt_cmpR op_gt (pv 4) pe_int (nomark _)) (pss_one (ps_dput (hu_of hr) (pv 2) (pe_ix ix_seq (pe_ix ix_seq (pv 1) (pv 3) (fun _ _ => rfl)) pe_int (fun _ _ => rfl)) (pe_callD D_law_given (hr.mono (by decide)) rfl (pa_cons (pv 0) (pa_cons (pe_op op_add (pe_op op_mulO pe_int (pv 3)) pe_int) (pa_cons (pe_op op_add (pv 4) (pe_op op_mod (pv 3) pe_int)) pa_nil (se rfl)) (se rfl)) (se rfl)) (he := se rfl) (hpl := nst rfl)) rfl)) pss_nil))))
    (pss_one (ps_ret (pv 2))))), ?_⟩
  have l1 := hu.len
  have l2 := hok.len
  have l12 := hok.names.1
  walk_at "rd"
  refine i_dnew fun d hd => ?_
  have hs0 : Same H (upd H d (.dK [])) := Same.new hd
  have hd0 : upd H d (.dK []) d = some (.dK []) := upd_same
  generalize upd H d (.dK []) = H0 at *
  walk_at "rd"
  dsimp only
  refine i_for (i_rng1 ?_)
  walk_at "rd"
  refine ⟨_, _, rfl, .inl (sqL_inj_of (hs0 _ _ hp)), ?_⟩
  refine ⟨_, rfl, by omega, by omega, ?_⟩
  rw [Int.toNat_natCast]
  refine for_range (lo := 0) (n := us.length) (fun i σ H' => Same H H' ∧ ∃ (ls : Ls) (x3 x4 : Option V), σ = [some (.ref a), some (.ref p), some (.ref d), x3, x4] ∧ FedAt H' d (rs.take i) (isDeep rs) (deep rs) ls)
    ⟨hs0, [], none, none, rfl, ⟨[], hd0, List.nodup_nil, .nil⟩, rfl, fun a h => by simp at h⟩ ?_ ?_
  · rintro i σ H' hi ⟨s1, ls, x3, x4, rfl, hF⟩
    have e0 : (0 : Int) + (i : Int) = (i : Int) := Int.zero_add _
    rw [e0]
    have hir : i < rs.length := by omega
    have hri := List.getElem?_eq_getElem hir
    have hui := List.getElem?_eq_getElem hi
    have a1 := at_v hi
    have r1 := (hu.at_ i rs[i] us[i] hri hui).same s1
    generalize rs[i] = rw at *
    generalize us[i] = u at *
    obtain ⟨p1, p2, vs, rfl, h1, h2, h3⟩ := r1
    walk_at "rd"
    refine i_ixL (sqL_inj_of (s1 _ _ hp)) a1 ?_
    walk_at "rd"
    refine i_ixT (.inl (.inl h1)) (show atI _ 0 = some (.str rw.name) from rfl) ?_
    walk_at "rd"
    refine ⟨p, us, rs, rw.name, rfl, s1 _ _ hp, hu.same s1, ?_⟩
    obtain ⟨dn, hdn⟩ := Int.eq_ofNat_of_zero_le (deep_nn rs rw.name)
    have hd6 := deep_6 hok rw.name
    walk_at "rd"
    refine i_iteD (fun hlt => ?_) (fun hlt => ?_)
    · walk_at "rd"
      refine i_dput ?_
      walk_at "rd"
      refine i_mul (IntMulOk.of_left (by decide)) ?_
      walk_at "rd"
      refine ⟨a, ns, 3 * i + 1, dn + i % 3, by rw [hdn]; rfl, s1.seq hS, by omega, by omega, fun lp H3 l s3 hfr hlp hll => ?_⟩
      walk_at "rd"
      refine i_ixL (sqL_inj_of (s3 _ _ (s1 _ _ hp))) a1 ?_
      walk_at "rd"
      refine i_ixT (.inl (.inl (s3 _ _ h1))) (show atI _ 0 = some (.str rw.name) from rfl) ?_
      obtain ⟨H4, hput, sb, hF4⟩ := hF.next s3 hok hri (show isDeep rs rw = true from decide_eq_true hlt) hlp (show deep rs rw.name ≤ (l.length : Int) by omega)
      refine ⟨d, H4, rfl, hput, fun b o e => ?_, _, _, _, rfl, hF4⟩
      exact sb b o (ne_of_none e hd) (s3 _ _ (s1 _ _ e))
    · walk_at "rd"
      exact ⟨s1, ls, _, _, rfl, hF.skip hri (decide_eq_false hlt)⟩
  · rintro σ H' ⟨s1, ls, x3, x4, rfl, hF⟩
    walk_at "rd"
    rw [← l1, List.take_length] at hF
    exact q d H' ls s1 hd hF
theorem of_rests {m : Int} (d : Dk) {ns ks : List Int} (h : ∀ i : Nat, ks.getD i 0 % m = ns.getD i 0 % m) : d.of ks m = d.of ns m := by
  have h0 := h 0
  have h1 := h 1
  have h2 := h 2
  cases d <;> simp only [Dk.of]
  · rw [Int.add_emod, h0, h1, ← Int.add_emod]
  · rw [Int.sub_emod, h0, h1, ← Int.sub_emod]
  · rw [Int.mul_emod, h0, h1, ← Int.mul_emod]
  all_goals simp only [h0, h1, h2]
theorem getD_map_mod (ns : List Int) (m : Int) (i : Nat) : (ns.map fun x => x % m).getD i 0 % m = ns.getD i 0 % m := by
  rw [List.getD, List.getD, List.getElem?_map]
  cases ns[i]? with
  | none => rfl
  | some v => exact Int.emod_emod_of_dvd v (Int.dvd_refl m)
theorem map_ints {ns : List Int} {f : Int → Int} {g : V → V} (h : ∀ i, g (.int i) = .int (f i)) : (ns.map V.int).map g = (ns.map f).map V.int := by
  rw [List.map_map, List.map_map]
  exact List.map_congr_left fun x _ => h x
def imod (m : Int) : V → V
  | .int i => .int (i % m)
  | v => v
def spMakes (K : PySem.W.Frag) : Sp := fun vs H Q _ => ∃ (d : Dk) (p : Addr) (ns : List Int) (m : Int), vs = [.str d.word, .ref p, .int m] ∧ SqL K H p (ns.map V.int) ∧ d.need ≤ ns.length ∧ ns.length ≤ 3 ∧ 2 ≤ m ∧ m ≤ 10 ^ 60 ∧ ∀ H2, Same H H2 → Q (.int (d.of ns m)) H2
theorem d_makes (T : Txt K mg C CE) (Kb : K.In base) (G : base.Ns mainGlobals mg) : Df P w K mg base 1 "_law_makes" ["_law_word", "_law_numbers", "_law_measure_here"] (spMakes K) := by
  refine T.f_makes.df Kb G sc_law_makes (fun _ _ _ _ _ _ us hl => match us, hl with | [_, _, _], _ => rfl) (by rintro vs H Q E ⟨d, p, ns, m, rfl, _⟩; rfl) (fun f cdv A outer s H vs Q E hr h => ?_)
  obtain ⟨d, p, ns, m, rfl, hS, hn, hn3, m0, m1, q⟩ := h
  have mp : 0 < m := by omega
  refine ⟨_, (pss_cons (ps_lc (i := 3) sc_law_makes.nd rfl rfl (by with_unfolding_all rfl) (Blk.of (caps := ["_law_measure_here"]) (ix := [2]) rfl) rfl (pi_list (pv 1)) (fun _ _ _ _ => pf_nil) (fun _ _ _ _ => (pe_op op_mod (pv 0) (pv 1))))
    (pss_cons (ps_if (pt_cmpR op_eq (pv 0) pe_str (nomark _)) (pss_one (ps_ret (pe_op op_mod (pe_op op_add (pe_ix ix_seq (pv 3) pe_int (fun _ _ => rfl)) (pe_ix ix_seq (pv 3) pe_int (fun _ _ => rfl))) (pv 2)))) pss_nil)
    (pss_cons (ps_if (pt_cmpR op_eq (pv 0) pe_str (nomark _)) (pss_one (ps_ret (pe_op op_mod (pe_op op_sub (pe_ix ix_seq (pv 3) pe_int (fun _ _ => rfl)) (pe_ix ix_seq (pv 3) pe_int (fun _ _ => rfl))) (pv 2)))) pss_nil)
    (pss_cons (ps_if (pt_cmpR op_eq (pv 0) pe_str (nomark _)) (pss_one (ps_ret (pe_op op_mod (pe_op op_mulO (pe_ix ix_seq (pv 3) pe_int (fun _ _ => rfl)) (pe_ix ix_seq (pv 3) pe_int (fun _ _ => rfl))) (pv 2)))) pss_nil)
    (pss_cons (ps_if (pt_cmpR op_eq (pv 0) pe_str (nomark _)) (pss_one (ps_ret (pe_ix ix_seq (pv 3) (pe_op op_add pe_int (pe_callTy call_int1 rfl T.nint PyProof.Rows.boot_int (pa_cons (pe_cmpR op_eq (pe_ix ix_seq (pv 3) pe_int (fun _ _ => rfl)) pe_int (nomark _)) pa_nil (se rfl)) (he := se rfl) (hpl := nst rfl))) (fun _ _ => rfl)))) pss_nil)
    (pss_cons (ps_if (pt_cmpR op_eq (pv 0) pe_str (nomark _)) (pss_one (ps_ret (pe_callB (call_min2 rfl) rfl T.nmin PyProof.Rows.boot_min (pa_cons (pe_ix ix_seq (pv 3) pe_int (fun _ _ => rfl)) (pa_cons (pe_ix ix_seq (pv 3) pe_int (fun _ _ => rfl)) pa_nil (se rfl)) (se rfl)) (he := se rfl) (hpl := nst rfl)))) pss_nil)
    (pss_cons (ps_if (pt_cmpR op_eq (pv 0) pe_str (nomark _)) (pss_one (ps_ret (pe_callB (call_max2 rfl) rfl T.nmax PyProof.Rows.boot_max (pa_cons (pe_ix ix_seq (pv 3) pe_int (fun _ _ => rfl)) (pa_cons (pe_ix ix_seq (pv 3) pe_int (fun _ _ => rfl)) pa_nil (se rfl)) (se rfl)) (he := se rfl) (hpl := nst rfl)))) pss_nil)
    (pss_one (ps_ret (pe_ix ix_seq (pv 3) pe_int (fun _ _ => rfl))))))))))), ?_⟩
  walk_at "rd"
  refine i_setLc (i_lc (i_list ?_))
  walk_at "rd"
  have lb := line_big
  have hl3 : (ns.map V.int).length ≤ sizeLine := by rw [List.length_map]; omega
  show ∃ a, _ ∧ _ ∧ _
  refine lcL (ns.map V.int) (imod m) hS hl3 (fun i v H' R hv hs' r => ?_) (fun l H1 hN => ?_)
  · rw [List.getElem?_map] at hv
    cases hni : ns[i]? with
    | none => rw [hni] at hv; cases hv
    | some n =>
      rw [hni] at hv
      cases hv
      walk_at "rd"
      exact r
  walk_at "rd"
  rw [map_ints (f := fun x => x % m) (fun _ => rfl)] at hN
  have hR : SqL K H1 l ((ns.map fun x => x % m).map V.int) := hN.lst
  have q' := q _ hN.same
  clear hN
  have hlen : d.need ≤ (ns.map fun x => x % m).length := by rw [List.length_map]; exact hn
  have hb : ∀ i : Nat, 0 ≤ (ns.map fun x => x % m).getD i 0 ∧ (ns.map fun x => x % m).getD i 0 < m := fun i => by
    rw [List.getD, List.getElem?_map]
    cases ns[i]? with
    | none => exact ⟨Int.le_refl _, mp⟩
    | some v => exact mod_b v mp
  have hof : d.of (ns.map fun x => x % m) m = d.of ns m := of_rests d (getD_map_mod ns m)
  rw [← hof] at q'
  generalize (ns.map fun x => x % m) = rs at *
  have e60 : (10 : Int) ^ 60 < 2 ^ 200 := by decide +kernel
  have b0 := hb 0
  have b1 := hb 1
  have b2 := hb 2
  have e0 := Int.emod_eq_of_lt b0.1 b0.2
  have e1 := Int.emod_eq_of_lt b1.1 b1.2
  have e2 := Int.emod_eq_of_lt b2.1 b2.2
  cases d
  all_goals
    have hlen' : _ ≤ rs.length := hlen
    simp only [Dk.need] at hlen'
    simp only [Dk.of, e0, e1, e2] at q'
    repeat' (first
      | (walk_at "rd1")
      | ((with_reducible refine i_iteSe ?_ ?_); (rfl))
      | ((with_reducible refine i_iteSf ?_ ?_); (decide +kernel))
      | ((with_reducible show rIx _ (V.ref _) (V.int 0) _ _); (refine i_ixL hR (at_ints 0 (by omega)) ?_))
      | ((with_reducible show rIx _ (V.ref _) (V.int 1) _ _); (refine i_ixL hR (at_ints 1 (by omega)) ?_))
      | ((with_reducible refine i_mul ?_ ?_); (exact ok_of 200 200 (by omega) (by omega) (by omega) (by omega) (by decide))))
    all_goals try exact q'
  · refine i_min ?_
    exact q'
  · rw [max_of] at q'
    exact q'
  · refine .inr ⟨_, rfl, ?_⟩
    walk_at "rd"
    by_cases h0 : rs.getD 0 0 = 0
    · rw [if_pos h0] at q'
      rw [decide_eq_true (congrArg V.int h0)]
      refine i_ixL hR (at_ints 2 (by omega)) ?_
      exact q'
    · rw [if_neg h0] at q'
      rw [decide_eq_false (fun z => h0 (V.int.inj z))]
      refine i_ixL hR (at_ints 1 (by omega)) ?_
      exact q'
theorem gets_take {m : Int} {fl bl : Ls} {M : Md} {t : Nat} {r : Row} (h : r.d = .take) : gets m fl bl M t r = [(look fl r.name).getD t 0] := if_pos h
theorem gets_not {m : Int} {fl bl : Ls} {M : Md} {t : Nat} {r : Row} (h : ¬ r.d = .take) : gets m fl bl M t r = r.reads.map (getR m bl M t) := if_neg h
theorem look_of {l : Ls} {z : Str} {xs : List Int} (h : l.lookup z = some xs) : look l z = xs := by unfold look; rw [h]; rfl
theorem at_int {ns : List Int} {i : Int} (h0 : 0 ≤ i) (h : i.toNat < ns.length) : atI (List.map V.int ns) i = some (.int (ns.getD i.toNat 0)) := by
  have e : i = ((i.toNat : Nat) : Int) := by omega
  have := at_ints (ns := ns) i.toNat h
  rw [← e] at this; exact this
theorem map_next {α β : Type} (f : α → β) {l : List α} {i : Nat} {x : α} (h : l[i]? = some x) : (l.take (i + 1)).map f = (l.take i).map f ++ [f x] := by
  rw [List.take_add_one, h, List.map_append]; rfl
def spGets (K : PySem.W.Frag) : Sp := fun vs H Q _ => ∃ (v : V) (md fd bd : Addr) (r : Row) (t : Nat) (A : Str → Addr) (zs : List Str) (M : Md) (fl bl : Ls) (m : Int), vs = [v, .ref md, .int (t : Int), .ref fd, .ref bd, .int m] ∧ RowAt H r v ∧ MadeAt H md A zs M ∧ LsAt H fd fl ∧ LsAt H bd bl ∧
  RowGo fl bl zs M t r ∧ 0 < m ∧ r.reads.length ≤ 3 ∧ ∀ p H2, Same H H2 → H2 p = some (.lst (List.map V.int (gets m fl bl M t r))) → Q (.ref p) H2
theorem d_gets (T : Txt K mg C CE) (Kb : K.In base) (G : base.Ns mainGlobals mg) : Df P w K mg base 1 "_law_gets" ["_law_row_here", "_law_made_here", "_law_turn", "_law_feeds_here", "_law_begin_here", "_law_measure_here"] (spGets K) := by
  refine T.f_gets.df Kb G sc_law_gets (fun _ _ _ _ _ _ us hl => match us, hl with | [_, _, _, _, _, _], _ => rfl) (by rintro vs H Q E ⟨v, md, fd, bd, r, t, A, zs, M, fl, bl, m, rfl, _⟩; rfl) (fun f cdv A outer s H vs Q E hr h => ?_)
  obtain ⟨v, md, fd, bd, r, t, A', zs, M, fl, bl, m, rfl, hrow, hM, hf, hb, hgo, m0, hr3, q⟩ := h
  obtain ⟨p1, p2, vs, rfl, h1, h2, h3⟩ := hrow
  have l3 := h3.len
  have lb := line_big
  refine ⟨_, (pss_cons (ps_if (pt_cmpR op_eq (pe_ix ix_seq (pv 0) pe_int (fun _ _ => rfl)) pe_str (nomark _)) (pss_one (ps_ret (pe_lstA (pa_cons (pe_ix ix_seq (pe_dget (hu_of hr) (pv 3) (pe_ix ix_seq (pv 0) pe_int (fun _ _ => rfl)) (fun _ _ => rfl)) (pv 2) (fun _ _ => rfl)) pa_nil (se rfl))))) pss_nil)
    (pss_cons (ps_set (i := 6) sc_law_gets.nd rfl (by first | exact Or.inl rfl | exact Or.inr rfl) (pe_lstA pa_nil))
    (pss_cons (ps_for PassesOwn.never rfl (pi_tup (pe_ix ix_seq (pv 0) pe_int (fun _ _ => rfl))) (pg_name (i := 7) sc_law_gets.nd rfl (Or.inl rfl))
      (pss_one (ps_if (pt_not (pt_val (pe_callB call_isi rfl T.nisi PyProof.Rows.boot_isinstance (pa_cons (pv 7) (pa_cons (pe_bltn (v := .ty "tuple") rfl T.ntuple PyProof.Rows.boot_tuple rfl) pa_nil (se rfl)) (se rfl)) (he := se rfl) (hpl := nst rfl)))) (pss_one (ps_expr (pe_bm PySem.F.plainAttrs_list PySem.F.slot_list_append PySem.F.type_list_append mt_append (pv 6) (pa_cons (pv 7) pa_nil (se rfl)) (hs := se rfl) (hplain := nst rfl)))) (pss_one (ps_if (pt_cmpR op_lt (pv 2) (pe_ix ix_seq (pv 7) pe_int (fun _ _ => rfl)) (nomark _)) (pss_one (ps_expr (pe_bm PySem.F.plainAttrs_list PySem.F.slot_list_append PySem.F.type_list_append mt_append (pv 6) (pa_cons (pe_op op_mod (pe_ix ix_seq (pe_dget (hu_of hr) (pv 4) (pe_ix ix_seq (pv 7) pe_int (fun _ _ => rfl)) (fun _ _ => rfl)) (pe_op op_sub (pe_op op_sub (pe_ix ix_seq (pv 7) pe_int (fun _ _ => rfl)) (pv 2)) pe_int) (fun _ _ => rfl)) (pv 5)) pa_nil (se rfl)) (hs := se rfl) (hplain := nst rfl)))) (pss_one (ps_expr (pe_bm PySem.F.plainAttrs_list PySem.F.slot_list_append PySem.F.type_list_append mt_append (pv 6) (pa_cons (pe_ix ix_seq (pe_dget (hu_of hr) (pv 1) (pe_ix ix_seq (pv 7) pe_int (fun _ _ => rfl)) (fun _ _ => rfl)) (pe_op op_sub (pv 2) (pe_ix ix_seq (pv 7) pe_int (fun _ _ => rfl))) (fun _ _ => rfl)) pa_nil (se rfl)) (hs := se rfl) (hplain := nst rfl)))))))))
    (pss_one (ps_ret (pv 6)))))), ?_⟩
  walk_at "rd"
  refine i_ixT (.inl (.inl h1)) (show atI _ 1 = some (.str r.d.word) from rfl) ?_
  walk_at "rd"
  by_cases ht : r.d = .take
  · refine i_iteSe (by rw [ht]; rfl) ?_
    obtain ⟨l, hl, htl⟩ := hgo.1 ht
    obtain ⟨lp, g1, g2⟩ := hf.get hl
    walk_at "rd"
    refine i_dix ?_
    walk_at "rd"
    refine i_ixT (.inl (.inl h1)) (show atI _ 0 = some (.str r.name) from rfl) ?_
    refine ⟨fd, _, rfl, g1, ?_⟩
    walk_at "rd"
    refine i_ixL (sqL_inj_of g2) (at_ints t htl) ?_
    walk_at "rd"
    refine ⟨by show 1 ≤ sizeLine; omega, fun p H2 hN => ?_⟩
    refine q p H2 hN.same ?_
    rw [hN.at, gets_take ht, look_of hl]; rfl
  · refine i_iteSf (word_ne (e := .take) ht) ?_
    walk_at "rd"
    refine ⟨by show 0 ≤ sizeLine; exact Nat.zero_le _, fun D H1 hN1 => ?_⟩
    have hDn := hN1.free
    walk_at "rd"
    dsimp only
    refine i_for (i_tupI ?_)
    walk_at "rd"
    refine i_ixT (.inl (.inl (hN1.same _ _ h1))) (show atI _ 2 = some (.ref p1) from rfl) ?_
    refine ⟨p1, rfl, ⟨vs, .inl (.inl (hN1.same _ _ h2))⟩, ?_⟩
    refine for_tup (xs := vs) (fun j σ H' => Same H H' ∧ ∃ x7, σ = [some (.ref p2), some (.ref md), some (.int (t : Int)), some (.ref fd), some (.ref bd), some (.int m), some (.ref D), x7] ∧ H' D = some (.lst (List.map V.int ((r.reads.take j).map (getR m bl M t)))))
      ⟨hN1.same, none, rfl, hN1.at⟩ (fun j σ H' _ h => .inl (.inl (h.1 _ _ h2))) ?_ ?_
    · rintro j u σ H' huj ⟨s1, x7, rfl, hD⟩
      have hjv := (List.getElem?_eq_some_iff.mp huj).1
      have hjr : j < r.reads.length := by omega
      have hrj := List.getElem?_eq_getElem hjr
      have ra := (h3.at_ j r.reads[j] u hrj huj).same s1
      have go := hgo.2 r.reads[j] (List.getElem_mem hjr)
      have hsz : (List.map V.int ((r.reads.take j).map (getR m bl M t))).length < sizeLine := by
        rw [List.length_map, List.length_map, List.length_take]; omega
      rw [map_next (getR m bl M t) hrj, List.map_append]
      generalize r.reads[j] = rd at *
      cases rd with
      | num i =>
        have e : u = .int i := ra
        subst e
        walk_at "rd"
        refine ⟨_, _, _, _, rfl, rfl, .int i, T.kIT, ?_⟩
        walk_at "rd"
        refine ⟨.inl ⟨rfl, _, sqL_inj_of hD⟩, ?_⟩
        walk_at "rd"
        refine i_append hD hsz ?_
        refine ⟨fun b o e => ?_, _, rfl, upd_same⟩
        rw [upd_ne (ne_of_none e hDn)]; exact s1 _ _ e
      | back z b =>
        obtain ⟨ta, rfl, hta⟩ := ra
        obtain ⟨hz, b0, glt, gle⟩ := go
        walk_at "rd"
        refine i_isiT hta T.kTT ?_
        walk_at "rd"
        refine i_ixT (.inl (.inl hta)) (show atI _ 1 = some (.int b) from rfl) ?_
        walk_at "rd"
        refine i_iteD (fun hlt => ?_) (fun hlt => ?_)
        · obtain ⟨l, hl, hbl⟩ := glt hlt
          obtain ⟨lp, g1, g2⟩ := (hb.same s1).get hl
          walk_at "rd"
          refine ⟨.inl ⟨rfl, _, sqL_inj_of hD⟩, ?_⟩
          walk_at "rd"
          refine i_dix ?_
          walk_at "rd"
          refine i_ixT (.inl (.inl hta)) (show atI _ 0 = some (.str z) from rfl) ?_
          refine ⟨bd, _, rfl, g1, ?_⟩
          walk_at "rd"
          refine i_ixT (.inl (.inl hta)) (show atI _ 1 = some (.int b) from rfl) ?_
          walk_at "rd"
          refine i_ixL (sqL_inj_of g2) (at_int (by omega) hbl) ?_
          walk_at "rd"
          refine i_append hD hsz ?_
          refine ⟨fun b o e => ?_, _, rfl, ?_⟩
          · rw [upd_ne (ne_of_none e hDn)]; exact s1 _ _ e
          · rw [upd_same]
            show _ = some (HO.lst (_ ++ [V.int (if (t : Int) < b then _ else _)]))
            rw [if_pos hlt, look_of hl]
        · have hle : b ≤ (t : Int) := by omega
          have g1 := (hM.same s1).get hz
          have g2 := (hM.same s1).at_ z hz
          walk_at "rd"
          refine ⟨.inl ⟨rfl, _, sqL_inj_of hD⟩, ?_⟩
          walk_at "rd"
          refine i_dix ?_
          walk_at "rd"
          refine i_ixT (.inl (.inl hta)) (show atI _ 0 = some (.str z) from rfl) ?_
          refine ⟨md, _, rfl, g1, ?_⟩
          walk_at "rd"
          refine i_ixT (.inl (.inl hta)) (show atI _ 1 = some (.int b) from rfl) ?_
          walk_at "rd"
          refine i_ixL (sqL_inj_of g2) (at_int (by omega) (gle hle)) ?_
          walk_at "rd"
          refine i_append hD hsz ?_
          refine ⟨fun b o e => ?_, _, rfl, ?_⟩
          · rw [upd_ne (ne_of_none e hDn)]; exact s1 _ _ e
          · rw [upd_same]
            show _ = some (HO.lst (_ ++ [V.int (if (t : Int) < b then _ else _)]))
            rw [if_neg hlt]
    · rintro σ H' ⟨s1, x7, rfl, hD⟩
      walk_at "rd"
      rw [← l3, List.take_length] at hD
      refine q D H' s1 ?_
      rw [gets_not ht]; exact hD
theorem zs_mem {zs : List Str} {rs : List Row} (h : RowsOk zs rs) {i : Nat} {r : Row} (hr : rs[i]? = some r) : r.name ∈ zs := List.mem_iff_getElem?.mpr ⟨i, (h.at_ i r hr).name⟩
def spMade (K : PySem.W.Frag) : Sp := fun vs H Q _ => ∃ (p fd bd : Addr) (us : List V) (zs : List Str) (rs : List Row) (n : Nat) (fl bl : Ls) (m : Int), vs = [.int m, .ref p, .int (n : Int), .ref fd, .ref bd] ∧ H p = some (.lst us) ∧ RowsAt H rs us ∧ RowsOk zs rs ∧ LsAt H fd fl ∧ LsAt H bd bl ∧
  FeOk rs fl n ∧ BeOk rs bl ∧ n ≤ 300 ∧ 2 ≤ m ∧ m ≤ 10 ^ 60 ∧ ∀ md A H2, Same H H2 → MadeAt H2 md A zs (runR m fl bl rs n) → Q (.ref md) H2
theorem d_made (T : Txt K mg C CE) (Kb : K.In base) (G : base.Ns mainGlobals mg) : Df P w K mg base 2 "_law_made" ["_law_measure_here", "_law_rows_here", "_law_turns", "_law_feeds_here", "_law_begin_here"] (spMade K) := by
  have D_law_gets : Df P w K mg base 1 "_law_gets" ["_law_row_here", "_law_made_here", "_law_turn", "_law_feeds_here", "_law_begin_here", "_law_measure_here"] (spGets K) := d_gets T Kb G
  have D_law_makes : Df P w K mg base 1 "_law_makes" ["_law_word", "_law_numbers", "_law_measure_here"] (spMakes K) := d_makes T Kb G
  refine T.f_made.df Kb G sc_law_made (fun _ _ _ _ _ _ us hl => match us, hl with | [_, _, _, _, _], _ => rfl) (by rintro vs H Q E ⟨p, fd, bd, us, zs, rs, n, fl, bl, m, rfl, _⟩; rfl) (fun f cdv A outer s H vs Q E hr h => ?_)
  obtain ⟨p, fd, bd, us, zs, rs, n, fl, bl, m, rfl, hp, hu, hok, hf, hb, hfe, hbe, hn, m2, m60, q⟩ := h
  refine ⟨_, (pss_cons (ps_set (i := 5) sc_law_made.nd rfl (by first | exact Or.inl rfl | exact Or.inr rfl) pe_dnewK)
    (pss_cons (ps_for PassesOwn.never rfl (pi_list (pv 1)) (pg_name (i := 6) sc_law_made.nd rfl (Or.inl rfl))
      (pss_one (ps_dput (hu_of hr) (pv 5) (pe_ix ix_seq (pv 6) pe_int (fun _ _ => rfl)) (pe_lstA pa_nil) rfl)))
    (pss_cons (ps_for PassesOwn.never rfl (pi_range1 rfl T.nrange (pa_cons (pv 2) pa_nil (se rfl))) (pg_name (i := 7) sc_law_made.nd rfl (Or.inl rfl))
      (pss_one (ps_for PassesOwn.never rfl (pi_list (pv 1)) (pg_name (i := 6) sc_law_made.nd rfl (Or.inl rfl))
      (pss_cons (ps_set (i := 8) sc_law_made.nd rfl (by first | exact Or.inl rfl | exact Or.inr rfl) (pe_callD D_law_gets (hr.mono (by decide)) rfl (pa_cons (pv 6) (pa_cons (pv 5) (pa_cons (pv 7) (pa_cons (pv 3) (pa_cons (pv 4) (pa_cons (pv 0) pa_nil (se rfl)) (se rfl)) (se rfl)) (se rfl)) (se rfl)) (se rfl)) (he := se rfl) (hpl := nst rfl)))
    (pss_one (ps_expr (pe_bm PySem.F.plainAttrs_list PySem.F.slot_list_append PySem.F.type_list_append mt_append (pe_dget (hu_of hr) (pv 5) (pe_ix ix_seq (pv 6) pe_int (fun _ _ => rfl)) (fun _ _ => rfl)) (pa_cons (pe_callD D_law_makes (hr.mono (by decide)) rfl (pa_cons (pe_ix ix_seq (pv 6) pe_int (fun _ _ => rfl)) (pa_cons (pv 8) (pa_cons (pv 0) pa_nil (se rfl)) (se rfl)) (se rfl)) (he := se rfl) (hpl := nst rfl)) pa_nil (se rfl)) (hs := se rfl) (hplain := nst rfl))))))))
    (pss_one (ps_ret (pv 5)))))), ?_⟩
  have l1 := hu.len
  have l2 := hok.len
  have l12 := hok.names.1
  have lb := line_big
  have m0 : 0 < m := by omega
  walk_at "rd"
  refine i_dnew fun d hd => ?_
  have hs0 : Same H (upd H d (.dK [])) := Same.new hd
  have hd0 : upd H d (.dK []) d = some (.dK []) := upd_same
  generalize upd H d (.dK []) = H0 at *
  walk_at "rd"
  dsimp only
  refine i_for (i_list ?_)
  walk_at "rd"
  refine ⟨p, rfl, ⟨us, sqL_inj_of (hs0 _ _ hp)⟩, ?_⟩
  refine for_list (xs := us) (fun i σ H' => Same H H' ∧ ∃ (A' : Str → Addr) (x6 : Option V), σ = [some (.int m), some (.ref p), some (.int (n : Int)), some (.ref fd), some (.ref bd), some (.ref d), x6, none, none] ∧ MadeAt H' d A' (zs.take i) (fun _ => []) ∧ ∀ z ∈ zs.take i, H (A' z) = none)
    ⟨hs0, fun _ => d, none, rfl, ⟨⟨[], hd0, Nat.zero_le _, fun z h => by simp at h⟩, fun z h => by simp at h, fun y h => by simp at h⟩, fun z h => by simp at h⟩ (fun i σ H' _ h => sqL_inj_of (h.1 _ _ hp)) ?_ ?_
  · rintro i u σ H' hui ⟨s1, A', x6, rfl, hM, hfr⟩
    have hir : i < rs.length := by rw [l1]; exact (List.getElem?_eq_some_iff.mp hui).1
    have hri := List.getElem?_eq_getElem hir
    have r1 := (hu.at_ i rs[i] u hri hui).same s1
    have hnm := (hok.at_ i rs[i] hri).name
    generalize rs[i] = rw at *
    obtain ⟨p1, p2, vs, rfl, h1, h2, h3⟩ := r1
    walk_at "rd"
    refine i_dput ?_
    walk_at "rd"
    refine ⟨by show 0 ≤ sizeLine; exact Nat.zero_le _, fun lp H2 hN => ?_⟩
    walk_at "rd"
    refine i_ixT (.inl (.inl (hN.same _ _ h1))) (show atI _ 0 = some (.str rw.name) from rfl) ?_
    obtain ⟨H3, hput, sb, hM3⟩ := hM.grow hnm (nd_names hok.names hnm) l12 hN
    refine ⟨d, H3, rfl, hput, fun b o e => sb b o (ne_of_none e hd) (s1 _ _ e), _, _, rfl, hM3, fun z hz => ?_⟩
    by_cases hzn : z = rw.name
    · rw [if_pos hzn]; exact s1.free hN.free
    · rw [if_neg hzn]
      refine hfr z ?_
      rw [List.take_add_one, hnm] at hz
      rcases List.mem_append.mp hz with w | w
      · exact w
      · exact absurd (by simpa using w) hzn
  · rintro σ H1 ⟨s1, A', x6, rfl, hM, hfr⟩
    rw [← l1, l2, List.take_length] at hM hfr
    dsimp only
    refine i_for (i_rng1 ?_)
    walk_at "rd"
    refine ⟨_, rfl, by omega, by omega, ?_⟩
    rw [Int.toNat_natCast]
    refine for_range (lo := 0) (n := n) (fun t σ H' => Same H H' ∧ ∃ (x6 x7 x8 : Option V), σ = [some (.int m), some (.ref p), some (.int (n : Int)), some (.ref fd), some (.ref bd), some (.ref d), x6, x7, x8] ∧ MadeAt H' d A' zs (runR m fl bl rs t))
      ⟨s1, x6, none, none, rfl, hM⟩ ?_ ?_
    · rintro t σ H2 ht ⟨s2, x6, x7, x8, rfl, hM2⟩
      have e0 : (0 : Int) + (t : Int) = (t : Int) := Int.zero_add _
      rw [e0]
      have g0 := Going.run fl bl hok m0 t
      walk_at "rd"
      dsimp only
      refine i_for (i_list ?_)
      walk_at "rd"
      refine ⟨p, rfl, ⟨us, sqL_inj_of (s2 _ _ hp)⟩, ?_⟩
      refine for_list (xs := us) (fun i σ H' => Same H H' ∧ ∃ (x6 x8 : Option V), σ = [some (.int m), some (.ref p), some (.int (n : Int)), some (.ref fd), some (.ref bd), some (.ref d), x6, some (.int (t : Int)), x8] ∧ MadeAt H' d A' zs ((rs.take i).foldl (stepR m fl bl t) (runR m fl bl rs t)))
        ⟨s2, x6, x8, rfl, hM2⟩ (fun i σ H' _ h => sqL_inj_of (h.1 _ _ hp)) ?_ ?_
      · rintro i u σ H3 hui ⟨s3, y6, y8, rfl, hM3⟩
        have hiu := (List.getElem?_eq_some_iff.mp hui).1
        have hir : i < rs.length := by rw [l1]; exact hiu
        have hri := List.getElem?_eq_getElem hir
        have r1 := (hu.at_ i rs[i] u hri hui).same s3
        have gi := g0.take (fl := fl) (bl := bl) hok m0 i (by omega)
        have go := gi.go hok hri hfe hbe ht
        have rok := hok.at_ i rs[i] hri
        have hzm := zs_mem hok hri
        rw [fold_next (stepR m fl bl t) (runR m fl bl rs t) hri]
        have hrd3 : rs[i].reads.length ≤ 3 := by rw [rok.many]; exact wants3 _
        generalize rs[i] = rw at *
        generalize (rs.take i).foldl (stepR m fl bl t) (runR m fl bl rs t) = M at *
        have r0 := r1
        obtain ⟨p1, p2, vs, rfl, h1, h2, h3⟩ := r1
        have hlM := gi.len i rw.name rok.name
        rw [if_neg (by omega)] at hlM
        walk_at "rd"
        refine ⟨.ref p2, d, fd, bd, rw, t, A', zs, M, fl, bl, m, rfl, r0, hM3, hf.same s3, hb.same s3, go, m0, hrd3, fun np H4 s4 hnp => ?_⟩
        have hM4 := hM3.same s4
        walk_at "rd"
        refine i_dix ?_
        walk_at "rd"
        refine i_ixT (.inl (.inl (s4 _ _ h1))) (show atI _ 0 = some (.str rw.name) from rfl) ?_
        refine ⟨d, _, rfl, hM4.get hzm, ?_⟩
        refine ⟨.inl ⟨rfl, _, sqL_inj_of (hM4.at_ _ hzm)⟩, ?_⟩
        walk_at "rd"
        refine i_ixT (.inl (.inl (s4 _ _ h1))) (show atI _ 1 = some (.str rw.d.word) from rfl) ?_
        walk_at "rd"
        refine ⟨rw.d, np, gets m fl bl M t rw, m, rfl, sqL_inj_of hnp, gets_len rok, ?_, m2, m60, fun H5 s5 => ?_⟩
        · unfold gets
          split
          · show 1 ≤ 3; decide
          · rw [List.length_map]; exact hrd3
        have hM5 := hM4.same s5
        walk_at "rd"
        refine i_append (hM5.at_ _ hzm) (by rw [List.length_map]; omega) ?_
        refine ⟨fun b o e => ?_, _, _, rfl, hM5.app hzm fun y => rfl⟩
        rw [upd_ne (ne_of_none e (hfr _ hzm))]; exact s5 _ _ (s4 _ _ (s3 _ _ e))
      · rintro σ H3 ⟨s3, y6, y8, rfl, hM3⟩
        rw [← l1, List.take_length] at hM3
        refine ⟨s3, _, _, _, rfl, ?_⟩
        rw [runR_next]; exact hM3
    · rintro σ H2 ⟨s2, x6, x7, x8, rfl, hM2⟩
      walk_at "rd"
      exact q d A' H2 s2 hM2
def endsL (m : Int) (bl : Ls) (rs : List Row) (M : Md) (n : Nat) (qs : List Row) : Ls := (qs.filter (isDeep rs)).map fun r => (r.name, endsOf m bl rs M n r.name)
theorem PrAt.upd {S : Addr → Prop} {H : Hp} {ps : Ls} {us xs : List V} {b : Addr} {o : HO} (h : PrAt S H ps us) (hb : H b = some (.lst xs)) (hne : ∀ p, S p → p ≠ b) : PrAt S (L2.upd H b o) ps us := ⟨h.len, fun i a u e1 e2 => by
  obtain ⟨t, p, e, h1, h2, h3⟩ := h.at_ i a u e1 e2
  exact ⟨t, p, e, by rw [upd_ne (ne_of h1 hb (by intro z; cases z))]; exact h1, by rw [upd_ne (hne p h3)]; exact h2, h3⟩⟩
theorem PrAt.snoc {S : Addr → Prop} {H : Hp} {ps : Ls} {us : List V} {a : Str × List Int} {u : V} (h : PrAt S H ps us) (hu : PrAt1 S H a u) : PrAt S H (ps ++ [a]) (us ++ [u]) := by
  refine ⟨by rw [List.length_append, List.length_append, h.len]; rfl, fun i a' u' e1 e2 => ?_⟩
  have hl := h.len
  by_cases hi : i < ps.length
  · rw [List.getElem?_append_left hi] at e1
    rw [List.getElem?_append_left (by omega)] at e2
    exact h.at_ i a' u' e1 e2
  · rw [List.getElem?_append_right (by omega)] at e1
    rw [List.getElem?_append_right (by omega)] at e2
    have h0 : i - ps.length = 0 := by
      by_cases h0 : i - ps.length = 0
      · exact h0
      · rw [List.getElem?_eq_none (by simp; omega)] at e1; cases e1
    rw [h0] at e1; rw [show i - us.length = 0 by omega] at e2
    cases e1; cases e2; exact hu
theorem endsL_next {m : Int} {bl : Ls} {rs : List Row} {M : Md} {n i : Nat} {r : Row} (hr : rs[i]? = some r) : endsL m bl rs M n (rs.take (i + 1)) = endsL m bl rs M n (rs.take i) ++ if isDeep rs r = true then [(r.name, endsOf m bl rs M n r.name)] else [] := by
  unfold endsL
  rw [List.take_add_one, hr, Option.toList_some, List.filter_append, List.map_append]
  cases hq : isDeep rs r <;> simp [hq]
theorem range_next {α : Type} (f : Nat → α) (k : Nat) : (List.range (k + 1)).map f = (List.range k).map f ++ [f k] := by
  rw [List.range_succ, List.map_append]; rfl
def spEnds (K : PySem.W.Frag) : Sp := fun vs H Q _ => ∃ (p md bd : Addr) (us : List V) (zs : List Str) (rs : List Row) (n : Nat) (A : Str → Addr) (M : Md) (bl : Ls) (m : Int), vs = [.int m, .ref p, .int (n : Int), .ref md, .ref bd] ∧ H p = some (.lst us) ∧ RowsAt H rs us ∧ RowsOk zs rs ∧ MadeAt H md A zs M ∧ LsAt H bd bl ∧
  BeOk rs bl ∧ (∀ z ∈ zs, (M z).length = n) ∧ n ≤ 300 ∧ 0 < m ∧ ∀ e us' H2, Same H H2 → H2 e = some (.lst us') → PrAt (fun _ => True) H2 (endsL m bl rs M n rs) us' → Q (.ref e) H2
theorem d_ends (T : Txt K mg C CE) (Kb : K.In base) (G : base.Ns mainGlobals mg) : Df P w K mg base 2 "_law_ends" ["_law_measure_here", "_law_rows_here", "_law_turns", "_law_made_here", "_law_begin_here"] (spEnds K) := by
  have D_law_deepest : Df P w K mg base 1 "_law_deepest" ["_law_rows_here", "_law_name"] spDeepest := d_deepest T Kb G
  refine T.f_ends.df Kb G sc_law_ends (fun _ _ _ _ _ _ us hl => match us, hl with | [_, _, _, _, _], _ => rfl) (by rintro vs H Q E ⟨p, md, bd, us, zs, rs, n, A, M, bl, m, rfl, _⟩; rfl) (fun f cdv A outer s H vs Q E hr h => ?_)
  obtain ⟨p, md, bd, us, zs, rs, n, A', M, bl, m, rfl, hp, hu, hok, hM, hb, hbe, hlM, hn, m0, q⟩ := h
  refine ⟨_, (pss_cons (ps_set (i := 5) sc_law_ends.nd rfl (by first | exact Or.inl rfl | exact Or.inr rfl) (pe_lstA pa_nil))
    (pss_cons (ps_for PassesOwn.never rfl (pi_list (pv 1)) (pg_name (i := 6) sc_law_ends.nd rfl (Or.inl rfl))
      (pss_cons (ps_set (i := 7) sc_law_ends.nd rfl (by first | exact Or.inl rfl | exact Or.inr rfl) (pe_callD D_law_deepest (hr.mono (by decide)) rfl (pa_cons (pv 1) (pa_cons (pe_ix ix_seq (pv 6) pe_int (fun _ _ => rfl)) pa_nil (se rfl)) (se rfl)) (he := se rfl) (hpl := nst rfl)))
    (pss_cons (ps_set (i := 8) sc_law_ends.nd rfl (by first | exact Or.inl rfl | exact Or.inr rfl) (pe_lstA pa_nil))
    (pss_cons (ps_for PassesOwn.never rfl (pi_range1 rfl T.nrange (pa_cons (pv 7) pa_nil (se rfl))) (pg_name (i := 9) sc_law_ends.nd rfl (Or.inl rfl))
      (pss_one (ps_if (pt_cmpR op_lt (pe_op op_sub (pe_op op_sub (pv 2) pe_int) (pv 9)) pe_int (nomark _)) (pss_one (ps_expr (pe_bm PySem.F.plainAttrs_list PySem.F.slot_list_append PySem.F.type_list_append mt_append (pv 8) (pa_cons (pe_op op_mod (pe_ix ix_seq (pe_dget (hu_of hr) (pv 4) (pe_ix ix_seq (pv 6) pe_int (fun _ _ => rfl)) (fun _ _ => rfl)) (pe_op op_sub (pv 9) (pv 2)) (fun _ _ => rfl)) (pv 0)) pa_nil (se rfl)) (hs := se rfl) (hplain := nst rfl)))) (pss_one (ps_expr (pe_bm PySem.F.plainAttrs_list PySem.F.slot_list_append PySem.F.type_list_append mt_append (pv 8) (pa_cons (pe_ix ix_seq (pe_dget (hu_of hr) (pv 3) (pe_ix ix_seq (pv 6) pe_int (fun _ _ => rfl)) (fun _ _ => rfl)) (pe_op op_sub (pe_op op_sub (pv 2) pe_int) (pv 9)) (fun _ _ => rfl)) pa_nil (se rfl)) (hs := se rfl) (hplain := nst rfl)))))))
    (pss_one (ps_if (pt_cmpR op_gt (pv 7) pe_int (nomark _)) (pss_one (ps_expr (pe_bm PySem.F.plainAttrs_list PySem.F.slot_list_append PySem.F.type_list_append mt_append (pv 5) (pa_cons (pe_tupA (pa_cons (pe_ix ix_seq (pv 6) pe_int (fun _ _ => rfl)) (pa_cons (pv 8) pa_nil (se rfl)) (se rfl))) pa_nil (se rfl)) (hs := se rfl) (hplain := nst rfl)))) pss_nil))))))
    (pss_one (ps_ret (pv 5))))), ?_⟩
  have l1 := hu.len
  have l2 := hok.len
  have l12 := hok.names.1
  have lb := line_big
  walk_at "rd"
  refine ⟨by show 0 ≤ sizeLine; exact Nat.zero_le _, fun D H1 hN1 => ?_⟩
  have hDn := hN1.free
  walk_at "rd"
  dsimp only
  refine i_for (i_list ?_)
  walk_at "rd"
  refine ⟨p, rfl, ⟨us, sqL_inj_of (hN1.same _ _ hp)⟩, ?_⟩
  refine for_list (xs := us) (fun i σ H' => Same H H' ∧ ∃ (us' : List V) (x6 x7 x8 x9 : Option V), σ = [some (.int m), some (.ref p), some (.int (n : Int)), some (.ref md), some (.ref bd), some (.ref D), x6, x7, x8, x9] ∧ H' D = some (.lst us') ∧ us'.length ≤ i ∧ PrAt (fun b => b ≠ D) H' (endsL m bl rs M n (rs.take i)) us')
    ⟨hN1.same, [], none, none, none, none, rfl, hN1.at, Nat.le_refl _, rfl, fun i a u e => by simp [endsL] at e⟩ (fun i σ H' _ h => sqL_inj_of (h.1 _ _ hp)) ?_ ?_
  · rintro i u σ H3 hui ⟨s3, us', x6, x7, x8, x9, rfl, hD, hul, hPr⟩
    have hiu := (List.getElem?_eq_some_iff.mp hui).1
    have hir : i < rs.length := by rw [l1]; exact hiu
    have hri := List.getElem?_eq_getElem hir
    have r1 := (hu.at_ i rs[i] u hri hui).same s3
    have hzm := zs_mem hok hri
    have hbr := hbe rs[i] (List.getElem_mem hir)
    rw [endsL_next hri]
    generalize rs[i] = rw at *
    obtain ⟨p1, p2, vs, rfl, h1, h2, h3⟩ := r1
    have hd6 := deep_6 hok rw.name
    obtain ⟨dn, hdn⟩ := Int.eq_ofNat_of_zero_le (deep_nn rs rw.name)
    walk_at "rd"
    refine i_ixT (.inl (.inl h1)) (show atI _ 0 = some (.str rw.name) from rfl) ?_
    walk_at "rd"
    refine ⟨p, us, rs, rw.name, rfl, s3 _ _ hp, hu.same s3, ?_⟩
    walk_at "rd"
    refine ⟨by show 0 ≤ sizeLine; exact Nat.zero_le _, fun L H4 hN4 => ?_⟩
    have hLn := hN4.free
    walk_at "rd"
    dsimp only
    refine i_for (i_rng1 ?_)
    walk_at "rd"
    rw [hdn]
    refine ⟨_, rfl, by omega, by omega, ?_⟩
    rw [Int.toNat_natCast]
    refine for_range (lo := 0) (n := dn) (fun k σ H' => Same H3 H' ∧ ∃ (y9 : Option V), σ = [some (.int m), some (.ref p), some (.int (n : Int)), some (.ref md), some (.ref bd), some (.ref D), some (.ref p2), some (.int (dn : Int)), some (.ref L), y9] ∧ H' L = some (.lst (List.map V.int ((List.range k).map (endV m bl M n rw.name)))))
      ⟨hN4.same, x9, rfl, hN4.at⟩ ?_ ?_
    · rintro k σ H5 hk ⟨s5, y9, rfl, hL⟩
      have e0 : (0 : Int) + (k : Int) = (k : Int) := Int.zero_add _
      rw [e0]
      have hsz : (List.map V.int ((List.range k).map (endV m bl M n rw.name))).length < sizeLine := by
        rw [List.length_map, List.length_map, List.length_range]; omega
      rw [range_next (endV m bl M n rw.name) k, List.map_append]
      walk_at "rd"
      refine i_iteD (fun hlt => ?_) (fun hlt => ?_)
      · obtain ⟨l, hl, hll⟩ := hbr (by omega)
        obtain ⟨lp, g1, g2⟩ := (hb.same (s3.trans s5)).get hl
        walk_at "rd"
        refine ⟨.inl ⟨rfl, _, sqL_inj_of hL⟩, ?_⟩
        walk_at "rd"
        refine i_dix ?_
        walk_at "rd"
        refine i_ixT (.inl (.inl (s5 _ _ h1))) (show atI _ 0 = some (.str rw.name) from rfl) ?_
        refine ⟨bd, _, rfl, g1, ?_⟩
        walk_at "rd"
        refine i_ixL (sqL_inj_of g2) (at_int (by omega) (by omega)) ?_
        walk_at "rd"
        refine i_append hL hsz ?_
        refine ⟨fun b o e => ?_, _, rfl, ?_⟩
        · rw [upd_ne (ne_of_none e hLn)]; exact s5 _ _ e
        · rw [upd_same]
          show _ = some (HO.lst (_ ++ [V.int (endV m bl M n rw.name k)]))
          unfold endV
          rw [if_pos (by omega), look_of hl, show ((k : Int) - (n : Int)).toNat = k - n by omega]
      · have hzl := hlM _ hzm
        have g1 := (hM.same (s3.trans s5)).get hzm
        have g2 := (hM.same (s3.trans s5)).at_ _ hzm
        walk_at "rd"
        refine ⟨.inl ⟨rfl, _, sqL_inj_of hL⟩, ?_⟩
        walk_at "rd"
        refine i_dix ?_
        walk_at "rd"
        refine i_ixT (.inl (.inl (s5 _ _ h1))) (show atI _ 0 = some (.str rw.name) from rfl) ?_
        refine ⟨md, _, rfl, g1, ?_⟩
        walk_at "rd"
        refine i_ixL (sqL_inj_of g2) (at_int (by omega) (by omega)) ?_
        walk_at "rd"
        refine i_append hL hsz ?_
        refine ⟨fun b o e => ?_, _, rfl, ?_⟩
        · rw [upd_ne (ne_of_none e hLn)]; exact s5 _ _ e
        · rw [upd_same]
          show _ = some (HO.lst (_ ++ [V.int (endV m bl M n rw.name k)]))
          unfold endV
          rw [if_neg (by omega), show ((n : Int) - 1 - (k : Int)).toNat = n - 1 - k by omega]
    · rintro σ H5 ⟨s5, y9, rfl, hL⟩
      have hDL : L ≠ D := fun z => by rw [z, hD] at hLn; cases hLn
      walk_at "rd"
      refine i_iteD (fun hlt => ?_) (fun hlt => ?_)
      · walk_at "rd"
        refine ⟨.inl ⟨rfl, _, sqL_inj_of (s5 _ _ hD)⟩, ?_⟩
        walk_at "rd"
        refine i_ixT (.inl (.inl (s5 _ _ h1))) (show atI _ 0 = some (.str rw.name) from rfl) ?_
        walk_at "rd"
        refine ⟨by show 2 ≤ sizeLine; omega, fun t H6 hN6 => ?_⟩
        walk_at "rd"
        have hD6 := hN6.same _ _ (s5 _ _ hD)
        refine i_append hD6 (by omega) ?_
        have hdp : isDeep rs rw = true := decide_eq_true (by omega)
        rw [if_pos hdp]
        refine ⟨fun b o e => ?_, us' ++ [.ref t], _, _, _, _, rfl, upd_same, by rw [List.length_append, List.length_singleton]; omega, ?_⟩
        · rw [upd_ne (ne_of_none e hDn)]; exact hN6.same _ _ (s5 _ _ (s3 _ _ e))
        · refine PrAt.upd (xs := us') (PrAt.snoc ((hPr.same s5).same hN6.same) ⟨t, L, rfl, hN6.at, ?_, hDL⟩) hD6 fun p h => h
          rw [hN6.same _ _ hL]
          show _ = some (HO.lst (List.map V.int (endsOf m bl rs M n rw.name)))
          unfold endsOf
          rw [hdn, Int.toNat_natCast]
      · walk_at "rd"
        have hdp : isDeep rs rw = false := decide_eq_false (by omega)
        rw [hdp, if_neg (by decide), List.append_nil]
        exact ⟨s3.trans s5, us', _, _, _, _, rfl, s5 _ _ hD, by omega, hPr.same s5⟩
  · rintro σ H3 ⟨s3, us', x6, x7, x8, x9, rfl, hD, hul, hPr⟩
    walk_at "rd"
    rw [← l1, List.take_length] at hPr
    exact q D us' H3 s3 hD (hPr.mono fun _ _ => trivial)
def spAlikeL : Sp := fun vs H Q _ => ∃ (p q : Addr) (l : List Int), vs = [.ref p, .ref q] ∧ H p = some (.lst (List.map V.int l)) ∧ H q = some (.lst (List.map V.int l)) ∧ l.length ≤ 400 ∧ Q (.bl true) H
theorem d_alikeL (T : Txt K mg C CE) (Kb : K.In base) (G : base.Ns mainGlobals mg) : Df P w K mg base 2 "_law_alike" ["_law_found", "_law_due"] spAlikeL := by
  have D_law_whole : Df P w K mg base 1 "_law_whole" ["_law_found"] spWhole := d_whole T Kb G
  refine T.f_alike.df Kb G sc_law_alike (fun _ _ _ _ _ _ us hl => match us, hl with | [_, _], _ => rfl) (by rintro vs H Q E ⟨p, q, l, rfl, _⟩; rfl) (fun f cdv A outer s H vs Q E hr h => ?_)
  obtain ⟨p, p', l, rfl, hp, hp', hl, q⟩ := h
  refine ⟨_, (pss_cons (ps_if (PW.pt (pw_or (pt_not (pt_val (pe_callB call_isi rfl T.nisi PyProof.Rows.boot_isinstance (pa_cons (pv 0) (pa_cons (pe_bltn (v := .ty "list") rfl T.nlist PyProof.Rows.boot_list rfl) pa_nil (se rfl)) (se rfl)) (he := se rfl) (hpl := nst rfl)))) (pw_or1 (pt_cmpR op_ne (pe_callB call_len_seq rfl T.nlen PySem.boot_len (pa_cons (pv 0) pa_nil (se rfl)) (he := se rfl) (hpl := nst rfl)) (pe_callB call_len_seq rfl T.nlen PySem.boot_len (pa_cons (pv 1) pa_nil (se rfl)) (he := se rfl) (hpl := nst rfl)) (nomark _))))) (pss_one (ps_ret pe_bl)) pss_nil)
    (pss_cons (ps_for PassesOwn.never rfl (pi_range1 rfl T.nrange (pa_cons (pe_callB call_len_seq rfl T.nlen PySem.boot_len (pa_cons (pv 1) pa_nil (se rfl)) (he := se rfl) (hpl := nst rfl)) pa_nil (se rfl))) (pg_name (i := 2) sc_law_alike.nd rfl (Or.inl rfl))
      (pss_one (ps_if (PW.pt (pw_or (pt_not (pt_val (pe_callD D_law_whole (hr.mono (by decide)) rfl (pa_cons (pe_ix ix_seq (pv 0) (pv 2) (fun _ _ => rfl)) pa_nil (se rfl)) (he := se rfl) (hpl := nst rfl)))) (pw_or1 (pt_cmpR op_ne (pe_ix ix_seq (pv 0) (pv 2) (fun _ _ => rfl)) (pe_ix ix_seq (pv 1) (pv 2) (fun _ _ => rfl)) (nomark _))))) (pss_one (ps_ret pe_bl)) pss_nil)))
    (pss_one (ps_ret pe_bl)))), ?_⟩
  have hlm : (List.map V.int l).length = l.length := List.length_map _
  walk_at "rd"
  refine i_isiL hp T.kLL ?_
  walk_at "rd"
  refine ⟨_, _, rfl, .inl (sqL_inj_of hp), ?_⟩
  walk_at "rd"
  refine ⟨_, _, rfl, .inl (sqL_inj_of hp'), ?_⟩
  walk_at "rd"
  rw [decide_eq_true (rfl : V.int ((List.map V.int l).length : Int) = V.int ((List.map V.int l).length : Int))]
  walk_at "rd"
  refine i_for (i_rng1 ?_)
  walk_at "rd"
  refine ⟨_, _, rfl, .inl (sqL_inj_of hp'), ?_⟩
  refine ⟨_, rfl, by omega, by omega, ?_⟩
  rw [Int.toNat_natCast]
  refine for_range (lo := 0) (n := (List.map V.int l).length) (fun i σ H' => H' = H ∧ ∃ x, σ = [some (.ref p), some (.ref p'), x]) ⟨rfl, none, rfl⟩ ?_ ?_
  · rintro i σ H' hi ⟨rfl, x, rfl⟩
    have e0 : (0 : Int) + (i : Int) = (i : Int) := Int.zero_add _
    rw [e0]
    have hil : i < l.length := by omega
    walk_at "rd"
    refine i_ixL (sqL_inj_of hp) (at_ints i hil) ?_
    walk_at "rd"
    refine ⟨_, rfl, ?_⟩
    walk_at "rd"
    refine i_ixL (sqL_inj_of hp) (at_ints i hil) ?_
    walk_at "rd"
    refine i_ixL (sqL_inj_of hp') (at_ints i hil) ?_
    walk_at "rd"
    rw [decide_eq_true (rfl : V.int (l.getD i 0) = V.int (l.getD i 0))]
    walk_at "rd"
    exact ⟨rfl, _, rfl⟩
  · rintro σ H' ⟨rfl, x, rfl⟩
    walk_at "rd"
    exact q
def spPairs : Sp := fun vs H Q _ => ∃ (p q : Addr) (us ws : List V) (ps : Ls) (S S' : Addr → Prop), vs = [.ref p, .ref q] ∧ H p = some (.lst us) ∧ H q = some (.lst ws) ∧ PrAt S H ps us ∧ PrAt S' H ps ws ∧ ps.length ≤ 12 ∧ (∀ a ∈ ps, a.2.length ≤ 400) ∧ Q (.bl true) H
theorem d_pairs (T : Txt K mg C CE) (Kb : K.In base) (G : base.Ns mainGlobals mg) : Df P w K mg base 3 "_law_pairs" ["_law_found", "_law_due"] spPairs := by
  have D_law_alike : Df P w K mg base 2 "_law_alike" ["_law_found", "_law_due"] spAlikeL := d_alikeL T Kb G
  refine T.f_pairs.df Kb G sc_law_pairs (fun _ _ _ _ _ _ us hl => match us, hl with | [_, _], _ => rfl) (by rintro vs H Q E ⟨p, q, us, ws, ps, S, S', rfl, _⟩; rfl) (fun f cdv A outer s H vs Q E hr h => ?_)
  obtain ⟨p, p', us, ws, ps, S, S', rfl, hp, hp', hu, hw, h12, hl4, q⟩ := h
  refine ⟨_, (pss_cons (ps_if (PW.pt (pw_or (pt_not (pt_val (pe_callB call_isi rfl T.nisi PyProof.Rows.boot_isinstance (pa_cons (pv 0) (pa_cons (pe_bltn (v := .ty "list") rfl T.nlist PyProof.Rows.boot_list rfl) pa_nil (se rfl)) (se rfl)) (he := se rfl) (hpl := nst rfl)))) (pw_or1 (pt_cmpR op_ne (pe_callB call_len_seq rfl T.nlen PySem.boot_len (pa_cons (pv 0) pa_nil (se rfl)) (he := se rfl) (hpl := nst rfl)) (pe_callB call_len_seq rfl T.nlen PySem.boot_len (pa_cons (pv 1) pa_nil (se rfl)) (he := se rfl) (hpl := nst rfl)) (nomark _))))) (pss_one (ps_ret pe_bl)) pss_nil)
    (pss_cons (ps_for PassesOwn.never rfl (pi_range1 rfl T.nrange (pa_cons (pe_callB call_len_seq rfl T.nlen PySem.boot_len (pa_cons (pv 1) pa_nil (se rfl)) (he := se rfl) (hpl := nst rfl)) pa_nil (se rfl))) (pg_name (i := 2) sc_law_pairs.nd rfl (Or.inl rfl))
      (pss_cons (ps_if (PW.pt (pw_or (pt_not (pt_val (pe_callB call_isi rfl T.nisi PyProof.Rows.boot_isinstance (pa_cons (pe_ix ix_seq (pv 0) (pv 2) (fun _ _ => rfl)) (pa_cons (pe_bltn (v := .ty "tuple") rfl T.ntuple PyProof.Rows.boot_tuple rfl) pa_nil (se rfl)) (se rfl)) (he := se rfl) (hpl := nst rfl)))) (pw_or (pt_cmpR op_ne (pe_callB call_len_seq rfl T.nlen PySem.boot_len (pa_cons (pe_ix ix_seq (pv 0) (pv 2) (fun _ _ => rfl)) pa_nil (se rfl)) (he := se rfl) (hpl := nst rfl)) pe_int (nomark _)) (pw_or1 (pt_not (pt_val (pe_callB call_isi rfl T.nisi PyProof.Rows.boot_isinstance (pa_cons (pe_ix ix_seq (pe_ix ix_seq (pv 0) (pv 2) (fun _ _ => rfl)) pe_int (fun _ _ => rfl)) (pa_cons (pe_bltn (v := .ty "str") rfl T.nstr PyProof.Rows.boot_str rfl) pa_nil (se rfl)) (se rfl)) (he := se rfl) (hpl := nst rfl)))))))) (pss_one (ps_ret pe_bl)) pss_nil)
    (pss_one (ps_if (PW.pt (pw_or (pt_cmpR op_ne (pe_ix ix_seq (pe_ix ix_seq (pv 0) (pv 2) (fun _ _ => rfl)) pe_int (fun _ _ => rfl)) (pe_ix ix_seq (pe_ix ix_seq (pv 1) (pv 2) (fun _ _ => rfl)) pe_int (fun _ _ => rfl)) (nomark _)) (pw_or1 (pt_not (pt_val (pe_callD D_law_alike (hr.mono (by decide)) rfl (pa_cons (pe_ix ix_seq (pe_ix ix_seq (pv 0) (pv 2) (fun _ _ => rfl)) pe_int (fun _ _ => rfl)) (pa_cons (pe_ix ix_seq (pe_ix ix_seq (pv 1) (pv 2) (fun _ _ => rfl)) pe_int (fun _ _ => rfl)) pa_nil (se rfl)) (se rfl)) (he := se rfl) (hpl := nst rfl))))))) (pss_one (ps_ret pe_bl)) pss_nil))))
    (pss_one (ps_ret pe_bl)))), ?_⟩
  have l1 := hu.len
  have l2 := hw.len
  walk_at "rd"
  refine i_isiL hp T.kLL ?_
  walk_at "rd"
  refine ⟨_, _, rfl, .inl (sqL_inj_of hp), ?_⟩
  walk_at "rd"
  refine ⟨_, _, rfl, .inl (sqL_inj_of hp'), ?_⟩
  walk_at "rd"
  rw [decide_eq_true (show V.int (us.length : Int) = V.int (ws.length : Int) by rw [← l1, ← l2])]
  walk_at "rd"
  refine i_for (i_rng1 ?_)
  walk_at "rd"
  refine ⟨_, _, rfl, .inl (sqL_inj_of hp'), ?_⟩
  refine ⟨_, rfl, by omega, by omega, ?_⟩
  rw [Int.toNat_natCast]
  refine for_range (lo := 0) (n := ws.length) (fun i σ H' => H' = H ∧ ∃ x, σ = [some (.ref p), some (.ref p'), x]) ⟨rfl, none, rfl⟩ ?_ ?_
  · rintro i σ H' hi ⟨rfl, x, rfl⟩
    have e0 : (0 : Int) + (i : Int) = (i : Int) := Int.zero_add _
    rw [e0]
    have hip : i < ps.length := by omega
    have hiu : i < us.length := by omega
    have r1 := hu.at_ i ps[i] us[i] (List.getElem?_eq_getElem hip) (List.getElem?_eq_getElem hiu)
    have r2 := hw.at_ i ps[i] ws[i] (List.getElem?_eq_getElem hip) (List.getElem?_eq_getElem hi)
    have hl := hl4 ps[i] (List.getElem_mem hip)
    have a1 := at_v hiu
    have a2 := at_v hi
    generalize us[i] = u1 at *
    generalize ws[i] = u2 at *
    generalize ps[i] = pr at *
    obtain ⟨t1, b1, rfl, h1, h1', _⟩ := r1
    obtain ⟨t2, b2, rfl, h2, h2', _⟩ := r2
    walk_at "rd"
    refine i_ixL (sqL_inj_of hp) a1 ?_
    walk_at "rd"
    refine i_isiT h1 T.kTT ?_
    walk_at "rd"
    refine i_ixL (sqL_inj_of hp) a1 ?_
    walk_at "rd"
    refine ⟨_, _, rfl, .inr (.inl (.inl h1)), ?_⟩
    walk_at "rd"
    rw [decide_eq_true (show V.int (([V.str pr.1, V.ref b1].length : Nat) : Int) = V.int 2 from rfl)]
    walk_at "rd"
    refine i_ixL (sqL_inj_of hp) a1 ?_
    walk_at "rd"
    refine i_ixT (.inl (.inl h1)) (show atI _ 0 = some (.str pr.1) from rfl) ?_
    walk_at "rd"
    refine ⟨_, _, _, _, rfl, rfl, .str pr.1, T.kSS, ?_⟩
    walk_at "rd"
    refine i_ixL (sqL_inj_of hp) a1 ?_
    walk_at "rd"
    refine i_ixT (.inl (.inl h1)) (show atI _ 0 = some (.str pr.1) from rfl) ?_
    walk_at "rd"
    refine i_ixL (sqL_inj_of hp') a2 ?_
    walk_at "rd"
    refine i_ixT (.inl (.inl h2)) (show atI _ 0 = some (.str pr.1) from rfl) ?_
    walk_at "rd"
    rw [decide_eq_true (rfl : V.str pr.1 = V.str pr.1)]
    walk_at "rd"
    refine i_ixL (sqL_inj_of hp) a1 ?_
    walk_at "rd"
    refine i_ixT (.inl (.inl h1)) (show atI _ 1 = some (.ref b1) from rfl) ?_
    walk_at "rd"
    refine i_ixL (sqL_inj_of hp') a2 ?_
    walk_at "rd"
    refine i_ixT (.inl (.inl h2)) (show atI _ 1 = some (.ref b2) from rfl) ?_
    walk_at "rd"
    refine ⟨b1, b2, pr.2, rfl, h1', h2', hl, ?_⟩
    walk_at "rd"
    exact ⟨rfl, _, rfl⟩
  · rintro σ H' ⟨rfl, x, rfl⟩
    walk_at "rd"
    exact q
def spOutc : Sp := fun vs H Q _ => ∃ (t p1 p2 q1 q2 : Addr) (u1 u2 w1 w2 : List V) (a b : Ls) (S1 S2 S3 S4 : Addr → Prop), vs = [.ref t, .ref q1, .ref q2] ∧ H t = some (.tup [.ref p1, .ref p2]) ∧ H p1 = some (.lst u1) ∧ H p2 = some (.lst u2) ∧ H q1 = some (.lst w1) ∧ H q2 = some (.lst w2) ∧
  PrAt S1 H a u1 ∧ PrAt S2 H b u2 ∧ PrAt S3 H a w1 ∧ PrAt S4 H b w2 ∧ a.length ≤ 12 ∧ b.length ≤ 12 ∧ (∀ x ∈ a, x.2.length ≤ 400) ∧ (∀ x ∈ b, x.2.length ≤ 400) ∧ Q (.bl true) H
theorem d_outc (T : Txt K mg C CE) (Kb : K.In base) (G : base.Ns mainGlobals mg) : Df P w K mg base 4 "_law_outcome" ["_law_found", "_law_told", "_law_ends_here"] spOutc := by
  have D_law_pairs : Df P w K mg base 3 "_law_pairs" ["_law_found", "_law_due"] spPairs := d_pairs T Kb G
  refine T.f_outc.df Kb G sc_law_outcome (fun _ _ _ _ _ _ us hl => match us, hl with | [_, _, _], _ => rfl) (by rintro vs H Q E ⟨t, p1, p2, q1, q2, u1, u2, w1, w2, a, b, S1, S2, S3, S4, rfl, _⟩; rfl) (fun f cdv A outer s H vs Q E hr h => ?_)
  obtain ⟨t, p1, p2, q1, q2, u1, u2, w1, w2, a, b, S1, S2, S3, S4, rfl, ht, hp1, hp2, hq1, hq2, h1, h2, h3, h4, la, lb', ma, mb, q⟩ := h
  refine ⟨_, (pss_cons (ps_if (PW.pt (pw_or (pt_not (pt_val (pe_callB call_isi rfl T.nisi PyProof.Rows.boot_isinstance (pa_cons (pv 0) (pa_cons (pe_bltn (v := .ty "tuple") rfl T.ntuple PyProof.Rows.boot_tuple rfl) pa_nil (se rfl)) (se rfl)) (he := se rfl) (hpl := nst rfl)))) (pw_or1 (pt_cmpR op_ne (pe_callB call_len_seq rfl T.nlen PySem.boot_len (pa_cons (pv 0) pa_nil (se rfl)) (he := se rfl) (hpl := nst rfl)) pe_int (nomark _))))) (pss_one (ps_ret pe_bl)) pss_nil)
    (pss_one (ps_ret (pe_and (pe_callD D_law_pairs (hr.mono (by decide)) rfl (pa_cons (pe_ix ix_seq (pv 0) pe_int (fun _ _ => rfl)) (pa_cons (pv 1) pa_nil (se rfl)) (se rfl)) (he := se rfl) (hpl := nst rfl)) (pe_one (pe_callD D_law_pairs (hr.mono (by decide)) rfl (pa_cons (pe_ix ix_seq (pv 0) pe_int (fun _ _ => rfl)) (pa_cons (pv 2) pa_nil (se rfl)) (se rfl)) (he := se rfl) (hpl := nst rfl))))))), ?_⟩
  walk_at "rd"
  refine i_isiT ht T.kTT ?_
  walk_at "rd"
  refine ⟨_, _, rfl, .inr (.inl (.inl ht)), ?_⟩
  walk_at "rd"
  rw [decide_eq_true (show V.int (([V.ref p1, V.ref p2].length : Nat) : Int) = V.int 2 from rfl)]
  walk_at "rd"
  refine i_ixT (.inl (.inl ht)) (show atI _ 0 = some (.ref p1) from rfl) ?_
  walk_at "rd"
  refine ⟨p1, q1, u1, w1, a, S1, S3, rfl, hp1, hq1, h1, h3, la, ma, ?_⟩
  walk_at "rd"
  refine i_ixT (.inl (.inl ht)) (show atI _ 1 = some (.ref p2) from rfl) ?_
  walk_at "rd"
  refine ⟨p2, q2, u2, w2, b, S2, S4, rfl, hp2, hq2, h2, h4, lb', mb, ?_⟩
  exact q
theorem paired_at {α β : Type} {F : α → β → Prop} : ∀ {l : List α} {r : List β}, Paired F l r → ∀ {i : Nat} {b : β}, r[i]? = some b → ∃ a, l[i]? = some a ∧ F a b := by
  intro l r h
  induction h with
  | nil => intro i b e; simp at e
  | @cons a b' l1 l2 h _ ih =>
    intro i b e
    cases i with
    | zero => cases e; exact ⟨a, rfl, h⟩
    | succ i => exact ih (i := i) (by simpa using e)
theorem nd_at {ls : Ls} (h : (ls.map (·.1)).Nodup) {i : Nat} {z : Str} {l : List Int} (e : ls[i]? = some (z, l)) : ¬ z ∈ (ls.take i).map (·.1) := fun hm => by
  have hi := (List.getElem?_eq_some_iff.mp e).1
  have e1 : ls.map (·.1) = (ls.take i).map (·.1) ++ z :: (ls.drop (i + 1)).map (·.1) := by
    have h1 : ls = ls.take i ++ (z, l) :: ls.drop (i + 1) := by
      have h2 : ls.drop i = (z, l) :: ls.drop (i + 1) := by
        rw [List.drop_eq_getElem_cons hi, (List.getElem?_eq_some_iff.mp e).2]
      rw [← h2, List.take_append_drop]
    conv => lhs; rw [h1]
    rw [List.map_append]; rfl
  rw [e1] at h
  exact (List.nodup_append.mp h).2.2 z hm z List.mem_cons_self rfl
def spCopyL : Sp := fun vs H Q _ => ∃ (d : Addr) (ls : Ls), vs = [.ref d] ∧ LsAt H d ls ∧ ls.length ≤ 100 ∧ ∀ d' H2, Same H H2 → H d' = none → LsAt H2 d' ls → Q (.ref d') H2
theorem d_copyL (T : Txt K mg C CE) (Kb : K.In base) (G : base.Ns mainGlobals mg) : Df P w K mg base 1 "_law_copy" ["_law_lists"] spCopyL := by
  refine T.f_copyL.df Kb G sc_law_copy (fun _ _ _ _ _ _ us hl => match us, hl with | [_], _ => rfl) (by rintro vs H Q E ⟨d, ls, rfl, _⟩; rfl) (fun f cdv A outer s H vs Q E hr h => ?_)
  obtain ⟨d, ls, rfl, hls, h100, q⟩ := h
  obtain ⟨kvs, hd, hnd, hpr⟩ := hls
  have hlen := Paired.len' hpr
  refine ⟨_, (pss_cons (ps_set (i := 1) sc_law_copy.nd rfl (by first | exact Or.inl rfl | exact Or.inr rfl) pe_dnewK)
    (pss_cons (ps_fz (ps_for PassesOwn.never rfl (pi_items (pv 0)) (pg_tup rfl (pgs_cons (pg_name (i := 2) sc_law_copy.nd rfl (Or.inl rfl)) (pgs_cons (pg_name (i := 3) sc_law_copy.nd rfl (Or.inl rfl)) pgs_nil)))
      (pss_one (ps_dput (hu_of hr) (pv 1) (pv 2) (pe_callTy call_listA rfl T.nlist PyProof.Rows.boot_list (pa_cons (pv 3) pa_nil (se rfl)) (he := se rfl) (hpl := nst rfl)) rfl))))
    (pss_one (ps_ret (pv 1))))), ?_⟩
  walk_at "rd"
  refine i_dnew fun D hD => ?_
  have hs0 : Same H (upd H D (.dK [])) := Same.new hD
  have hD0 : upd H D (.dK []) D = some (.dK []) := upd_same
  generalize upd H D (.dK []) = H0 at *
  have hdD : D ≠ d := fun z => by rw [z, hd] at hD; cases hD
  walk_at "rd"
  dsimp only
  refine i_fz (hs0 _ _ hd) fun o => ?_
  refine i_for (i_items ?_)
  walk_at "rd"
  refine ⟨d, o, kvs, rfl, upd_same, ?_⟩
  refine for_items (kvs := kvs) (fun i σ H' => SameB d H H' ∧ H' d = some (.frz o (.dK kvs)) ∧ ∃ (x2 x3 : Option V), σ = [some (.ref d), some (.ref D), x2, x3] ∧ LsAt H' D (ls.take i))
    ⟨fun b u n e => by rw [upd_ne n]; exact hs0 _ _ e, upd_same, none, none, rfl, ⟨[], by rw [upd_ne hdD]; exact hD0, List.nodup_nil, .nil⟩⟩ (fun i σ H' _ h => h.2.1) ?_ ?_
  · rintro i k x t σ H1 H2 hx ⟨sb, hfz, x2, x3, rfl, hL⟩ hN2
    obtain ⟨⟨z, l⟩, hzl, hk, p, hxp, hp⟩ := paired_at hpr hx
    have hk' : k = Sum.inr z := hk
    have hxp' : x = .ref p := hxp
    subst hk' hxp'
    have hpd : p ≠ d := ne_of hp hd (by intro z; cases z)
    have hp2 := hN2.same _ _ (sb p _ hpd hp)
    refine i_gtup hN2.tup rfl ?_
    walk_at "rd"
    refine i_dput ?_
    walk_at "rd"
    refine i_listAL (sqL_inj_of hp2) fun lp H3 hN3 => ?_
    walk_at "rd"
    have hil : i < ls.length := (List.getElem?_eq_some_iff.mp hzl).1
    obtain ⟨H4, hput, sb4, hL4⟩ := ((hL.same hN2.same).same hN3.same).add (z := z) (p := lp) (l := l) (nd_at hnd hzl) hN3.at (by rw [List.length_take]; omega)
    have s13 := hN2.same.trans hN3.same
    have hdD' : d ≠ D := Ne.symm hdD
    refine ⟨D, H4, rfl, hput, fun b u n e => ?_, ?_, _, _, rfl, ?_⟩
    · exact sb4 b u (fun w => by rw [w, hD] at e; cases e) (s13 _ _ (sb b u n e))
    · exact sb4 d _ hdD' (s13 _ _ hfz)
    · rw [List.take_add_one, hzl]; exact hL4
  · rintro σ H1 ⟨sb, hfz, x2, x3, rfl, hL⟩
    refine ⟨hfz, ?_⟩
    walk_at "rd"
    rw [← hlen, List.take_length] at hL
    refine q D _ (fun b u e => ?_) hD (hL.upd hfz (by intro kvs z; cases z) (by intro xs z; cases z))
    by_cases hb : b = d
    · rw [hb] at e ⊢
      rw [hd] at e
      rw [upd_same]; exact e
    · rw [upd_ne hb]; exact sb b u hb e
structure RunAt (CL CR : Addr) (H0 H : Hp) (x : Addr) (m : Int) (rs : List Row) (zs : List Str) (fl bl : Ls) (A : Str → Addr) (M : Md) : Prop where
  ex : ∃ (lx k fd bd md dx : Addr) (fs : List (Str × V)), LoopAt CL H0 lx k m rs ∧ LsAt H0 fd fl ∧ LsAt H0 bd bl ∧ H x = some (.ins CR dx fs) ∧ fs.lookup (Str.ofString "loop") = some (.ref lx) ∧ fs.lookup (Str.ofString "feeds") = some (.ref fd) ∧ fs.lookup (Str.ofString "begin") = some (.ref bd) ∧ fs.lookup (Str.ofString "made") = some (.ref md) ∧
    (fs.lookup (Str.ofString "made_at") = none ∧ fs.lookup (Str.ofString "number_read") = none ∧ fs.lookup (Str.ofString "numbers_for") = none ∧ fs.lookup (Str.ofString "do_turn") = none ∧ fs.lookup (Str.ofString "last_made") = none) ∧ MadeAt H md A zs M
  same : Same H0 H
  fr : ∀ z ∈ zs, H0 (A z) = none
theorem RunAt.to {CL CR : Addr} {H0 H H' : Hp} {x : Addr} {m : Int} {rs : List Row} {zs : List Str} {fl bl : Ls} {A : Str → Addr} {M : Md} (s : Same H H') (h : RunAt CL CR H0 H x m rs zs fl bl A M) : RunAt CL CR H0 H' x m rs zs fl bl A M := by
  obtain ⟨⟨lx, k, fd, bd, md, dx, fs, a, b, c, d, e1, e2, e3, e4, e5, hM⟩, hs, hf⟩ := h
  exact ⟨⟨lx, k, fd, bd, md, dx, fs, a, b, c, s _ _ d, e1, e2, e3, e4, e5, hM.same s⟩, hs.trans s, hf⟩
theorem loop_fs {CL : Addr} {H : Hp} {x k : Addr} {m : Int} {rs : List Row} (h : LoopAt CL H x k m rs) : ∃ dx fs, H x = some (.ins CL dx fs) ∧ fs.lookup (Str.ofString "measure") = some (.int m) ∧ fs.lookup (Str.ofString "rows") = none ∧ fs.lookup (Str.ofString "deepest") = none := by
  obtain ⟨dx, d, fs, ws, kvs, h1, a, b, c, e, f, _⟩ := h
  exact ⟨dx, fs, h1, a, e, f⟩
def spRMadeAt (CL CR : Addr) : Sp := fun vs H Q _ => ∃ (H0 : Hp) (x : Addr) (m : Int) (rs : List Row) (zs : List Str) (fl bl : Ls) (A : Str → Addr) (M : Md) (z : Str) (t : Int), vs = [.ref x, .str z, .int t] ∧ RunAt CL CR H0 H x m rs zs fl bl A M ∧ z ∈ zs ∧ 0 < m ∧ (t < 0 → ∃ l, bl.lookup z = some l ∧ (-t - 1).toNat < l.length) ∧ (0 ≤ t → t.toNat < (M z).length) ∧
  Q (.int (if t < 0 then (look bl z).getD (-t - 1).toNat 0 % m else (M z).getD t.toNat 0)) H
theorem m_madeat (T : Txt K mg C CE) : MethI P w K mg base 1 "made_at" ["self", "name", "turn"] (fun _ : Unit => CE .Run) (fun _ => spRMadeAt (CE .Loop) (CE .Run)) := by
  refine ⟨fun _ => ⟨T.i_Run.cl, ?_⟩⟩
  refine T.f_Run_made_at.fn sc_Run_made_at (fun _ _ _ _ _ _ us hl => match us, hl with | [_, _, _], _ => rfl) (by rintro vs H Q E ⟨H0, x, m, rs, zs, fl, bl, A, M, z, t, rfl, _⟩; rfl) (fun f cdv A outer s H vs Q E hr h => ?_)
  obtain ⟨H0, x, m, rs, zs, fl, bl, A', M, z, t, rfl, hR, hz, m0, hlt, hle, q⟩ := h
  obtain ⟨⟨lx, k, fd, bd, md, dx, fs, hL, hf, hb, hx, f1, f2, f3, f4, f5, hM⟩, hs, hfr⟩ := hR
  obtain ⟨dxl, fsl, hlx, gm, gr, gd⟩ := loop_fs (hL.same hs)
  refine ⟨_, (pss_cons (ps_if (pt_cmpR op_lt (pv 2) pe_int (nomark _)) (pss_one (ps_ret (pe_op op_mod (pe_ix ix_seq (pe_dget (hu_of hr) (pe_fld (pv 0) rfl) (pv 1) (fun _ _ => rfl)) (pe_op op_sub (pe_un un_neg (pv 2)) pe_int) (fun _ _ => rfl)) (pe_fld (pe_fld (pv 0) rfl) rfl)))) pss_nil)
    (pss_one (ps_ret (pe_ix ix_seq (pe_dget (hu_of hr) (pe_fld (pv 0) rfl) (pv 1) (fun _ _ => rfl)) (pv 2) (fun _ _ => rfl))))), ?_⟩
  walk_at "rd"
  refine i_iteD (fun h0 => ?_) (fun h0 => ?_)
  · rw [if_pos h0] at q
    obtain ⟨l, hl, hll⟩ := hlt h0
    obtain ⟨lp, g1, g2⟩ := (hb.same hs).get hl
    rw [look_of hl] at q
    walk_at "rd"
    refine i_dix ?_
    refine i_fld ?_
    walk_at "rd"
    refine ⟨x, _, dx, fs, .ref bd, rfl, hx, T.i_Run.cl, T.nRB, f3, ?_⟩
    walk_at "rd"
    refine ⟨bd, _, rfl, g1, ?_⟩
    walk_at "rd"
    refine i_ixL (sqL_inj_of g2) (at_int (by omega) hll) ?_
    walk_at "rd"
    refine i_fld ?_
    refine i_fld ?_
    walk_at "rd"
    refine ⟨x, _, dx, fs, .ref lx, rfl, hx, T.i_Run.cl, T.nRL, f1, ?_⟩
    refine ⟨lx, _, dxl, fsl, .int m, rfl, hlx, T.i_Loop.cl, T.nM, gm, ?_⟩
    walk_at "rd"
    exact q
  · rw [if_neg h0] at q
    walk_at "rd"
    refine i_dix ?_
    refine i_fld ?_
    walk_at "rd"
    refine ⟨x, _, dx, fs, .ref md, rfl, hx, T.i_Run.cl, T.nRM, f4, ?_⟩
    walk_at "rd"
    refine ⟨md, _, rfl, hM.get hz, ?_⟩
    walk_at "rd"
    refine i_ixL (sqL_inj_of (hM.at_ z hz)) (at_int (by omega) (hle (by omega))) ?_
    exact q
def spRNumRead (CL CR : Addr) : Sp := fun vs H Q _ => ∃ (H0 : Hp) (x : Addr) (m : Int) (rs : List Row) (zs : List Str) (fl bl : Ls) (A : Str → Addr) (M : Md) (v : V) (rd : Rd) (t : Nat), vs = [.ref x, v, .int (t : Int)] ∧ RunAt CL CR H0 H x m rs zs fl bl A M ∧ RdAt H rd v ∧ RdGo bl zs M t rd ∧ 0 < m ∧ Q (.int (getR m bl M t rd)) H
theorem m_numread (T : Txt K mg C CE) : MethI P w K mg base 2 "number_read" ["self", "read", "turn"] (fun _ : Unit => CE .Run) (fun _ => spRNumRead (CE .Loop) (CE .Run)) := by
  have Mmade_at : MethI P w K mg base 1 "made_at" ["self", "name", "turn"] (fun _ : Unit => CE .Run) (fun _ => spRMadeAt (CE .Loop) (CE .Run)) := m_madeat T
  refine ⟨fun _ => ⟨T.i_Run.cl, ?_⟩⟩
  refine T.f_Run_number_read.fn sc_Run_number_read (fun _ _ _ _ _ _ us hl => match us, hl with | [_, _, _], _ => rfl) (by rintro vs H Q E ⟨H0, x, m, rs, zs, fl, bl, A, M, v, rd, t, rfl, _⟩; rfl) (fun f cdv A outer s H vs Q E hr h => ?_)
  obtain ⟨H0, x, m, rs, zs, fl, bl, A', M, v, rd, t, rfl, hR, hrd, hgo, m0, q⟩ := h
  refine ⟨_, (pss_cons (ps_if (pt_val (pe_callB call_isi rfl T.nisi PyProof.Rows.boot_isinstance (pa_cons (pv 1) (pa_cons (pe_bltn (v := .ty "int") rfl T.nint PyProof.Rows.boot_int rfl) pa_nil (se rfl)) (se rfl)) (he := se rfl) (hpl := nst rfl))) (pss_one (ps_ret (pv 1))) pss_nil)
    (pss_one (ps_ret (pe_methI Mmade_at (pv 0) (hr.mono (by decide)) (pa_cons (pe_ix ix_seq (pv 1) pe_int (fun _ _ => rfl)) (pa_cons (pe_op op_sub (pv 2) (pe_ix ix_seq (pv 1) pe_int (fun _ _ => rfl))) pa_nil (se rfl)) (se rfl)) (hst := se rfl) (hpl := nst rfl))))), ?_⟩
  cases rd with
  | num i =>
    have e : v = .int i := hrd
    subst e
    walk_at "rd"
    refine i_isiI T.kII ?_
    walk_at "rd"
    exact q
  | back z b =>
    obtain ⟨ta, rfl, hta⟩ := hrd
    obtain ⟨hz, b0, glt, gle⟩ := hgo
    have hR0 := hR
    obtain ⟨⟨lx, k, fd, bd, md, dx, fs, hL, hf, hb, hx, f1, f2, f3, f4, ⟨f5, f6, f7, f8, f9⟩, hM⟩, hs, hfr⟩ := hR
    walk_at "rd"
    refine i_isiT hta T.kTI ?_
    walk_at "rd"
    refine i_methI ?_
    walk_at "rd"
    refine ⟨(), x, dx, fs, rfl, hx, f5, ?_⟩
    walk_at "rd"
    refine i_ixT (.inl (.inl hta)) (show atI _ 0 = some (.str z) from rfl) ?_
    walk_at "rd"
    refine i_ixT (.inl (.inl hta)) (show atI _ 1 = some (.int b) from rfl) ?_
    walk_at "rd"
    refine ⟨H0, x, m, rs, zs, fl, bl, A', M, z, (t : Int) - b, rfl, hR0, hz, m0, fun h0 => ?_, fun h0 => gle (by omega), ?_⟩
    · obtain ⟨l, h1, h2⟩ := glt (by omega)
      exact ⟨l, h1, by omega⟩
    · have e : (if (t : Int) - b < 0 then (look bl z).getD (-((t : Int) - b) - 1).toNat 0 % m else (M z).getD ((t : Int) - b).toNat 0) = getR m bl M t (.back z b) := by
        show _ = if (t : Int) < b then (look bl z).getD (b - t - 1).toNat 0 % m else (M z).getD ((t : Int) - b).toNat 0
        by_cases h0 : (t : Int) < b
        · rw [if_pos h0, if_pos (by omega), show (-((t : Int) - b) - 1).toNat = (b - t - 1).toNat by omega]
        · rw [if_neg h0, if_neg (by omega)]
      rw [e]; exact q
def spRNumFor (CL CR : Addr) : Sp := fun vs H Q _ => ∃ (H0 : Hp) (x : Addr) (m : Int) (rs : List Row) (zs : List Str) (fl bl : Ls) (A : Str → Addr) (M : Md) (v : V) (r : Row) (t : Nat), vs = [.ref x, v, .int (t : Int)] ∧ RunAt CL CR H0 H x m rs zs fl bl A M ∧ RowAt H r v ∧ RowGo fl bl zs M t r ∧ 0 < m ∧ r.reads.length ≤ 3 ∧
  ∀ p H2, Same H H2 → H2 p = some (.lst (List.map V.int (gets m fl bl M t r))) → Q (.ref p) H2
theorem m_numfor (T : Txt K mg C CE) : MethI P w K mg base 3 "numbers_for" ["self", "row", "turn"] (fun _ : Unit => CE .Run) (fun _ => spRNumFor (CE .Loop) (CE .Run)) := by
  have Mnumber_read : MethI P w K mg base 2 "number_read" ["self", "read", "turn"] (fun _ : Unit => CE .Run) (fun _ => spRNumRead (CE .Loop) (CE .Run)) := m_numread T
  refine ⟨fun _ => ⟨T.i_Run.cl, ?_⟩⟩
  refine T.f_Run_numbers_for.fn sc_Run_numbers_for (fun _ _ _ _ _ _ us hl => match us, hl with | [_, _, _], _ => rfl) (by rintro vs H Q E ⟨H0, x, m, rs, zs, fl, bl, A, M, v, r, t, rfl, _⟩; rfl) (fun f cdv A outer s H vs Q E hr h => ?_)
  obtain ⟨H0, x, m, rs, zs, fl, bl, A', M, v, r, t, rfl, hR, hrow, hgo, m0, hr3, q⟩ := h
  have hR0 := hR
  obtain ⟨⟨lx, k, fd, bd, md, dx, fs, hL, hf, hb, hx, f1, f2, f3, f4, ⟨f5, f6, f7, f8, f9⟩, hM⟩, hs, hfr⟩ := hR
  obtain ⟨p1, p2, vs, rfl, h1, h2, h3⟩ := hrow
  have l3 := h3.len
  have lb := line_big
  refine ⟨_, (pss_cons (ps_if (pt_cmpR op_eq (pe_ix ix_seq (pv 1) pe_int (fun _ _ => rfl)) pe_str (nomark _)) (pss_one (ps_ret (pe_lstA (pa_cons (pe_ix ix_seq (pe_dget (hu_of hr) (pe_fld (pv 0) rfl) (pe_ix ix_seq (pv 1) pe_int (fun _ _ => rfl)) (fun _ _ => rfl)) (pv 2) (fun _ _ => rfl)) pa_nil (se rfl))))) pss_nil)
    (pss_one (ps_ret (pe_lc (Blk.of (caps := ["turn", "self"]) (ix := [2, 0]) rfl) rfl (pi_tup (pe_ix ix_seq (pv 1) pe_int (fun _ _ => rfl))) (fun _ _ _ _ => pf_nil) (fun _ _ _ _ => (pe_methI Mnumber_read (pv 2) (hr.mono (by decide)) (pa_cons (pv 0) (pa_cons (pv 1) pa_nil (se rfl)) (se rfl)) (hst := se rfl) (hpl := nst rfl))))))), ?_⟩
  walk_at "rd"
  refine i_ixT (.inl (.inl h1)) (show atI _ 1 = some (.str r.d.word) from rfl) ?_
  walk_at "rd"
  by_cases ht : r.d = .take
  · refine i_iteSe (by rw [ht]; rfl) ?_
    obtain ⟨l, hl, htl⟩ := hgo.1 ht
    obtain ⟨lp, g1, g2⟩ := (hf.same hs).get hl
    walk_at "rd"
    refine i_dix ?_
    refine i_fld ?_
    walk_at "rd"
    refine ⟨x, _, dx, fs, .ref fd, rfl, hx, T.i_Run.cl, T.nRF, f2, ?_⟩
    walk_at "rd"
    refine i_ixT (.inl (.inl h1)) (show atI _ 0 = some (.str r.name) from rfl) ?_
    refine ⟨fd, _, rfl, g1, ?_⟩
    walk_at "rd"
    refine i_ixL (sqL_inj_of g2) (at_ints t htl) ?_
    walk_at "rd"
    refine ⟨by show 1 ≤ sizeLine; omega, fun p H2 hN => ?_⟩
    refine q p H2 hN.same ?_
    rw [hN.at, gets_take ht, look_of hl]; rfl
  · refine i_iteSf (word_ne (e := .take) ht) ?_
    walk_at "rd"
    refine i_lc (i_tupI ?_)
    walk_at "rd"
    refine i_ixT (.inl (.inl h1)) (show atI _ 2 = some (.ref p1) from rfl) ?_
    refine ⟨p1, rfl, ⟨vs, .inl (.inl h2)⟩, ?_⟩
    refine lcN (LcIt.tup (.inl (.inl h2))) (fun D i y H' => ∃ rd, r.reads[i]? = some rd ∧ y = .int (getR m bl M t rd)) (by omega) (fun D i y H' H'' _ h => h) (fun D i H' R hi hD hy s' rr => ?_) (fun D ys H2 hD s2 hHD hyl hP => ?_)
    · have hir : i < r.reads.length := by omega
      have hri := List.getElem?_eq_getElem hir
      have hvi := List.getElem?_eq_getElem hi
      have ra := (h3.at_ i r.reads[i] vs[i] hri hvi).same s'
      have go := hgo.2 r.reads[i] (List.getElem_mem hir)
      have ev : vs.getD i V.non = vs[i] := by rw [List.getD, hvi]; rfl
      rw [ev]
      generalize vs[i] = v at *
      walk_at "rd"
      refine i_methI ?_
      walk_at "rd"
      refine ⟨(), x, dx, fs, rfl, s' _ _ hx, f6, ?_⟩
      walk_at "rd"
      refine ⟨H0, x, m, rs, zs, fl, bl, A', M, v, r.reads[i], t, rfl, hR0.to s', ra, go, m0, ?_⟩
      exact rr _ _ (Same.refl _) ⟨r.reads[i], hri, rfl⟩
    · refine q D H2 s2 ?_
      rw [hHD, gets_not ht]
      congr 1; congr 1
      refine List.ext_getElem? fun i => ?_
      rw [List.getElem?_map, List.getElem?_map]
      by_cases hi : i < ys.length
      · obtain ⟨rd, e1, e2⟩ := hP i ys[i] (List.getElem?_eq_getElem hi)
        rw [List.getElem?_eq_getElem hi, e1, e2]; rfl
      · rw [List.getElem?_eq_none (by omega), List.getElem?_eq_none (by omega)]; rfl
def spRTurn (CL CR : Addr) : Sp := fun vs H Q _ => ∃ (H0 : Hp) (x : Addr) (m : Int) (rs : List Row) (zs : List Str) (fl bl : Ls) (A : Str → Addr) (M : Md) (t n : Nat), vs = [.ref x, .int (t : Int)] ∧ RunAt CL CR H0 H x m rs zs fl bl A M ∧ RowsOk zs rs ∧ Going zs m 0 t M ∧ FeOk rs fl n ∧ BeOk rs bl ∧ t < n ∧ n ≤ 300 ∧ 2 ≤ m ∧ m ≤ 10 ^ 60 ∧
  ∀ H2, RunAt CL CR H0 H2 x m rs zs fl bl A (turnR m fl bl rs M t) → Q .non H2
theorem m_turn (T : Txt K mg C CE) (Kb : K.In base) (G : base.Ns mainGlobals mg) : MethI P w K mg base 4 "do_turn" ["self", "turn"] (fun _ : Unit => CE .Run) (fun _ => spRTurn (CE .Loop) (CE .Run)) := by
  have Mnumbers_for : MethI P w K mg base 3 "numbers_for" ["self", "row", "turn"] (fun _ : Unit => CE .Run) (fun _ => spRNumFor (CE .Loop) (CE .Run)) := m_numfor T
  have Mrows : MethI P w K mg base 1 "rows" ["self"] (fun _ : Unit => CE .Loop) (fun _ => spLRows (CE .Loop)) := m_rows T
  have Ddeed_of : Df P w K mg base 1 "deed_of" ["word"] (spDeedA C) := d_deed T Kb G
  have Mof : MethI P w K mg base 1 "of" ["self", "numbers", "measure"] C (spOf K) := m_of T
  refine ⟨fun _ => ⟨T.i_Run.cl, ?_⟩⟩
  refine T.f_Run_do_turn.fn sc_Run_do_turn (fun _ _ _ _ _ _ us hl => match us, hl with | [_, _], _ => rfl) (by rintro vs H Q E ⟨H0, x, m, rs, zs, fl, bl, A, M, t, n, rfl, _⟩; rfl) (fun f cdv A outer s H vs Q E hr h => ?_)
  obtain ⟨H0, x, m, rs, zs, fl, bl, A', M, t, n, rfl, hR, hok, hg, hfe, hbe, htn, hn, m2, m60, q⟩ := h
  have hR0 := hR
  obtain ⟨⟨lx, k, fd, bd, md, dx, fs, hL, hf, hb, hx, f1, f2, f3, f4, ⟨f5, f6, f7, f8, f9⟩, hM⟩, hs, hfr⟩ := hR
  obtain ⟨dxl, fsl, hlx, gm, gr, gd⟩ := loop_fs hL
  have m0 : 0 < m := by omega
  have l2 := hok.len
  have l12 := hok.names.1
  have lb := line_big
  refine ⟨_, (pss_one (ps_for PassesOwn.never rfl (pi_list (pe_methI0 Mrows (pe_fld (pv 0) rfl) (hr.mono (by decide)))) (pg_name (i := 2) sc_Run_do_turn.nd rfl (Or.inl rfl))
      (pss_cons (ps_set (i := 3) sc_Run_do_turn.nd rfl (by first | exact Or.inl rfl | exact Or.inr rfl) (pe_methI Mnumbers_for (pv 0) (hr.mono (by decide)) (pa_cons (pv 2) (pa_cons (pv 1) pa_nil (se rfl)) (se rfl)) (hst := se rfl) (hpl := nst rfl)))
    (pss_one (ps_expr (pe_bm PySem.F.plainAttrs_list PySem.F.slot_list_append PySem.F.type_list_append mt_append (pe_dget (hu_of hr) (pe_fld (pv 0) rfl) (pe_ix ix_seq (pv 2) pe_int (fun _ _ => rfl)) (fun _ _ => rfl)) (pa_cons (pe_methI Mof (pe_callD Ddeed_of (hr.mono (by decide)) rfl (pa_cons (pe_ix ix_seq (pv 2) pe_int (fun _ _ => rfl)) pa_nil (se rfl)) (he := se rfl) (hpl := nst rfl)) (hr.mono (by decide)) (pa_cons (pv 3) (pa_cons (pe_fld (pe_fld (pv 0) rfl) rfl) pa_nil (se rfl)) (se rfl)) (hst := se rfl) (hpl := nst rfl)) pa_nil (se rfl)) (hs := se rfl) (hplain := nst rfl))))))), ?_⟩
  walk_at "rd"
  refine i_for (i_list ?_)
  refine i_methI ?_
  refine i_fld ?_
  walk_at "rd"
  refine ⟨x, _, dx, fs, .ref lx, rfl, hx, T.i_Run.cl, T.nRL, f1, ?_⟩
  refine ⟨(), lx, dxl, fsl, rfl, hs _ _ hlx, gr, ?_⟩
  walk_at "rd"
  refine ⟨lx, k, m, rs, rfl, hL.same hs, fun p us H1 hN1 hu => ?_⟩
  have l1 := hu.len
  refine ⟨p, rfl, ⟨us, hN1.lst⟩, ?_⟩
  refine for_list (xs := us) (fun i σ H' => RunAt (CE .Loop) (CE .Run) H0 H' x m rs zs fl bl A' ((rs.take i).foldl (stepR m fl bl t) M) ∧ H' p = some (.lst us) ∧ RowsAt H' rs us ∧ H' x = some (.ins (CE .Run) dx fs) ∧ MadeAt H' md A' zs ((rs.take i).foldl (stepR m fl bl t) M) ∧ ∃ x2 x3, σ = [some (.ref x), some (.int (t : Int)), x2, x3])
    ⟨hR0.to hN1.same, hN1.at, hu, hN1.same _ _ hx, hM.same hN1.same, none, none, rfl⟩ (fun i σ H' _ h => sqL_inj_of h.2.1) ?_ ?_
  · rintro i u σ H3 hui ⟨hR3, hp3, hu3, hx3, hM3, x2, x3, rfl⟩
    have hiu := (List.getElem?_eq_some_iff.mp hui).1
    have hir : i < rs.length := by rw [l1]; exact hiu
    have hri := List.getElem?_eq_getElem hir
    have r1 := hu3.at_ i rs[i] u hri hui
    have gi := hg.take (fl := fl) (bl := bl) hok m0 i (by omega)
    have go := gi.go hok hri hfe hbe htn
    have rok := hok.at_ i rs[i] hri
    have hzm := zs_mem hok hri
    have fn := fold_next (stepR m fl bl t) M hri
    have hrd3 : rs[i].reads.length ≤ 3 := by rw [rok.many]; exact wants3 _
    generalize rs[i] = rw at *
    generalize (rs.take i).foldl (stepR m fl bl t) M = M3 at *
    have r0 := r1
    obtain ⟨p1, p2, vs, rfl, h1, h2, h3⟩ := r1
    have hlM := gi.len i rw.name rok.name
    rw [if_neg (by omega)] at hlM
    have hs3 := hR3.same
    walk_at "rd"
    refine i_methI ?_
    walk_at "rd"
    refine ⟨(), x, dx, fs, rfl, hx3, f7, ?_⟩
    walk_at "rd"
    refine ⟨H0, x, m, rs, zs, fl, bl, A', M3, .ref p2, rw, t, rfl, hR3, r0, go, m0, hrd3, fun np H4 s4 hnp => ?_⟩
    have hx4 := s4 _ _ hx3
    have hM4 := hM3.same s4
    walk_at "rd"
    refine i_dix ?_
    refine i_fld ?_
    walk_at "rd"
    refine ⟨x, _, dx, fs, .ref md, rfl, hx4, T.i_Run.cl, T.nRM, f4, ?_⟩
    walk_at "rd"
    refine i_ixT (.inl (.inl (s4 _ _ h1))) (show atI _ 0 = some (.str rw.name) from rfl) ?_
    refine ⟨md, _, rfl, hM4.get hzm, ?_⟩
    refine ⟨.inl ⟨rfl, _, sqL_inj_of (hM4.at_ _ hzm)⟩, ?_⟩
    walk_at "rd"
    refine i_methI ?_
    walk_at "rd"
    refine i_ixT (.inl (.inl (s4 _ _ h1))) (show atI _ 1 = some (.str rw.d.word) from rfl) ?_
    walk_at "rd"
    refine ⟨rw.d, rfl, fun y dy H5 hN5 => ?_⟩
    refine ⟨rw.d, y, dy, [], rfl, hN5.at, rfl, ?_⟩
    have s5 := s4.trans hN5.same
    walk_at "rd"
    refine i_fld ?_
    refine i_fld ?_
    walk_at "rd"
    refine ⟨x, _, dx, fs, .ref lx, rfl, s5 _ _ hx3, T.i_Run.cl, T.nRL, f1, ?_⟩
    refine ⟨lx, _, dxl, fsl, .int m, rfl, s5 _ _ (hs3 _ _ hlx), T.i_Loop.cl, T.nM, gm, ?_⟩
    walk_at "rd"
    refine ⟨y, np, gets m fl bl M3 t rw, m, rfl, sqL_inj_of (hN5.same _ _ hnp), gets_len rok, m0, fun hti => ?_, ?_⟩
    · have ntk : rw.d ≠ .take := by rw [hti]; decide
      have e60 : (10 : Int) ^ 60 < 2 ^ 200 := by decide +kernel
      have b0 := gets_b (fl := fl) (bl := bl) gi m0 m60 rok ntk 0
      have b1 := gets_b (fl := fl) (bl := bl) gi m0 m60 rok ntk 1
      exact ok_of 200 200 b0.1 (by omega) b1.1 (by omega) (by decide)
    have hM5 := hM3.same s5
    walk_at "rd"
    refine i_append (hM5.at_ _ hzm) (by rw [List.length_map]; omega) ?_
    have hA5 := hM5.at_ _ hzm
    have hM6 := hM5.app (M' := stepR m fl bl t M3 rw) (x := rw.d.of (gets m fl bl M3 t rw) m) hzm fun y => rfl
    have hx6 : upd H5 (A' rw.name) (.lst (List.map V.int (M3 rw.name) ++ [.int (rw.d.of (gets m fl bl M3 t rw) m)])) x = some (.ins (CE .Run) dx fs) := by
      rw [upd_ne (ne_of (s5 _ _ hx3) hA5 (by intro z; cases z))]; exact s5 _ _ hx3
    have hs6 : Same H0 (upd H5 (A' rw.name) (.lst (List.map V.int (M3 rw.name) ++ [.int (rw.d.of (gets m fl bl M3 t rw) m)]))) := fun b o e => by
      rw [upd_ne (ne_of_none e (hfr _ hzm))]; exact s5 _ _ (hs3 _ _ e)
    have hp5 := s5 _ _ hp3
    have hpA : p ≠ A' rw.name := fun z => by
      have := hM.at_ _ hzm
      rw [← z, hN1.free] at this; cases this
    rw [fn]
    refine ⟨⟨⟨lx, k, fd, bd, md, dx, fs, hL, hf, hb, hx6, f1, f2, f3, f4, ⟨f5, f6, f7, f8, f9⟩, hM6⟩, hs6, hfr⟩, ?_, (hu3.same s5).keep (TK.upd hA5 (by intro xs z; cases z)), hx6, hM6, _, _, rfl⟩
    rw [upd_ne hpA]; exact hp5
  · rintro σ H3 ⟨hR3, hp3, hu3, hx3, hM3, x2, x3, rfl⟩
    rw [← l1, List.take_length] at hR3
    exact q H3 hR3
def spRLast (CL CR : Addr) : Sp := fun vs H Q _ => ∃ (H0 : Hp) (x : Addr) (m : Int) (rs : List Row) (zs : List Str) (fl bl : Ls) (A : Str → Addr) (M : Md) (z : Str) (n : Nat), vs = [.ref x, .str z, .int (n : Int)] ∧ RunAt CL CR H0 H x m rs zs fl bl A M ∧ RowsOk zs rs ∧ z ∈ zs ∧ (0 < deep rs z → ∃ l, bl.lookup z = some l ∧ deep rs z ≤ l.length) ∧ (M z).length = n ∧ 0 < m ∧
  ∀ p H2, New H p (.lst (List.map V.int (endsOf m bl rs M n z))) H2 → Q (.ref p) H2
theorem m_last (T : Txt K mg C CE) : MethI P w K mg base 2 "last_made" ["self", "name", "turns"] (fun _ : Unit => CE .Run) (fun _ => spRLast (CE .Loop) (CE .Run)) := by
  have Mmade_at : MethI P w K mg base 1 "made_at" ["self", "name", "turn"] (fun _ : Unit => CE .Run) (fun _ => spRMadeAt (CE .Loop) (CE .Run)) := m_madeat T
  have Mdeepest : MethI P w K mg base 1 "deepest" ["self", "name"] (fun _ : Unit => CE .Loop) (fun _ => spLDeep (CE .Loop)) := m_deepest T
  refine ⟨fun _ => ⟨T.i_Run.cl, ?_⟩⟩
  refine T.f_Run_last_made.fn sc_Run_last_made (fun _ _ _ _ _ _ us hl => match us, hl with | [_, _, _], _ => rfl) (by rintro vs H Q E ⟨H0, x, m, rs, zs, fl, bl, A, M, z, n, rfl, _⟩; rfl) (fun f cdv A outer s H vs Q E hr h => ?_)
  obtain ⟨H0, x, m, rs, zs, fl, bl, A', M, z, n, rfl, hR, hok, hz, hbz, hlM, m0, q⟩ := h
  have hR0 := hR
  obtain ⟨⟨lx, k, fd, bd, md, dx, fs, hL, hf, hb, hx, f1, f2, f3, f4, ⟨f5, f6, f7, f8, f9⟩, hM⟩, hs, hfr⟩ := hR
  obtain ⟨dxl, fsl, hlx, gm, gr, gd⟩ := loop_fs hL
  have hd6 := deep_6 hok z
  obtain ⟨dn, hdn⟩ := Int.eq_ofNat_of_zero_le (deep_nn rs z)
  have lb := line_big
  refine ⟨_, (pss_one (ps_ret (pe_lc (Blk.of (caps := ["name", "self", "turns"]) (ix := [1, 0, 2]) rfl) rfl (pi_range1 rfl T.nrange (pa_cons (pe_methI Mdeepest (pe_fld (pv 0) rfl) (hr.mono (by decide)) (pa_cons (pv 1) pa_nil (se rfl)) (hst := se rfl) (hpl := nst rfl)) pa_nil (se rfl))) (fun _ _ _ _ => pf_nil) (fun _ _ _ _ => (pe_methI Mmade_at (pv 2) (hr.mono (by decide)) (pa_cons (pv 1) (pa_cons (pe_op op_sub (pe_op op_sub (pv 3) pe_int) (pv 0)) pa_nil (se rfl)) (se rfl)) (hst := se rfl) (hpl := nst rfl)))))), ?_⟩
  walk_at "rd"
  refine i_lc (i_rng1 ?_)
  walk_at "rd"
  refine i_methI ?_
  refine i_fld ?_
  walk_at "rd"
  refine ⟨x, _, dx, fs, .ref lx, rfl, hx, T.i_Run.cl, T.nRL, f1, ?_⟩
  refine ⟨(), lx, dxl, fsl, rfl, hs _ _ hlx, gd, ?_⟩
  walk_at "rd"
  refine ⟨lx, k, m, rs, z, rfl, hL.same hs, ?_⟩
  walk_at "rd"
  rw [hdn]
  refine ⟨_, rfl, by omega, by omega, ?_⟩
  rw [Int.toNat_natCast]
  refine lcR (n := dn) (fun i => .int (endV m bl M n z i)) (by omega) (fun i H' R hi s' rr => ?_) (fun D H2 hN => ?_)
  · have e0 : (0 : Int) + (i : Int) = (i : Int) := Int.zero_add _
    rw [e0]
    walk_at "rd"
    refine i_methI ?_
    walk_at "rd"
    refine ⟨(), x, dx, fs, rfl, s' _ _ hx, f5, ?_⟩
    walk_at "rd"
    refine ⟨H0, x, m, rs, zs, fl, bl, A', M, z, (n : Int) - 1 - (i : Int), rfl, hR0.to s', hz, m0, fun h0 => ?_, fun h0 => by omega, ?_⟩
    · obtain ⟨l, h1, h2⟩ := hbz (by omega)
      exact ⟨l, h1, by omega⟩
    · have e : (if (n : Int) - 1 - (i : Int) < 0 then (look bl z).getD (-((n : Int) - 1 - (i : Int)) - 1).toNat 0 % m else (M z).getD ((n : Int) - 1 - (i : Int)).toNat 0) = endV m bl M n z i := by
        unfold endV
        by_cases h0 : n < i + 1
        · rw [if_pos h0, if_pos (by omega), show (-((n : Int) - 1 - (i : Int)) - 1).toNat = i - n by omega]
        · rw [if_neg h0, if_neg (by omega), show ((n : Int) - 1 - (i : Int)).toNat = n - 1 - i by omega]
      rw [e]; exact rr
  · refine q D H2 ?_
    unfold endsOf
    rw [hdn, Int.toNat_natCast, List.map_map]
    exact hN
def spRunInit (CL CR : Addr) : Sp := fun vs H Q _ => ∃ (H0 : Hp) (x dx lx k fd bd : Addr) (m : Int) (rs : List Row) (zs : List Str) (fl bl : Ls), vs = [.ref x, .ref lx, .ref fd, .ref bd] ∧ H x = some (.ins CR dx []) ∧ Same H0 H ∧ H0 x = none ∧ LoopAt CL H0 lx k m rs ∧ LsAt H0 fd fl ∧ LsAt H0 bd bl ∧ RowsOk zs rs ∧
  ∀ A H2, RunAt CL CR H0 H2 x m rs zs fl bl A (fun _ => []) → Q .non H2
theorem mk_run (T : Txt K mg C CE) : MkI P w K mg base 2 (CE .Run) ["self", "loop", "feeds", "begin"] (spRunInit (CE .Loop) (CE .Run)) := by
  have Mrows : MethI P w K mg base 1 "rows" ["self"] (fun _ : Unit => CE .Loop) (fun _ => spLRows (CE .Loop)) := m_rows T
  refine T.i_Run.mki sc_Run___init__ (fun _ _ _ _ _ _ us hl => match us, hl with | [_, _, _, _], _ => rfl) (by rintro vs H Q E ⟨H0, x, dx, lx, k, fd, bd, m, rs, zs, fl, bl, rfl, _⟩; rfl) (fun f cdv A outer s H vs Q E hr h => ?_)
  obtain ⟨H0, x, dx, lx, k, fd, bd, m, rs, zs, fl, bl, rfl, hx, hs, hx0, hL, hf, hb, hok, q⟩ := h
  obtain ⟨dxl, fsl, hlx, gm, gr, gd⟩ := loop_fs hL
  have l2 := hok.len
  have l12 := hok.names.1
  have lb := line_big
  have su : ∀ {H' : Hp} {o : HO}, Same H0 H' → Same H0 (upd H' x o) := fun s b u e => by rw [upd_ne (ne_of_none e hx0)]; exact s _ _ e
  refine ⟨_, (pss_cons (ps_fld (pv 0) (pv 1) (by with_unfolding_all rfl))
    (pss_cons (ps_fld (pv 0) (pv 2) (by with_unfolding_all rfl))
    (pss_cons (ps_fld (pv 0) (pv 3) (by with_unfolding_all rfl))
    (pss_cons (ps_fld (pv 0) pe_dnewK (by with_unfolding_all rfl))
    (pss_one (ps_for PassesOwn.never rfl (pi_list (pe_methI0 Mrows (pv 1) (hr.mono (by decide)))) (pg_name (i := 4) sc_Run___init__.nd rfl (Or.inl rfl))
      (pss_one (ps_dput (hu_of hr) (pe_fld (pv 0) rfl) (pe_ix ix_seq (pv 4) pe_int (fun _ _ => rfl)) (pe_lstA pa_nil) rfl)))))))), ?_⟩
  walk_at "rd"
  refine i_setFld ?_
  walk_at "rd"
  refine ⟨x, _, dx, [], rfl, hx, T.i_Run.cl, T.nRL, by show 0 < 1000; decide, ?_⟩
  have hs1 := su (o := .ins (CE .Run) dx (putF (Str.ofString "loop") (.ref lx) [])) hs
  have hx1 : upd H x (.ins (CE .Run) dx (putF (Str.ofString "loop") (.ref lx) [])) x = some (.ins (CE .Run) dx (putF (Str.ofString "loop") (.ref lx) [])) := upd_same
  generalize upd H x (.ins (CE .Run) dx (putF (Str.ofString "loop") (.ref lx) [])) = H1 at *
  walk_at "rd"
  dsimp only
  refine i_setFld ?_
  walk_at "rd"
  refine ⟨x, _, dx, _, rfl, hx1, T.i_Run.cl, T.nRF, (show 1 < 1000 by decide), ?_⟩
  have hs2 := su (o := .ins (CE .Run) dx (putF (Str.ofString "feeds") (.ref fd) (putF (Str.ofString "loop") (.ref lx) []))) hs1
  have hx2 : upd H1 x (.ins (CE .Run) dx (putF (Str.ofString "feeds") (.ref fd) (putF (Str.ofString "loop") (.ref lx) []))) x = some (.ins (CE .Run) dx (putF (Str.ofString "feeds") (.ref fd) (putF (Str.ofString "loop") (.ref lx) []))) := upd_same
  generalize upd H1 x (.ins (CE .Run) dx (putF (Str.ofString "feeds") (.ref fd) (putF (Str.ofString "loop") (.ref lx) []))) = H2 at *
  walk_at "rd"
  dsimp only
  refine i_setFld ?_
  walk_at "rd"
  refine ⟨x, _, dx, _, rfl, hx2, T.i_Run.cl, T.nRB, (show 2 < 1000 by decide), ?_⟩
  have hs3 := su (o := .ins (CE .Run) dx (putF (Str.ofString "begin") (.ref bd) (putF (Str.ofString "feeds") (.ref fd) (putF (Str.ofString "loop") (.ref lx) [])))) hs2
  have hx3 : upd H2 x (.ins (CE .Run) dx (putF (Str.ofString "begin") (.ref bd) (putF (Str.ofString "feeds") (.ref fd) (putF (Str.ofString "loop") (.ref lx) [])))) x = some (.ins (CE .Run) dx (putF (Str.ofString "begin") (.ref bd) (putF (Str.ofString "feeds") (.ref fd) (putF (Str.ofString "loop") (.ref lx) [])))) := upd_same
  generalize upd H2 x (.ins (CE .Run) dx (putF (Str.ofString "begin") (.ref bd) (putF (Str.ofString "feeds") (.ref fd) (putF (Str.ofString "loop") (.ref lx) [])))) = H3 at *
  walk_at "rd"
  dsimp only
  refine i_setFld ?_
  refine i_dnew fun md hmd => ?_
  have hs4 : Same H0 (upd H3 md (.dK [])) := hs3.upd hmd
  have hm4 : upd H3 md (.dK []) md = some (.dK []) := upd_same
  have hxm : x ≠ md := ne_of_none hx3 hmd
  have hx4 : upd H3 md (.dK []) x = some (.ins (CE .Run) dx (putF (Str.ofString "begin") (.ref bd) (putF (Str.ofString "feeds") (.ref fd) (putF (Str.ofString "loop") (.ref lx) [])))) := by rw [upd_ne hxm]; exact hx3
  have hmd0 : H0 md = none := hs3.free hmd
  generalize upd H3 md (.dK []) = H4 at *
  walk_at "rd"
  refine ⟨x, _, dx, _, rfl, hx4, T.i_Run.cl, T.nRM, (show 3 < 1000 by decide), ?_⟩
  have hs5 := su (o := .ins (CE .Run) dx (putF (Str.ofString "made") (.ref md) (putF (Str.ofString "begin") (.ref bd) (putF (Str.ofString "feeds") (.ref fd) (putF (Str.ofString "loop") (.ref lx) []))))) hs4
  have hx5 : upd H4 x (.ins (CE .Run) dx (putF (Str.ofString "made") (.ref md) (putF (Str.ofString "begin") (.ref bd) (putF (Str.ofString "feeds") (.ref fd) (putF (Str.ofString "loop") (.ref lx) []))))) x = some (.ins (CE .Run) dx (putF (Str.ofString "made") (.ref md) (putF (Str.ofString "begin") (.ref bd) (putF (Str.ofString "feeds") (.ref fd) (putF (Str.ofString "loop") (.ref lx) []))))) := upd_same
  have hm5 : upd H4 x (.ins (CE .Run) dx (putF (Str.ofString "made") (.ref md) (putF (Str.ofString "begin") (.ref bd) (putF (Str.ofString "feeds") (.ref fd) (putF (Str.ofString "loop") (.ref lx) []))))) md = some (.dK []) := by rw [upd_ne (Ne.symm hxm)]; exact hm4
  generalize upd H4 x (.ins (CE .Run) dx (putF (Str.ofString "made") (.ref md) (putF (Str.ofString "begin") (.ref bd) (putF (Str.ofString "feeds") (.ref fd) (putF (Str.ofString "loop") (.ref lx) []))))) = H5 at *
  walk_at "rd"
  dsimp only
  refine i_for (i_list ?_)
  refine i_methI ?_
  walk_at "rd"
  refine ⟨(), lx, dxl, fsl, rfl, hs5 _ _ hlx, gr, ?_⟩
  walk_at "rd"
  refine ⟨lx, k, m, rs, rfl, hL.same hs5, fun p us H6 hN6 hu => ?_⟩
  have l1 := hu.len
  have hm6 := hN6.same _ _ hm5
  have hx6 := hN6.same _ _ hx5
  have hs6 := hs5.trans hN6.same
  have hpm : p ≠ md := fun z => by have := hN6.free; rw [z, hm5] at this; cases this
  refine ⟨p, rfl, ⟨us, hN6.lst⟩, ?_⟩
  refine for_list (xs := us) (fun i σ H' => SameB md H6 H' ∧ ∃ (A' : Str → Addr) (x4 : Option V), σ = [some (.ref x), some (.ref lx), some (.ref fd), some (.ref bd), x4] ∧ MadeAt H' md A' (zs.take i) (fun _ => []) ∧ ∀ z ∈ zs.take i, H0 (A' z) = none)
    ⟨fun b u n e => e, fun _ => md, none, rfl, ⟨⟨[], hm6, Nat.zero_le _, fun z h => by simp at h⟩, fun z h => by simp at h, fun y h => by simp at h⟩, fun z h => by simp at h⟩ (fun i σ H' _ h => sqL_inj_of (h.1 _ _ hpm hN6.at)) ?_ ?_
  · rintro i u σ H7 hui ⟨sb, A', x4, rfl, hM, hfr⟩
    have hir : i < rs.length := by rw [l1]; exact (List.getElem?_eq_some_iff.mp hui).1
    have hri := List.getElem?_eq_getElem hir
    have r1 : RowAt H7 rs[i] u := (hu.at_ i rs[i] u hri hui).keep fun b xs e => sb b _ (fun z => by rw [z, hm6] at e; cases e) e
    have hnm := (hok.at_ i rs[i] hri).name
    generalize rs[i] = rw at *
    obtain ⟨p1, p2, vs, rfl, h1, h2, h3⟩ := r1
    have hx7 := sb _ _ hxm hx6
    have hs7 : Same H0 H7 := fun b o e => sb b o (ne_of_none e hmd0) (hs6 _ _ e)
    walk_at "rd"
    refine i_dput ?_
    walk_at "rd"
    refine ⟨by show 0 ≤ sizeLine; exact Nat.zero_le _, fun lp H8 hN => ?_⟩
    walk_at "rd"
    refine i_fld ?_
    walk_at "rd"
    refine ⟨x, _, dx, _, .ref md, rfl, hN.same _ _ hx7, T.i_Run.cl, T.nRM, rfl, ?_⟩
    walk_at "rd"
    refine i_ixT (.inl (.inl (hN.same _ _ h1))) (show atI _ 0 = some (.str rw.name) from rfl) ?_
    obtain ⟨H9, hput, sb9, hM9⟩ := hM.grow hnm (nd_names hok.names hnm) l12 hN
    refine ⟨md, H9, rfl, hput, fun b o n e => sb9 b o n (sb b o n e), _, _, rfl, hM9, fun z hz => ?_⟩
    by_cases hzn : z = rw.name
    · rw [if_pos hzn]; exact hs7.free hN.free
    · rw [if_neg hzn]
      refine hfr z ?_
      rw [List.take_add_one, hnm] at hz
      rcases List.mem_append.mp hz with w | w
      · exact w
      · exact absurd (by simpa using w) hzn
  · rintro σ H7 ⟨sb, A', x4, rfl, hM, hfr⟩
    rw [← l1, l2, List.take_length] at hM hfr
    refine q A' H7 ⟨⟨lx, k, fd, bd, md, dx, _, hL, hf, hb, sb _ _ hxm hx6, rfl, rfl, rfl, rfl, ⟨rfl, rfl, rfl, rfl, rfl⟩, hM⟩, fun b o e => sb b o (ne_of_none e hmd0) (hs6 _ _ e), hfr⟩
def spCTurns : Sp := fun vs H Q _ => ∃ n : Nat, vs = [.int (n : Int)] ∧ n ≤ 300 ∧ Q .non H
theorem d_cturns (T : Txt K mg C CE) (Kb : K.In base) (G : base.Ns mainGlobals mg) : Df P w K mg base 1 "check_turns" ["turns"] spCTurns := by
  refine T.f_cturns.df Kb G sc_check_turns (fun _ _ _ _ _ _ us hl => match us, hl with | [_], _ => rfl) (by rintro vs H Q E ⟨m, rfl, _⟩; rfl) (fun f cdv A outer s H vs Q E hr h => ?_)
  obtain ⟨n, rfl, hn, q⟩ := h
  refine ⟨_, (pss_one (ps_if (pt_not (pt_chain op_le op_le pe_int (pv 0) (pe_val T.v_MOST_TURNS rfl))) (pss_one ps_never) pss_nil)), ?_⟩
  walk_at "rd"
  refine i_iteDt (by omega) ?_
  walk_at "rd"
  rw [decide_eq_true (show (n : Int) ≤ 300 by omega)]
  walk_at "rd"
  exact q
def spCFeeds (CL : Addr) : Sp := fun vs H Q _ => ∃ (lx k fd : Addr) (m : Int) (rs : List Row) (fl : Ls) (n : Nat), vs = [.ref lx, .int (n : Int), .ref fd] ∧ LoopAt CL H lx k m rs ∧ LsAt H fd fl ∧ FeOk rs fl n ∧ ∀ H2, Same H H2 → Q .non H2
theorem d_cfeeds (T : Txt K mg C CE) (Kb : K.In base) (G : base.Ns mainGlobals mg) : Df P w K mg base 2 "check_feeds" ["loop", "turns", "feeds"] (spCFeeds (CE .Loop)) := by
  have Mrows : MethI P w K mg base 1 "rows" ["self"] (fun _ : Unit => CE .Loop) (fun _ => spLRows (CE .Loop)) := m_rows T
  refine T.f_cfeeds.df Kb G sc_check_feeds (fun _ _ _ _ _ _ us hl => match us, hl with | [_, _, _], _ => rfl) (by rintro vs H Q E ⟨lx, k, fd, m, rs, fl, n, rfl, _⟩; rfl) (fun f cdv A outer s H vs Q E hr h => ?_)
  obtain ⟨lx, k, fd, m, rs, fl, n, rfl, hL, hf, hfe, q⟩ := h
  obtain ⟨dxl, fsl, hlx, gm, gr, gd⟩ := loop_fs hL
  refine ⟨_, (pss_one (ps_for PassesOwn.never rfl (pi_list (pe_methI0 Mrows (pv 0) (hr.mono (by decide)))) (pg_name (i := 3) sc_check_feeds.nd rfl (Or.inl rfl))
      (pss_one (ps_if (PW.pt (pw_and (pt_cmpR op_eq (pe_ix ix_seq (pv 3) pe_int (fun _ _ => rfl)) pe_str (nomark _)) (pw_and1 (pt_cmpR op_lt (pe_callB call_len_seq rfl T.nlen PySem.boot_len (pa_cons (pe_dget2 (hu_of hr) (pv 2) (pe_ix ix_seq (pv 3) pe_int (fun _ _ => rfl)) (pe_lstA pa_nil) ⟨rfl, rfl, rfl, rfl⟩) pa_nil (se rfl)) (he := se rfl) (hpl := nst rfl)) (pv 1) (nomark _))))) (pss_one ps_never) pss_nil)))), ?_⟩
  walk_at "rd"
  refine i_for (i_list ?_)
  refine i_methI ?_
  walk_at "rd"
  refine ⟨(), lx, dxl, fsl, rfl, hlx, gr, ?_⟩
  walk_at "rd"
  refine ⟨lx, k, m, rs, rfl, hL, fun p us H1 hN1 hu => ?_⟩
  have l1 := hu.len
  refine ⟨p, rfl, ⟨us, hN1.lst⟩, ?_⟩
  refine for_list (xs := us) (fun i σ H' => Same H1 H' ∧ ∃ x3, σ = [some (.ref lx), some (.int (n : Int)), some (.ref fd), x3]) ⟨Same.refl _, none, rfl⟩ (fun i σ H' _ h => sqL_inj_of (h.1 _ _ hN1.at)) ?_ ?_
  · rintro i u σ H2 hui ⟨s2, x3, rfl⟩
    have hir : i < rs.length := by rw [l1]; exact (List.getElem?_eq_some_iff.mp hui).1
    have hri := List.getElem?_eq_getElem hir
    have r1 := (hu.at_ i rs[i] u hri hui).same s2
    have hfr := hfe rs[i] (List.getElem_mem hir)
    generalize rs[i] = rw at *
    obtain ⟨p1, p2, vs, rfl, h1, h2, h3⟩ := r1
    walk_at "rd"
    refine i_ixT (.inl (.inl h1)) (show atI _ 1 = some (.str rw.d.word) from rfl) ?_
    walk_at "rd"
    by_cases ht : rw.d = .take
    · refine i_iteSe (by rw [ht]; rfl) ?_
      obtain ⟨l, hl, hnl⟩ := hfr ht
      have hf2 := hf.same (hN1.same.trans s2)
      walk_at "rd"
      refine i_dget2 ?_
      walk_at "rd"
      refine ⟨fd, rfl, hf2.isD, ?_⟩
      walk_at "rd"
      refine i_ixT (.inl (.inl h1)) (show atI _ 0 = some (.str rw.name) from rfl) ?_
      walk_at "rd"
      refine ⟨by show 0 ≤ sizeLine; exact Nat.zero_le _, fun e H3 hN3 => ?_⟩
      obtain ⟨lp, g1, g2⟩ := (hf2.same hN3.same).get hl
      refine ⟨_, g1, ?_⟩
      walk_at "rd"
      refine ⟨lp, _, rfl, .inl (sqL_inj_of g2), ?_⟩
      rw [List.length_map]
      walk_at "rd"
      refine i_iteDf (by omega) ?_
      walk_at "rd"
      exact ⟨s2.trans hN3.same, _, rfl⟩
    · refine i_iteSf (word_ne (e := .take) ht) ?_
      walk_at "rd"
      exact ⟨s2, _, rfl⟩
  · rintro σ H2 ⟨s2, x3, rfl⟩
    exact q _ (hN1.same.trans s2)
def spCBegin (CL : Addr) : Sp := fun vs H Q _ => ∃ (lx k bd : Addr) (m : Int) (rs : List Row) (bl : Ls), vs = [.ref lx, .ref bd] ∧ LoopAt CL H lx k m rs ∧ LsAt H bd bl ∧ BeOk rs bl ∧ ∀ H2, Same H H2 → Q .non H2
theorem d_cbegin (T : Txt K mg C CE) (Kb : K.In base) (G : base.Ns mainGlobals mg) : Df P w K mg base 2 "check_begin" ["loop", "begin"] (spCBegin (CE .Loop)) := by
  have Mrows : MethI P w K mg base 1 "rows" ["self"] (fun _ : Unit => CE .Loop) (fun _ => spLRows (CE .Loop)) := m_rows T
  have Mdeepest : MethI P w K mg base 1 "deepest" ["self", "name"] (fun _ : Unit => CE .Loop) (fun _ => spLDeep (CE .Loop)) := m_deepest T
  refine T.f_cbegin.df Kb G sc_check_begin (fun _ _ _ _ _ _ us hl => match us, hl with | [_, _], _ => rfl) (by rintro vs H Q E ⟨lx, k, bd, m, rs, bl, rfl, _⟩; rfl) (fun f cdv A outer s H vs Q E hr h => ?_)
  obtain ⟨lx, k, bd, m, rs, bl, rfl, hL, hb, hbe, q⟩ := h
  obtain ⟨dxl, fsl, hlx, gm, gr, gd⟩ := loop_fs hL
  refine ⟨_, (pss_one (ps_for PassesOwn.never rfl (pi_list (pe_methI0 Mrows (pv 0) (hr.mono (by decide)))) (pg_name (i := 2) sc_check_begin.nd rfl (Or.inl rfl))
      (pss_one (ps_if (pt_cmpR op_lt (pe_callB call_len_seq rfl T.nlen PySem.boot_len (pa_cons (pe_dget2 (hu_of hr) (pv 1) (pe_ix ix_seq (pv 2) pe_int (fun _ _ => rfl)) (pe_lstA pa_nil) ⟨rfl, rfl, rfl, rfl⟩) pa_nil (se rfl)) (he := se rfl) (hpl := nst rfl)) (pe_methI Mdeepest (pv 0) (hr.mono (by decide)) (pa_cons (pe_ix ix_seq (pv 2) pe_int (fun _ _ => rfl)) pa_nil (se rfl)) (hst := se rfl) (hpl := nst rfl)) (nomark _)) (pss_one ps_never) pss_nil)))), ?_⟩
  walk_at "rd"
  refine i_for (i_list ?_)
  refine i_methI ?_
  walk_at "rd"
  refine ⟨(), lx, dxl, fsl, rfl, hlx, gr, ?_⟩
  walk_at "rd"
  refine ⟨lx, k, m, rs, rfl, hL, fun p us H1 hN1 hu => ?_⟩
  have l1 := hu.len
  refine ⟨p, rfl, ⟨us, hN1.lst⟩, ?_⟩
  refine for_list (xs := us) (fun i σ H' => Same H1 H' ∧ ∃ x2, σ = [some (.ref lx), some (.ref bd), x2]) ⟨Same.refl _, none, rfl⟩ (fun i σ H' _ h => sqL_inj_of (h.1 _ _ hN1.at)) ?_ ?_
  · rintro i u σ H2 hui ⟨s2, x2, rfl⟩
    have hir : i < rs.length := by rw [l1]; exact (List.getElem?_eq_some_iff.mp hui).1
    have hri := List.getElem?_eq_getElem hir
    have r1 := (hu.at_ i rs[i] u hri hui).same s2
    have hbr := hbe rs[i] (List.getElem_mem hir)
    generalize rs[i] = rw at *
    obtain ⟨p1, p2, vs, rfl, h1, h2, h3⟩ := r1
    have t2 := hN1.same.trans s2
    have hb2 := hb.same t2
    have dnn := deep_nn rs rw.name
    walk_at "rd"
    refine i_dget2 ?_
    walk_at "rd"
    refine ⟨bd, rfl, hb2.isD, ?_⟩
    walk_at "rd"
    refine i_ixT (.inl (.inl h1)) (show atI _ 0 = some (.str rw.name) from rfl) ?_
    walk_at "rd"
    refine ⟨by show 0 ≤ sizeLine; exact Nat.zero_le _, fun e H3 hN3 => ?_⟩
    obtain ⟨o, lp, l, g1, g2, g3, g4⟩ : ∃ (o : Option V) (lp : Addr) (l : List Int), DGet H3 bd (.str rw.name) o ∧ o.getD (.ref e) = .ref lp ∧ H3 lp = some (.lst (List.map V.int l)) ∧ ¬ ((l.length : Int) < deep rs rw.name) := by
      cases hlk : bl.lookup rw.name with
      | none =>
        refine ⟨none, e, [], (hb2.same hN3.same).getN hlk, rfl, hN3.at, fun z => ?_⟩
        have z' : (0 : Int) < deep rs rw.name := z
        obtain ⟨l, h1, _⟩ := hbr z'
        rw [hlk] at h1; cases h1
      | some l =>
        obtain ⟨lp, g1, g2⟩ := (hb2.same hN3.same).get hlk
        refine ⟨_, lp, l, g1, rfl, g2, fun z => ?_⟩
        obtain ⟨l', h1, h2⟩ := hbr (by omega)
        rw [hlk] at h1
        cases h1
        omega
    refine ⟨_, g1, ?_⟩
    rw [g2]
    walk_at "rd"
    refine ⟨lp, _, rfl, .inl (sqL_inj_of g3), ?_⟩
    rw [List.length_map]
    walk_at "rd"
    refine i_methI ?_
    walk_at "rd"
    have t3 := t2.trans hN3.same
    refine ⟨(), lx, dxl, fsl, rfl, t3 _ _ hlx, gd, ?_⟩
    walk_at "rd"
    refine i_ixT (.inl (.inl (hN3.same _ _ h1))) (show atI _ 0 = some (.str rw.name) from rfl) ?_
    walk_at "rd"
    refine ⟨lx, k, m, rs, rw.name, rfl, hL.same t3, ?_⟩
    walk_at "rd"
    refine i_iteDf g4 ?_
    walk_at "rd"
    exact ⟨s2.trans hN3.same, _, rfl⟩
  · rintro σ H2 ⟨s2, x2, rfl⟩
    exact q _ (hN1.same.trans s2)
structure Asks (CL : Addr) (H : Hp) (lx k fd bd : Addr) (m : Int) (rs : List Row) (zs : List Str) (fl bl : Ls) (n : Nat) : Prop where
  loop : LoopAt CL H lx k m rs
  ok : RowsOk zs rs
  fe : LsAt H fd fl
  be : LsAt H bd bl
  feo : FeOk rs fl n
  beo : BeOk rs bl
  few : n ≤ 300
  m2 : 2 ≤ m
  m60 : m ≤ 10 ^ 60
theorem Asks.same {CL : Addr} {H H' : Hp} {lx k fd bd : Addr} {m : Int} {rs : List Row} {zs : List Str} {fl bl : Ls} {n : Nat} (s : Same H H') (h : Asks CL H lx k fd bd m rs zs fl bl n) : Asks CL H' lx k fd bd m rs zs fl bl n :=
  ⟨h.loop.same s, h.ok, h.fe.same s, h.be.same s, h.feo, h.beo, h.few, h.m2, h.m60⟩
def spCRun (CL : Addr) : Sp := fun vs H Q _ => ∃ (lx k fd bd : Addr) (m : Int) (rs : List Row) (zs : List Str) (fl bl : Ls) (n : Nat), vs = [.ref lx, .int (n : Int), .ref fd, .ref bd] ∧ Asks CL H lx k fd bd m rs zs fl bl n ∧ ∀ H2, Same H H2 → Q .non H2
theorem d_crun (T : Txt K mg C CE) (Kb : K.In base) (G : base.Ns mainGlobals mg) : Df P w K mg base 3 "check_run" ["loop", "turns", "feeds", "begin"] (spCRun (CE .Loop)) := by
  have Dcheck_turns : Df P w K mg base 1 "check_turns" ["turns"] spCTurns := d_cturns T Kb G
  have Dcheck_feeds : Df P w K mg base 2 "check_feeds" ["loop", "turns", "feeds"] (spCFeeds (CE .Loop)) := d_cfeeds T Kb G
  have Dcheck_begin : Df P w K mg base 2 "check_begin" ["loop", "begin"] (spCBegin (CE .Loop)) := d_cbegin T Kb G
  refine T.f_crun.df Kb G sc_check_run (fun _ _ _ _ _ _ us hl => match us, hl with | [_, _, _, _], _ => rfl) (by rintro vs H Q E ⟨lx, k, fd, bd, m, rs, zs, fl, bl, n, rfl, _⟩; rfl) (fun f cdv A outer s H vs Q E hr h => ?_)
  obtain ⟨lx, k, fd, bd, m, rs, zs, fl, bl, n, rfl, h, q⟩ := h
  refine ⟨_, (pss_cons (ps_expr (pe_callD Dcheck_turns (hr.mono (by decide)) rfl (pa_cons (pv 1) pa_nil (se rfl)) (he := se rfl) (hpl := nst rfl)))
    (pss_cons (ps_expr (pe_callD Dcheck_feeds (hr.mono (by decide)) rfl (pa_cons (pv 0) (pa_cons (pv 1) (pa_cons (pv 2) pa_nil (se rfl)) (se rfl)) (se rfl)) (he := se rfl) (hpl := nst rfl)))
    (pss_one (ps_expr (pe_callD Dcheck_begin (hr.mono (by decide)) rfl (pa_cons (pv 0) (pa_cons (pv 3) pa_nil (se rfl)) (se rfl)) (he := se rfl) (hpl := nst rfl)))))), ?_⟩
  walk_at "rd"
  refine ⟨n, rfl, h.few, ?_⟩
  walk_at "rd"
  refine ⟨lx, k, fd, m, rs, fl, n, rfl, h.loop, h.fe, h.feo, fun H1 s1 => ?_⟩
  walk_at "rd"
  refine ⟨lx, k, bd, m, rs, bl, rfl, h.loop.same s1, h.be.same s1, h.beo, fun H2 s2 => ?_⟩
  walk_at "rd"
  exact q _ (s1.trans s2)
def spRun (CL CR : Addr) : Sp := fun vs H Q _ => ∃ (lx k fd bd : Addr) (m : Int) (rs : List Row) (zs : List Str) (fl bl : Ls) (n : Nat), vs = [.ref lx, .int (n : Int), .ref fd, .ref bd] ∧ Asks CL H lx k fd bd m rs zs fl bl n ∧ ∀ x A H2, RunAt CL CR H H2 x m rs zs fl bl A (runR m fl bl rs n) → Q (.ref x) H2
theorem d_run (T : Txt K mg C CE) (Kb : K.In base) (G : base.Ns mainGlobals mg) : Df P w K mg base 5 "done_run" ["loop", "turns", "feeds", "begin"] (spRun (CE .Loop) (CE .Run)) := by
  have Dcheck_run : Df P w K mg base 3 "check_run" ["loop", "turns", "feeds", "begin"] (spCRun (CE .Loop)) := d_crun T Kb G
  have MRun : MkI P w K mg base 2 (CE .Run) ["self", "loop", "feeds", "begin"] (spRunInit (CE .Loop) (CE .Run)) := mk_run T
  have Mdo_turn : MethI P w K mg base 4 "do_turn" ["self", "turn"] (fun _ : Unit => CE .Run) (fun _ => spRTurn (CE .Loop) (CE .Run)) := m_turn T Kb G
  refine T.f_run.df Kb G sc_done_run (fun _ _ _ _ _ _ us hl => match us, hl with | [_, _, _, _], _ => rfl) (by rintro vs H Q E ⟨lx, k, fd, bd, m, rs, zs, fl, bl, n, rfl, _⟩; rfl) (fun f cdv A outer s H vs Q E hr h => ?_)
  obtain ⟨lx, k, fd, bd, m, rs, zs, fl, bl, n, rfl, h, q⟩ := h
  have hn := h.few
  have m2 := h.m2
  have m60 := h.m60
  refine ⟨_, (pss_cons (ps_expr (pe_callD Dcheck_run (hr.mono (by decide)) rfl (pa_cons (pv 0) (pa_cons (pv 1) (pa_cons (pv 2) (pa_cons (pv 3) pa_nil (se rfl)) (se rfl)) (se rfl)) (se rfl)) (he := se rfl) (hpl := nst rfl)))
    (pss_cons (ps_set (i := 4) sc_done_run.nd rfl (by first | exact Or.inl rfl | exact Or.inr rfl) (pe_makeI MRun (hr.mono (by decide)) rfl T.mg_Run (pa_cons (pv 0) (pa_cons (pv 2) (pa_cons (pv 3) pa_nil (se rfl)) (se rfl)) (se rfl)) (he := se rfl) (hpl := nst rfl)))
    (pss_cons (ps_for PassesOwn.never rfl (pi_range1 rfl T.nrange (pa_cons (pv 1) pa_nil (se rfl))) (pg_name (i := 5) sc_done_run.nd rfl (Or.inl rfl))
      (pss_one (ps_expr (pe_methI Mdo_turn (pv 4) (hr.mono (by decide)) (pa_cons (pv 5) pa_nil (se rfl)) (hst := se rfl) (hpl := nst rfl)))))
    (pss_one (ps_ret (pv 4)))))), ?_⟩
  clear m60
  walk_at "rd"
  refine ⟨lx, k, fd, bd, m, rs, zs, fl, bl, n, rfl, h, fun H1 s1 => ?_⟩
  walk_at "rd"
  refine i_makeI ?_
  walk_at "rd"
  intro x dx hx hdx hne
  have sA : Same H1 (upd (upd H1 dx (.own x)) x (.ins (CE .Run) dx [])) := Same.upd (Same.new hdx) (by rw [upd_ne hne.symm]; exact hx)
  have xA : upd (upd H1 dx (.own x)) x (.ins (CE .Run) dx []) x = some (.ins (CE .Run) dx []) := upd_same
  generalize upd (upd H1 dx (.own x)) x (.ins (CE .Run) dx []) = HA at *
  have a1 := h.same s1
  refine ⟨H, x, dx, lx, k, fd, bd, m, rs, zs, fl, bl, rfl, xA, s1.trans sA, s1.free hx, h.loop, h.fe, h.be, h.ok, fun A' H2 hR => ⟨rfl, ?_⟩⟩
  walk_at "rd"
  refine i_for (i_rng1 ?_)
  walk_at "rd"
  refine ⟨_, rfl, by omega, by omega, ?_⟩
  rw [Int.toNat_natCast]
  refine for_range (lo := 0) (n := n) (fun t σ H' => RunAt (CE .Loop) (CE .Run) H H' x m rs zs fl bl A' (runR m fl bl rs t) ∧ ∃ x5, σ = [some (.ref lx), some (.int (n : Int)), some (.ref fd), some (.ref bd), some (.ref x), x5]) ⟨hR, none, rfl⟩ ?_ ?_
  · rintro t σ H3 ht ⟨hR3, x5, rfl⟩
    have e0 : (0 : Int) + (t : Int) = (t : Int) := Int.zero_add _
    rw [e0]
    have hR4 := hR3
    obtain ⟨⟨lx', k', fd', bd', md, dx', fs, hL, hf, hb, hx3, f1, f2, f3, f4, ⟨f5, f6, f7, f8, f9⟩, hM⟩, hs, hfr⟩ := hR3
    walk_at "rd"
    refine i_methI ?_
    walk_at "rd"
    refine ⟨(), x, dx', fs, rfl, hx3, f8, ?_⟩
    walk_at "rd"
    refine ⟨H, x, m, rs, zs, fl, bl, A', runR m fl bl rs t, t, n, rfl, hR4, h.ok, Going.run fl bl h.ok (by omega) t, h.feo, h.beo, ht, h.few, h.m2, h.m60, fun H4 hR5 => ?_⟩
    walk_at "rd"
    rw [← runR_next] at hR5
    exact ⟨hR5, _, rfl⟩
  · rintro σ H3 ⟨hR3, x5, rfl⟩
    walk_at "rd"
    exact q x A' H3 hR3
def pI (q : Row → Bool) (rs : List Row) (i : Nat) : Bool := match rs[i]? with
  | some r => q r
  | none => false
theorem idx_take (q : Row → Bool) (rs : List Row) : ∀ k, k ≤ rs.length → ((List.range k).filter (pI q rs)).map (fun i => rs[i]?) = ((rs.take k).filter q).map some
  | 0, _ => by simp
  | k + 1, h => by
    have hk : k < rs.length := by omega
    have hr := List.getElem?_eq_getElem hk
    have e : pI q rs k = q rs[k] := by unfold pI; rw [hr]
    rw [List.range_succ, List.filter_append, List.map_append, idx_take q rs k (by omega), List.take_add_one, hr, Option.toList_some, List.filter_append, List.map_append]
    cases hq : q rs[k] <;> simp [e, hq, hr]
theorem idx_filter (q : Row → Bool) (rs : List Row) : ((List.range rs.length).filter (pI q rs)).map (fun i => rs[i]?) = (rs.filter q).map some := by
  have := idx_take q rs rs.length (Nat.le_refl _)
  rw [List.take_length] at this; exact this
theorem idx_len (q : Row → Bool) (rs : List Row) : ((List.range rs.length).filter (pI q rs)).length = (rs.filter q).length := by
  have := congrArg List.length (idx_filter q rs)
  rwa [List.length_map, List.length_map] at this
theorem idx_at {q : Row → Bool} {rs : List Row} {j : Nat} {r : Row} (h : (rs.filter q)[j]? = some r) : ∃ i, ((List.range rs.length).filter (pI q rs))[j]? = some i ∧ rs[i]? = some r := by
  have e := congrArg (fun l => l[j]?) (idx_filter q rs)
  simp only [List.getElem?_map, h, Option.map_some] at e
  cases hj : ((List.range rs.length).filter (pI q rs))[j]? with
  | none => rw [hj] at e; cases e
  | some i =>
    rw [hj] at e
    exact ⟨i, rfl, Option.some.inj e⟩
def isTell (r : Row) : Bool := decide (r.d = .tell)
def pairL (M : Md) (qs : List Row) : Ls := qs.map fun r => (r.name, M r.name)
theorem pr_rows {S : Addr → Prop} {H : Hp} {A : Str → Addr} {zs : List Str} {M : Md} {qs : List Row} {us : List V} {md : Addr} (hl : us.length = qs.length) (hM : MadeAt H md A zs M) (hz : ∀ r ∈ qs, r.name ∈ zs) (hS : ∀ r ∈ qs, S (A r.name))
    (h : ∀ (j : Nat) u r, us[j]? = some u → qs[j]? = some r → ∃ t, u = .ref t ∧ H t = some (.tup [.str r.name, .ref (A r.name)])) : PrAt S H (pairL M qs) us := by
  refine ⟨by unfold pairL; rw [List.length_map]; omega, fun i a u e1 e2 => ?_⟩
  unfold pairL at e1
  rw [List.getElem?_map] at e1
  cases hr : qs[i]? with
  | none => rw [hr] at e1; cases e1
  | some r =>
    rw [hr] at e1
    have e : (r.name, M r.name) = a := Option.some.inj e1
    subst e
    obtain ⟨t, e3, e4⟩ := h i u r e2 hr
    have hm : r ∈ qs := List.mem_of_getElem? hr
    exact ⟨t, A r.name, e3, e4, hM.at_ _ (hz r hm), hS r hm⟩
theorem row_zs {zs : List Str} {rs : List Row} (h : RowsOk zs rs) : ∀ r ∈ rs, r.name ∈ zs := fun r hr => by
  obtain ⟨i, hi⟩ := List.mem_iff_getElem?.mp hr
  exact zs_mem h hi
def spTable (CL : Addr) : Sp := fun vs H Q _ => ∃ (lx k fd bd : Addr) (m : Int) (rs : List Row) (zs : List Str) (fl bl : Ls) (n : Nat), vs = [.ref lx, .int (n : Int), .ref fd, .ref bd] ∧ Asks CL H lx k fd bd m rs zs fl bl n ∧
  ∀ p us H2, Same H H2 → H p = none → H2 p = some (.lst us) → PrAt (fun b => H b = none ∧ b ≠ p) H2 (pairL (runR m fl bl rs n) rs) us → Q (.ref p) H2
theorem d_table (T : Txt K mg C CE) (Kb : K.In base) (G : base.Ns mainGlobals mg) : Df P w K mg base 6 "table" ["loop", "turns", "feeds", "begin"] (spTable (CE .Loop)) := by
  have Ddone_run : Df P w K mg base 5 "done_run" ["loop", "turns", "feeds", "begin"] (spRun (CE .Loop) (CE .Run)) := d_run T Kb G
  have Mrows : MethI P w K mg base 1 "rows" ["self"] (fun _ : Unit => CE .Loop) (fun _ => spLRows (CE .Loop)) := m_rows T
  refine T.f_table.df Kb G sc_table (fun _ _ _ _ _ _ us hl => match us, hl with | [_, _, _, _], _ => rfl) (by rintro vs H Q E ⟨lx, k, fd, bd, m, rs, zs, fl, bl, n, rfl, _⟩; rfl) (fun f cdv A outer s H vs Q E hr h => ?_)
  obtain ⟨lx, k, fd, bd, m, rs, zs, fl, bl, n, rfl, h, q⟩ := h
  obtain ⟨dxl, fsl, hlx, gm, gr, gd⟩ := loop_fs h.loop
  have lb := line_big
  have l2 := h.ok.len
  have l12 := h.ok.names.1
  refine ⟨_, (pss_cons (ps_set (i := 4) sc_table.nd rfl (by first | exact Or.inl rfl | exact Or.inr rfl) (pe_callD Ddone_run (hr.mono (by decide)) rfl (pa_cons (pv 0) (pa_cons (pv 1) (pa_cons (pv 2) (pa_cons (pv 3) pa_nil (se rfl)) (se rfl)) (se rfl)) (se rfl)) (he := se rfl) (hpl := nst rfl)))
    (pss_one (ps_ret (pe_lc (Blk.of (caps := ["done"]) (ix := [4]) rfl) rfl (pi_list (pe_methI0 Mrows (pv 0) (hr.mono (by decide)))) (fun _ _ _ _ => pf_nil) (fun _ _ _ _ => (pe_tupA (pa_cons (pe_ix (ix_seqK (K := K) rfl) (pv 0) pe_int (fun _ _ => rfl)) (pa_cons (pe_dget (hu_of hr) (pe_fldK (K := K) rfl (pv 1) rfl) (pe_ix (ix_seqK (K := K) rfl) (pv 0) pe_int (fun _ _ => rfl)) (fun _ _ => rfl)) pa_nil (se rfl)) (se rfl)))))))), ?_⟩
  walk_at "rd"
  refine ⟨lx, k, fd, bd, m, rs, zs, fl, bl, n, rfl, h, fun x A' H1 hR => ?_⟩
  obtain ⟨⟨lx', k', fd', bd', md, dx, fs, hL, hf, hb, hx, f1, f2, f3, f4, f5, hM⟩, hs, hfr⟩ := hR
  walk_at "rd"
  refine i_lc (i_list ?_)
  refine i_methI ?_
  walk_at "rd"
  refine ⟨(), lx, dxl, fsl, rfl, hs _ _ hlx, gr, ?_⟩
  walk_at "rd"
  refine ⟨lx, k, m, rs, rfl, h.loop.same hs, fun rp us H2 hN2 hu => ?_⟩
  have l1 := hu.len
  refine lcNL us (fun D i y H' => ∃ r t, rs[i]? = some r ∧ y = .ref t ∧ t ≠ D ∧ H' t = some (.tup [.str r.name, .ref (A' r.name)])) hN2.lst (by omega) (fun D i y H' H'' s' hh => ?_) (fun D i v H' R hv hD hy s' rr => ?_) (fun D ys H3 hD s3 hHD hyl hP => ?_)
  · obtain ⟨r, t, e1, e2, e3, e4⟩ := hh
    exact ⟨r, t, e1, e2, e3, s' t _ e3 e4⟩
  · have hir : i < rs.length := by rw [l1]; exact (List.getElem?_eq_some_iff.mp hv).1
    have hri := List.getElem?_eq_getElem hir
    have hzm := zs_mem h.ok hri
    have r1 := (hu.at_ i rs[i] v hri hv).same s'
    generalize rs[i] = rw at *
    obtain ⟨p1, p2, vs, rfl, h1, h2, h3⟩ := r1
    have t2 := hN2.same.trans s'
    walk_at "rd"
    refine i_ixT (.inl (.inl h1)) (show atI _ 0 = some (.str rw.name) from rfl) ?_
    walk_at "rd"
    refine i_dix ?_
    refine i_fld ?_
    walk_at "rd"
    refine ⟨x, _, dx, fs, .ref md, rfl, t2 _ _ hx, T.i_Run.cl, T.nRM, f4, ?_⟩
    walk_at "rd"
    refine i_ixT (.inl (.inl h1)) (show atI _ 0 = some (.str rw.name) from rfl) ?_
    refine ⟨md, _, rfl, (hM.same t2).get hzm, ?_⟩
    walk_at "rd"
    refine ⟨by show 2 ≤ sizeLine; omega, fun t H4 hN4 => ?_⟩
    obtain ⟨ys, hy⟩ := hy
    exact rr _ _ hN4.same ⟨rw, t, hri, rfl, fun z => (by have := hN4.free; rw [z, hy] at this; cases this), hN4.at⟩
  · have t3 := hN2.same.trans s3
    refine q D ys H3 (hs.trans t3) (hs.free (hN2.same.free hD)) hHD ?_
    refine pr_rows (by omega) (hM.same t3) (row_zs h.ok) (fun r hr => ⟨hfr _ (row_zs h.ok r hr), fun z => ?_⟩) (fun j u r e1 e2 => ?_)
    · have := hN2.same _ _ (hM.at_ _ (row_zs h.ok r hr))
      rw [z, hD] at this; cases this
    · obtain ⟨r', t, e3, e4, _, e5⟩ := hP j u e1
      rw [e2] at e3
      cases e3
      exact ⟨t, e4, e5⟩
def spOutcome (CL : Addr) : Sp := fun vs H Q _ => ∃ (lx k fd bd : Addr) (m : Int) (rs : List Row) (zs : List Str) (fl bl : Ls) (n : Nat), vs = [.ref lx, .int (n : Int), .ref fd, .ref bd] ∧ Asks CL H lx k fd bd m rs zs fl bl n ∧
  ∀ t p1 p2 u1 u2 H2, Same H H2 → H2 t = some (.tup [.ref p1, .ref p2]) → H2 p1 = some (.lst u1) → H2 p2 = some (.lst u2) → PrAt (fun _ => True) H2 (pairL (runR m fl bl rs n) (rs.filter isTell)) u1 → PrAt (fun _ => True) H2 (endsL m bl rs (runR m fl bl rs n) n rs) u2 → Q (.ref t) H2
theorem d_outcome (T : Txt K mg C CE) (Kb : K.In base) (G : base.Ns mainGlobals mg) : Df P w K mg base 6 "outcome" ["loop", "turns", "feeds", "begin"] (spOutcome (CE .Loop)) := by
  have Ddone_run : Df P w K mg base 5 "done_run" ["loop", "turns", "feeds", "begin"] (spRun (CE .Loop) (CE .Run)) := d_run T Kb G
  have Mrows : MethI P w K mg base 1 "rows" ["self"] (fun _ : Unit => CE .Loop) (fun _ => spLRows (CE .Loop)) := m_rows T
  have Mdeepest : MethI P w K mg base 1 "deepest" ["self", "name"] (fun _ : Unit => CE .Loop) (fun _ => spLDeep (CE .Loop)) := m_deepest T
  have Mlast_made : MethI P w K mg base 2 "last_made" ["self", "name", "turns"] (fun _ : Unit => CE .Run) (fun _ => spRLast (CE .Loop) (CE .Run)) := m_last T
  refine T.f_outcome.df Kb G sc_outcome (fun _ _ _ _ _ _ us hl => match us, hl with | [_, _, _, _], _ => rfl) (by rintro vs H Q E ⟨lx, k, fd, bd, m, rs, zs, fl, bl, n, rfl, _⟩; rfl) (fun f cdv A outer s H vs Q E hr h => ?_)
  obtain ⟨lx, k, fd, bd, m, rs, zs, fl, bl, n, rfl, h, q⟩ := h
  obtain ⟨dxl, fsl, hlx, gm, gr, gd⟩ := loop_fs h.loop
  have lb := line_big
  have l2 := h.ok.len
  have l12 := h.ok.names.1
  have m2 := h.m2
  have hg := Going.run fl bl h.ok (show 0 < m by omega) n
  refine ⟨_, (pss_cons (ps_set (i := 4) sc_outcome.nd rfl (by first | exact Or.inl rfl | exact Or.inr rfl) (pe_callD Ddone_run (hr.mono (by decide)) rfl (pa_cons (pv 0) (pa_cons (pv 1) (pa_cons (pv 2) (pa_cons (pv 3) pa_nil (se rfl)) (se rfl)) (se rfl)) (se rfl)) (he := se rfl) (hpl := nst rfl)))
    (pss_cons (ps_lc (i := 5) sc_outcome.nd rfl rfl (by with_unfolding_all rfl) (Blk.of (caps := ["done"]) (ix := [4]) rfl) rfl (pi_list (pe_methI0 Mrows (pv 0) (hr.mono (by decide)))) (fun _ _ _ _ => (pf_one (pt_cmpR op_eq (pe_ix (ix_seqK (K := K) rfl) (pv 0) pe_int (fun _ _ => rfl)) pe_str (nomark _)))) (fun _ _ _ _ => (pe_tupA (pa_cons (pe_ix (ix_seqK (K := K) rfl) (pv 0) pe_int (fun _ _ => rfl)) (pa_cons (pe_dget (hu_of hr) (pe_fldK (K := K) rfl (pv 1) rfl) (pe_ix (ix_seqK (K := K) rfl) (pv 0) pe_int (fun _ _ => rfl)) (fun _ _ => rfl)) pa_nil (se rfl)) (se rfl)))))
    (pss_cons (ps_lc (i := 6) sc_outcome.nd rfl rfl (by with_unfolding_all rfl) (Blk.of (caps := ["loop"]) (ix := [0]) rfl) rfl (pi_list (pe_methI0 Mrows (pv 0) (hr.mono (by decide)))) (fun _ _ _ _ => (pf_one (pt_cmpR op_gt (pe_methI Mdeepest (pv 1) (hr.mono (by decide)) (pa_cons (pe_ix (ix_seqK (K := K) rfl) (pv 0) pe_int (fun _ _ => rfl)) pa_nil (se rfl)) (hst := se rfl) (hpl := nst rfl)) pe_int (nomark _)))) (fun _ _ _ _ => (pe_ix (ix_seqK (K := K) rfl) (pv 0) pe_int (fun _ _ => rfl))))
    (pss_one (ps_ret (pe_tupA (pa_cons (pv 5) (pa_cons (pe_lc (Blk.of (caps := ["turns", "done"]) (ix := [1, 4]) rfl) rfl (pi_list (pv 6)) (fun _ _ _ _ => pf_nil) (fun _ _ _ _ => (pe_tupA (pa_cons (pv 0) (pa_cons (pe_methI Mlast_made (pv 2) (hr.mono (by decide)) (pa_cons (pv 0) (pa_cons (pv 1) pa_nil (se rfl)) (se rfl)) (hst := se rfl) (hpl := nst rfl)) pa_nil (se rfl)) (se rfl))))) pa_nil (se rfl)) (se rfl)))))))), ?_⟩
  walk_at "rd"
  refine ⟨lx, k, fd, bd, m, rs, zs, fl, bl, n, rfl, h, fun x A' H1 hR => ?_⟩
  have hR0 := hR
  obtain ⟨⟨lx', k', fd', bd', md, dx, fs, hL, hf, hb, hx, f1, f2, f3, f4, ⟨f5, f6, f7, f8, f9⟩, hM⟩, hs, hfr⟩ := hR
  walk_at "rd"
  refine i_setLc (i_lc (i_list ?_))
  refine i_methI ?_
  walk_at "rd"
  refine ⟨(), lx, dxl, fsl, rfl, hs _ _ hlx, gr, ?_⟩
  walk_at "rd"
  refine ⟨lx, k, m, rs, rfl, h.loop.same hs, fun rp us H2 hN2 hu => ?_⟩
  have l1 := hu.len
  refine ⟨rp, rfl, ⟨us, hN2.lst⟩, ?_⟩
  have ev : ∀ i, i < us.length → ∃ r v, rs[i]? = some r ∧ us[i]? = some v ∧ us.getD i V.non = v := fun i hi => by
    have hir : i < rs.length := by omega
    exact ⟨rs[i], us[i], List.getElem?_eq_getElem hir, List.getElem?_eq_getElem hi, by rw [List.getD, List.getElem?_eq_getElem hi]; rfl⟩
  refine lcFN (LcIt.lst hN2.lst) (pI isTell rs) (fun D i y H' => ∃ r t, rs[i]? = some r ∧ y = .ref t ∧ t ≠ D ∧ H' t = some (.tup [.str r.name, .ref (A' r.name)])) (by omega) (fun D i y H' H'' s' hh => ?_) (fun i H' R hi s' rr => ?_) (fun D i H' R hi hpi hD hy s' rr => ?_) (fun D ys H3 hD s3 hHD hyl hP => ?_)
  · obtain ⟨r, t, e1, e2, e3, e4⟩ := hh
    exact ⟨r, t, e1, e2, e3, s' t _ e3 e4⟩
  · obtain ⟨r, v, e1, e2, e3⟩ := ev i hi
    rw [e3]
    have ep : pI isTell rs i = isTell r := by unfold pI; rw [e1]
    rw [ep] at rr
    obtain ⟨p1, p2, vs, rfl, h1, h2, h3⟩ := (hu.at_ i r v e1 e2).same s'
    walk_at "rd"
    refine i_ixT (.inl (.inl h1)) (show atI _ 1 = some (.str r.d.word) from rfl) ?_
    walk_at "rd"
    have ed : decide (V.str r.d.word = V.str (Str.ofString "tell")) = isTell r := by
      unfold isTell
      by_cases ht : r.d = .tell
      · rw [decide_eq_true ht, decide_eq_true (by rw [ht]; rfl)]
      · rw [decide_eq_false ht, decide_eq_false (show ¬ V.str r.d.word = V.str (Str.ofString "tell") from fun z => word_ne (e := .tell) ht (V.str.inj z))]
    rw [ed]; exact rr
  · obtain ⟨r, v, e1, e2, e3⟩ := ev i hi
    rw [e3]
    have hzm := zs_mem h.ok e1
    obtain ⟨p1, p2, vs, rfl, h1, h2, h3⟩ := (hu.at_ i r v e1 e2).same s'
    have t2 := hN2.same.trans s'
    walk_at "rd"
    refine i_ixT (.inl (.inl h1)) (show atI _ 0 = some (.str r.name) from rfl) ?_
    walk_at "rd"
    refine i_dix ?_
    refine i_fld ?_
    walk_at "rd"
    refine ⟨x, _, dx, fs, .ref md, rfl, t2 _ _ hx, T.i_Run.cl, T.nRM, f4, ?_⟩
    walk_at "rd"
    refine i_ixT (.inl (.inl h1)) (show atI _ 0 = some (.str r.name) from rfl) ?_
    refine ⟨md, _, rfl, (hM.same t2).get hzm, ?_⟩
    walk_at "rd"
    refine ⟨by show 2 ≤ sizeLine; omega, fun t H4 hN4 => ?_⟩
    obtain ⟨ys, hy⟩ := hy
    exact rr _ _ hN4.same ⟨r, t, e1, rfl, fun z => (by have := hN4.free; rw [z, hy] at this; cases this), hN4.at⟩
  have t3 := hN2.same.trans s3
  have hT3 : PrAt (fun _ => True) H3 (pairL (runR m fl bl rs n) (rs.filter isTell)) ys := by
    refine pr_rows (by rw [hyl, ← l1, idx_len]) (hM.same t3) (fun r hr => row_zs h.ok r (List.mem_filter.mp hr).1) (fun _ _ => trivial) (fun j u r e1 e2 => ?_)
    obtain ⟨i, e3, e4⟩ := idx_at e2
    rw [l1] at e3
    obtain ⟨r', t, e5, e6, _, e7⟩ := hP j u i e1 e3
    rw [e4] at e5
    cases e5
    exact ⟨t, e6, e7⟩
  clear hP ev hyl
  have hs3 := hs.trans t3
  dsimp only
  refine i_setLc (i_lc (i_list ?_))
  refine i_methI ?_
  walk_at "rd"
  refine ⟨(), lx, dxl, fsl, rfl, hs3 _ _ hlx, gr, ?_⟩
  walk_at "rd"
  refine ⟨lx, k, m, rs, rfl, h.loop.same hs3, fun rp2 ws H4 hN4 hw => ?_⟩
  have l4 := hw.len
  refine ⟨rp2, rfl, ⟨ws, hN4.lst⟩, ?_⟩
  have ev : ∀ i, i < ws.length → ∃ r v, rs[i]? = some r ∧ ws[i]? = some v ∧ ws.getD i V.non = v := fun i hi => by
    have hir : i < rs.length := by omega
    exact ⟨rs[i], ws[i], List.getElem?_eq_getElem hir, List.getElem?_eq_getElem hi, by rw [List.getD, List.getElem?_eq_getElem hi]; rfl⟩
  refine lcF (LcIt.lst hN4.lst) (pI (isDeep rs) rs) (fun i => match rs[i]? with | some r => .str r.name | none => .non) (by omega) (fun i H' R hi s' rr => ?_) (fun i H' R hi hpi s' rr => ?_) (fun DD H5 hN5 => ?_)
  · obtain ⟨r, v, e1, e2, e3⟩ := ev i hi
    rw [e3]
    have ep : pI (isDeep rs) rs i = isDeep rs r := by unfold pI; rw [e1]
    rw [ep] at rr
    obtain ⟨p1, p2, vs, rfl, h1, h2, h3⟩ := (hw.at_ i r v e1 e2).same s'
    have t5 := (hs3.trans hN4.same).trans s'
    walk_at "rd"
    refine i_methI ?_
    walk_at "rd"
    refine ⟨(), lx, dxl, fsl, rfl, t5 _ _ hlx, gd, ?_⟩
    walk_at "rd"
    refine i_ixT (.inl (.inl h1)) (show atI _ 0 = some (.str r.name) from rfl) ?_
    walk_at "rd"
    refine ⟨lx, k, m, rs, r.name, rfl, h.loop.same t5, ?_⟩
    walk_at "rd"
    exact rr
  · obtain ⟨r, v, e1, e2, e3⟩ := ev i hi
    rw [e3]
    simp only [e1] at rr
    obtain ⟨p1, p2, vs, rfl, h1, h2, h3⟩ := (hw.at_ i r v e1 e2).same s'
    walk_at "rd"
    refine i_ixT (.inl (.inl h1)) (show atI _ 0 = some (.str r.name) from rfl) ?_
    exact rr
  have hN5' : New H4 DD (.lst ((rs.filter (isDeep rs)).map fun r => V.str r.name)) H5 := by
    have e : ((List.range ws.length).filter (pI (isDeep rs) rs)).map (fun i => match rs[i]? with | some r => V.str r.name | none => V.non) = (rs.filter (isDeep rs)).map fun r => V.str r.name := by
      have e1 := congrArg (List.map fun o : Option Row => match o with | some r => V.str r.name | none => V.non) (idx_filter (isDeep rs) rs)
      rw [List.map_map, List.map_map] at e1
      rw [← l4]; exact e1
    rw [← e]; exact hN5
  clear hN5 ev
  have t5 := (t3.trans hN4.same).trans hN5'.same
  have hfl : (rs.filter (isDeep rs)).length ≤ 12 := by have := List.length_filter_le (isDeep rs) rs; omega
  walk_at "rd"
  refine i_lc (i_list ?_)
  walk_at "rd"
  refine lcNL ((rs.filter (isDeep rs)).map fun r => V.str r.name) (fun D i y H' => ∃ r t L, (rs.filter (isDeep rs))[i]? = some r ∧ y = .ref t ∧ t ≠ D ∧ L ≠ D ∧ H' t = some (.tup [.str r.name, .ref L]) ∧ H' L = some (.lst (List.map V.int (endsOf m bl rs (runR m fl bl rs n) n r.name)))) hN5'.lst (by rw [List.length_map]; omega) (fun D i y H' H'' s' hh => ?_) (fun D i v H' R hv hD hy s' rr => ?_) (fun D ys2 H6 hD s6 hHD2 hyl hP => ?_)
  · obtain ⟨r, t, L, e1, e2, e3, e4, e5, e6⟩ := hh
    exact ⟨r, t, L, e1, e2, e3, e4, s' t _ e3 e5, s' L _ e4 e6⟩
  · rw [List.getElem?_map] at hv
    cases hri : (rs.filter (isDeep rs))[i]? with
    | none => rw [hri] at hv; cases hv
    | some r =>
      rw [hri] at hv
      cases hv
      have hrm := List.mem_filter.mp (List.mem_of_getElem? hri)
      have hzm := row_zs h.ok r hrm.1
      have t7 := t5.trans s'
      obtain ⟨zj, hzj⟩ := List.mem_iff_getElem?.mp hzm
      have hln := hg.len zj r.name hzj
      rw [if_neg (by omega)] at hln
      walk_at "rd"
      refine i_methI ?_
      walk_at "rd"
      refine ⟨(), x, dx, fs, rfl, t7 _ _ hx, f9, ?_⟩
      walk_at "rd"
      refine ⟨H, x, m, rs, zs, fl, bl, A', runR m fl bl rs n, r.name, n, rfl, hR0.to t7, h.ok, hzm, h.beo r hrm.1, hln, by omega, fun L H8 hN8 => ?_⟩
      walk_at "rd"
      refine ⟨by show 2 ≤ sizeLine; omega, fun t H9 hN9 => ?_⟩
      obtain ⟨ys', hy⟩ := hy
      have hy8 := hN8.same _ _ hy
      refine rr _ _ (hN8.same.trans hN9.same) ⟨r, t, L, hri, rfl, fun z => ?_, fun z => ?_, hN9.at, hN9.same _ _ hN8.at⟩
      · have := hN9.free; rw [z, hy8] at this; cases this
      · have := hN8.free; rw [z, hy] at this; cases this
  walk_at "rd"
  refine ⟨by show 2 ≤ sizeLine; omega, fun t H7 hN7 => ?_⟩
  have t6 := (hN4.same.trans hN5'.same).trans (s6.trans hN7.same)
  refine q t _ D ys ys2 H7 (hs.trans (t5.trans (s6.trans hN7.same))) hN7.at (t6 _ _ hHD) (hN7.same _ _ hHD2) (hT3.same t6) ?_
  rw [List.length_map] at hyl
  refine ⟨by unfold endsL; rw [List.length_map]; omega, fun i a u e1 e2 => ?_⟩
  unfold endsL at e1
  rw [List.getElem?_map] at e1
  obtain ⟨r, tt, L, g1, g2, g3, g4, g5, g6⟩ := hP i u e2
  rw [g1] at e1
  have e : (r.name, endsOf m bl rs (runR m fl bl rs n) n r.name) = a := Option.some.inj e1
  subst e
  exact ⟨tt, L, g2, hN7.same _ _ g5, hN7.same _ _ g6, trivial⟩
theorem look_at {ls : Ls} : (ls.map (·.1)).Nodup → ∀ {i : Nat} {z : Str} {l : List Int}, ls[i]? = some (z, l) → ls.lookup z = some l := by
  induction ls with
  | nil => intro _ i z l e; simp at e
  | cons a ls ih =>
    intro hn i z l e
    obtain ⟨y, m⟩ := a
    rw [List.map_cons, List.nodup_cons] at hn
    rw [List.lookup_cons]
    cases i with
    | zero =>
      have e' : (y, m) = (z, l) := Option.some.inj e
      cases e'
      rw [beq_self_eq_true]
    | succ i =>
      have e' : ls[i]? = some (z, l) := by simpa using e
      have hz : ¬ z = y := fun w => hn.1 (by rw [← w]; exact List.mem_map.mpr ⟨(z, l), List.mem_of_getElem? e', rfl⟩)
      rw [show (z == y) = false by simpa using hz]
      exact ih hn.2 e'
theorem flat_ints (l : List Int) : (List.map V.int l).all flatV = true := by
  rw [List.all_map]; exact List.all_eq_true.mpr fun _ _ => rfl
theorem dd_of {H : Hp} {a b : Addr} {ls : Ls} (ha : LsAt H a ls) (hb : LsAt H b ls) : DD H (.ref a) (.ref b) := by
  obtain ⟨ka, ea, na, ra⟩ := ha
  obtain ⟨kb, eb, nb, rb⟩ := hb
  refine ⟨a, b, ka, kb, rfl, rfl, ea, eb, by rw [← Paired.len' ra, ← Paired.len' rb], fun i k v e => ?_⟩
  obtain ⟨⟨z, l⟩, hzl, hk, p, hv, hp⟩ := paired_at ra e
  obtain ⟨q, g1, g2⟩ := paired_some rb (look_at nb hzl)
  exact ⟨p, q, _, hv, by rw [show k = Sum.inr z from hk]; exact g1, hp, g2, flat_ints l⟩
def KeyIn (q : Row → Bool) (rs : List Row) (zs : List Str) (i : Nat) (ls : Ls) : Prop := ∀ z ∈ ls.map (·.1), (∃ r ∈ rs, q r = true ∧ r.name = z) ∨ z ∈ zs.take i
theorem FedAt.keyIn {H : Hp} {d : Addr} {rs : List Row} {q : Row → Bool} {n : Str → Int} {ls : Ls} {zs : List Str} (h : FedAt H d rs q n ls) (i : Nat) : KeyIn q rs zs i ls := fun z hz => by
  rw [h.keys] at hz
  obtain ⟨r, hr, e⟩ := List.mem_map.mp hz
  exact .inl ⟨r, (List.mem_filter.mp hr).1, (List.mem_filter.mp hr).2, e⟩
theorem KeyIn.not {q : Row → Bool} {rs : List Row} {zs : List Str} {i : Nat} {ls : Ls} {r : Row} (h : KeyIn q rs zs i ls) (hok : RowsOk zs rs) (hr : rs[i]? = some r) (hq : q r = false) : ¬ r.name ∈ ls.map (·.1) := fun hm => by
  have hn := (hok.at_ i r hr).name
  rcases h _ hm with ⟨r', hr', hq', e⟩ | hz
  · obtain ⟨j, hj⟩ := List.mem_iff_getElem?.mp hr'
    have h1 := (hok.at_ j r' hj).name
    rw [e] at h1
    have := name_inj hok.names h1 hn
    rw [this, hr] at hj
    cases hj
    rw [hq] at hq'; cases hq'
  · exact nd_names hok.names hn hz
theorem KeyIn.next {q : Row → Bool} {rs : List Row} {zs : List Str} {i : Nat} {ls : Ls} {z : Str} {l : List Int} (h : KeyIn q rs zs i ls) (hz : zs[i]? = some z) : KeyIn q rs zs (i + 1) (ls ++ [(z, l)]) := fun y hy => by
  rw [List.map_append] at hy
  have ht : zs.take (i + 1) = zs.take i ++ [z] := by rw [List.take_add_one, hz]; rfl
  rcases List.mem_append.mp hy with w | w
  · rcases h y w with w | w
    · exact .inl w
    · exact .inr (by rw [ht]; exact List.mem_append_left _ w)
  · exact .inr (by rw [ht]; exact List.mem_append_right _ (by simpa using w))
theorem KeyIn.skip {q : Row → Bool} {rs : List Row} {zs : List Str} {i : Nat} {ls : Ls} {z : Str} (h : KeyIn q rs zs i ls) (hz : zs[i]? = some z) : KeyIn q rs zs (i + 1) ls := fun y hy => by
  rcases h y hy with w | w
  · exact .inl w
  · exact .inr (by rw [List.take_add_one, hz]; exact List.mem_append_left _ w)
theorem FeOk.app {rs : List Row} {fl ms : Ls} {n : Nat} (h : FeOk rs fl n) : FeOk rs (fl ++ ms) n := fun r hr ht => by
  obtain ⟨l, e1, e2⟩ := h r hr ht
  exact ⟨l, look_app e1, e2⟩
theorem BeOk.app {rs : List Row} {bl ms : Ls} (h : BeOk rs bl) : BeOk rs (bl ++ ms) := fun r hr ht => by
  obtain ⟨l, e1, e2⟩ := h r hr ht
  exact ⟨l, look_app e1, e2⟩
theorem FedAt.feo {H : Hp} {d : Addr} {rs : List Row} {n : Nat} {ls : Ls} (h : FedAt H d rs isTake (fun _ => (n : Int)) ls) : FeOk rs ls n := fun r hr ht => by
  obtain ⟨l, e1, e2⟩ := h.look hr (show isTake r = true from decide_eq_true ht)
  exact ⟨l, e1, Int.ofNat_le.mp e2⟩
theorem FedAt.beo {H : Hp} {d : Addr} {rs : List Row} {ls : Ls} (h : FedAt H d rs (isDeep rs) (deep rs) ls) : BeOk rs ls := fun r hr ht => h.look hr (show isDeep rs r = true from decide_eq_true ht)
theorem zz_key {H : Hp} {d : Addr} {rs : List Row} {q : Row → Bool} {n : Str → Int} {ls : Ls} {zs : List Str} (h : FedAt H d rs q n ls) (hok : RowsOk zs rs) : ¬ Str.ofString "zzzzzz" ∈ ls.map (·.1) := fun hm => by
  rw [h.keys] at hm
  obtain ⟨r, hr, e⟩ := List.mem_map.mp hm
  obtain ⟨j, hj⟩ := List.mem_iff_getElem?.mp (List.mem_filter.mp hr).1
  obtain ⟨_, place, nn, hn⟩ := hok.names
  exact zz_not (hn j r.name (hok.at_ j r hj).name) e
def MeasOk (m : Int) : Prop := 2 ≤ m ∧ m ≤ 10 ^ 60
theorem pairL_len {M : Md} {qs : List Row} : (pairL M qs).length = qs.length := List.length_map _
theorem run_len {zs : List Str} {rs : List Row} {m : Int} (fl bl : Ls) (hok : RowsOk zs rs) (h0 : 0 < m) (n : Nat) : ∀ z ∈ zs, (runR m fl bl rs n z).length = n := fun z hz => by
  obtain ⟨j, hj⟩ := List.mem_iff_getElem?.mp hz
  have := (Going.run fl bl hok h0 n).len j z hj
  rwa [if_neg (by omega)] at this
theorem pairL_few {zs : List Str} {rs qs : List Row} {m : Int} {fl bl : Ls} {n : Nat} (hok : RowsOk zs rs) (h0 : 0 < m) (hn : n ≤ 300) (hq : ∀ r ∈ qs, r ∈ rs) : ∀ a ∈ pairL (runR m fl bl rs n) qs, a.2.length ≤ 400 := fun a ha => by
  obtain ⟨r, hr, e⟩ := List.mem_map.mp ha
  rw [← e]
  have := run_len fl bl hok h0 n r.name (row_zs hok r (hq r hr))
  show (runR m fl bl rs n r.name).length ≤ 400
  omega
theorem endsL_few {zs : List Str} {rs : List Row} {m : Int} {bl : Ls} {M : Md} {n : Nat} (hok : RowsOk zs rs) : ∀ a ∈ endsL m bl rs M n rs, a.2.length ≤ 400 := fun a ha => by
  obtain ⟨r, hr, e⟩ := List.mem_map.mp ha
  rw [← e]
  have := deep_6 hok r.name
  show (endsOf m bl rs M n r.name).length ≤ 400
  unfold endsOf
  rw [List.length_map, List.length_range]; omega
theorem endsL_len {rs : List Row} {m : Int} {bl : Ls} {M : Md} {n : Nat} : (endsL m bl rs M n rs).length ≤ rs.length := by
  unfold endsL
  rw [List.length_map]; exact List.length_filter_le _ _
structure LawAt (CL : Addr) (H : Hp) (lx k fd bd cf cb hp ep tp np : Addr) (m : Int) (rs : List Row) (zs : List Str) (fl bl : Ls) (n : Nat) : Prop where
  asks : Asks CL H lx k cf cb m rs zs fl bl n
  fe : LsAt H fd fl
  be : LsAt H bd bl
  hand : H hp = some (.lst [.ref cf, .ref cb])
  every : ∃ us, H ep = some (.lst us) ∧ PrAt (fun _ => True) H (pairL (runR m fl bl rs n) rs) us
  told : ∃ us, H tp = some (.lst us) ∧ PrAt (fun _ => True) H (pairL (runR m fl bl rs n) (rs.filter isTell)) us
  ends : ∃ us, H np = some (.lst us) ∧ PrAt (fun _ => True) H (endsL m bl rs (runR m fl bl rs n) n rs) us
theorem LawAt.same {CL : Addr} {H H' : Hp} {lx k fd bd cf cb hp ep tp np : Addr} {m : Int} {rs : List Row} {zs : List Str} {fl bl : Ls} {n : Nat} (s : Same H H') (h : LawAt CL H lx k fd bd cf cb hp ep tp np m rs zs fl bl n) : LawAt CL H' lx k fd bd cf cb hp ep tp np m rs zs fl bl n := by
  obtain ⟨a, b, c, d, ⟨u1, e1, e2⟩, ⟨u2, e3, e4⟩, ⟨u3, e5, e6⟩⟩ := h
  exact ⟨a.same s, b.same s, c.same s, s _ _ d, ⟨u1, s _ _ e1, e2.same s⟩, ⟨u2, s _ _ e3, e4.same s⟩, ⟨u3, s _ _ e5, e6.same s⟩⟩
theorem st_eq {t : TS} {D : Ends} {σ σ' : St} {H : Hp} (e : σ = σ') (q : t D σ' H) : t D σ H := e ▸ q
def spLaw (K : PySem.W.Frag) (ns : List Int) : Sp := fun vs H Q _ => ∃ a : Addr, vs = [.ref a] ∧ SqL K H a (ns.map V.int) ∧ ∀ H', Q (.bl true) H'
theorem ok_law {f : Addr} {fd : FuncData} (T : Txt K mg C CE) (F : Fun K "law" "law" st_law f fd) (Kb : K.In base) (G : base.Ns mainGlobals mg) {ns : List Int} (hl : ns.length ≤ 63) (hb : ∀ i ∈ ns, Builtin.Int.intBits i ≤ 1048576) : FnOk P w K mg base CX0 8 f fd ["_law_script"] (spLaw K ns) := by
  have D_law_cell_at : Df P w K mg base 1 "_law_cell_at" ["_law_script", "_law_k"] (spCell K) := d_cell T Kb G
  have D_law_mix : Df P w K mg base 1 "_law_mix" ["_law_cell", "_law_k"] spMix := d_mix T Kb G
  have D_law_rows : Df P w K mg base 3 "_law_rows" ["_law_script", "_law_many"] (spRows K) := d_rows T Kb G
  have D_law_measure : Df P w K mg base 2 "_law_measure" ["_law_script"] (spMeasure K) := d_measure T Kb G
  have D_law_deepest : Df P w K mg base 1 "_law_deepest" ["_law_rows_here", "_law_name"] spDeepest := d_deepest T Kb G
  have D_law_feeds : Df P w K mg base 2 "_law_feeds" ["_law_script", "_law_rows_here", "_law_turns"] (spFeeds K) := d_feeds T Kb G
  have D_law_begin : Df P w K mg base 2 "_law_begin" ["_law_script", "_law_rows_here"] (spBegin K) := d_begin T Kb G
  have D_law_copy : Df P w K mg base 1 "_law_copy" ["_law_lists"] spCopyL := d_copyL T Kb G
  have D_law_made : Df P w K mg base 2 "_law_made" ["_law_measure_here", "_law_rows_here", "_law_turns", "_law_feeds_here", "_law_begin_here"] (spMade K) := d_made T Kb G
  have D_law_ends : Df P w K mg base 2 "_law_ends" ["_law_measure_here", "_law_rows_here", "_law_turns", "_law_made_here", "_law_begin_here"] (spEnds K) := d_ends T Kb G
  have D_law_pairs : Df P w K mg base 3 "_law_pairs" ["_law_found", "_law_due"] spPairs := d_pairs T Kb G
  have D_law_outcome : Df P w K mg base 4 "_law_outcome" ["_law_found", "_law_told", "_law_ends_here"] spOutc := d_outc T Kb G
  have Dtable : Df P w K mg base 6 "table" ["loop", "turns", "feeds", "begin"] (spTable (CE .Loop)) := d_table T Kb G
  have Doutcome : Df P w K mg base 6 "outcome" ["loop", "turns", "feeds", "begin"] (spOutcome (CE .Loop)) := d_outcome T Kb G
  have MLoop : MkI P w K mg base 5 (CE .Loop) ["self", "measure", "rows"] (spInit (CE .Loop)) := mk_loop T Kb G
  refine (F.ok sc_law (k := 7) (by rintro vs H Q E ⟨a, rfl, _⟩; rfl) (fun cdv A outer s H vs Q E hr h => ?_)).mono (by decide)
  obtain ⟨a, rfl, hS, q⟩ := h
  refine ⟨_, (pss_cons (ps_set (i := 1) sc_law.nd rfl (by first | exact Or.inl rfl | exact Or.inr rfl) (pe_callD D_law_mix (hr.mono (by decide)) rfl (pa_cons (pe_callD D_law_cell_at (hr.mono (by decide)) rfl (pa_cons (pv 0) (pa_cons pe_int pa_nil (se rfl)) (se rfl)) (he := se rfl) (hpl := nst rfl)) (pa_cons pe_int pa_nil (se rfl)) (se rfl)) (he := se rfl) (hpl := nst rfl)))
    (pss_cons (ps_set (i := 2) sc_law.nd rfl (by first | exact Or.inl rfl | exact Or.inr rfl) (pe_callD D_law_rows (hr.mono (by decide)) rfl (pa_cons (pv 0) (pa_cons (pe_op op_add pe_int (pe_op op_mod (pv 1) pe_int)) pa_nil (se rfl)) (se rfl)) (he := se rfl) (hpl := nst rfl)))
    (pss_cons (ps_set (i := 3) sc_law.nd rfl (by first | exact Or.inl rfl | exact Or.inr rfl) (pe_callD D_law_measure (hr.mono (by decide)) rfl (pa_cons (pv 0) pa_nil (se rfl)) (he := se rfl) (hpl := nst rfl)))
    (pss_cons (ps_set (i := 4) sc_law.nd rfl (by first | exact Or.inl rfl | exact Or.inr rfl) (pe_op op_mod (pe_op op_fdiv (pv 1) pe_int) pe_int))
    (pss_cons (ps_join (ps_if (pt_cmpR op_eq (pe_op op_mod (pe_op op_fdivB (pv 1) (pe_op op_pow pe_int pe_int)) pe_int) pe_int (nomark _)) (pss_cons (ps_set (i := 2) sc_law.nd rfl (by first | exact Or.inl rfl | exact Or.inr rfl) (pe_callD D_law_rows (hr.mono (by decide)) rfl (pa_cons (pv 0) (pa_cons (pe_op op_add pe_int (pe_op op_mod (pv 1) pe_int)) pa_nil (se rfl)) (se rfl)) (he := se rfl) (hpl := nst rfl)))
    (pss_one (ps_set (i := 4) sc_law.nd rfl (by first | exact Or.inl rfl | exact Or.inr rfl) (pe_op op_add pe_int (pe_op op_mod (pe_op op_fdivB (pv 1) (pe_op op_pow pe_int pe_int)) pe_int))))) pss_nil))
    (pss_cons (ps_set (i := 5) sc_law.nd rfl (by first | exact Or.inl rfl | exact Or.inr rfl) (pe_callD D_law_feeds (hr.mono (by decide)) rfl (pa_cons (pv 0) (pa_cons (pv 2) (pa_cons (pv 4) pa_nil (se rfl)) (se rfl)) (se rfl)) (he := se rfl) (hpl := nst rfl)))
    (pss_cons (ps_set (i := 6) sc_law.nd rfl (by first | exact Or.inl rfl | exact Or.inr rfl) (pe_callD D_law_begin (hr.mono (by decide)) rfl (pa_cons (pv 0) (pa_cons (pv 2) pa_nil (se rfl)) (se rfl)) (he := se rfl) (hpl := nst rfl)))
    (pss_cons (ps_join (ps_if (pt_cmpR op_eq (pe_op op_mod (pe_op op_fdiv (pv 1) pe_int) pe_int) pe_int (nomark _)) (pss_cons (ps_dput (hu_of hr) (pv 5) pe_str (pe_lstA (pa_cons pe_int pa_nil (se rfl))) rfl)
    (pss_one (ps_dput (hu_of hr) (pv 6) pe_str (pe_lstA pa_nil) rfl))) pss_nil))
    (pss_cons (ps_join (ps_if (pt_cmpR op_eq (pe_op op_mod (pe_op op_fdiv (pv 1) pe_int) pe_int) pe_int (nomark _)) (pss_one (ps_for PassesOwn.never rfl (pi_list (pv 2)) (pg_name (i := 7) sc_law.nd rfl (Or.inl rfl))
      (pss_cons (ps_join (ps_if (pt_cmpR op_ne (pe_ix ix_seq (pv 7) pe_int (fun _ _ => rfl)) pe_str (nomark _)) (pss_one (ps_dput (hu_of hr) (pv 5) (pe_ix ix_seq (pv 7) pe_int (fun _ _ => rfl)) (pe_slice sl_listA (pe_lstA (pa_cons pe_int pa_nil (se rfl))) po_none (po_some (pe_op op_mod (pe_op op_fdiv (pv 1) pe_int) pe_int))) rfl)) pss_nil))
    (pss_one (ps_if (pt_cmpR op_eq (pe_callD D_law_deepest (hr.mono (by decide)) rfl (pa_cons (pv 2) (pa_cons (pe_ix ix_seq (pv 7) pe_int (fun _ _ => rfl)) pa_nil (se rfl)) (se rfl)) (he := se rfl) (hpl := nst rfl)) pe_int (nomark _)) (pss_one (ps_dput (hu_of hr) (pv 6) (pe_ix ix_seq (pv 7) pe_int (fun _ _ => rfl)) (pe_slice sl_listA (pe_lstA (pa_cons pe_int (pa_cons pe_int pa_nil (se rfl)) (se rfl))) po_none (po_some (pe_op op_mod (pe_op op_fdiv (pv 1) pe_int) pe_int))) rfl)) pss_nil))))) pss_nil))
    (pss_cons (ps_set (i := 8) sc_law.nd rfl (by first | exact Or.inl rfl | exact Or.inr rfl) (pe_lstA (pa_cons (pe_callD D_law_copy (hr.mono (by decide)) rfl (pa_cons (pv 5) pa_nil (se rfl)) (he := se rfl) (hpl := nst rfl)) (pa_cons (pe_callD D_law_copy (hr.mono (by decide)) rfl (pa_cons (pv 6) pa_nil (se rfl)) (he := se rfl) (hpl := nst rfl)) pa_nil (se rfl)) (se rfl))))
    (pss_cons (ps_set (i := 9) sc_law.nd rfl (by first | exact Or.inl rfl | exact Or.inr rfl) (pe_callD D_law_made (hr.mono (by decide)) rfl (pa_cons (pv 3) (pa_cons (pv 2) (pa_cons (pv 4) (pa_cons (pv 5) (pa_cons (pv 6) pa_nil (se rfl)) (se rfl)) (se rfl)) (se rfl)) (se rfl)) (he := se rfl) (hpl := nst rfl)))
    (pss_cons (ps_lc (i := 10) sc_law.nd rfl rfl (by with_unfolding_all rfl) (Blk.of (caps := ["_law_made_here"]) (ix := [9]) rfl) rfl (pi_list (pv 2)) (fun _ _ _ _ => pf_nil) (fun _ _ _ _ => (pe_tupA (pa_cons (pe_ix (ix_seqK (K := K) rfl) (pv 0) pe_int (fun _ _ => rfl)) (pa_cons (pe_dget (hu_of hr) (pv 1) (pe_ix (ix_seqK (K := K) rfl) (pv 0) pe_int (fun _ _ => rfl)) (fun _ _ => rfl)) pa_nil (se rfl)) (se rfl)))))
    (pss_cons (ps_lc (i := 11) sc_law.nd rfl rfl (by with_unfolding_all rfl) (Blk.of (caps := ["_law_made_here"]) (ix := [9]) rfl) rfl (pi_list (pv 2)) (fun _ _ _ _ => (pf_one (pt_cmpR op_eq (pe_ix (ix_seqK (K := K) rfl) (pv 0) pe_int (fun _ _ => rfl)) pe_str (nomark _)))) (fun _ _ _ _ => (pe_tupA (pa_cons (pe_ix (ix_seqK (K := K) rfl) (pv 0) pe_int (fun _ _ => rfl)) (pa_cons (pe_dget (hu_of hr) (pv 1) (pe_ix (ix_seqK (K := K) rfl) (pv 0) pe_int (fun _ _ => rfl)) (fun _ _ => rfl)) pa_nil (se rfl)) (se rfl)))))
    (pss_cons (ps_set (i := 12) sc_law.nd rfl (by first | exact Or.inl rfl | exact Or.inr rfl) (pe_callD D_law_ends (hr.mono (by decide)) rfl (pa_cons (pv 3) (pa_cons (pv 2) (pa_cons (pv 4) (pa_cons (pv 9) (pa_cons (pv 6) pa_nil (se rfl)) (se rfl)) (se rfl)) (se rfl)) (se rfl)) (he := se rfl) (hpl := nst rfl)))
    (pss_cons (ps_set (i := 13) sc_law.nd rfl (by first | exact Or.inl rfl | exact Or.inr rfl) (pe_makeI MLoop (hr.mono (by decide)) rfl T.mg_Loop (pa_cons (pv 3) (pa_cons (pe_callTy call_listA rfl T.nlist PyProof.Rows.boot_list (pa_cons (pv 2) pa_nil (se rfl)) (he := se rfl) (hpl := nst rfl)) pa_nil (se rfl)) (se rfl)) (he := se rfl) (hpl := nst rfl)))
    (pss_cons (ps_join (ps_if (pt_cmpR op_eq (pe_op op_mod (pe_op op_fdiv (pv 1) pe_int) pe_int) pe_int (nomark _)) (pss_one (ps_if (pt_not (pt_val (pe_callD D_law_outcome (hr.mono (by decide)) rfl (pa_cons (pe_callD Doutcome (hr.mono (by decide)) rfl (pa_cons (pv 13) (pa_cons (pv 4) (pa_cons (pe_ix ix_seq (pv 8) pe_int (fun _ _ => rfl)) (pa_cons (pe_ix ix_seq (pv 8) pe_int (fun _ _ => rfl)) pa_nil (se rfl)) (se rfl)) (se rfl)) (se rfl)) (he := se rfl) (hpl := nst rfl)) (pa_cons (pv 11) (pa_cons (pv 12) pa_nil (se rfl)) (se rfl)) (se rfl)) (he := se rfl) (hpl := nst rfl)))) (pss_one (ps_ret pe_bl)) pss_nil)) pss_nil))
    (pss_cons (ps_set (i := 14) sc_law.nd rfl (by first | exact Or.inl rfl | exact Or.inr rfl) (pe_callD Dtable (hr.mono (by decide)) rfl (pa_cons (pv 13) (pa_cons (pv 4) (pa_cons (pe_ix ix_seq (pv 8) pe_int (fun _ _ => rfl)) (pa_cons (pe_ix ix_seq (pv 8) pe_int (fun _ _ => rfl)) pa_nil (se rfl)) (se rfl)) (se rfl)) (se rfl)) (he := se rfl) (hpl := nst rfl)))
    (pss_cons (ps_if (pt_not (pt_val (pe_callD D_law_pairs (hr.mono (by decide)) rfl (pa_cons (pv 14) (pa_cons (pv 10) pa_nil (se rfl)) (se rfl)) (he := se rfl) (hpl := nst rfl)))) (pss_one (ps_ret pe_bl)) pss_nil)
    (pss_cons (ps_for PassesOwn.never rfl (pi_list (pv 14)) (pg_tup rfl (pgs_cons (pg_name (i := 15) sc_law.nd rfl (Or.inl rfl)) (pgs_cons (pg_name (i := 7) sc_law.nd rfl (Or.inl rfl)) pgs_nil)))
      (pss_one (ps_expr (pe_bm0 PySem.F.plainAttrs_list PySem.F.slot_list_clear PySem.F.type_list_clear mt_clear (pv 7)))))
    (pss_cons (ps_expr (pe_bm0 PySem.F.plainAttrs_list PySem.F.slot_list_clear PySem.F.type_list_clear mt_clear (pv 14)))
    (pss_cons (ps_if (pt_not (pt_val (pe_callD D_law_outcome (hr.mono (by decide)) rfl (pa_cons (pe_callD Doutcome (hr.mono (by decide)) rfl (pa_cons (pv 13) (pa_cons (pv 4) (pa_cons (pe_ix ix_seq (pv 8) pe_int (fun _ _ => rfl)) (pa_cons (pe_ix ix_seq (pv 8) pe_int (fun _ _ => rfl)) pa_nil (se rfl)) (se rfl)) (se rfl)) (se rfl)) (he := se rfl) (hpl := nst rfl)) (pa_cons (pv 11) (pa_cons (pv 12) pa_nil (se rfl)) (se rfl)) (se rfl)) (he := se rfl) (hpl := nst rfl)))) (pss_one (ps_ret pe_bl)) pss_nil)
    (pss_one (ps_ret (pe_and (pe_callD D_law_pairs (hr.mono (by decide)) rfl (pa_cons (pe_callD Dtable (hr.mono (by decide)) rfl (pa_cons (pv 13) (pa_cons (pv 4) (pa_cons (pe_ix ix_seq (pv 8) pe_int (fun _ _ => rfl)) (pa_cons (pe_ix ix_seq (pv 8) pe_int (fun _ _ => rfl)) pa_nil (se rfl)) (se rfl)) (se rfl)) (se rfl)) (he := se rfl) (hpl := nst rfl)) (pa_cons (pv 10) pa_nil (se rfl)) (se rfl)) (he := se rfl) (hpl := nst rfl)) (pe_one (pe_cmpR (op_eqDs hr.units) (pv 8) (pe_lstA (pa_cons (pv 5) (pa_cons (pv 6) pa_nil (se rfl)) (se rfl))) (nomark _))))))))))))))))))))))))))), ?_⟩
  refine st_eq (σ' := [some (.ref a), none, none, none, none, none, none, none, none, none, none, none, none, none, none, none]) rfl ?_
  have lb := line_big
  clear hl hb
  walk_at "rd"
  refine ⟨a, ns, 0, rfl, hS, fun c => ?_⟩
  walk_at "rd"
  refine ⟨c, 0, rfl, by decide, fun hd => ?_⟩
  walk_at "rd"
  have b12 := mod_b (hd : Int) (show (0 : Int) < 12 by decide)
  obtain ⟨mn, hmn⟩ := Int.eq_ofNat_of_zero_le b12.1
  rw [hmn] at b12 ⊢
  refine ⟨a, ns, 1 + mn, rfl, hS, by omega, fun p0 H0 zs0 rs0 us0 s0 hp0 hu0 hok0 hrl0 => ?_⟩
  walk_at "rd"
  refine ⟨a, ns, rfl, s0.seq hS, fun m m2' m60' => ?_⟩
  have hm : MeasOk m := ⟨m2', m60'⟩
  clear m60' m2'
  walk_at "rd"
  have b17 := mod_b ((hd : Int) / 12) (show (0 : Int) < 17 by decide)
  obtain ⟨tn, htn⟩ := Int.eq_ofNat_of_zero_le b17.1
  rw [htn] at b17 ⊢
  have htn16 : tn ≤ 16 := by omega
  have hmn12 : mn < 12 := by omega
  clear htn hmn b12 b17
  refine i_join (fun σ' H' => ∃ (p : Addr) (zs : List Str) (rs : List Row) (us : List V) (n : Nat), σ' = [some (.ref a), some (.int (hd : Int)), some (.ref p), some (.int m), some (.int (n : Int)), none, none, none, none, none, none, none, none, none, none, none] ∧ Same H H' ∧ H' p = some (.lst us) ∧ RowsAt H' rs us ∧ RowsOk zs rs ∧ 1 ≤ rs.length ∧ n ≤ 300) ?_ ?_
  · walk_at "rd"
    refine i_divB (by decide +kernel) ?_
    walk_at "rd"
    refine i_iteI (fun _ => ?_) (fun _ => ?_)
    · walk_at "rd"
      have b2 := mod_b (hd : Int) (show (0 : Int) < 2 by decide)
      obtain ⟨mn2, hmn2⟩ := Int.eq_ofNat_of_zero_le b2.1
      rw [hmn2] at b2 ⊢
      refine ⟨a, ns, 1 + mn2, rfl, s0.seq hS, by omega, fun p1 H1 zs1 rs1 us1 s1 hp1 hu1 hok1 hrl1 => ?_⟩
      walk_at "rd"
      refine i_divB (by decide +kernel) ?_
      walk_at "rd"
      have b270 := mod_b ((hd : Int) / 10 ^ (14 : Int).toNat) (show (0 : Int) < 270 by decide)
      obtain ⟨t2, ht2⟩ := Int.eq_ofNat_of_zero_le b270.1
      rw [ht2] at b270 ⊢
      exact ⟨p1, zs1, rs1, us1, 31 + t2, rfl, s0.trans s1, hp1, hu1, hok1, by omega, by omega⟩
    · walk_at "rd"
      exact ⟨p0, zs0, rs0, us0, tn, rfl, s0, hp0, hu0, hok0, by omega, by omega⟩
  clear hp0 hu0 hok0 hrl0 s0 htn16 hmn12
  rintro σ1 H1 ⟨p, zs, rs, us, n, rfl, s1, hp, hu, hok, hrs1, hn⟩
  have l1 := hu.len
  have l2 := hok.len
  have l12 := hok.names.1
  walk_at "rd"
  refine ⟨a, p, ns, us, zs, rs, n, rfl, s1.seq hS, hp, hu, hok, hn, fun fd H2 fl s2 hfd0 hF => ?_⟩
  walk_at "rd"
  refine ⟨a, p, ns, us, zs, rs, rfl, (s1.trans s2).seq hS, s2 _ _ hp, hu.same s2, hok, fun bd H3 bl s3 hbd0 hB => ?_⟩
  have hbd1 : H1 bd = none := s2.free hbd0
  have S3 : Same H1 H3 := s2.trans s3
  have hF3 := hF.same s3
  have hfl0 := hF.len
  have hbl0 := hB.len
  have hfb : fd ≠ bd := fun z => by
    obtain ⟨kvs, e, _⟩ := hF.at_
    rw [z, hbd0] at e; cases e
  clear hF s2 s3 hbd0
  refine i_join (fun σ' H' => ∃ (fl' bl' : Ls), σ' = [some (.ref a), some (.int (hd : Int)), some (.ref p), some (.int m), some (.int (n : Int)), some (.ref fd), some (.ref bd), none, none, none, none, none, none, none, none, none] ∧ Same H1 H' ∧ LsAt H' fd fl' ∧ LsAt H' bd bl' ∧ FeOk rs fl' n ∧ BeOk rs bl' ∧ fl'.length ≤ 13 ∧ bl'.length ≤ 13 ∧
    ((hd : Int) / 204 % 3 = 2 → KeyIn isTake rs zs 0 fl' ∧ KeyIn (isDeep rs) rs zs 0 bl')) ?_ ?_
  · walk_at "rd"
    refine i_iteI (fun h1 => ?_) (fun h1 => ?_)
    · walk_at "rd"
      refine i_dput ?_
      walk_at "rd"
      refine ⟨by show 1 ≤ sizeLine; omega, fun lp H4 hN4 => ?_⟩
      walk_at "rd"
      obtain ⟨H5, hput5, sb5, hL5⟩ := (hF3.at_.same hN4.same).add (z := Str.ofString "zzzzzz") (p := lp) (l := [1]) (zz_key hF3 hok) hN4.at (by omega)
      have hfd1 : H1 fd = none := hfd0
      have S5 : Same H1 H5 := fun b o e => sb5 b o (ne_of_none e hfd1) (hN4.same _ _ (S3 _ _ e))
      refine ⟨fd, H5, rfl, hput5, ?_⟩
      have hB5 : LsAt H5 bd bl := by
        obtain ⟨kvs, e, nd, r⟩ := hB.at_
        obtain ⟨kf, ef, _⟩ := hF3.at_
        refine ⟨kvs, sb5 bd _ (Ne.symm hfb) (hN4.same _ _ e), nd, Paired.mapP r fun x y z => ?_⟩
        obtain ⟨z1, w, z2, z3⟩ := z
        exact ⟨z1, w, z2, sb5 w _ (ne_of z3 ef (by intro z; cases z)) (hN4.same _ _ z3)⟩
      dsimp only
      refine i_dput ?_
      walk_at "rd"
      refine ⟨by show 0 ≤ sizeLine; omega, fun lq H6 hN6 => ?_⟩
      walk_at "rd"
      obtain ⟨H7, hput7, sb7, hL7⟩ := (hB5.same hN6.same).add (z := Str.ofString "zzzzzz") (p := lq) (l := []) (zz_key hB hok) hN6.at (by omega)
      refine ⟨bd, H7, rfl, hput7, fl ++ [(Str.ofString "zzzzzz", [1])], bl ++ [(Str.ofString "zzzzzz", [])], rfl, fun b o e => sb7 b o (ne_of_none e hbd1) (hN6.same _ _ (S5 _ _ e)), ?_, hL7, hF3.feo.app, hB.beo.app, by rw [List.length_append, List.length_singleton]; omega, by rw [List.length_append, List.length_singleton]; omega, fun h2 => by omega⟩
      obtain ⟨kvs, e, nd, r⟩ := hL5
      obtain ⟨kf, ef, _⟩ := hB5
      refine ⟨kvs, sb7 fd _ hfb (hN6.same _ _ e), nd, Paired.mapP r fun x y z => ?_⟩
      obtain ⟨z1, w, z2, z3⟩ := z
      exact ⟨z1, w, z2, sb7 w _ (ne_of z3 ef (by intro z; cases z)) (hN6.same _ _ z3)⟩
    · walk_at "rd"
      exact ⟨fl, bl, rfl, S3, hF3.at_, hB.at_, hF3.feo, hB.beo, by omega, by omega, fun _ => ⟨hF3.keyIn 0, hB.keyIn 0⟩⟩
  clear hF3 hB hfl0 hbl0 S3
  rintro σ4 H4 ⟨fl4, bl4, rfl, S4, hf4, hb4, hfe4, hbe4, lf4, lb4, hk4⟩
  walk_at "rd"
  refine i_join (fun σ' H' => ∃ (fl' bl' : Ls) (x7 : Option V), σ' = [some (.ref a), some (.int (hd : Int)), some (.ref p), some (.int m), some (.int (n : Int)), some (.ref fd), some (.ref bd), x7, none, none, none, none, none, none, none, none] ∧ Same H1 H' ∧ LsAt H' fd fl' ∧ LsAt H' bd bl' ∧ FeOk rs fl' n ∧ BeOk rs bl' ∧ fl'.length ≤ 100 ∧ bl'.length ≤ 100) ?_ ?_
  · walk_at "rd"
    refine i_iteI (fun h2 => ?_) (fun h2 => ?_)
    · obtain ⟨kf4, kb4⟩ := hk4 h2
      walk_at "rd"
      refine i_for (i_list ?_)
      walk_at "rd"
      refine ⟨p, rfl, ⟨us, sqL_inj_of (S4 _ _ hp)⟩, ?_⟩
      refine for_list (xs := us) (fun i σ H' => ∃ (fl' bl' : Ls) (x7 : Option V), σ = [some (.ref a), some (.int (hd : Int)), some (.ref p), some (.int m), some (.int (n : Int)), some (.ref fd), some (.ref bd), x7, none, none, none, none, none, none, none, none] ∧ Same H1 H' ∧ LsAt H' fd fl' ∧ LsAt H' bd bl' ∧ FeOk rs fl' n ∧ BeOk rs bl' ∧ fl'.length ≤ 13 + i ∧ bl'.length ≤ 13 + i ∧ KeyIn isTake rs zs i fl' ∧ KeyIn (isDeep rs) rs zs i bl')
        ⟨fl4, bl4, none, rfl, S4, hf4, hb4, hfe4, hbe4, by omega, by omega, kf4, kb4⟩ (fun i σ H' _ h => by obtain ⟨_, _, _, _, S, _⟩ := h; exact sqL_inj_of (S _ _ hp)) ?_ ?_
      · rintro i u σ H5 hui ⟨fl5, bl5, x7, rfl, S5, hf5, hb5, hfe5, hbe5, lf5, lb5, kf5, kb5⟩
        have hiu := (List.getElem?_eq_some_iff.mp hui).1
        have hir : i < rs.length := by rw [l1]; exact hiu
        have hri := List.getElem?_eq_getElem hir
        have r1 := (hu.at_ i rs[i] u hri hui).same S5
        have hnm := (hok.at_ i rs[i] hri).name
        generalize rs[i] = rw at *
        obtain ⟨p1, p2, vs, rfl, h1, h2', h3⟩ := r1
        walk_at "rd"
        refine i_join (fun σ' H' => ∃ (fl' : Ls), σ' = [some (.ref a), some (.int (hd : Int)), some (.ref p), some (.int m), some (.int (n : Int)), some (.ref fd), some (.ref bd), some (.ref p2), none, none, none, none, none, none, none, none] ∧ Same H1 H' ∧ H' p2 = some (.tup [.str rw.name, .str rw.d.word, .ref p1]) ∧ LsAt H' fd fl' ∧ LsAt H' bd bl5 ∧ FeOk rs fl' n ∧ fl'.length ≤ 13 + (i + 1) ∧ KeyIn isTake rs zs (i + 1) fl') ?_ ?_
        · walk_at "rd"
          refine i_ixT (.inl (.inl h1)) (show atI _ 1 = some (.str rw.d.word) from rfl) ?_
          walk_at "rd"
          by_cases ht : rw.d = .take
          · rw [decide_eq_true (show V.str rw.d.word = V.str (Str.ofString "take") by rw [ht]; rfl)]
            walk_at "rd"
            exact ⟨fl5, rfl, S5, h1, hf5, hb5, hfe5, by omega, kf5.skip hnm⟩
          · rw [decide_eq_false (show ¬ V.str rw.d.word = V.str (Str.ofString "take") from fun z => word_ne (e := .take) ht (V.str.inj z))]
            walk_at "rd"
            refine i_dput ?_
            walk_at "rd"
            refine ⟨by show 1 ≤ sizeLine; omega, fun lp H6 hN6 => ?_⟩
            walk_at "rd"
            refine i_slLA (xs := List.map V.int [5]) hN6.lst fun lq H7 hN7 => ?_
            obtain ⟨ks, hks⟩ := cut_ints [5] none (some ((hd : Int) / 5000 % 2))
            rw [hks] at hN7
            walk_at "rd"
            have s57 := hN6.same.trans hN7.same
            refine i_ixT (.inl (.inl (s57 _ _ h1))) (show atI _ 0 = some (.str rw.name) from rfl) ?_
            obtain ⟨H8, hput8, sb8, hL8⟩ := (hf5.same s57).add (z := rw.name) (p := lq) (l := ks) (kf5.not hok hri (decide_eq_false ht)) hN7.at (by omega)
            refine ⟨fd, H8, rfl, hput8, fl5 ++ [(rw.name, ks)], rfl, fun b o e => sb8 b o (ne_of_none e hfd0) (s57 _ _ (S5 _ _ e)), ?_, hL8, ?_, hfe5.app, by rw [List.length_append, List.length_singleton]; omega, kf5.next hnm⟩
            · obtain ⟨kf, ef, _⟩ := hf5
              exact sb8 p2 _ (ne_of h1 ef (by intro z; cases z)) (s57 _ _ h1)
            · obtain ⟨kf, ef, _⟩ := hf5
              obtain ⟨kvs, e, nd, r⟩ := hb5
              refine ⟨kvs, sb8 bd _ (Ne.symm hfb) (s57 _ _ e), nd, Paired.mapP r fun x y z => ?_⟩
              obtain ⟨z1, w, z2, z3⟩ := z
              exact ⟨z1, w, z2, sb8 w _ (ne_of z3 ef (by intro z; cases z)) (s57 _ _ z3)⟩
        clear hf5 hb5 hfe5 lf5 kf5 h2' h3 h1 S5
        rintro σ6 H6 ⟨fl6, rfl, S6, h1, hf6, hb6, hfe6, lf6, kf6⟩
        walk_at "rd"
        refine i_ixT (.inl (.inl h1)) (show atI _ 0 = some (.str rw.name) from rfl) ?_
        walk_at "rd"
        refine ⟨p, us, rs, rw.name, rfl, S6 _ _ hp, hu.same S6, ?_⟩
        walk_at "rd"
        refine i_iteI (fun hd0 => ?_) (fun hd0 => ?_)
        · walk_at "rd"
          refine i_dput ?_
          walk_at "rd"
          refine ⟨by show 2 ≤ sizeLine; omega, fun lp H7 hN7 => ?_⟩
          walk_at "rd"
          refine i_slLA (xs := List.map V.int [7, 7]) hN7.lst fun lq H8 hN8 => ?_
          obtain ⟨ks, hks⟩ := cut_ints [7, 7] none (some ((hd : Int) / 10000 % 3))
          rw [hks] at hN8
          walk_at "rd"
          have s68 := hN7.same.trans hN8.same
          refine i_ixT (.inl (.inl (s68 _ _ h1))) (show atI _ 0 = some (.str rw.name) from rfl) ?_
          obtain ⟨H9, hput9, sb9, hL9⟩ := (hb6.same s68).add (z := rw.name) (p := lq) (l := ks) (kb5.not hok hri (show isDeep rs rw = false from decide_eq_false (by omega))) hN8.at (by omega)
          refine ⟨bd, H9, rfl, hput9, fl6, bl5 ++ [(rw.name, ks)], _, rfl, fun b o e => sb9 b o (ne_of_none e hbd1) (s68 _ _ (S6 _ _ e)), ?_, hL9, hfe6, hbe5.app, by omega, by rw [List.length_append, List.length_singleton]; omega, kf6, kb5.next hnm⟩
          obtain ⟨kf, ef, _⟩ := hb6
          obtain ⟨kvs, e, nd, r⟩ := hf6
          refine ⟨kvs, sb9 fd _ hfb (s68 _ _ e), nd, Paired.mapP r fun x y z => ?_⟩
          obtain ⟨z1, w, z2, z3⟩ := z
          exact ⟨z1, w, z2, sb9 w _ (ne_of z3 ef (by intro z; cases z)) (s68 _ _ z3)⟩
        · walk_at "rd"
          exact ⟨fl6, bl5, _, rfl, S6, hf6, hb6, hfe6, hbe5, by omega, by omega, kf6, kb5.skip hnm⟩
      · rintro σ H5 ⟨fl5, bl5, x7, rfl, S5, hf5, hb5, hfe5, hbe5, lf5, lb5, kf5, kb5⟩
        exact ⟨fl5, bl5, _, rfl, S5, hf5, hb5, hfe5, hbe5, by omega, by omega⟩
    · walk_at "rd"
      exact ⟨fl4, bl4, _, rfl, S4, hf4, hb4, hfe4, hbe4, by omega, by omega⟩
  clear hf4 hb4 hfe4 hbe4 lf4 lb4 hk4 S4 fl bl hfd0 hbd1 hfb
  rintro σ5 H5 ⟨fl, bl, x7, rfl, S5, hf5, hb5, hfe, hbe, lf5, lb5⟩
  have m0 : 0 < m := by have := hm.1; omega
  walk_at "rd"
  refine ⟨fd, fl, rfl, hf5, lf5, fun cf H6 s6 hcf0 hcf => ?_⟩
  walk_at "rd"
  refine ⟨bd, bl, rfl, hb5.same s6, lb5, fun cb H7 s7 hcb0 hcb => ?_⟩
  walk_at "rd"
  refine ⟨by show 2 ≤ sizeLine; omega, fun hp' H8 hN8 => ?_⟩
  have S8 : Same H5 H8 := (s6.trans s7).trans hN8.same
  have T8 : Same H1 H8 := S5.trans S8
  have cf8 := (hcf.same s7).same hN8.same
  have cb8 := hcb.same hN8.same
  have hh8 := hN8.at
  walk_at "rd"
  refine ⟨p, fd, bd, us, zs, rs, n, fl, bl, m, rfl, T8 _ _ hp, hu.same T8, hok, hf5.same S8, hb5.same S8, hfe, hbe, hn, hm.1, hm.2, fun md A' H9 s9 hM => ?_⟩
  have hlM := run_len fl bl hok m0 n
  have T9 := T8.trans s9
  walk_at "rd"
  refine i_setLc (i_lc (i_list ?_))
  walk_at "rd"
  refine lcNL us (fun D i y H' => ∃ r t, rs[i]? = some r ∧ y = .ref t ∧ t ≠ D ∧ H' t = some (.tup [.str r.name, .ref (A' r.name)])) (sqL_inj_of (T9 _ _ hp)) (by omega) (fun D i y H' H'' s' hh => ?_) (fun D i v H' R hv hD hy s' rr => ?_) (fun ep ys HA hep s10 hHep hyl hP => ?_)
  · obtain ⟨r, t, e1, e2, e3, e4⟩ := hh
    exact ⟨r, t, e1, e2, e3, s' t _ e3 e4⟩
  · have hir : i < rs.length := by rw [l1]; exact (List.getElem?_eq_some_iff.mp hv).1
    have hri := List.getElem?_eq_getElem hir
    have hzm := zs_mem hok hri
    have r1 := ((hu.at_ i rs[i] v hri hv).same T9).same s'
    generalize rs[i] = rw at *
    obtain ⟨p1, p2, vs, rfl, h1, h2, h3⟩ := r1
    walk_at "rd"
    refine i_ixT (.inl (.inl h1)) (show atI _ 0 = some (.str rw.name) from rfl) ?_
    walk_at "rd"
    refine i_dix ?_
    walk_at "rd"
    refine i_ixT (.inl (.inl h1)) (show atI _ 0 = some (.str rw.name) from rfl) ?_
    refine ⟨md, _, rfl, (hM.same s').get hzm, ?_⟩
    walk_at "rd"
    refine ⟨by show 2 ≤ sizeLine; omega, fun t H4 hN4 => ?_⟩
    obtain ⟨ys, hy⟩ := hy
    exact rr _ _ hN4.same ⟨rw, t, hri, rfl, fun z => (by have := hN4.free; rw [z, hy] at this; cases this), hN4.at⟩
  have hEv : PrAt (fun _ => True) HA (pairL (runR m fl bl rs n) rs) ys := by
    refine pr_rows (by omega) (hM.same s10) (row_zs hok) (fun _ _ => trivial) (fun j u r e1 e2 => ?_)
    obtain ⟨r', t, e3, e4, _, e5⟩ := hP j u e1
    rw [e2] at e3
    cases e3
    exact ⟨t, e4, e5⟩
  clear hP hyl
  have TA := T9.trans s10
  walk_at "rd"
  refine i_setLc (i_lc (i_list ?_))
  walk_at "rd"
  refine ⟨p, rfl, ⟨us, sqL_inj_of (TA _ _ hp)⟩, ?_⟩
  have ev : ∀ i, i < us.length → ∃ r v, rs[i]? = some r ∧ us[i]? = some v ∧ us.getD i V.non = v := fun i hi => by
    have hir : i < rs.length := by omega
    exact ⟨rs[i], us[i], List.getElem?_eq_getElem hir, List.getElem?_eq_getElem hi, by rw [List.getD, List.getElem?_eq_getElem hi]; rfl⟩
  refine lcFN (LcIt.lst (sqL_inj_of (TA _ _ hp))) (pI isTell rs) (fun D i y H' => ∃ r t, rs[i]? = some r ∧ y = .ref t ∧ t ≠ D ∧ H' t = some (.tup [.str r.name, .ref (A' r.name)])) (by omega) (fun D i y H' H'' s' hh => ?_) (fun i H' R hi s' rr => ?_) (fun D i H' R hi hpi hD hy s' rr => ?_) (fun tp ys2 HB htp s11 hHtp hyl hP => ?_)
  · obtain ⟨r, t, e1, e2, e3, e4⟩ := hh
    exact ⟨r, t, e1, e2, e3, s' t _ e3 e4⟩
  · obtain ⟨r, v, e1, e2, e3⟩ := ev i hi
    rw [e3]
    have ep : pI isTell rs i = isTell r := by unfold pI; rw [e1]
    rw [ep] at rr
    obtain ⟨p1, p2, vs, rfl, h1, h2, h3⟩ := ((hu.at_ i r v e1 e2).same TA).same s'
    walk_at "rd"
    refine i_ixT (.inl (.inl h1)) (show atI _ 1 = some (.str r.d.word) from rfl) ?_
    walk_at "rd"
    have ed : decide (V.str r.d.word = V.str (Str.ofString "tell")) = isTell r := by
      unfold isTell
      by_cases ht : r.d = .tell
      · rw [decide_eq_true ht, decide_eq_true (by rw [ht]; rfl)]
      · rw [decide_eq_false ht, decide_eq_false (show ¬ V.str r.d.word = V.str (Str.ofString "tell") from fun z => word_ne (e := .tell) ht (V.str.inj z))]
    rw [ed]; exact rr
  · obtain ⟨r, v, e1, e2, e3⟩ := ev i hi
    rw [e3]
    have hzm := zs_mem hok e1
    obtain ⟨p1, p2, vs, rfl, h1, h2, h3⟩ := ((hu.at_ i r v e1 e2).same TA).same s'
    walk_at "rd"
    refine i_ixT (.inl (.inl h1)) (show atI _ 0 = some (.str r.name) from rfl) ?_
    walk_at "rd"
    refine i_dix ?_
    walk_at "rd"
    refine i_ixT (.inl (.inl h1)) (show atI _ 0 = some (.str r.name) from rfl) ?_
    refine ⟨md, _, rfl, (hM.same (s10.trans s')).get hzm, ?_⟩
    walk_at "rd"
    refine ⟨by show 2 ≤ sizeLine; omega, fun t H4 hN4 => ?_⟩
    obtain ⟨ys, hy⟩ := hy
    exact rr _ _ hN4.same ⟨r, t, e1, rfl, fun z => (by have := hN4.free; rw [z, hy] at this; cases this), hN4.at⟩
  have hTo : PrAt (fun _ => True) HB (pairL (runR m fl bl rs n) (rs.filter isTell)) ys2 := by
    refine pr_rows (by rw [hyl, ← l1, idx_len]) (hM.same (s10.trans s11)) (fun r hr => row_zs hok r (List.mem_filter.mp hr).1) (fun _ _ => trivial) (fun j u r e1 e2 => ?_)
    obtain ⟨i, e3, e4⟩ := idx_at e2
    rw [l1] at e3
    obtain ⟨r', t, e5, e6, _, e7⟩ := hP j u i e1 e3
    rw [e4] at e5
    cases e5
    exact ⟨t, e6, e7⟩
  clear hP hyl ev
  have TB := TA.trans s11
  have S9 : Same H5 HB := ((S8.trans s9).trans s10).trans s11
  walk_at "rd"
  refine ⟨p, md, bd, us, zs, rs, n, A', runR m fl bl rs n, bl, m, rfl, TB _ _ hp, hu.same TB, hok, hM.same (s10.trans s11), hb5.same S9, hbe, hlM, hn, m0, fun np ys3 HC s12 hHnp hEn => ?_⟩
  have TC := TB.trans s12
  walk_at "rd"
  refine i_makeI ?_
  walk_at "rd"
  refine i_listAL (sqL_inj_of (TC _ _ hp)) fun hq HD hND => ?_
  walk_at "rd"
  intro x dx hx hdx hne
  have sE : Same HD (upd (upd HD dx (.own x)) x (.ins (CE .Loop) dx [])) := Same.upd (Same.new hdx) (by rw [upd_ne hne.symm]; exact hx)
  have xE : upd (upd HD dx (.own x)) x (.ins (CE .Loop) dx []) x = some (.ins (CE .Loop) dx []) := upd_same
  generalize upd (upd HD dx (.own x)) x (.ins (CE .Loop) dx []) = HE at *
  have tE : Same HC HE := hND.same.trans sE
  refine ⟨x, dx, hq, m, us, zs, rs, rfl, xE, hm.1, hm.2, sE _ _ hND.at, (hu.same TC).same tE, hok, hrs1, fun k HF hk bF hL => ⟨rfl, ?_⟩⟩
  have sF : Same HD HF := fun b o e => bF b o (ne_of_none e hx) (sE _ _ e)
  have u1 := s10.trans (s11.trans (s12.trans (hND.same.trans sF)))
  have LA : LawAt (CE .Loop) HF x k fd bd cf cb hp' ep tp np m rs zs fl bl n := by
    have v9 := s9.trans u1
    have v12 := s12.trans (hND.same.trans sF)
    exact ⟨⟨hL, hok, cf8.same v9, cb8.same v9, hfe, hbe, hn, hm.1, hm.2⟩, hf5.same (S8.trans v9), hb5.same (S8.trans v9), v9 _ _ hh8, ⟨ys, (s11.trans v12) _ _ hHep, hEv.same (s11.trans v12)⟩, ⟨ys2, v12 _ _ hHtp, hTo.same v12⟩, ⟨ys3, (hND.same.trans sF) _ _ hHnp, hEn.same (hND.same.trans sF)⟩⟩
  clear hEv hTo hEn hHep hHtp hHnp hep htp cf8 cb8 hh8 hcf hcb hcf0 hcb0 hM hL hf5 hb5 u1 bF sF sE xE tE hND TC TB TA T9 T8 S9 S8 S5 s12 s11 s10 s9 hN8 s6 s7 hk hx hdx hne hlM lf5 lb5 hp hu
  have fw1 := pairL_few (fl := fl) (bl := bl) (qs := rs) hok m0 hn (fun r hr => hr)
  have fw2 := pairL_few (fl := fl) (bl := bl) (qs := rs.filter isTell) hok m0 hn (fun r hr => (List.mem_filter.mp hr).1)
  have fw3 : ∀ a ∈ endsL m bl rs (runR m fl bl rs n) n rs, a.2.length ≤ 400 := endsL_few hok
  have ln1 : (pairL (runR m fl bl rs n) rs).length ≤ 12 := by rw [pairL_len]; omega
  have ln2 : (pairL (runR m fl bl rs n) (rs.filter isTell)).length ≤ 12 := by rw [pairL_len]; have := List.length_filter_le isTell rs; omega
  have ln3 : (endsL m bl rs (runR m fl bl rs n) n rs).length ≤ 12 := by have := endsL_len (rs := rs) (m := m) (bl := bl) (M := runR m fl bl rs n) (n := n); omega
  have hix0 : atI [V.ref cf, V.ref cb] 0 = some (.ref cf) := rfl
  have hix1 : atI [V.ref cf, V.ref cb] 1 = some (.ref cb) := rfl
  walk_at "rd"
  refine i_join (fun σ' H' => σ' = [some (.ref a), some (.int (hd : Int)), some (.ref p), some (.int m), some (.int (n : Int)), some (.ref fd), some (.ref bd), x7, some (.ref hp'), some (.ref md), some (.ref ep), some (.ref tp), some (.ref np), some (.ref x), none, none] ∧ LawAt (CE .Loop) H' x k fd bd cf cb hp' ep tp np m rs zs fl bl n) ?_ ?_
  · walk_at "rd"
    refine i_iteI (fun _ => ?_) (fun _ => ?_)
    · walk_at "rd"
      refine i_ixL (sqL_inj_of LA.hand) hix0 ?_
      walk_at "rd"
      refine i_ixL (sqL_inj_of LA.hand) hix1 ?_
      walk_at "rd"
      refine ⟨x, k, cf, cb, m, rs, zs, fl, bl, n, rfl, LA.asks, fun t q1 q2 u1 u2 HG sG ht hq1 hq2 g1 g2 => ?_⟩
      have LB := LA.same sG
      obtain ⟨w2, e2, e2'⟩ := LB.told
      obtain ⟨w3, e3, e3'⟩ := LB.ends
      walk_at "rd"
      refine ⟨t, q1, q2, tp, np, u1, u2, w2, w3, _, _, _, _, _, _, rfl, ht, hq1, hq2, e2, e3, g1, g2, e2', e3', ln2, ln3, fw2, fw3, ?_⟩
      walk_at "rd"
      exact ⟨rfl, LB⟩
    · walk_at "rd"
      exact ⟨rfl, LA⟩
  clear LA
  rintro σG HG ⟨rfl, LA⟩
  walk_at "rd"
  refine i_ixL (sqL_inj_of LA.hand) hix0 ?_
  walk_at "rd"
  refine i_ixL (sqL_inj_of LA.hand) hix1 ?_
  walk_at "rd"
  refine ⟨x, k, cf, cb, m, rs, zs, fl, bl, n, rfl, LA.asks, fun fp fus HH sH hfp0 hfp hpr => ?_⟩
  have LB := LA.same sH
  obtain ⟨w1, e1, e1'⟩ := LB.every
  walk_at "rd"
  refine ⟨fp, ep, fus, w1, _, _, _, rfl, hfp, e1, hpr, e1', ln1, fw1, ?_⟩
  walk_at "rd"
  refine i_for (i_list ?_)
  walk_at "rd"
  refine ⟨fp, rfl, ⟨fus, sqL_inj_of hfp⟩, ?_⟩
  have lpr := hpr.len
  refine for_list (xs := fus) (fun i σ H' => Same HG H' ∧ H' fp = some (.lst fus) ∧ TK HH H' ∧ (∀ b xs, HH b = some (.lst xs) → ∃ ys, H' b = some (.lst ys)) ∧ ∃ y7 y15 : Option V, σ = [some (.ref a), some (.int (hd : Int)), some (.ref p), some (.int m), some (.int (n : Int)), some (.ref fd), some (.ref bd), y7, some (.ref hp'), some (.ref md), some (.ref ep), some (.ref tp), some (.ref np), some (.ref x), some (.ref fp), y15])
    ⟨sH, hfp, fun _ _ e => e, fun b xs e => ⟨xs, e⟩, x7, none, rfl⟩ (fun i σ H' _ h => sqL_inj_of h.2.1) ?_ ?_
  · rintro i u σ HI hui ⟨sI, hfI, tk, lk, y7, y15, rfl⟩
    have hiu := (List.getElem?_eq_some_iff.mp hui).1
    have hip : i < (pairL (runR m fl bl rs n) rs).length := by omega
    obtain ⟨t, b, rfl, ht, hb', hbn, hbf⟩ := hpr.at_ i _ u (List.getElem?_eq_getElem hip) hui
    obtain ⟨ys', hbI⟩ := lk b _ hb'
    refine i_gtup (.inl (.inl (tk _ _ ht))) rfl ?_
    walk_at "rd"
    refine ⟨.inl ⟨rfl, _, sqL_inj_of hbI⟩, ?_⟩
    refine ⟨b, ys', rfl, rfl, hbI, ?_⟩
    refine ⟨fun c o e => ?_, ?_, fun c xs e => ?_, fun c xs e => ?_, _, _, rfl⟩
    · rw [upd_ne (ne_of_none e hbn)]; exact sI _ _ e
    · rw [upd_ne (Ne.symm hbf)]; exact hfI
    · rw [upd_ne (ne_of (tk _ _ e) hbI (by intro z; cases z))]; exact tk _ _ e
    · by_cases hcb : c = b
      · exact ⟨[], by rw [hcb, upd_same]⟩
      · rw [upd_ne hcb]; exact lk c xs e
  · rintro σ HI ⟨sI, hfI, tk, lk, y7, y15, rfl⟩
    walk_at "rd"
    refine ⟨.inl ⟨rfl, _, sqL_inj_of hfI⟩, ?_⟩
    refine ⟨fp, fus, rfl, rfl, hfI, ?_⟩
    have sJ : Same HG (upd HI fp (.lst [])) := fun c o e => by rw [upd_ne (ne_of_none e hfp0)]; exact sI _ _ e
    generalize upd HI fp (.lst []) = HJ at *
    clear hpr lpr hfI tk lk sI e1 e1' hfp LB
    have LB := LA.same sJ
    walk_at "rd"
    refine i_ixL (sqL_inj_of LB.hand) hix0 ?_
    walk_at "rd"
    refine i_ixL (sqL_inj_of LB.hand) hix1 ?_
    walk_at "rd"
    refine ⟨x, k, cf, cb, m, rs, zs, fl, bl, n, rfl, LB.asks, fun t q1 q2 u1 u2 HK sK ht hq1 hq2 g1 g2 => ?_⟩
    have LC := LB.same sK
    obtain ⟨w2, e2, e2'⟩ := LC.told
    obtain ⟨w3, e3, e3'⟩ := LC.ends
    walk_at "rd"
    refine ⟨t, q1, q2, tp, np, u1, u2, w2, w3, _, _, _, _, _, _, rfl, ht, hq1, hq2, e2, e3, g1, g2, e2', e3', ln2, ln3, fw2, fw3, ?_⟩
    walk_at "rd"
    refine i_ixL (sqL_inj_of LC.hand) hix0 ?_
    walk_at "rd"
    refine i_ixL (sqL_inj_of LC.hand) hix1 ?_
    walk_at "rd"
    refine ⟨x, k, cf, cb, m, rs, zs, fl, bl, n, rfl, LC.asks, fun fp2 fus2 HL sL hfp2 hfp2' hpr2 => ?_⟩
    have LD := LC.same sL
    obtain ⟨w1, e1, e1'⟩ := LD.every
    walk_at "rd"
    refine ⟨fp2, ep, fus2, w1, _, _, _, rfl, hfp2', e1, hpr2, e1', ln1, fw1, ?_⟩
    walk_at "rd"
    refine ⟨by show 2 ≤ sizeLine; omega, fun ql HM hNM => ?_⟩
    have LE := LD.same hNM.same
    refine ⟨hp', ql, [.ref cf, .ref cb], [.ref fd, .ref bd], rfl, rfl, sqL_inj_of LE.hand, hNM.lst, rfl, fun i u v g1 g2 => ?_, ?_⟩
    · match i, g1, g2 with
      | 0, g1, g2 => cases g1; cases g2; exact dd_of LE.asks.fe LE.fe
      | 1, g1, g2 => cases g1; cases g2; exact dd_of LE.asks.be LE.be
    · exact q _
def Cof (a1 a2 a3 a4 a5 a6 a7 a8 a9 : Addr) : Dk → Addr
  | .sum => a1
  | .less => a2
  | .times => a3
  | .least => a4
  | .most => a5
  | .pick => a6
  | .same => a7
  | .tell => a8
  | .take => a9
def Eof (b1 b2 : Addr) : Xk → Addr
  | .Loop => b1
  | .Run => b2
theorem tp0_mk {K : PySem.W.Frag} {a1 a2 a3 a4 a5 a6 a7 a8 a9 b1 b2 : Addr}
    (c_Sum : HasC K "Sum" a1)
    (c_Less : HasC K "Less" a2)
    (c_Times : HasC K "Times" a3)
    (c_Least : HasC K "Least" a4)
    (c_Most : HasC K "Most" a5)
    (c_Pick : HasC K "Pick" a6)
    (c_Same : HasC K "Same" a7)
    (c_Tell : HasC K "Tell" a8)
    (c_Take : HasC K "Take" a9)
    (g_Loop : PySem.W.nsIn K mainGlobals "Loop" = some (some (.ref b1)))
    (g_Run : PySem.W.nsIn K mainGlobals "Run" = some (some (.ref b2))) : Tp0 K (Cof a1 a2 a3 a4 a5 a6 a7 a8 a9) (Eof b1 b2) :=
  ⟨c_Sum, c_Less, c_Times, c_Least, c_Most, c_Pick, c_Same, c_Tell, c_Take, g_Loop, g_Run⟩
theorem tp1_mk {K : PySem.W.Frag} {a1 a2 a3 a4 a5 a6 a7 a8 a9 b1 b2 : Addr}
    (f_of_sum : HasM K a1 "of" "Sum.of" st_Sum_of)
    (f_of_less : HasM K a2 "of" "Less.of" st_Less_of)
    (f_of_times : HasM K a3 "of" "Times.of" st_Times_of)
    (f_of_least : HasM K a4 "of" "Least.of" st_Least_of)
    (f_of_most : HasM K a5 "of" "Most.of" st_Most_of)
    (f_of_pick : HasM K a6 "of" "Pick.of" st_Pick_of)
    (f_of_same : HasM K a7 "of" "Deed.of" st_Deed_of)
    (f_of_tell : HasM K a8 "of" "Deed.of" st_Deed_of)
    (f_of_take : HasM K a9 "of" "Deed.of" st_Deed_of)
    (f_wa_sum : HasM K a1 "wants" "Sum.wants" st_Sum_wants)
    (f_wa_less : HasM K a2 "wants" "Less.wants" st_Less_wants)
    (f_wa_times : HasM K a3 "wants" "Times.wants" st_Times_wants)
    (f_wa_least : HasM K a4 "wants" "Least.wants" st_Least_wants)
    (f_wa_most : HasM K a5 "wants" "Most.wants" st_Most_wants)
    (f_wa_pick : HasM K a6 "wants" "Pick.wants" st_Pick_wants)
    (f_wa_same : HasM K a7 "wants" "Deed.wants" st_Deed_wants)
    (f_wa_tell : HasM K a8 "wants" "Deed.wants" st_Deed_wants)
    (f_wa_take : HasM K a9 "wants" "Take.wants" st_Take_wants)
    (i_Loop : HasCI K "Loop" b1 "Loop.__init__" st_Loop___init__)
    (f_Loop_rows : HasM K b1 "rows" "Loop.rows" st_Loop_rows)
    (f_Loop_deepest : HasM K b1 "deepest" "Loop.deepest" st_Loop_deepest)
    (i_Run : HasCI K "Run" b2 "Run.__init__" st_Run___init__)
    (f_Run_made_at : HasM K b2 "made_at" "Run.made_at" st_Run_made_at)
    (f_Run_number_read : HasM K b2 "number_read" "Run.number_read" st_Run_number_read)
    (f_Run_numbers_for : HasM K b2 "numbers_for" "Run.numbers_for" st_Run_numbers_for)
    (f_Run_do_turn : HasM K b2 "do_turn" "Run.do_turn" st_Run_do_turn)
    (f_Run_last_made : HasM K b2 "last_made" "Run.last_made" st_Run_last_made)
    (w_LETTERS : HasV K "LETTERS" (.str (Str.ofString "abcdefghijklmnopqrstuvwxyz")))
    (w_MOST_LETTERS : HasV K "MOST_LETTERS" (.int 12))
    (w_MOST_ROWS : HasV K "MOST_ROWS" (.int 12))
    (w_MOST_BACK : HasV K "MOST_BACK" (.int 6))
    (w_MOST_TURNS : HasV K "MOST_TURNS" (.int 300))
    (f_table : HasF K "table" st_table)
    (f_outcome : HasF K "outcome" st_outcome)
    (f_run : HasF K "done_run" st_done_run)
    (f_crun : HasF K "check_run" st_check_run) : Tp1 K (Cof a1 a2 a3 a4 a5 a6 a7 a8 a9) (Eof b1 b2) :=
  ⟨f_of_sum, f_of_less, f_of_times, f_of_least, f_of_most, f_of_pick, f_of_same, f_of_tell, f_of_take, f_wa_sum, f_wa_less, f_wa_times, f_wa_least, f_wa_most, f_wa_pick, f_wa_same, f_wa_tell, f_wa_take, i_Loop, f_Loop_rows, f_Loop_deepest, i_Run, f_Run_made_at, f_Run_number_read, f_Run_numbers_for, f_Run_do_turn, f_Run_last_made, w_LETTERS, w_MOST_LETTERS, w_MOST_ROWS, w_MOST_BACK, w_MOST_TURNS, f_table, f_outcome, f_run, f_crun⟩
theorem tp2_mk {K : PySem.W.Frag} {a1 a2 a3 a4 a5 a6 a7 a8 a9 b1 b2 : Addr}
    (f_cturns : HasF K "check_turns" st_check_turns)
    (f_cfeeds : HasF K "check_feeds" st_check_feeds)
    (f_cbegin : HasF K "check_begin" st_check_begin)
    (f_deed : HasF K "deed_of" st_deed_of)
    (f_islet : HasF K "is_lettered" st_is_lettered)
    (f_isname : HasF K "is_name" st_is_name)
    (f_cmeas : HasF K "check_measure" st_check_measure)
    (f_crows : HasF K "check_rows" st_check_rows)
    (f_chead : HasF K "check_head" st_check_head)
    (f_cread : HasF K "check_read" st_check_read)
    (f_cnum : HasF K "check_number" st_check_number)
    (f_clook : HasF K "check_look_back" st_check_look_back)
    (f_copy : HasF K "copy_of_row" st_copy_of_row)
    (f_depths : HasF K "depths_of" st_depths_of)
    (f_cell : HasF K "_law_cell_at" st_law_cell_at)
    (f_whole : HasF K "_law_whole" st_law_whole)
    (f_mix : HasF K "_law_mix" st_law_mix)
    (f_letters : HasF K "_law_letters" st_law_letters)
    (f_names : HasF K "_law_names" st_law_names)
    (f_wants : HasF K "_law_wants" st_law_wants)
    (f_row : HasF K "_law_row" st_law_row)
    (f_rows : HasF K "_law_rows" st_law_rows)
    (f_measure : HasF K "_law_measure" st_law_measure)
    (f_deepest : HasF K "_law_deepest" st_law_deepest)
    (f_alike : HasF K "_law_alike" st_law_alike)
    (f_given : HasF K "_law_given" st_law_given)
    (f_feeds : HasF K "_law_feeds" st_law_feeds)
    (f_begin : HasF K "_law_begin" st_law_begin)
    (f_makes : HasF K "_law_makes" st_law_makes)
    (f_gets : HasF K "_law_gets" st_law_gets)
    (f_made : HasF K "_law_made" st_law_made)
    (f_ends : HasF K "_law_ends" st_law_ends)
    (f_pairs : HasF K "_law_pairs" st_law_pairs)
    (f_copyL : HasF K "_law_copy" st_law_copy)
    (f_outc : HasF K "_law_outcome" st_law_outcome)
    (z_len : PySem.W.nsIn K mainGlobals "len" = some none) : Tp2 K (Cof a1 a2 a3 a4 a5 a6 a7 a8 a9) (Eof b1 b2) :=
  ⟨f_cturns, f_cfeeds, f_cbegin, f_deed, f_islet, f_isname, f_cmeas, f_crows, f_chead, f_cread, f_cnum, f_clook, f_copy, f_depths, f_cell, f_whole, f_mix, f_letters, f_names, f_wants, f_row, f_rows, f_measure, f_deepest, f_alike, f_given, f_feeds, f_begin, f_makes, f_gets, f_made, f_ends, f_pairs, f_copyL, f_outc, z_len⟩
theorem tp3_mk {K : PySem.W.Frag} {a1 a2 a3 a4 a5 a6 a7 a8 a9 b1 b2 : Addr}
    (z_isinstance : PySem.W.nsIn K mainGlobals "isinstance" = some none)
    (z_int : PySem.W.nsIn K mainGlobals "int" = some none)
    (z_bool : PySem.W.nsIn K mainGlobals "bool" = some none)
    (z_range : PySem.W.nsIn K mainGlobals "range" = some none)
    (z_min : PySem.W.nsIn K mainGlobals "min" = some none)
    (z_max : PySem.W.nsIn K mainGlobals "max" = some none)
    (z_list : PySem.W.nsIn K mainGlobals "list" = some none)
    (z_tuple : PySem.W.nsIn K mainGlobals "tuple" = some none)
    (z_str : PySem.W.nsIn K mainGlobals "str" = some none)
    (z_all : PySem.W.nsIn K mainGlobals "all" = some none)
    (z_enumerate : PySem.W.nsIn K mainGlobals "enumerate" = some none)
    (kII : PySem.W.kitOne K (.type "int") (.type "int") = some true)
    (kIB : PySem.W.kitOne K (.type "int") (.type "bool") = some false)
    (kTT : PySem.W.kitOne K (.type "tuple") (.type "tuple") = some true)
    (kTI : PySem.W.kitOne K (.type "tuple") (.type "int") = some false)
    (kIT : PySem.W.kitOne K (.type "int") (.type "tuple") = some false)
    (kLL : PySem.W.kitOne K (.type "list") (.type "list") = some true)
    (kSS : PySem.W.kitOne K (.type "str") (.type "str") = some true)
    (nM : NoAttr K b1 "measure")
    (nK : NoAttr K b1 "kept")
    (nD : NoAttr K b1 "depths")
    (nRL : NoAttr K b2 "loop")
    (nRF : NoAttr K b2 "feeds")
    (nRB : NoAttr K b2 "begin")
    (nRM : NoAttr K b2 "made") : Tp3 K (Cof a1 a2 a3 a4 a5 a6 a7 a8 a9) (Eof b1 b2) :=
  ⟨z_isinstance, z_int, z_bool, z_range, z_min, z_max, z_list, z_tuple, z_str, z_all, z_enumerate, kII, kIB, kTT, kTI, kIT, kLL, kSS, nM, nK, nD, nRL, nRF, nRB, nRM⟩
theorem all_mk {l : PySem.W.OpenLaw} {w : World} {K : PySem.W.Frag} {h : Heap} {mg : Str → Option Value} {fa : Addr} {a1 a2 a3 a4 a5 a6 a7 a8 a9 b1 b2 : Addr} (X : K.In h) (G : h.Ns mainGlobals mg) (hfa : mg "law" = some (.ref fa)) (fl : HasF K "law" st_law)
    (t0 : Tp0 K (Cof a1 a2 a3 a4 a5 a6 a7 a8 a9) (Eof b1 b2)) (t1 : Tp1 K (Cof a1 a2 a3 a4 a5 a6 a7 a8 a9) (Eof b1 b2)) (t2 : Tp2 K (Cof a1 a2 a3 a4 a5 a6 a7 a8 a9) (Eof b1 b2)) (t3 : Tp3 K (Cof a1 a2 a3 a4 a5 a6 a7 a8 a9) (Eof b1 b2)) :
    ∃ fd : FuncData, (∀ (s : Shared) (v : Value), BindsTo s fd ⟨[v], []⟩ [("_law_script", v)]) ∧ ∀ (base : Heap) (ns : List Int), K.In base → base.Ns mainGlobals mg → ns.length ≤ 63 → (∀ i ∈ ns, Builtin.Int.intBits i ≤ 1048576) → FnOk l.prog w K mg base CX0 8 fa fd ["_law_script"] (spLaw K ns) := by
  obtain ⟨f, fdd, a, F⟩ := fl.ex
  have e := hfa.symm.trans (PySem.W.mg_of X G a)
  cases e
  have T := (Tp.mk t0 t1 t2 t3).txt X G
  refine ⟨fdd, fun s v => ?_, fun base ns kb nb hl hb => ok_law T F kb nb hl hb⟩
  obtain ⟨oc, od, kV, doc, pm, an, cdv, ct, osl, rfl, lk, hcd⟩ := F.ex
  exact .of_eq rfl
theorem walk {l : PySem.W.OpenLaw} {q : Program} {loose : List Str} {XP : (Str → Option Value) → Heap → Prop} {YP : World → Heap → Prop} {d : DefRec} {K : Params → PySem.W.Frag} (hn : l.most = some 63) (hdf : d.params.defaults = [])
    (hY : ∀ (w : World) (h : Heap), YP w h → (K w.params).In h)
    (F : ∀ (w : World) (mg : Str → Option Value) (fa : Addr) (h : Heap), (K w.params).In h → h.Ns mainGlobals mg → mg d.name = some (.ref fa) →
      ∃ fd : FuncData, (∀ (s : Shared) (u : Value), BindsTo s fd ⟨[u], []⟩ [("_law_script", u)]) ∧ ∀ (base : Heap) (ns : List Int), (K w.params).In base → base.Ns mainGlobals mg → ns.length ≤ 63 → (∀ i ∈ ns, Builtin.Int.intBits i ≤ 1048576) → FnOk l.prog w (K w.params) mg base CX0 8 fa fd ["_law_script"] (spLaw (K w.params) ns)) :
    PySem.W.WalkO q loose XP YP l.row.toRowW d [] (fun f vs => PySem.call f vs) :=
  L2.walk_bits (n := 63) (k := 8) (x := "_law_script") (CX := fun _ => CX0) (sp := fun w ns => spLaw (K w.params) ns) hn (by decide) hdf ⟨rfl, by decide, by decide⟩ hY F (fun _ _ a ns hl hb _ hS => ⟨a, rfl, hS, fun _ => rfl⟩) fun _ _ _ _ _ z => z
end
end Lap
local macro_rules | `(tactic| walk_at "lapC") => `(tactic| (refine' L2.hasC_mk ?a ?pg ?hd ?po ?sa ?mk ?i ?kc; (case a => k_is); (case pg => k_is); (case hd => k_is); (case po => k_is); (case sa => k_is); (case mk => k_is); (case i => k_is); (case kc => k_is)))
local macro_rules | `(tactic| walk_at "lapM") => `(tactic| (refine' L2.hasM_mk ?a ?i ?l ?c ?k; (case a => k_is); (case i => k_is); (case l => k_is); (case c => k_is); (case k => k_is)))
local macro_rules | `(tactic| walk_at "lapF") => `(tactic| (refine' L2.hasF_mk ?a ?l ?c ?k; (case a => k_is); (case l => k_is); (case c => k_is); (case k => k_is)))
local macro_rules | `(tactic| walk_at "lapX") => `(tactic| (refine' L2.HasX.mk ?a ?e (L2.XCls.mk ?x1 ?x2 ?x3 ?x4 ?x5 ?x6 ?x7); (case a => k_is); (case e => k_exc); (case x1 => k_is); (case x2 => k_is); (case x3 => k_is); (case x4 => k_is); (case x5 => k_is); (case x6 => k_is); (case x7 => k_is)))
local macro_rules | `(tactic| walk_at "lapI") => `(tactic| (refine' L2.hasCI_mk ?a ?pg ?hd ?po ?sa ?mk ?i ?fn ?kc ?l ?c ?k; (case a => k_is); (case pg => k_is); (case hd => k_is); (case po => k_is); (case sa => k_is); (case mk => k_is); (case i => k_is); (case fn => k_is); (case kc => k_is); (case l => k_is); (case c => k_is); (case k => k_is)))
local macro_rules | `(tactic| walk_at "lapV") => `(tactic| first | (refine' L2.hasV_int ?a; (case a => k_is)) | (refine' L2.hasV_str ?a; (case a => k_is)))
namespace PySem.W.Fast
def tw53838532567505181:=()
def tw11652854209153233405:=()
def tw10296864400532910318:=()
def tw7832820249376797945:=()
def tw4883803836757997166:=()
def tw10351507509287579919:=()
def tw710109820896043566:=()
def tw17638313243653976845:=()
def tw15908368538015514030:=()
def tw7524902722407715797:=()
def tw938948411923406201:=()
def tw13399620961287896039:=()
def tw13750214663812749408:=()
def tw5624169877551232096:=()
def tw12534932029052626048:=()
def tw11312430324381378688:=()
def tw6109785413449456800:=()
def tw3940146907218717888:=()
def tw6701451187038093536:=()
def tw1220588613531202944:=()
def tw2887736966644209088:=()
def tw18158057194299072960:=()
def tw9930187283775005120:=()
def tw16635992364206386688:=()
def tw8165801652560868992:=()
def tw15974128827587085984:=()
def tw2868525746401548992:=()
def tw2796391226526893920:=()
def tw11509884923161857888:=()
def tw8535234516027746176:=()
def tw10327143556876508064:=()
def tw142743982472878016:=()
def tw15411572244543031297:=()
def tw2233228751975496737:=()
def tw7822035351543997569:=()
def tw11887094559200477377:=()
def tw18423965785299465409:=()
def tw4888414288796324065:=()
def tw9392332087116798177:=()
def tw17160939495805166817:=()
def tw11514549889439684833:=()
def tw16129072946506782977:=()
def tw15039265493043838209:=()
def tw12044198713137080609:=()
def tw14857557766387699009:=()
def tw4139349647261267329:=()
def tw8755368423793525153:=()
def tw10976988606729098657:=()
def tw4297114597361069537:=()
def tw3931611236060450305:=()
def tw8668751434694058593:=()
def tw2895066227811671681:=()
def tw16573859249280087745:=()
def tw2680431315336082145:=()
def tw9449329339025674977:=()
def tw12103802542664914785:=()
def tw4072257035097548641:=()
def tw12533943754769843041:=()
def tw16903965023996702625:=()
def tw12334480054565520321:=()
def tw14673122781534229473:=()
def tw9297051242337886338:=()
def tw8617884060504084642:=()
def tw13890428846191991170:=()
def tw6399052842711506306:=()
def tw13925434977338093986:=()
def tw3948747490739097122:=()
def tw1398255399525691970:=()
def tw14941028701717504578:=()
def tw6321666669038934626:=()
def tw9267421456804700770:=()
def tw3747872153508614818:=()
def tw359688557981218594:=()
def tw2438879617459775266:=()
def tw5791811580564837250:=()
def tw16372852562276589442:=()
def tw2482916426656142274:=()
def tw6026630092269045730:=()
def tw4474655124561078275:=()
def tw8089010132696642595:=()
def tw17259248922606290019:=()
def tw16468044702642393219:=()
def tw6339468676371466435:=()
def tw2584467918508316867:=()
def tw6323866034079431043:=()
def tw977451122166935971:=()
def tw14621866267705661859:=()
def tw6761093793426528675:=()
def tw4774090029757826499:=()
def tw13521732039330502115:=()
def tw18163542077564277219:=()
def tw11651435605093606947:=()
def tw7199478990563057251:=()
def tw10023513449710269027:=()
def tw11971273378276638307:=()
def tw10318026927093093091:=()
def tw15646167363811234659:=()
def tw14961586827412176771:=()
def tw13278303939857423267:=()
def tw13393640875893377955:=()
def tw6720683730723553219:=()
def tw9923260048616938435:=()
def tw16058462264296659907:=()
def tw2694525985163797540:=()
def tw12057235234394302628:=()
def tw11117215250848593092:=()
def tw14730082240630702340:=()
def tw10897768095108194596:=()
def tw17985992554118554980:=()
def tw775502470691194212:=()
def tw12968290076546278788:=()
def tw12841565032085784004:=()
def tw12435691013519275460:=()
def tw7380135251739710948:=()
def tw14784627582658130436:=()
def tw12178127515030632964:=()
def tw1756707895838807588:=()
def tw1042413715871783524:=()
def tw10056199743333022340:=()
def tw4162180504413450980:=()
def tw17514600923701147364:=()
def tw8734097975436280580:=()
def tw5184656048275211044:=()
def tw1584048010646469444:=()
def tw3950907002253451108:=()
def tw1488110050661120868:=()
def tw9117366482611976068:=()
def tw201509713426609028:=()
def tw9345904963362766756:=()
def tw16810881729007148004:=()
def tw15875397723435158533:=()
def tw14905065173520576581:=()
def tw13371325483543527525:=()
def tw14493469923655643237:=()
def tw16419605139572777093:=()
def tw4560242639317203109:=()
def tw1244816657585341701:=()
def tw1545047744468503845:=()
def tw9970074769283559781:=()
def tw10641596996403845509:=()
def tw4802193036159533541:=()
def tw15660989750854507013:=()
def tw17081924379781074501:=()
def tw6248461414356416101:=()
def tw8906004923439533701:=()
def tw8524990892656243333:=()
def tw463590377833968293:=()
def tw8475778406017800901:=()
def tw2980319214864158405:=()
def tw17408466726822745861:=()
def tw10884449537823775589:=()
def tw18098204362328346533:=()
def tw10747286379083090853:=()
def tw389613342244541381:=()
def tw15957136850983889893:=()
def tw11133356414803489765:=()
def tw9980329677502950406:=()
def tw14008897064120984614:=()
def tw12150160462147331142:=()
def tw2810060679195542598:=()
def tw4681711099376737382:=()
def tw3841572059232645318:=()
def tw15576265943878913254:=()
def tw5852353234355753222:=()
def tw5729041992658134310:=()
def tw10226726242028467494:=()
def tw15496199681150743878:=()
def tw13149325095355791750:=()
def tw8749165171830035878:=()
def tw3130906684413916710:=()
def tw7765943064567605798:=()
def tw3650097570706818630:=()
def tw4790914739454200390:=()
def tw9646303175985396294:=()
def tw3204640161738661510:=()
def tw14750809367090122406:=()
def tw4087956924068481702:=()
def tw4686405986491836134:=()
def tw12004745207416556326:=()
def tw13666095626176857926:=()
def tw3962460805000334214:=()
def tw14739198217774533510:=()
def tw8761287066304741286:=()
def tw15460797204186522566:=()
def tw11752496929604095974:=()
def tw3919423695975899143:=()
def tw4168359727255811111:=()
def tw12600320417376140391:=()
def tw9071800519045034119:=()
def tw3381353912757500103:=()
def tw18001867172847271111:=()
def tw9984578649161555175:=()
def tw2022709782812749031:=()
def tw17385771567711589639:=()
def tw17902780003476642087:=()
def tw6530005583122206023:=()
def tw12914914918150651271:=()
def tw2174597537762888103:=()
def tw15035397772203234951:=()
def tw5801280797251863207:=()
def tw14088064273018098407:=()
def tw11532222880209472327:=()
def tw2489472409987376039:=()
def tw4612477204449168327:=()
def tw5560933972520844231:=()
def tw9682636667307802632:=()
def tw8375578079911727112:=()
def tw3180772227084669960:=()
def tw3537762345986551848:=()
def tw15533184206382764104:=()
def tw12675918532330415176:=()
def tw15777451830767051848:=()
def tw17699642145708050536:=()
def tw17513281755414937736:=()
def tw2236685923704754408:=()
def tw5116585496567417096:=()
def tw1979033385015312744:=()
def tw11913684442687347048:=()
def tw13049277167698419048:=()
def tw3539775817805581672:=()
def tw17093522053852881288:=()
def tw10997175857037535624:=()
def tw17412800034050857384:=()
def tw2268320070892428840:=()
def tw17193263566819604008:=()
def tw4338471604461923976:=()
def tw4564699671224194728:=()
def tw7155104099878050472:=()
def tw16321759910771817160:=()
def tw15119261735928795880:=()
def tw6945361275533110024:=()
def tw8946011746276159240:=()
def tw17089857580845909768:=()
def tw9269771019708791560:=()
def tw17712342373755548616:=()
def tw10020400598066872296:=()
def tw9673713518013953065:=()
def tw3977960637624016041:=()
def tw16391142002344871113:=()
def tw1414582428021984489:=()
def tw6340531985365485865:=()
def tw8245464046334023977:=()
def tw15015576978121922889:=()
def tw4618604119367613833:=()
def tw16827330361360895465:=()
def tw2341675759158711785:=()
def tw6420160716646462985:=()
def tw5637455326298224137:=()
def tw3740182288285984329:=()
def tw10326329449906277993:=()
def tw10061904445051483753:=()
def tw6325685600954596969:=()
def tw2836560250680838793:=()
def tw15362831813149845225:=()
def tw8424991874944128777:=()
def tw13981079265569307401:=()
def tw17628777219338379081:=()
def tw10604841275817684841:=()
def tw14510330716460589993:=()
def tw458283588736533417:=()
def tw9645081173583920041:=()
def tw8688666981294107593:=()
def tw11326620374640678922:=()
def tw11079337262331355146:=()
def tw9607665803545179146:=()
def tw7308678106207990826:=()
def tw3957975459439166506:=()
def tw1890120773313749034:=()
def tw2372936595062665290:=()
def tw15291532202137740362:=()
def tw4575826960739415178:=()
def tw8832130577602275562:=()
def tw11177459624114391306:=()
def tw13627840665822198026:=()
def tw16128919340329593130:=()
def tw15775848537139905866:=()
def tw6043606977396850026:=()
def tw7252208426038627722:=()
def tw2299079209257598378:=()
def tw7093374655037551082:=()
def tw17560495637079940586:=()
def tw5795209060097824266:=()
def tw9677324784962521610:=()
def tw16488473051904087594:=()
def tw4616830224510732874:=()
def tw6887450530385260106:=()
def tw6268858457940266634:=()
def tw5799434345149508266:=()
def tw11397186138109243210:=()
def tw12802146041988986794:=()
def tw1061523369529619402:=()
def tw15040918706651935755:=()
def tw1067925832064010283:=()
def tw15726059756072527979:=()
def tw11541193604289541259:=()
def tw18228110002385861835:=()
def tw6469533469415161035:=()
def tw2694495214499172747:=()
def tw9992721458624893323:=()
def tw1764304177836008843:=()
def tw16826921482645635499:=()
def tw3322137040979821003:=()
def tw11783317767482910155:=()
def tw18056314961102155211:=()
def tw9370631239036239307:=()
def tw739426995540929003:=()
def tw15474583832646525451:=()
def tw17839503075780047371:=()
def tw13432173107684181547:=()
def tw5072953752204413515:=()
def tw3936611558071576235:=()
def tw1976547987969725099:=()
def tw2120453603453103787:=()
def tw12089041247003778795:=()
def tw17244684442021453547:=()
def tw4098844664210924363:=()
def tw16881799788675347275:=()
def tw9156157262519926635:=()
def tw6675732643587274667:=()
def tw12499170583826728907:=()
def tw9198888524340661195:=()
def tw13201983211646590955:=()
def tw11178262636831450091:=()
def tw8760137161699833868:=()
def tw10801794505375112204:=()
def tw7243278828635747436:=()
def tw15495427506503362732:=()
def tw9711183972042851532:=()
def tw18290626290633922796:=()
def tw12550348208163180812:=()
def tw15145240075145148684:=()
def tw15288576504687721740:=()
def tw13674317133911269740:=()
def tw15684961178251665772:=()
def tw4058150856314627436:=()
def tw11528026098148098412:=()
def tw512637069491441036:=()
def tw1442476884715190700:=()
def tw17737864867481152972:=()
def tw15683027041069505004:=()
def tw11164303440001858092:=()
def tw8689593457549985388:=()
def tw4942666910671337068:=()
def tw1268705001352344236:=()
def tw14325009557133196972:=()
def tw10833970435723484876:=()
def tw1473094779202141900:=()
def tw3728697579520249612:=()
def tw15252709758331441996:=()
def tw595892704226069356:=()
def tw14364624004865446764:=()
def tw17799604481637949324:=()
def tw617850353918311308:=()
def tw15097938113833065517:=()
def tw16218957237281613869:=()
def tw3378736416055224365:=()
def tw13419847711604928557:=()
def tw14245964644431938637:=()
def tw3819426360504307789:=()
def tw18207187874165065901:=()
def tw9750065584135303341:=()
def tw11485866238301732077:=()
def tw11507581951880077613:=()
def tw5708879286049868109:=()
def tw8815918044290099565:=()
def tw12896531323609434477:=()
def tw13756026961969828237:=()
def tw16830103511183688141:=()
def tw2446901510950565325:=()
def tw9929715931271585229:=()
def tw3903672891624554989:=()
def tw3881818222114865709:=()
def tw16345384747272973869:=()
def tw9261835645538389581:=()
def tw9665197157811115629:=()
def tw16207571833908612717:=()
def tw18306311893856048781:=()
def tw4419769184175178445:=()
def tw9330647010764344013:=()
def tw18158181548738301645:=()
def tw2380543372219408077:=()
def tw16772533798195730189:=()
def tw12601209349577550605:=()
def tw14605033840214094605:=()
def tw12521766085896156941:=()
def tw11408754232319147821:=()
def tw14225185848146400077:=()
def tw12626872684637975373:=()
def tw17534486871234805581:=()
def tw16743630073469861709:=()
def tw6306867282780151757:=()
def tw15474776280049906637:=()
def tw4536845695903469549:=()
def tw7797707301742334957:=()
def tw14817005946561174542:=()
def tw6658410314064281614:=()
def tw1284557190950614062:=()
def tw17119120889788082254:=()
def tw6626476712856457326:=()
def tw227787490230764750:=()
def tw2889882457535354094:=()
def tw4513139383514476814:=()
def tw8019460791362099502:=()
def tw3958551071316081966:=()
def tw7156330503080679790:=()
def tw14488474690729106862:=()
def tw10289093409707994638:=()
def tw18046566764384679566:=()
def tw11752764503970327310:=()
def tw7056779122888509390:=()
def tw1617709007982745550:=()
def tw14397017973468631055:=()
def tw12210149228766954543:=()
def tw11137386869216107567:=()
def tw1098434736177430607:=()
def tw9125751064742814799:=()
def tw6799972332208583759:=()
def tw10295306341115453679:=()
def tw16877860047331889423:=()
def tw7725910382958290223:=()
def tw18309815968143030575:=()
def tw3206157326726577455:=()
def tw930333690607143343:=()
def tw1860478406177273263:=()
def tw5190376103144125903:=()
def tw13338911697116779215:=()
def tw13159483768035011311:=()
def tw16099029188731222863:=()
def tw8490883923829284687:=()
def tw1465761619228450671:=()
def tw15638463820891162543:=()
def tw571328052132547535:=()
def tw8499000132890627120:=()
def tw12454793746906570800:=()
def tw10683095559639187536:=()
def tw5484068398856421552:=()
def tw2854127444094506160:=()
def tw8661077540742939856:=()
def tw7924012823170205904:=()
def tw9672280483295972592:=()
def tw12686513150098576688:=()
def tw813130341950377264:=()
def tw8264181619352081808:=()
def tw2422464702214947248:=()
def tw13277331095385015760:=()
def tw17095687212431881680:=()
def tw2278912766660591184:=()
def tw14489906765315412656:=()
def tw13015497489856487088:=()
def tw15514933035209666288:=()
def tw17008346415338124048:=()
def tw10277563027125928752:=()
def tw10664235477176640304:=()
def tw1449244427902983024:=()
def tw1898694742584401840:=()
def tw15889742825305740305:=()
def tw10795004564110284817:=()
def tw7799091406539136081:=()
def tw4427520793691152465:=()
def tw8044329128238210193:=()
def tw7697511812984487121:=()
def tw3175100596939384113:=()
def tw7796625518228862321:=()
def tw16809397652939830705:=()
def tw15203364979113608657:=()
def tw5608537620699564497:=()
def tw8740009262212125169:=()
def tw707941651893538385:=()
def tw5032383897931661937:=()
def tw18159767871128573713:=()
def tw7244968294832270225:=()
def tw10132116223486437329:=()
def tw8681296662963056593:=()
def tw7364521856812134418:=()
def tw1299136321456694290:=()
def tw5124517825607879730:=()
def tw18402799528704258130:=()
def tw12877947417670714514:=()
def tw5401287904253324434:=()
def tw1155593849731070098:=()
def tw10577130463975957746:=()
def tw910602769735695602:=()
def tw9909083123559414034:=()
def tw10794946277065257234:=()
def tw16141681102179116338:=()
def tw10440126121738976562:=()
def tw14839493795844084018:=()
def tw11841806691776326962:=()
def tw10333525044040888690:=()
def tw6316629550956466578:=()
def tw3309117553201862066:=()
def tw5586269928836093394:=()
def tw10738283857985886674:=()
def tw3578303631867600370:=()
def tw2167682448866254546:=()
def tw2758051977738791634:=()
def tw7448388699602545362:=()
def tw5543557783946438386:=()
def tw10735793019107229426:=()
def tw4266387339206241042:=()
def tw18339607220610545426:=()
def tw2897848815541308210:=()
def tw16196208690151108434:=()
def tw11148032484520101842:=()
def tw9616820438612692051:=()
def tw14568611002417699923:=()
def tw7811365092450546803:=()
def tw13528733097260056723:=()
def tw2778250524281130131:=()
def tw16688357093224942803:=()
def tw11137500413677847763:=()
def tw5901719299641054483:=()
def tw687918047347734803:=()
def tw17488812833276424563:=()
def tw9909953329275374003:=()
def tw17062053605603615219:=()
def tw17735299434102656563:=()
def tw13794760389783260755:=()
def tw16914501773861108307:=()
def tw17440425060322382451:=()
def tw5597486703951266451:=()
def tw3792048363968897747:=()
def tw12634347960506927827:=()
def tw9012077576111127251:=()
def tw8201737557183303443:=()
def tw13755510520975123219:=()
def tw12747941568014488435:=()
def tw3992586840732690323:=()
def tw2770398259940519827:=()
def tw1371390954024989619:=()
def tw1444868681766004723:=()
def tw2476693965410298900:=()
def tw11753114854658234388:=()
def tw5588827732174354484:=()
def tw2094827054133057716:=()
def tw12569608944734583988:=()
def tw14255778028903960756:=()
def tw15454093957496864020:=()
def tw1671972020491348276:=()
def tw13403441964575940916:=()
def tw10151544606535995700:=()
def tw12837323323731445076:=()
def tw5057463626001080660:=()
def tw6503971182914514324:=()
def tw11740998514474343892:=()
def tw4781852261300298356:=()
def tw7340266768161567412:=()
def tw4543162104565234356:=()
def tw12991934866109712084:=()
def tw16124113563448314612:=()
def tw2460476094646510356:=()
def tw6160735605587309332:=()
def tw2902060128818743092:=()
def tw4560302900496481204:=()
def tw15981216181597259700:=()
def tw7690844884074794996:=()
def tw7320950944519836693:=()
def tw2157936835805460565:=()
def tw15026179928417286229:=()
def tw17979497545090517205:=()
def tw782402190156789973:=()
def tw748955365812893941:=()
def tw15219006391398056245:=()
def tw14157391980105953589:=()
def tw10916971385495585109:=()
def tw9501885525479670101:=()
def tw18384705729831194997:=()
def tw7974185996234611125:=()
def tw17951933380098048469:=()
def tw3658864026095012309:=()
def tw11612146880344990357:=()
def tw9060480025446425237:=()
def tw9239265172809155285:=()
def tw2764092183666645749:=()
def tw16153929625063994165:=()
def tw1615280223297279829:=()
def tw5229884910929528693:=()
def tw4419350082015925141:=()
def tw654718452283358101:=()
def tw15640618528613994421:=()
def tw901880332177356725:=()
def tw15839871459281391541:=()
def tw12728369419046871989:=()
def tw4774372089561416661:=()
def tw4619448905682650134:=()
def tw10280885764715716630:=()
def tw10776518382795925526:=()
def tw8941615017928968246:=()
def tw1215507009318675510:=()
def tw12210912402261756022:=()
def tw5164898568412610710:=()
def tw10468334240797640854:=()
def tw7889886068741779638:=()
def tw12070435945432845590:=()
def tw2215634791922758006:=()
def tw3891341447283933590:=()
def tw7150758847339317750:=()
def tw1205144336101908054:=()
def tw17756994037703786166:=()
def tw11387941979707284150:=()
def tw9265031485580504790:=()
def tw17313488106906902294:=()
def tw13446632486168326966:=()
def tw17999207060742994774:=()
def tw14891820413812969334:=()
def tw6725103679326499702:=()
def tw18250842843789066102:=()
def tw3926355095882535830:=()
def tw13950775973069827030:=()
def tw13707743230804707318:=()
def tw8581006012623015926:=()
def tw10377366772646455319:=()
def tw3988099644324298807:=()
def tw7405239849408256151:=()
def tw15102352553618829463:=()
def tw7607942424521067703:=()
def tw17284683332037239991:=()
def tw14300642265755228407:=()
def tw1675752479901032695:=()
def tw6576611050520544567:=()
def tw13712880838115786071:=()
def tw6086521990511971735:=()
def tw16604351049079976375:=()
def tw17484933957909028439:=()
def tw6536138839632323159:=()
def tw1954336458916060759:=()
def tw12989442339600635543:=()
def tw380764891600792215:=()
def tw18382605182067893943:=()
def tw12168155428722579127:=()
def tw10401615578592242391:=()
def tw3775153774640144119:=()
def tw5149581136554559255:=()
def tw10191443177172372247:=()
def tw251800700406568727:=()
def tw5504145411273692983:=()
def tw7270330786816865143:=()
def tw4110102141521389431:=()
def tw6906532430597008343:=()
def tw3541966419409455095:=()
def tw14126850309604376:=()
def tw11575959963179015192:=()
def tw342870616222607448:=()
def tw15187171889620630616:=()
def tw7446054547982014552:=()
def tw7943386079619414104:=()
def tw15777478891881465976:=()
def tw16683837884689888408:=()
def tw14375362341039523992:=()
def tw8750791630660877496:=()
def tw12471342476221312216:=()
def tw11991238601299203320:=()
def tw8059627504325608760:=()
def tw13256882172101679416:=()
def tw5839776452389755192:=()
def tw609066818223137144:=()
def tw18019222120385602936:=()
def tw17934997738538271160:=()
def tw2076439358913021368:=()
def tw14280683218845734328:=()
def tw14515679327667221944:=()
def tw11221971833120594392:=()
def tw219930244858736152:=()
def tw2765137070094407256:=()
def tw3244676385857071704:=()
def tw14985241449022529176:=()
def tw38355647452409496:=()
def tw16476892655158142648:=()
def tw16406316128985880344:=()
def tw17269672620103598904:=()
def tw9235637075425731384:=()
def tw3246109884246984600:=()
def tw6289652607737415608:=()
def tw12319613808226995160:=()
def tw12996971339307005912:=()
def tw15906538440112314360:=()
def tw13361793866243724280:=()
def tw12787306956679725113:=()
def tw13487082044599901305:=()
def tw15383705995981600889:=()
def tw6415072945842288761:=()
def tw3100748793717468409:=()
def tw265008814076098809:=()
def tw11363711535074671865:=()
def tw5556856705802393881:=()
def tw2770519777026348377:=()
def tw8051610365152169337:=()
def tw15384562831376882073:=()
def tw15292225655846677913:=()
def tw11632397807631172025:=()
def tw17607922072916042233:=()
def tw13023393628660377081:=()
def tw6884785845269457465:=()
def tw18112796836829809241:=()
def tw2151206199655978713:=()
def tw18048575822766401305:=()
def tw1223085280856017721:=()
def tw14504588561867654009:=()
def tw3293194024130581401:=()
def tw7128951629860217785:=()
def tw15334115548097118234:=()
def tw1024770565817110554:=()
def tw15972192313808641050:=()
def tw2101014891088203930:=()
def tw7013826160512231578:=()
def tw13507558872754992346:=()
def tw8625823167736202522:=()
def tw15959024075184705914:=()
def tw4722882861888904570:=()
def tw406442905562108282:=()
def tw2304310731244366234:=()
def tw4093116716177050042:=()
def tw3245766418615300538:=()
def tw6052475468245662138:=()
def tw14059072397730717146:=()
def tw15898220770745536122:=()
def tw3675239230128557722:=()
def tw5273269568726219418:=()
def tw7468698020393371290:=()
def tw18241403558870368986:=()
def tw17576032573054334746:=()
def tw15971995835068764954:=()
def tw709817854941656858:=()
def tw942097318855117658:=()
def tw2115988326934325114:=()
def tw784238925324043130:=()
def tw5669656878810289082:=()
def tw6132266181838832634:=()
def tw15026250469630691322:=()
def tw15904185672538185722:=()
def tw12319523206033502267:=()
def tw11052712571342001243:=()
def tw4677169782475027547:=()
def tw9270915213510877371:=()
def tw5275488106104267003:=()
def tw5506687056033340667:=()
def tw16594520441153888571:=()
def tw3186672088399554875:=()
def tw8850025134176494907:=()
def tw15935658810992862555:=()
def tw11434693850643202427:=()
def tw8220665820092242363:=()
def tw8541217910369274299:=()
def tw16267985499212582395:=()
def tw7211621870182963707:=()
def tw10823940901688336923:=()
def tw12426034064462509595:=()
def tw185285351725647419:=()
def tw750604691243438715:=()
def tw1950762827205590651:=()
def tw6640471735079197403:=()
def tw4339295676871601883:=()
def tw13563738596849291035:=()
def tw7756761183296298779:=()
def tw9679322214499036987:=()
def tw3918880550996327291:=()
def tw14900303539005203387:=()
def tw12047944170578263003:=()
def tw13921037395351191515:=()
def tw15784431424902364155:=()
def tw14904594745502216220:=()
def tw2052516334370214940:=()
def tw18297047185527221340:=()
def tw1239919560406653084:=()
def tw6887289033110390972:=()
def tw17155752073295582396:=()
def tw7470812738060626140:=()
def tw334826538651385180:=()
def tw16631115104447411580:=()
def tw1467742057928555900:=()
def tw4667748491108672924:=()
def tw2386084364494336444:=()
def tw327878955447463420:=()
def tw15237100784613542428:=()
def tw4497129501013004828:=()
def tw4409346458027756092:=()
def tw16048989753983054396:=()
def tw1671581181514742396:=()
def tw3245227790554924732:=()
def tw890945013260162812:=()
def tw1626210303493764892:=()
def tw9241440670456689468:=()
def tw15373201836775328572:=()
def tw170566149916856156:=()
def tw2341442802005342044:=()
def tw6875220588763304892:=()
def tw7557726463957335036:=()
def tw17364336559078083613:=()
def tw6681803762633047069:=()
def tw16671771069101004861:=()
def tw17407595173267657821:=()
def tw15027189376201514077:=()
def tw17681850925412891837:=()
def tw1054152814301047997:=()
def tw6834532049483887901:=()
def tw9324484017300370717:=()
def tw17091309694969598333:=()
def tw17079899072747947453:=()
def tw16445365050031417853:=()
def tw11845670750370061821:=()
def tw6502060264086042237:=()
def tw6497386184954884797:=()
def tw13852086726566729501:=()
def tw6960299289530069853:=()
def tw16389616533374772093:=()
def tw12062235839427861373:=()
def tw9344394121212910493:=()
def tw12412819979034320797:=()
def tw12005987982651049917:=()
def tw7854501695406503869:=()
def tw7003445605856286717:=()
def tw13924852022159721502:=()
def tw9468888198469915710:=()
def tw11377329152578751582:=()
def tw10340170296192958590:=()
def tw16600114944758124702:=()
def tw6733576461307178206:=()
def tw10191147135780169054:=()
def tw15186286094410736030:=()
def tw4978821383029190046:=()
def tw661516205314578910:=()
def tw12748542326194362878:=()
def tw14832370959528578622:=()
def tw18051396643783423582:=()
def tw4898088767680334462:=()
def tw5459627933753561726:=()
def tw5145078527946513022:=()
def tw15863045887344413374:=()
def tw14888679261884718782:=()
def tw7412252330052235006:=()
def tw9020400562513436446:=()
def tw2770223395625594686:=()
def tw15237306069726764894:=()
def tw17994230612585370462:=()
def tw4187341633330271102:=()
def tw4508058821840911294:=()
def tw5018864401117013950:=()
def tw9773710448338200542:=()
def tw18106699938750887007:=()
def tw17867280722040580255:=()
def tw17787232114279720159:=()
def tw947237742012685535:=()
def tw9598891791385242879:=()
def tw14454860121278108991:=()
def tw12121631190265411935:=()
def tw13749836710197885279:=()
def tw13567850440257757567:=()
def tw6983127145216478655:=()
def tw1355694944617790911:=()
def tw2290038778351370719:=()
def tw9764231041948232191:=()
def tw11109035755765745183:=()
def tw12602372007843600959:=()
def tw9270198052167087711:=()
def tw12790512956091818623:=()
def tw3207620601006397087:=()
def tw4656179643326969535:=()
def tw5446471609526859455:=()
def tw8608038166759026399:=()
def tw14854798159965731551:=()
def tw7219990314042800895:=()
def tw5743326330474095391:=()
def tw9195256788120581919:=()
def tw5977651748174350143:=()
def tw16995785317292532543:=()
def tw7803628907781217119:=()
def tw14589021377846994783:=()
def tw15924176650127007647:=()
end PySem.W.Fast
open PySem PySem.W PyProof.Rows
set_option maxRecDepth 100000 in
set_option maxHeartbeats 0 in
theorem PySem.Challenge.cw_lapwork_k13_table_holds : PySem.Challenge.rw_lapwork_k13_table.Holds := by
  w_on; o_law; k_head; (case hw => w_witness2)
  k_fill
  refine Lap.walk (l := PySem.Challenge.rw_lapwork_k13_table) rfl rfl (fun w h Y => PySem.W.kIn_of Y) ?F
  case F =>
    intro w mg fa h KX G hmg
    refine' Lap.all_mk KX G hmg ?fl ?t0 ?t1 ?t2 ?t3
    (case fl => walk_at "lapF")
    (case t0 =>
      refine' Lap.tp0_mk ?c_Sum ?c_Less ?c_Times ?c_Least ?c_Most ?c_Pick ?c_Same ?c_Tell ?c_Take ?g_Loop ?g_Run
      (case c_Sum => walk_at "lapC")
      (case c_Less => walk_at "lapC")
      (case c_Times => walk_at "lapC")
      (case c_Least => walk_at "lapC")
      (case c_Most => walk_at "lapC")
      (case c_Pick => walk_at "lapC")
      (case c_Same => walk_at "lapC")
      (case c_Tell => walk_at "lapC")
      (case c_Take => walk_at "lapC")
      (case g_Loop => k_is)
      (case g_Run => k_is))
    (case t1 =>
      refine' Lap.tp1_mk ?f_of_sum ?f_of_less ?f_of_times ?f_of_least ?f_of_most ?f_of_pick ?f_of_same ?f_of_tell ?f_of_take ?f_wa_sum ?f_wa_less ?f_wa_times ?f_wa_least ?f_wa_most ?f_wa_pick ?f_wa_same ?f_wa_tell ?f_wa_take ?i_Loop ?f_Loop_rows ?f_Loop_deepest ?i_Run ?f_Run_made_at ?f_Run_number_read ?f_Run_numbers_for ?f_Run_do_turn ?f_Run_last_made ?w_LETTERS ?w_MOST_LETTERS ?w_MOST_ROWS ?w_MOST_BACK ?w_MOST_TURNS ?f_table ?f_outcome ?f_run ?f_crun
      (case f_of_sum => walk_at "lapM")
      (case f_of_less => walk_at "lapM")
      (case f_of_times => walk_at "lapM")
      (case f_of_least => walk_at "lapM")
      (case f_of_most => walk_at "lapM")
      (case f_of_pick => walk_at "lapM")
      (case f_of_same => walk_at "lapM")
      (case f_of_tell => walk_at "lapM")
      (case f_of_take => walk_at "lapM")
      (case f_wa_sum => walk_at "lapM")
      (case f_wa_less => walk_at "lapM")
      (case f_wa_times => walk_at "lapM")
      (case f_wa_least => walk_at "lapM")
      (case f_wa_most => walk_at "lapM")
      (case f_wa_pick => walk_at "lapM")
      (case f_wa_same => walk_at "lapM")
      (case f_wa_tell => walk_at "lapM")
      (case f_wa_take => walk_at "lapM")
      (case i_Loop => walk_at "lapI")
      (case f_Loop_rows => walk_at "lapM")
      (case f_Loop_deepest => walk_at "lapM")
      (case i_Run => walk_at "lapI")
      (case f_Run_made_at => walk_at "lapM")
      (case f_Run_number_read => walk_at "lapM")
      (case f_Run_numbers_for => walk_at "lapM")
      (case f_Run_do_turn => walk_at "lapM")
      (case f_Run_last_made => walk_at "lapM")
      (case w_LETTERS => walk_at "lapV")
      (case w_MOST_LETTERS => walk_at "lapV")
      (case w_MOST_ROWS => walk_at "lapV")
      (case w_MOST_BACK => walk_at "lapV")
      (case w_MOST_TURNS => walk_at "lapV")
      (case f_table => walk_at "lapF")
      (case f_outcome => walk_at "lapF")
      (case f_run => walk_at "lapF")
      (case f_crun => walk_at "lapF"))
    (case t2 =>
      refine' Lap.tp2_mk ?f_cturns ?f_cfeeds ?f_cbegin ?f_deed ?f_islet ?f_isname ?f_cmeas ?f_crows ?f_chead ?f_cread ?f_cnum ?f_clook ?f_copy ?f_depths ?f_cell ?f_whole ?f_mix ?f_letters ?f_names ?f_wants ?f_row ?f_rows ?f_measure ?f_deepest ?f_alike ?f_given ?f_feeds ?f_begin ?f_makes ?f_gets ?f_made ?f_ends ?f_pairs ?f_copyL ?f_outc ?z_len
      (case f_cturns => walk_at "lapF")
      (case f_cfeeds => walk_at "lapF")
      (case f_cbegin => walk_at "lapF")
      (case f_deed => walk_at "lapF")
      (case f_islet => walk_at "lapF")
      (case f_isname => walk_at "lapF")
      (case f_cmeas => walk_at "lapF")
      (case f_crows => walk_at "lapF")
      (case f_chead => walk_at "lapF")
      (case f_cread => walk_at "lapF")
      (case f_cnum => walk_at "lapF")
      (case f_clook => walk_at "lapF")
      (case f_copy => walk_at "lapF")
      (case f_depths => walk_at "lapF")
      (case f_cell => walk_at "lapF")
      (case f_whole => walk_at "lapF")
      (case f_mix => walk_at "lapF")
      (case f_letters => walk_at "lapF")
      (case f_names => walk_at "lapF")
      (case f_wants => walk_at "lapF")
      (case f_row => walk_at "lapF")
      (case f_rows => walk_at "lapF")
      (case f_measure => walk_at "lapF")
      (case f_deepest => walk_at "lapF")
      (case f_alike => walk_at "lapF")
      (case f_given => walk_at "lapF")
      (case f_feeds => walk_at "lapF")
      (case f_begin => walk_at "lapF")
      (case f_makes => walk_at "lapF")
      (case f_gets => walk_at "lapF")
      (case f_made => walk_at "lapF")
      (case f_ends => walk_at "lapF")
      (case f_pairs => walk_at "lapF")
      (case f_copyL => walk_at "lapF")
      (case f_outc => walk_at "lapF")
      (case z_len => k_is))
    (case t3 =>
      refine' Lap.tp3_mk ?z_isinstance ?z_int ?z_bool ?z_range ?z_min ?z_max ?z_list ?z_tuple ?z_str ?z_all ?z_enumerate ?kII ?kIB ?kTT ?kTI ?kIT ?kLL ?kSS ?nM ?nK ?nD ?nRL ?nRF ?nRB ?nRM
      (case z_isinstance => k_is)
      (case z_int => k_is)
      (case z_bool => k_is)
      (case z_range => k_is)
      (case z_min => k_is)
      (case z_max => k_is)
      (case z_list => k_is)
      (case z_tuple => k_is)
      (case z_str => k_is)
      (case z_all => k_is)
      (case z_enumerate => k_is)
      (case kII => kit_is)
      (case kIB => kit_is)
      (case kTT => kit_is)
      (case kTI => kit_is)
      (case kIT => kit_is)
      (case kLL => kit_is)
      (case kSS => kit_is)
      (case nM => (unfold L2.NoAttr; k_is))
      (case nK => (unfold L2.NoAttr; k_is))
      (case nD => (unfold L2.NoAttr; k_is))
      (case nRL => (unfold L2.NoAttr; k_is))
      (case nRF => (unfold L2.NoAttr; k_is))
      (case nRB => (unfold L2.NoAttr; k_is))
      (case nRM => (unfold L2.NoAttr; k_is)))
