import PyProof.Rows.All
import KE.KRevSl
import KE.KRevIter
import Wide.All
import OpenK.AllK
import Wide.FinOn
import Lean
import PyProof.EqAt
import PyProof.EqKinds
import PyProof.TupleCall
import PyProof.NeKinds
import PySem.Challenge.RW_ownchain_k03_where_it_is_none
set_option genInjectivity false
set_option genSizeOfSpec false
set_option Elab.async false
set_option linter.all false
set_option maxRecDepth 100000
namespace L2
open PySem PySem.Spec PyProof.Rows

noncomputable abbrev Key := Sum Int Str
noncomputable def keyIs : Key → Value → Bool
  | .inl k, v => Value.isInt k v
  | .inr x, v => Value.isStrOf x v
noncomputable def keyH (w : World) : Key → Int
  | .inl k => hashInt k
  | .inr x => hashStr w x
theorem keyIs_shape : ∀ {k : Key} {v : Value}, keyIs k v = true → (∃ i t, k = Sum.inl i ∧ v = Value.int i t) ∨ (∃ x t, k = Sum.inr x ∧ v = Value.str x t)
  | .inl i, v, h => by
    obtain ⟨t, e⟩ := Value.isInt_shape (k := i) (v := v) h
    exact .inl ⟨i, t, rfl, e⟩
  | .inr x, v, h => by
    obtain ⟨t, e⟩ := Value.isStrOf_shape (x := x) (v := v) h
    exact .inr ⟨x, t, rfl, e⟩
theorem key_ll (a b : Int) : decide ((Sum.inl a : Key) = Sum.inl b) = (a == b) := by
  by_cases e : a = b
  · subst e; simp
  · have h : ¬ (Sum.inl a : Key) = Sum.inl b := fun q => e (Sum.inl.inj q)
    rw [decide_eq_false h]
    exact (beq_eq_false_iff_ne.mpr e).symm
theorem key_rr (a b : Str) : decide ((Sum.inr a : Key) = Sum.inr b) = decide (a = b) := by
  by_cases e : a = b
  · subst e; simp
  · have h : ¬ (Sum.inr a : Key) = Sum.inr b := fun q => e (Sum.inr.inj q)
    rw [decide_eq_false h, decide_eq_false e]
theorem key_lr (a : Int) (b : Str) : decide ((Sum.inl a : Key) = Sum.inr b) = false := decide_eq_false (fun q => nomatch q)
theorem key_rl (a : Str) (b : Int) : decide ((Sum.inr a : Key) = Sum.inl b) = false := decide_eq_false (fun q => nomatch q)

noncomputable def mixKind (prog : Program) (w : World) : PySem.KeyKind prog w Key where
  is := keyIs
  hash := keyH w
  inj := fun v a b ha hb => by
    rcases keyIs_shape ha with ⟨i, t, rfl, rfl⟩ | ⟨x, t, rfl, rfl⟩
    · rcases keyIs_shape hb with ⟨j, u, rfl, e⟩ | ⟨y, u, rfl, e⟩
      · injection e with e1 _; rw [e1]
      · exact nomatch e
    · rcases keyIs_shape hb with ⟨j, u, rfl, e⟩ | ⟨y, u, rfl, e⟩
      · exact nomatch e
      · injection e with e1 _; rw [e1]
  byValue := fun k v h => by
    rcases keyIs_shape h with ⟨i, t, rfl, rfl⟩ | ⟨x, t, rfl, rfl⟩ <;> rfl
  pyHash := fun hv h => by
    rcases keyIs_shape hv with ⟨i, t, rfl, rfl⟩ | ⟨x, t, rfl, rfl⟩
    · exact wpAny_pyHash_int h
    · exact wpAny_pyHash_str h
  eqBool := fun hu hv h => by
    rcases keyIs_shape hu with ⟨i, t, rfl, rfl⟩ | ⟨x, t, rfl, rfl⟩
    · rcases keyIs_shape hv with ⟨j, u, rfl, rfl⟩ | ⟨y, u, rfl, rfl⟩
      · rw [key_ll] at h; exact wpAny_eqBool_int h
      · rw [key_lr] at h; exact SeqAt.EqAt.int_str i t y u _ _ _ _ h
    · rcases keyIs_shape hv with ⟨j, u, rfl, rfl⟩ | ⟨y, u, rfl, rfl⟩
      · rw [key_rl] at h; exact SeqAt.EqAt.str_int x t j u _ _ _ _ h
      · rw [key_rr] at h; exact wpAny_eqBool_str h
  «strs» := fun k x t v h => by
    rcases keyIs_shape h with ⟨i, u, rfl, e⟩ | ⟨y, u, rfl, e⟩
    · exact nomatch e
    · injection e with e1 _
      subst e1
      cases v <;> rfl

end L2

namespace L2
open PySem PySem.Spec PyProof.Rows

inductive V where
  | non | bl (b : Bool) | int (i : Int) | str (x : Str) | byt (b : Array UInt8) | flt (b : UInt64) | ref (a : Addr) | ty (n : String)
  deriving DecidableEq

noncomputable def RelV : V → Value → Prop
  | .non, u => u = Value.none
  | .bl b, u => u = Value.bool b
  | .int i, u => ∃ t, u = Value.int i t
  | .str x, u => ∃ t, u = Value.str x t
  | .byt b, u => ∃ t, u = Value.bytes b t
  | .flt b, u => ∃ t, u = Value.float b t
  | .ref a, u => u = Value.ref a
  | .ty n, u => u = Value.type n

noncomputable abbrev Vals : List V → List Value → Prop := Paired RelV
theorem Vals.length {xs : List V} {us : List Value} (r : Vals xs us) : xs.length = us.length := Paired.length r
theorem Vals.get : ∀ {xs : List V} {us : List Value} {i : Nat} {x : V}, Vals xs us → xs[i]? = some x → ∃ u, us[i]? = some u ∧ RelV x u
  | _, _, _, _, .nil, e => by simp at e
  | _, _, 0, _, .cons r _, e => by simp at e; subst e; exact ⟨_, rfl, r⟩
  | _, _, i + 1, x, .cons _ t, e => by
    obtain ⟨u, h1, h2⟩ := Vals.get (i := i) (x := x) t (by simpa using e)
    exact ⟨u, by simpa using h1, h2⟩
theorem Vals.set {x : V} {u : Value} (r : RelV x u) : ∀ {xs : List V} {us : List Value} (i : Nat), Vals xs us → Vals (xs.set i x) (us.set i u)
  | _, _, _, .nil => .nil
  | _, _, 0, .cons _ t => .cons r t
  | _, _, i + 1, .cons q t => .cons q (Vals.set r i t)
theorem Vals.append : ∀ {xs ys : List V} {us ws : List Value}, Vals xs us → Vals ys ws → Vals (xs ++ ys) (us ++ ws)
  | _, _, _, _, .nil, s => s
  | _, _, _, _, .cons r t, s => .cons r (Vals.append t s)
theorem Vals.take : ∀ {xs : List V} {us : List Value} (n : Nat), Vals xs us → Vals (xs.take n) (us.take n)
  | _, _, 0, _ => .nil
  | _, _, _ + 1, .nil => .nil
  | _, _, n + 1, .cons r t => .cons r (Vals.take n t)
theorem Vals.drop : ∀ {xs : List V} {us : List Value} (n : Nat), Vals xs us → Vals (xs.drop n) (us.drop n)
  | _, _, 0, r => r
  | _, _, _ + 1, .nil => .nil
  | _, _, n + 1, .cons _ t => Vals.drop n t
noncomputable def RelO : Option V → Option Value → Prop
  | some v, some u => RelV v u
  | none, none => True
  | _, _ => False
noncomputable def KV {κ : Type} : List (κ × V) → List (κ × Value) → Prop := Paired fun (p : κ × V) (q : κ × Value) => p.1 = q.1 ∧ RelV p.2 q.2

noncomputable def kV : Key → V
  | .inl i => .int i
  | .inr x => .str x

inductive HO where
  /-- a list -/
  | lst (xs : List V)
  /-- a tuple (never changes) -/
  | tup (xs : List V)
  /-- a dict whose keys are ints and texts; one whose keys are tuples of ints and texts (the empty one is both) -/
  | dK (kvs : List (Key × V)) | dT (kvs : List (List Key × V))
  /-- a set of ints: its members, its size -/
  | set (S : Int → Bool) (n : Nat)
  /-- an instance of the class at C, its dict at dx, its attributes -/
  | ins (C dx : Addr) (fs : List (Str × V))
  /-- the dict of the instance at x -/
  | own (x : Addr)
  /-- the dict of an exception -/
  | xd (fs : List (Str × V))
  /-- a bound method, f of x -/
  | met (f x : Addr)
  /-- a range object lo, lo + 1, .. below hi -/
  | rng (lo hi : Int)
  /-- a thing that is known to the object (the script; a dict while a loop walks it): read, never written while it is so -/
  | frz (o : Obj) (u : HO)
  /-- a code object's table -/
  | tbl (ps : Array Value)
  /-- any other thing, by what is true of its one object (a def of one's own: SetO a S n := HO.ext fun h => ..) -/
  | ext (φ : Heap → Prop)

noncomputable abbrev Hp := Addr → Option HO
noncomputable def upd (H : Hp) (a : Addr) (o : HO) : Hp := fun b => if b = a then some o else H b
theorem upd_same {H : Hp} {a : Addr} {o : HO} : upd H a o a = some o := by unfold upd; rw [if_pos rfl]
theorem upd_ne {H : Hp} {a b : Addr} {o : HO} (h : b ≠ a) : upd H a o b = H b := by unfold upd; rw [if_neg h]
theorem ne_of_none {H : Hp} {a b : Addr} {o : HO} (h : H a = some o) (h' : H b = none) : a ≠ b := by
  intro e; subst e; rw [h] at h'; cases h'

section
variable (P : Program) (w : World)
noncomputable def ObjOk (H : Hp) (h : Heap) (a : Addr) : HO → Prop
  | .lst xs => xs.length ≤ sizeLine ∧ ∃ (its : List Value) (n : Nat), Vals xs its ∧ h.get? a = some { cls := .type "list", data := .seq its.toArray n }
  | .tup xs => xs.length ≤ sizeLine ∧ ∃ its : List Value, Vals xs its ∧ IsTup h a its.toArray
  | .dK kvs => kvs.length ≤ sizeLine ∧ (a == sysModules) = false ∧ ∃ vs, KV kvs vs ∧ h.DictOf (mixKind P w) a vs
  | .dT kvs => kvs.length ≤ sizeLine ∧ (a == sysModules) = false ∧ ∃ xs : List (List Key × Addr × Value),
      Paired (fun (p : List Key × V) (q : List Key × Addr × Value) => p.1 = q.1 ∧ H q.2.1 = some (.tup (p.1.map kV)) ∧ RelV p.2 q.2.2) kvs xs ∧
      ∃ o es ep, h.get? a = some o ∧ o.ExactDict ∧ o.data = .dict es ep ∧ es.toList = xs.map (entryOfKey (tupleKind (mixKind P w))) ∧ (xs.map (·.1)).Nodup
  | .set S n => h.SetOf (intKind P w) a S n
  | .ins C dx fs => H dx = some (.own a) ∧ fs.length ≤ 1000 ∧ dx ≠ a ∧ h.get? a = some (PySem.W.instObj C dx) ∧
      ∃ mA, h.Ns1 dx mA ∧ (∀ f, RelO (fs.lookup f) (mA f)) ∧ PySem.Within mA (fs.map (·.1))
  | .own _ => ∃ o, h.get? a = some o
  | .xd fs => ∃ mA, h.Ns1 a mA ∧ ∀ f, RelO (fs.lookup f) (mA f)
  | .rng lo hi => ∃ t u v, h.get? a = some { cls := .type "range", data := .fields #[.int lo t, .int hi u, .int 1 v] }
  | .frz o u => h.get? a = some o ∧ ObjOk H h a u
  | .tbl ps => h.get? a = some { cls := .none, data := .fields ps }
  | .met f x => h.get? a = some (PySem.W.methodObj (.ref f) (.ref x))
  | .ext φ => φ h ∧ (∃ o, h.get? a = some o) ∧ ∀ h1 h2 : Heap, φ h1 → (∀ o, h1.get? a = some o → h2.get? a = some o) → φ h2
noncomputable def HOk (H : Hp) (h : Heap) : Prop := ∀ a o, H a = some o → ObjOk P w H h a o
end

section
variable {P : Program} {w : World} {H H' : Hp} {h h' : Heap} {a : Addr} {o : HO}
theorem ObjOk.lt (x : ObjOk P w H h a o) : a < h.objs.size := by
  cases o with
  | lst xs => obtain ⟨_, _, _, _, e⟩ := x; exact Heap.lt_size e
  | tup xs => obtain ⟨_, _, _, p⟩ := x; exact p.lt
  | dK kvs => obtain ⟨_, _, _, _, o, _, _, e, _⟩ := x; exact Heap.lt_size e
  | dT kvs => obtain ⟨_, _, _, _, o, _, _, e, _⟩ := x; exact Heap.lt_size e
  | set S n => obtain ⟨o, _, _, _, e, _⟩ := x; exact Heap.lt_size e
  | ins C dx fs => obtain ⟨_, _, _, e, _⟩ := x; exact Heap.lt_size e
  | own y => obtain ⟨_, e⟩ := x; exact Heap.lt_size e
  | xd fs => obtain ⟨_, ⟨_, _, _, e, _⟩, _⟩ := x; exact Heap.lt_size e
  | rng lo hi => obtain ⟨_, _, _, e⟩ := x; exact Heap.lt_size e
  | frz ob u => obtain ⟨e, _⟩ := x; exact Heap.lt_size e
  | tbl ps => exact Heap.lt_size (show h.get? a = some _ from x)
  | met f y => exact Heap.lt_size (show h.get? a = some _ from x)
  | ext φ => obtain ⟨_, ⟨_, e⟩, _⟩ := x; exact Heap.lt_size e
theorem Paired.mapP {α β : Type} {F G : α → β → Prop} : ∀ {l₁ : List α} {l₂ : List β}, Paired F l₁ l₂ → (∀ a b, F a b → G a b) → Paired G l₁ l₂
  | _, _, .nil, _ => .nil
  | _, _, .cons r t, f => .cons (f _ _ r) (Paired.mapP t f)
theorem ObjOk.stay (x : ObjOk P w H h a o) (k : ∀ b u, (b = a ∨ H b = some (.own a)) → h.get? b = some u → h'.get? b = some u)
    (ho : ∀ b, H b = some (.own a) → H' b = some (.own a)) (ht : ∀ b xs, H b = some (.tup xs) → H' b = some (.tup xs)) : ObjOk P w H' h' a o := by
  induction o with
  | lst xs => obtain ⟨z, its, n, r, e⟩ := x; exact ⟨z, its, n, r, k _ _ (.inl rfl) e⟩
  | tup xs => obtain ⟨z, its, r, ob, e, c⟩ := x; exact ⟨z, its, r, ob, k _ _ (.inl rfl) e, c⟩
  | dK kvs => obtain ⟨z, y, vs, r, ob, es, ep, e, c⟩ := x; exact ⟨z, y, vs, r, ob, es, ep, k _ _ (.inl rfl) e, c⟩
  | dT kvs =>
    obtain ⟨z, y, xs, r, ob, es, ep, e, c⟩ := x
    exact ⟨z, y, xs, Paired.mapP r fun p q z => ⟨z.1, ht _ _ z.2.1, z.2.2⟩, ob, es, ep, k _ _ (.inl rfl) e, c⟩
  | set S n => obtain ⟨ob, es, ep, t, e, c⟩ := x; exact ⟨ob, es, ep, t, k _ _ (.inl rfl) e, c⟩
  | ins C dx fs =>
    obtain ⟨d, z, ne, e, mA, ⟨od, es, ep, e2, c⟩, r⟩ := x
    exact ⟨ho _ d, z, ne, k _ _ (.inl rfl) e, mA, ⟨od, es, ep, k _ _ (.inr d) e2, c⟩, r⟩
  | own y => obtain ⟨ob, e⟩ := x; exact ⟨ob, k _ _ (.inl rfl) e⟩
  | xd fs => obtain ⟨mA, ⟨od, es, ep, e, c⟩, r⟩ := x; exact ⟨mA, ⟨od, es, ep, k _ _ (.inl rfl) e, c⟩, r⟩
  | rng lo hi => obtain ⟨t, u, v, e⟩ := x; exact ⟨t, u, v, k _ _ (.inl rfl) e⟩
  | frz ob u ih => obtain ⟨e, q⟩ := x; exact ⟨k _ _ (.inl rfl) e, ih q⟩
  | tbl ps =>
    have e : h.get? a = some { cls := .none, data := .fields ps } := x
    show h'.get? a = some { cls := .none, data := .fields ps }
    exact k a _ (.inl rfl) e
  | met f y =>
    have e : h.get? a = some (PySem.W.methodObj (.ref f) (.ref y)) := x
    show h'.get? a = some (PySem.W.methodObj (.ref f) (.ref y))
    exact k a _ (.inl rfl) e
  | ext φ => obtain ⟨p, ⟨o, e⟩, st⟩ := x; exact ⟨st _ _ p fun o q => k _ _ (.inl rfl) q, ⟨o, k _ _ (.inl rfl) e⟩, st⟩
theorem HOk.lt (x : HOk P w H h) (e : H a = some o) : a < h.objs.size := (x a o e).lt
theorem HOk.fresh (x : HOk P w H h) (e : h.objs.size ≤ a) : H a = none := by
  cases q : H a with
  | none => rfl
  | some u => exact absurd (Nat.lt_of_lt_of_le (x.lt q) e) (Nat.lt_irrefl _)
theorem HOk.kept (x : HOk P w H h) (k : ∀ b u, h.get? b = some u → h'.get? b = some u) : HOk P w H h' := fun a o e =>
  (x a o e).stay (fun b u _ q => k b u q) (fun _ q => q) fun _ _ q => q
theorem HOk.laid (x : HOk P w H h) (k : ∀ b u, h.get? b = some u → h'.get? b = some u) (hp : h.objs.size ≤ a) (new : ObjOk P w (upd H a o) h' a o) : HOk P w (upd H a o) h' := fun b u e => by
  have hn := x.fresh hp
  by_cases hb : b = a
  · subst hb; rw [upd_same] at e; cases e; exact new
  · rw [upd_ne hb] at e
    exact (x b u e).stay (fun c v _ q => k c v q) (fun c q => by rw [upd_ne (ne_of_none q hn)]; exact q) fun c xs q => by rw [upd_ne (ne_of_none q hn)]; exact q
end

noncomputable def Rd (H : Hp) (a : Addr) (u : HO) : Prop := H a = some u ∨ ∃ o, H a = some (.frz o u)
theorem Rd.ok {P : Program} {w : World} {H : Hp} {h : Heap} {a : Addr} {u : HO} (r : Rd H a u) (x : HOk P w H h) : ObjOk P w H h a u := by
  rcases r with r | ⟨o, r⟩
  · exact x a u r
  · obtain ⟨_, q⟩ := x a _ r
    exact q
noncomputable def Mut : Option HO → Prop
  | some (.lst _) => True
  | some (.dK _) => True
  | some (.dT _) => True
  | some (.set _ _) => True
  | some (.ins _ _ _) => True
  | some (.ext _) => True
  | _ => False
section
variable {P : Program} {w : World} {H : Hp} {h h' : Heap} {x e : Addr} {o' : HO}
theorem HOk.write (ok : HOk P w H h) (mu : Mut (H x)) (he : e = x ∨ H e = some (.own x)) (k : ∀ b u, b ≠ e → h.get? b = some u → h'.get? b = some u) (heo : ∃ u, h'.get? e = some u)
    (new : ObjOk P w (upd H x o') h' x o') : HOk P w (upd H x o') h' := fun b u q => by
  have nown : ∀ c y, H c = some (.own y) → c ≠ x := fun c y r z => by subst z; rw [r] at mu; exact mu
  have ntup : ∀ c xs, H c = some (.tup xs) → c ≠ x := fun c xs r z => by subst z; rw [r] at mu; exact mu
  by_cases hb : b = x
  · subst hb; rw [upd_same] at q; cases q; exact new
  · rw [upd_ne hb] at q
    by_cases hbe : b = e
    · have q' : H b = some (.own x) := by
        rcases he with z | z
        · exact absurd (hbe.trans z) hb
        · rw [hbe]; exact z
      rw [q] at q'; cases q'
      obtain ⟨v, hv⟩ := heo
      exact ⟨v, by rw [hbe]; exact hv⟩
    · refine (ok b u q).stay (fun c v hc r => k c v ?_ r) (fun c r => by rw [upd_ne (nown c b r)]; exact r) fun c xs r => by rw [upd_ne (ntup c xs r)]; exact r
      rcases hc with rfl | hc
      · exact hbe
      · rintro rfl
        rcases he with z | z
        · exact nown c b hc z
        · rw [hc] at z; cases z; exact hb rfl
end

structure Un (fs ex : List Addr) (H H' : Hp) (h h' : Heap) : Prop where
  keep : ∀ b o, h.get? b = some o → H b = none → b ∉ fs → b ∉ ex → h'.get? b = some o
  slot : ∀ b o, h.get? b = some o → H b = none → b ∈ fs → b ∉ ex → ∃ sl, h'.get? b = some { o with slots := sl }
  free : ∀ b o, h.get? b = some o → H b = none → b ∉ ex → H' b = none
  there : ∀ b o, h.get? b = some o → b ∉ ex → ∃ o', h'.get? b = some o'
  tups : ∀ b xs, H b = some (.tup xs) → H' b = some (.tup xs)
  frzs : ∀ b o u, H b = some (.frz o u) → H' b = some (.frz o u)
  tbls : ∀ b ps, H b = some (.tbl ps) → ∃ more, H' b = some (.tbl (ps ++ more))
section
variable {fs fs' ex ex' : List Addr} {H H1 H2 : Hp} {h h1 h2 h' : Heap} {a x e : Addr} {o : HO}
theorem Un.any (u : Un fs ex H H1 h h1) {b : Addr} {ob : Obj} (q : h.get? b = some ob) (n : H b = none) (hx : b ∉ ex) : ∃ sl, h1.get? b = some { ob with slots := sl } := by
  by_cases hb : b ∈ fs
  · exact u.slot b ob q n hb hx
  · exact ⟨ob.slots, u.keep b ob q n hb hx⟩
theorem Un.kept (k : ∀ b u, h.get? b = some u → h'.get? b = some u) : Un fs ex H H h h' :=
  ⟨fun b ob q _ _ _ => k b ob q, fun b ob q _ _ _ => ⟨ob.slots, k b ob q⟩, fun _ _ _ n _ => n, fun b ob q _ => ⟨ob, k b ob q⟩, fun _ _ q => q, fun _ _ _ q => q, fun _ ps q => ⟨#[], by rw [q]; simp⟩⟩
theorem Un.refl : Un fs ex H H h h := Un.kept fun _ _ q => q
theorem Un.laid (k : ∀ b u, h.get? b = some u → h'.get? b = some u) (hp : h.objs.size ≤ a) (hn : H a = none) : Un fs ex H (upd H a o) h h' where
  keep := fun b u q _ _ _ => k b u q
  slot := fun b u q _ _ _ => ⟨u.slots, k b u q⟩
  free := fun b u q n _ => by rw [upd_ne (Nat.ne_of_lt (Nat.lt_of_lt_of_le (Heap.lt_size q) hp))]; exact n
  there := fun b u q _ => ⟨u, k b u q⟩
  tups := fun b xs q => by rw [upd_ne (ne_of_none q hn)]; exact q
  frzs := fun b u xs q => by rw [upd_ne (ne_of_none q hn)]; exact q
  tbls := fun b ps q => ⟨#[], by rw [upd_ne (ne_of_none q hn), q]; simp⟩
theorem Un.write (mu : Mut (H x)) (he : e = x ∨ H e = some (.own x)) (k : ∀ b u, b ≠ e → h.get? b = some u → h'.get? b = some u) (heo : ∃ u, h'.get? e = some u) : Un fs ex H (upd H x o) h h' := by
  have hx : ∀ b, H b = none → b ≠ x := fun b n z => by subst z; rw [n] at mu; exact mu
  have hb : ∀ b, H b = none → b ≠ e := fun b n z => by
    subst z
    rcases he with r | r
    · exact hx b n r
    · rw [n] at r; cases r
  have hm : ∀ b u, H b = some u → ¬ Mut (some u) → b ≠ x := fun b u q nm z => by subst z; rw [q] at mu; exact nm mu
  refine ⟨fun b u q n _ _ => k b u (hb b n) q, fun b u q n _ _ => ⟨u.slots, k b u (hb b n) q⟩, fun b u q n _ => by rw [upd_ne (hx b n)]; exact n, fun b u q _ => ?_,
    fun b xs q => by rw [upd_ne (hm b _ q fun z => z)]; exact q, fun b u xs q => by rw [upd_ne (hm b _ q fun z => z)]; exact q, fun b ps q => ⟨#[], by rw [upd_ne (hm b _ q fun z => z), q]; simp⟩⟩
  by_cases hbe : b = e
  · subst hbe; exact heo
  · exact ⟨u, k b u hbe q⟩
end

noncomputable def trk (h : Heap) (H : Hp) : List Addr := (List.range h.objs.size).filter fun a => (H a).isSome
noncomputable def hidT (h : Heap) (H : Hp) : Heap := PySem.W.hideAll h (trk h H)
theorem hidT_size (h : Heap) (H : Hp) : (hidT h H).objs.size = h.objs.size := PySem.W.hideAll_size _ _
theorem hidT_get {h : Heap} {H : Hp} {b : Addr} {o : Obj} (e : h.get? b = some o) (n : H b = none) : (hidT h H).get? b = some o :=
  PySem.W.hideAll_get _ e fun hm => by
    have q : (H b).isSome = true := (List.mem_filter.mp hm).2
    rw [n] at q; simp at q
theorem of_hidT {h : Heap} {H : Hp} {b : Addr} {o : Obj} (e : (hidT h H).get? b = some o) : h.get? b = some o ∧ H b = none := by
  have e' : h.get? b = some o := PySem.W.of_hideAll (trk h H) e
  refine ⟨e', ?_⟩
  cases q : H b with
  | none => rfl
  | some x =>
    have hm : b ∈ trk h H := List.mem_filter.mpr ⟨List.mem_range.mpr (Heap.lt_size e'), by simp [q]⟩
    have z : (hidT h H).get? b = none := PySem.W.hideAll_none (trk h H) hm
    rw [z] at e; cases e

noncomputable def allNews (g h : Heap) (L : Addr) : List (Addr × Obj) := (List.range h.objs.size).filterMap fun a => if a = L ∨ (g.get? a).isSome = true then none else (h.get? a).map fun o => (a, o)
noncomputable def rest (g h : Heap) (L d : Addr) : List (Addr × Obj) := (allNews g h L).filter fun p => decide (p.1 ≠ d)
end L2

namespace L2
open PySem PySem.Spec PyProof.Rows

structure Mod (K : PySem.W.Frag) (mg : Str → Option Value) (base : Heap) : Prop where
  kin : K.In base
  glob : base.Ns mainGlobals mg
  blt : ∃ mb, base.Ns builtinsNs mb ∧ ∀ x : Str, x ≠ "__name__" → mb x = bootBuiltins x
  nolimit : base.NoLimit

structure Cx where
  prog : Program
  w : World
  K : PySem.W.Frag
  mg : Str → Option Value
  base : Heap
  A : Around
  N : List Str
  s₀ : Shared
  H₀ : Hp
  env : Env
  outer : List Env
  stack : List Env
  ex : List Addr
  fn : Str → Bool
  calm : Bool
  pn : List (Addr × Obj)
  xe : Value → Shared → Prop
noncomputable def frs (l : List Env) : List Addr := l.filterMap (·.frame)
noncomputable abbrev Cx.fs (X : Cx) : List Addr := frs X.outer

noncomputable def Vis (sc : Scope) (x : Str) : Prop := sc.names.lookup x = some .local ∨ sc.names.lookup x = some .cell ∨ sc.names.lookup x = some .free
noncomputable def Loc (sc : Scope) (x : Str) : Prop := sc.names.lookup x = some .local ∨ sc.names.lookup x = some .cell
noncomputable def Look (env : Env) (h : Heap) (m : Str → Option Value) (x : Str) (u : Value) : Prop :=
  (env.kindOf x = some .local ∧ m x = some u) ∨ ((env.kindOf x = some .cell ∨ env.kindOf x = some .free) ∧ ∃ c, env.cells.lookup x = some c ∧ h.IsCell c (some u))

structure Cx.Ok (X : Cx) : Prop where
  mod : Mod X.K X.mg X.base
  kind : X.env.scope.kind = .function
  glob : X.env.globals = mainGlobals
  blt : X.env.builtins = builtinsNs
  above : X.s₀.heap.objs.size ≤ X.env.locals
  inj : ∀ x y c, X.env.cells.lookup x = some c → X.env.cells.lookup y = some c → x = y
  has : ∀ x, (X.env.kindOf x = some .cell ∨ X.env.kindOf x = some .free) → ∃ c, X.env.cells.lookup x = some c
  cab : ∀ x c, X.fn x = true → X.env.cells.lookup x = some c → X.s₀.heap.objs.size ≤ c
  hd : X.calm = true → X.A.handled = none
  frames : X.A.frames = some X.stack
  stk : X.stack = X.outer ∨ (X.stack = X.env :: X.outer ∧ X.env.frame = some X.env.locals)
  exf : ∀ b ∈ X.ex, b ≠ X.env.locals ∧ ∀ x c, X.env.cells.lookup x = some c → c ≠ b
  bs : ∀ b o, X.base.get? b = some o → X.s₀.heap.get? b = some o ∧ X.H₀ b = none
  bsz : X.base.objs.size ≤ X.s₀.heap.objs.size
  noex : ∀ b o, X.base.get? b = some o → b ∉ X.ex
  exfs : ∀ b ∈ X.ex, b ∉ X.fs
  funs : X.s₀.heap.FunFrames X.base X.outer
  frf : ∀ b ∈ X.fs, X.H₀ b = none

structure Inv (X : Cx) (pins : List (Addr × Obj)) (σ : List (Option V)) (H : Hp) (s : Shared) : Prop where
  ok : X.Ok
  os : s.os = X.s₀.os
  bare : AllBare s.gens
  base : Un X.fs X.ex X.H₀ H X.s₀.heap s.heap
  loc : ∃ m, s.heap.Ns X.env.locals m ∧ ∀ (i : Nat) (x : Str) (v : V), X.N[i]? = some x → σ[i]? = some (some v) → Vis X.env.scope x → ∃ u, RelV v u ∧ Look X.env s.heap m x u
  cell : ∀ x c, X.env.cells.lookup x = some c → ∃ v, s.heap.IsCell c v
  free : H X.env.locals = none
  freeC : ∀ x c, X.env.cells.lookup x = some c → H c = none
  pin : ∀ p ∈ X.pn ++ pins, s.heap.get? p.1 = some p.2 ∧ H p.1 = none ∧ p.1 ≠ X.env.locals ∧ p.1 ∉ X.fs ∧ ∀ v, p.2.data ≠ .cell v
  hok : HOk X.prog X.w H s.heap
  len : σ.length = X.N.length

section
variable {X : Cx} {pins : List (Addr × Obj)} {σ : List (Option V)} {H H' : Hp} {s : Shared} {h' : Heap}

theorem Cx.Ok.nofr (ok : X.Ok) {b : Addr} {o : Obj} (e : X.base.get? b = some o) : b ∉ X.fs := fun hb => by
  have := (ok.funs.mem hb).1
  rw [e] at this; cases this
theorem Inv.bs (I : Inv X pins σ H s) : ∀ b o, X.base.get? b = some o → s.heap.get? b = some o ∧ H b = none := fun b o e =>
  ⟨I.base.keep b o (I.ok.bs b o e).1 (I.ok.bs b o e).2 (I.ok.nofr e) (I.ok.noex b o e), I.base.free b o (I.ok.bs b o e).1 (I.ok.bs b o e).2 (I.ok.noex b o e)⟩
theorem Inv.bk (I : Inv X pins σ H s) : ∀ b o, X.base.get? b = some o → s.heap.get? b = some o := fun b o e => (I.bs b o e).1
theorem Inv.mod (I : Inv X pins σ H s) : Mod X.K X.mg X.base := I.ok.mod
theorem Inv.kIn (I : Inv X pins σ H s) : X.K.In s.heap := I.ok.mod.kin.keeps I.bk
theorem Inv.lt (I : Inv X pins σ H s) : X.env.locals < s.heap.objs.size := let ⟨_, hn, _⟩ := I.loc; hn.lt
theorem Inv.sz (I : Inv X pins σ H s) : X.s₀.heap.objs.size ≤ s.heap.objs.size := Nat.le_trans I.ok.above (Nat.le_of_lt I.lt)
theorem Inv.nofs (I : Inv X pins σ H s) {a : Addr} (h : s.heap.objs.size ≤ a) : a ∉ X.fs := fun hb => by
  obtain ⟨_, o, ho, _⟩ := I.ok.funs.mem hb
  exact absurd (Nat.lt_of_lt_of_le (Heap.lt_size ho) (Nat.le_trans I.sz h)) (Nat.lt_irrefl _)
theorem Inv.cne (I : Inv X pins σ H s) : ∀ x c, X.env.cells.lookup x = some c → c ≠ X.env.locals := fun x c e z => by
  obtain ⟨v, o, ho, hd⟩ := I.cell x c e
  obtain ⟨m, ⟨o', es, ep, ho', hd', _⟩, _⟩ := I.loc
  rw [z, ho'] at ho; cases ho; rw [hd'] at hd; cases hd
theorem Inv.funs (I : Inv X pins σ H s) : s.heap.FunFrames X.base X.outer := by
  have all : ∀ (l : List Env), (∀ b ∈ frs l, b ∈ X.fs) → X.s₀.heap.FunFrames X.base l → s.heap.FunFrames X.base l := by
    intro l
    induction l with
    | nil => intro _ _; trivial
    | cons env r ih =>
      intro hs hl
      obtain ⟨hk, ⟨L, o, hf, hn, ho, hd⟩, hr⟩ := hl
      have hL : L ∈ X.fs := hs L (by unfold frs; rw [List.filterMap_cons, hf]; exact List.mem_cons_self)
      obtain ⟨sl, e⟩ := I.base.slot L o ho (I.ok.frf L hL) hL fun z => I.ok.exfs L z hL
      exact ⟨hk, ⟨L, _, hf, hn, e, hd⟩, ih (fun b hb => hs b (by unfold frs; rw [List.filterMap_cons, hf]; exact List.mem_cons_of_mem _ hb)) hr⟩
  exact all X.outer (fun _ hb => hb) I.ok.funs

theorem Inv.stack (I : Inv X pins σ H s) : s.heap.FunFrames X.base X.stack := by
  rcases I.ok.stk with e | ⟨e, hf⟩
  · rw [e]; exact I.funs
  · rw [e]
    obtain ⟨m, hn, _⟩ := I.loc
    refine .cons (by rw [I.ok.kind]; decide) hf hn ?_ I.funs
    exact Heap.get?_none_of_le (Nat.le_trans I.ok.bsz I.ok.above)
theorem Inv.stkSub (I : Inv X pins σ H s) : ∀ b ∈ frs X.stack, b ∈ X.env.locals :: X.fs := fun b hb => by
  rcases I.ok.stk with e | ⟨e, hf⟩
  · rw [e] at hb; exact List.mem_cons_of_mem _ hb
  · rw [e] at hb
    unfold frs at hb
    rw [List.filterMap_cons, hf] at hb
    exact hb
theorem Inv.stkFree (I : Inv X pins σ H s) : ∀ b ∈ frs X.stack, H b = none := fun b hb => by
  rcases List.mem_cons.mp (I.stkSub b hb) with e | hb
  · rw [e]; exact I.free
  · obtain ⟨_, o, ho, _⟩ := I.ok.funs.mem hb
    exact I.base.free b o ho (I.ok.frf b hb) fun z => I.ok.exfs b z hb

theorem Inv.step {g' : Array GenState} {t' : Nat} {d' : Drawn} {ch : List Addr} (I : Inv X pins σ H s)
    (hch : ∀ b ∈ ch, (b ∈ X.ex ∨ X.s₀.heap.objs.size ≤ b) ∧ b ≠ X.env.locals ∧ (∀ x c, X.env.cells.lookup x = some c → c ≠ b) ∧ ∀ p ∈ X.pn ++ pins, p.1 ≠ b)
    (keep : ∀ b o, b ≠ X.env.locals → b ∉ X.fs → b ∉ ch → s.heap.get? b = some o → H b = none → h'.get? b = some o)
    (slot : ∀ b o, b ≠ X.env.locals → b ∈ X.fs → b ∉ ch → s.heap.get? b = some o → H b = none → ∃ sl, h'.get? b = some { o with slots := sl }) (free : ∀ b o, b ∉ ch → s.heap.get? b = some o → H b = none → H' b = none)
    (there : ∀ b o, b ∉ ch → s.heap.get? b = some o → ∃ o', h'.get? b = some o')
    (tups : ∀ b xs, H b = some (.tup xs) → H' b = some (.tup xs)) (frzs : ∀ b o u, H b = some (.frz o u) → H' b = some (.frz o u)) (tbls : ∀ b ps, H b = some (.tbl ps) → ∃ more, H' b = some (.tbl (ps ++ more)))
    (ns : ∀ m, s.heap.Ns X.env.locals m → h'.Ns X.env.locals m) (hok : HOk X.prog X.w H' h') (hg : AllBare g') :
    Inv X pins σ H' { s with heap := h', gens := g', drawn := d', toks := t' } := by
  have neL : ∀ b o, X.s₀.heap.get? b = some o → b ≠ X.env.locals := fun b o e => Nat.ne_of_lt (Nat.lt_of_lt_of_le (Heap.lt_size e) I.ok.above)
  have neC : ∀ b o, X.s₀.heap.get? b = some o → b ∉ X.ex → b ∉ ch := fun b o e hx hb => by
    rcases (hch b hb).1 with z | z
    · exact hx z
    · exact absurd (Nat.lt_of_lt_of_le (Heap.lt_size e) z) (Nat.lt_irrefl _)
  have cellK : ∀ x c, X.env.cells.lookup x = some c → ∀ v, s.heap.IsCell c v → h'.IsCell c v := fun x c e v ⟨o, ho, hd⟩ => by
    have nch : c ∉ ch := fun z => (hch c z).2.2.1 x c e rfl
    by_cases hc : c ∈ X.fs
    · obtain ⟨sl, q⟩ := slot c o (I.cne x c e) hc nch ho (I.freeC x c e)
      exact ⟨_, q, hd⟩
    · exact ⟨o, keep c o (I.cne x c e) hc nch ho (I.freeC x c e), hd⟩
  refine ⟨I.ok, I.os, hg, ⟨fun b o e n hb hx => ?_, fun b o e n hb hx => ?_, fun b o e n hx => ?_, fun b o e hx => ?_, fun b xs e => tups b xs (I.base.tups b xs e), fun b o xs e => frzs b o xs (I.base.frzs b o xs e), fun b ps e => ?_⟩, ?_, fun x c e => ?_, ?_, fun x c e => ?_, fun p hp => ?_, hok, I.len⟩
  · exact keep b o (neL b o e) hb (neC b o e hx) (I.base.keep b o e n hb hx) (I.base.free b o e n hx)
  · obtain ⟨sl, e1⟩ := I.base.slot b o e n hb hx
    obtain ⟨sl', e2⟩ := slot b _ (neL b o e) hb (neC b o e hx) e1 (I.base.free b o e n hx)
    exact ⟨sl', e2⟩
  · obtain ⟨o', e1⟩ := I.base.there b o e hx
    exact free b o' (neC b o e hx) e1 (I.base.free b o e n hx)
  · obtain ⟨o', e1⟩ := I.base.there b o e hx
    exact there b o' (neC b o e hx) e1
  · obtain ⟨m1, e1⟩ := I.base.tbls b ps e
    obtain ⟨m2, e2⟩ := tbls b _ e1
    exact ⟨m1 ++ m2, by rw [e2, Array.append_assoc]⟩
  · obtain ⟨m, hn, hl⟩ := I.loc
    refine ⟨m, ns m hn, fun i x v e1 e2 e3 => ?_⟩
    obtain ⟨u, r, l⟩ := hl i x v e1 e2 e3
    refine ⟨u, r, ?_⟩
    rcases l with l | ⟨k, c, e, z⟩
    · exact .inl l
    · exact .inr ⟨k, c, e, cellK x c e _ z⟩
  · obtain ⟨v, z⟩ := I.cell x c e
    exact ⟨v, cellK x c e v z⟩
  · obtain ⟨m, ⟨o, _, _, ho, _⟩, _⟩ := I.loc
    exact free _ o (fun z => (hch _ z).2.1 rfl) ho I.free
  · obtain ⟨v, o, ho, hd⟩ := I.cell x c e
    exact free c o (fun z => (hch c z).2.2.1 x c e rfl) ho (I.freeC x c e)
  · obtain ⟨e, n, ne, nf, d⟩ := I.pin p hp
    have nch : p.1 ∉ ch := fun z => (hch p.1 z).2.2.2 p hp rfl
    exact ⟨keep p.1 p.2 ne nf nch e n, free p.1 p.2 nch e n, ne, nf, d⟩
theorem Inv.un {t' : Nat} (I : Inv X pins σ H s) (u : Un X.fs [] H H' s.heap h') (hok : HOk X.prog X.w H' h') : Inv X pins σ H' { s with heap := h', toks := t' } := by
  obtain ⟨m, ⟨o, es, ep, ho, r⟩, _⟩ := id I.loc
  obtain ⟨sl, hL⟩ := u.any ho I.free (by simp)
  exact I.step (g' := s.gens) (d' := s.drawn) (ch := []) (fun _ z => nomatch z) (fun b o _ hb _ e n => u.keep b o e n hb (by simp)) (fun b o _ hb _ e n => u.slot b o e n hb (by simp)) (fun b o _ e n => u.free b o e n (by simp)) (fun b o _ e => u.there b o e (by simp)) u.tups u.frzs u.tbls (fun m' hm => by
    obtain ⟨o', es', ep', ho', r'⟩ := hm
    rw [ho] at ho'; cases ho'
    exact ⟨_, es', ep', hL, r'⟩) hok I.bare
theorem Inv.call {g' : Array GenState} {t' : Nat} {d' : Drawn} {ch : List Addr} (I : Inv X pins σ H s) (u : Un (frs X.stack) ch H H' s.heap h') (hok : HOk X.prog X.w H' h') (hg : AllBare g')
    (hch : ∀ b ∈ ch, (b ∈ X.ex ∨ X.s₀.heap.objs.size ≤ b) ∧ b ≠ X.env.locals ∧ (∀ x c, X.env.cells.lookup x = some c → c ≠ b) ∧ ∀ p ∈ X.pn ++ pins, p.1 ≠ b) :
    Inv X pins σ H' { s with heap := h', gens := g', drawn := d', toks := t' } := by
  obtain ⟨m, ⟨o, es, ep, ho, r⟩, _⟩ := id I.loc
  obtain ⟨sl, hL⟩ := u.any ho I.free fun z => (hch _ z).2.1 rfl
  exact I.step (ch := ch) hch (fun b o hL hb hc e n => u.keep b o e n (fun z => (List.mem_cons.mp (I.stkSub b z)).elim hL hb) hc) (fun b o _ _ hc e n => u.any e n hc) (fun b o hc e n => u.free b o e n hc) (fun b o hc e => u.there b o e hc) u.tups u.frzs u.tbls (fun m' hm => by
    obtain ⟨o', es', ep', ho', r'⟩ := hm
    rw [ho] at ho'; cases ho'
    exact ⟨_, es', ep', hL, r'⟩) hok hg
theorem Inv.turned {t' : Nat} {it : Addr} (I : Inv X pins σ H s) (k : ∀ b o, b ≠ it → s.heap.get? b = some o → h'.get? b = some o) (hn : H it = none) (hL : it ≠ X.env.locals)
    (h1 : it ∈ X.ex ∨ X.s₀.heap.objs.size ≤ it) (h2 : ∀ x c, X.env.cells.lookup x = some c → c ≠ it) (h3 : ∀ p ∈ X.pn ++ pins, p.1 ≠ it) : Inv X pins σ H { s with heap := h', toks := t' } := by
  have nit : ∀ b u, H b = some u → b ≠ it := fun b u e z => by rw [z, hn] at e; cases e
  refine I.step (g' := s.gens) (d' := s.drawn) (ch := [it]) (fun b hb => ?_) (fun b o _ _ hc e _ => k b o (fun z => hc (by simp [z])) e) (fun b o _ _ hc e _ => ⟨o.slots, k b o (fun z => hc (by simp [z])) e⟩) (fun _ _ _ _ n => n)
    (fun b o hc e => ⟨o, k b o (fun z => hc (by simp [z])) e⟩) (fun _ _ e => e) (fun _ _ _ e => e) (fun b ps e => ⟨#[], by rw [e]; simp⟩) (fun m hm => ?_) (fun b u e => ?_) I.bare
  · have e : b = it := by simpa using hb
    subst e
    exact ⟨h1, hL, h2, h3⟩
  · obtain ⟨o, es, ep, ho, r⟩ := hm
    exact ⟨o, es, ep, k _ o (Ne.symm hL) ho, r⟩
  · refine (I.hok b u e).stay (fun c v hc q => k c v ?_ q) (fun _ q => q) fun _ _ q => q
    rcases hc with z | z
    · rw [z]; exact nit b u e
    · exact nit c _ z
theorem Inv.tok (I : Inv X pins σ H s) (t : Nat) : Inv X pins σ H { s with toks := t } := I.un (h' := s.heap) (t' := t) Un.refl I.hok
theorem Inv.kept {t' : Nat} (I : Inv X pins σ H s) (k : ∀ b u, s.heap.get? b = some u → h'.get? b = some u) : Inv X pins σ H { s with heap := h', toks := t' } := I.un (Un.kept k) (I.hok.kept k)
theorem Inv.laid {a : Addr} {o : HO} {t' : Nat} (I : Inv X pins σ H s) (k : ∀ b u, s.heap.get? b = some u → h'.get? b = some u) (hp : s.heap.objs.size ≤ a) (new : ObjOk X.prog X.w (upd H a o) h' a o) :
    Inv X pins σ (upd H a o) { s with heap := h', toks := t' } := I.un (Un.laid k hp (I.hok.fresh hp)) (I.hok.laid k hp new)
theorem Inv.write {x e : Addr} {o : HO} {t' : Nat} (I : Inv X pins σ H s) (mu : Mut (H x)) (he : e = x ∨ H e = some (.own x)) (k : ∀ b u, b ≠ e → s.heap.get? b = some u → h'.get? b = some u) (heo : ∃ u, h'.get? e = some u)
    (new : ObjOk X.prog X.w (upd H x o) h' x o) : Inv X pins σ (upd H x o) { s with heap := h', toks := t' } := I.un (Un.write mu he k heo) (I.hok.write mu he k heo new)
theorem Inv.pins_of {pins' : List (Addr × Obj)} (I : Inv X pins σ H s) (h : ∀ p ∈ pins', s.heap.get? p.1 = some p.2 ∧ H p.1 = none ∧ p.1 ≠ X.env.locals ∧ p.1 ∉ X.fs ∧ ∀ v, p.2.data ≠ .cell v) : Inv X pins' σ H s :=
  ⟨I.ok, I.os, I.bare, I.base, I.loc, I.cell, I.free, I.freeC, fun p hp => (List.mem_append.mp hp).elim (fun z => I.pin p (List.mem_append_left _ z)) (h p), I.hok, I.len⟩

theorem nodup_ix {N : List Str} (hN : N.Nodup) {i j : Nat} {x : Str} (a : N[i]? = some x) (b : N[j]? = some x) : i = j := by
  obtain ⟨h1, e1⟩ := List.getElem?_eq_some_iff.mp a
  obtain ⟨h2, e2⟩ := List.getElem?_eq_some_iff.mp b
  exact (List.getElem_inj hN).mp (e1.trans e2.symm)

theorem store_ok2 {M : Model} {A : Around} {E : Value → Shared → Prop} {i : Nat} {x : Str} {v : V} {u : Value} {Q : Unit → Shared → Prop} (I : Inv X pins σ H s) (hN : X.N.Nodup) (hi : X.N[i]? = some x) (hx : Loc X.env.scope x) (r : RelV v u)
    (h : ∀ s', Inv X pins (σ.set i (some v)) H s' → (∃ a, Heap.SameBut a s.heap s'.heap ∧ (a = X.env.locals ∨ X.env.cells.lookup x = some a)) → Q () s') (hf : X.fn x = true ∨ X.env.scope.names.lookup x = some .local := by first | exact .inl rfl | exact .inr rfl | assumption) : wpAny M A (storeName X.env x u) Q E s := by
  obtain ⟨m, hn, hl⟩ := id I.loc
  have hcls : (X.env.scope.kind == .class || (X.env.scope.kind == .module && X.env.locals != X.env.globals)) = false := by rw [I.ok.kind]; rfl
  have hiσ : i < σ.length := by rw [I.len]; exact (List.getElem?_eq_some_iff.mp hi).1
  have cne := I.cne
  have tracked : ∀ {a : Addr} {h' : Heap}, (∃ o, s.heap.get? a = some o ∧ H a = none) → Heap.SameBut a s.heap h' → HOk X.prog X.w H h' := fun {a h'} ha hs b ob e => by
    obtain ⟨_, _, hfree⟩ := ha
    refine (I.hok b ob e).stay (fun c w' hc q => (hs.2 c ?_).trans q) (fun _ q => q) fun _ _ q => q
    rintro rfl
    rcases hc with rfl | hc
    · rw [hfree] at e; cases e
    · rw [hfree] at hc; cases hc
  rcases hx with hk | hk
  · refine wpAny_storeName_local hk hn (fun h' hn' hs => ?_) hcls
    obtain ⟨oL, _, _, hoL, _⟩ := id hn
    refine h _ ⟨I.ok, I.os, I.bare, ⟨fun b o e n hb hx => ?_, fun b o e n hb hx => ?_, I.base.free, fun b o e hx => ?_, I.base.tups, I.base.frzs, I.base.tbls⟩, ⟨_, hn', fun j y v' e1 e2 e3 => ?_⟩, fun y c e => ?_, I.free, I.freeC, fun p hp => ?_, tracked ⟨oL, hoL, I.free⟩ hs, by simpa using I.len⟩ ⟨_, hs, .inl rfl⟩
    · exact (hs.2 b (Nat.ne_of_lt (Nat.lt_of_lt_of_le (Heap.lt_size e) I.ok.above))).trans (I.base.keep b o e n hb hx)
    · obtain ⟨sl, e1⟩ := I.base.slot b o e n hb hx
      exact ⟨sl, (hs.2 b (Nat.ne_of_lt (Nat.lt_of_lt_of_le (Heap.lt_size e) I.ok.above))).trans e1⟩
    · obtain ⟨o', e1⟩ := I.base.there b o e hx
      exact ⟨o', (hs.2 b (Nat.ne_of_lt (Nat.lt_of_lt_of_le (Heap.lt_size e) I.ok.above))).trans e1⟩
    · by_cases hj : j = i
      · subst hj
        rw [hi] at e1; cases e1
        rw [List.getElem?_set_self hiσ] at e2
        cases e2
        exact ⟨u, r, .inl ⟨hk, by simp⟩⟩
      · rw [List.getElem?_set_ne (Ne.symm hj)] at e2
        obtain ⟨u', r', q⟩ := hl j y v' e1 e2 e3
        refine ⟨u', r', ?_⟩
        rcases q with ⟨k, e⟩ | ⟨k, c, e, z⟩
        · refine .inl ⟨k, ?_⟩
          have : y ≠ x := fun e => hj (nodup_ix hN e1 (e ▸ hi))
          simp [this, e]
        · exact .inr ⟨k, c, e, z.sameBut hs (cne y c e)⟩
    · obtain ⟨w', z⟩ := I.cell y c e
      exact ⟨w', z.sameBut hs (cne y c e)⟩
    · obtain ⟨e, n, ne, nf, d⟩ := I.pin p hp
      exact ⟨(hs.2 p.1 ne).trans e, n, ne, nf, d⟩
  · have hfn : X.fn x = true := by
      rcases hf with z | z
      · exact z
      · rw [z] at hk; cases hk
    obtain ⟨c, hc⟩ := I.ok.has x (.inl hk)
    obtain ⟨w', z⟩ := I.cell x c hc
    refine wpAny_storeName_cell I.ok.kind hk hc z (fun h' hc' hs => ?_)
    obtain ⟨oc, hoc, hocd⟩ := id z
    refine h { s with heap := h' } ⟨I.ok, I.os, I.bare, ⟨fun b o e n hb hx => ?_, fun b o e n hb hx => ?_, I.base.free, fun b o e hx => ?_, I.base.tups, I.base.frzs, I.base.tbls⟩, ⟨m, hn.sameBut hs (Ne.symm (cne x c hc)), fun j y v' e1 e2 e3 => ?_⟩, fun y c' e => ?_, I.free, I.freeC, fun p hp => ?_, tracked ⟨oc, hoc, I.freeC x c hc⟩ hs, by simpa using I.len⟩ ⟨c, hs, .inr hc⟩
    · exact (hs.2 b (Nat.ne_of_lt (Nat.lt_of_lt_of_le (Heap.lt_size e) (I.ok.cab x c hfn hc)))).trans (I.base.keep b o e n hb hx)
    · obtain ⟨sl, e1⟩ := I.base.slot b o e n hb hx
      exact ⟨sl, (hs.2 b (Nat.ne_of_lt (Nat.lt_of_lt_of_le (Heap.lt_size e) (I.ok.cab x c hfn hc)))).trans e1⟩
    · obtain ⟨o', e1⟩ := I.base.there b o e hx
      exact ⟨o', (hs.2 b (Nat.ne_of_lt (Nat.lt_of_lt_of_le (Heap.lt_size e) (I.ok.cab x c hfn hc)))).trans e1⟩
    · by_cases hj : j = i
      · subst hj
        rw [hi] at e1; cases e1
        rw [List.getElem?_set_self hiσ] at e2
        cases e2
        exact ⟨u, r, .inr ⟨.inl hk, c, hc, hc'⟩⟩
      · rw [List.getElem?_set_ne (Ne.symm hj)] at e2
        obtain ⟨u', r', q⟩ := hl j y v' e1 e2 e3
        refine ⟨u', r', ?_⟩
        rcases q with q | ⟨k, c', e, z'⟩
        · exact .inl q
        · refine .inr ⟨k, c', e, z'.sameBut hs ?_⟩
          rintro rfl
          exact hj (nodup_ix hN e1 (I.ok.inj _ _ _ e hc ▸ hi))
    · by_cases hcc : c' = c
      · subst hcc; exact ⟨_, hc'⟩
      · obtain ⟨w2, z2⟩ := I.cell y c' e
        exact ⟨w2, z2.sameBut hs hcc⟩
    · obtain ⟨e, n, ne, nf, d⟩ := I.pin p hp
      refine ⟨(hs.2 p.1 ?_).trans e, n, ne, nf, d⟩
      intro q
      rw [q, hoc] at e
      have q' : oc = p.2 := Option.some.inj e
      exact d w' (by rw [← q']; exact hocd)
theorem store_ok {M : Model} {A : Around} {E : Value → Shared → Prop} {i : Nat} {x : Str} {v : V} {u : Value} {Q : Unit → Shared → Prop} (I : Inv X pins σ H s) (hN : X.N.Nodup) (hi : X.N[i]? = some x) (hx : Loc X.env.scope x) (r : RelV v u)
    (h : ∀ s', Inv X pins (σ.set i (some v)) H s' → Q () s') (hf : X.fn x = true ∨ X.env.scope.names.lookup x = some .local := by first | exact .inl rfl | exact .inr rfl | assumption) : wpAny M A (storeName X.env x u) Q E s :=
  store_ok2 I hN hi hx r (fun s' I' _ => h s' I') hf
theorem Inv.call' {s' : Shared} {ch : List Addr} (I : Inv X pins σ H s) (ho : s'.os = s.os) (u : Un (frs X.stack) ch H H' s.heap s'.heap) (hok : HOk X.prog X.w H' s'.heap) (hg : AllBare s'.gens)
    (hch : ∀ b ∈ ch, (b ∈ X.ex ∨ X.s₀.heap.objs.size ≤ b) ∧ b ≠ X.env.locals ∧ (∀ x c, X.env.cells.lookup x = some c → c ≠ b) ∧ ∀ p ∈ X.pn ++ pins, p.1 ≠ b) : Inv X pins σ H' s' := by
  obtain ⟨h', g', d', t', o'⟩ := s'
  have e : o' = s.os := ho
  subst e
  exact I.call (g' := g') (t' := t') (d' := d') u hok hg hch
end

noncomputable abbrev XK := Value → Option Addr → Hp → Prop
noncomputable abbrev St := List (Option V)
noncomputable abbrev VK := V → Hp → Prop
noncomputable abbrev TE := St → Hp → VK → Prop
noncomputable abbrev TT := St → Hp → (Bool → Hp → Prop) → Prop
noncomputable abbrev TA := St → Hp → (List V → Hp → Prop) → Prop
structure Ends where
  nx : St → Hp → Prop
  rt : VK
  bk : St → Hp → Prop := fun _ _ => False
  ct : St → Hp → Prop := fun _ _ => False
noncomputable abbrev TS := Ends → St → Hp → Prop

noncomputable def EP (X : Cx) (pins : List (Addr × Obj)) (σ : St) (Q : VK) (u : Value) (s' : Shared) : Prop := ∃ v H', Inv X pins σ H' s' ∧ RelV v u ∧ Q v H'
noncomputable def TP (X : Cx) (pins : List (Addr × Obj)) (σ : St) (Q : Bool → Hp → Prop) (b : Bool) (s' : Shared) : Prop := ∃ H', Inv X pins σ H' s' ∧ Q b H'
noncomputable def AP (X : Cx) (pins : List (Addr × Obj)) (σ : St) (Q : List V → Hp → Prop) (us : List Value) (s' : Shared) : Prop := ∃ vs H', Inv X pins σ H' s' ∧ Vals vs us ∧ Q vs H'
noncomputable def SP (X : Cx) (pins : List (Addr × Obj)) (D : Ends) (f : Flow) (s' : Shared) : Prop :=
  match f with
  | .next => ∃ σ' H', Inv X pins σ' H' s' ∧ D.nx σ' H'
  | .brk => ∃ σ' H', Inv X pins σ' H' s' ∧ D.bk σ' H'
  | .cont => ∃ σ' H', Inv X pins σ' H' s' ∧ D.ct σ' H'
  | .ret u => ∃ v σ' H', Inv X pins σ' H' s' ∧ RelV v u ∧ D.rt v H'

structure PE (X : Cx) (e : Expr) (t : TE)  : Prop where
  go : ∀ (pins : List (Addr × Obj)) (s : Shared) (σ : St) (H : Hp) (Q : VK), Inv X pins σ H s → t σ H Q → wpAny (model X.prog X.w) X.A (eval e X.env) (EP X pins σ Q) X.xe s
instance {X : Cx} {e : Expr} {t : TE} : CoeFun (PE X e t) (fun _ => ∀ (pins : List (Addr × Obj)) (s : Shared) (σ : St) (H : Hp) (Q : VK), Inv X pins σ H s → t σ H Q → wpAny (model X.prog X.w) X.A (eval e X.env) (EP X pins σ Q) X.xe s) := ⟨PE.go⟩
structure PT (X : Cx) (e : Expr) (t : TT)  : Prop where
  go : ∀ (pins : List (Addr × Obj)) (s : Shared) (σ : St) (H : Hp) (Q : Bool → Hp → Prop), Inv X pins σ H s → t σ H Q → wpAny (model X.prog X.w) X.A (isTrue e X.env (eval e X.env)) (TP X pins σ Q) X.xe s
instance {X : Cx} {e : Expr} {t : TT} : CoeFun (PT X e t) (fun _ => ∀ (pins : List (Addr × Obj)) (s : Shared) (σ : St) (H : Hp) (Q : Bool → Hp → Prop), Inv X pins σ H s → t σ H Q → wpAny (model X.prog X.w) X.A (isTrue e X.env (eval e X.env)) (TP X pins σ Q) X.xe s) := ⟨PT.go⟩
structure PW (X : Cx) (e : Expr) (t : TT)  : Prop where
  go : ∀ (whole : Sem Value) (pins : List (Addr × Obj)) (s : Shared) (σ : St) (H : Hp) (Q : Bool → Hp → Prop), Inv X pins σ H s → t σ H Q → wpAny (model X.prog X.w) X.A (isTrue e X.env whole) (TP X pins σ Q) X.xe s
instance {X : Cx} {e : Expr} {t : TT} : CoeFun (PW X e t) (fun _ => ∀ (whole : Sem Value) (pins : List (Addr × Obj)) (s : Shared) (σ : St) (H : Hp) (Q : Bool → Hp → Prop), Inv X pins σ H s → t σ H Q → wpAny (model X.prog X.w) X.A (isTrue e X.env whole) (TP X pins σ Q) X.xe s) := ⟨PW.go⟩
theorem PW.pt {X : Cx} {e : Expr} {t : TT} (h : PW X e t) : PT X e t := ⟨h _⟩
structure PA (X : Cx) (es : List Expr) (t : TA)  : Prop where
  go : ∀ (pos : Pos) (pins : List (Addr × Obj)) (s : Shared) (σ : St) (H : Hp) (Q : List V → Hp → Prop), Inv X pins σ H s → t σ H Q → wpAny (model X.prog X.w) X.A (spliced (backTo pos (starEach es X.env))) (AP X pins σ Q) X.xe s
instance {X : Cx} {es : List Expr} {t : TA} : CoeFun (PA X es t) (fun _ => ∀ (pos : Pos) (pins : List (Addr × Obj)) (s : Shared) (σ : St) (H : Hp) (Q : List V → Hp → Prop), Inv X pins σ H s → t σ H Q → wpAny (model X.prog X.w) X.A (spliced (backTo pos (starEach es X.env))) (AP X pins σ Q) X.xe s) := ⟨PA.go⟩
structure PS (X : Cx) (st : Stmt) (t : TS)  : Prop where
  go : ∀ (pins : List (Addr × Obj)) (s : Shared) (σ : St) (H : Hp) (D : Ends), Inv X pins σ H s → t D σ H → wpAny (model X.prog X.w) X.A (exec st X.env) (SP X pins D) X.xe s
instance {X : Cx} {st : Stmt} {t : TS} : CoeFun (PS X st t) (fun _ => ∀ (pins : List (Addr × Obj)) (s : Shared) (σ : St) (H : Hp) (D : Ends), Inv X pins σ H s → t D σ H → wpAny (model X.prog X.w) X.A (exec st X.env) (SP X pins D) X.xe s) := ⟨PS.go⟩
structure PSs (X : Cx) (st : List Stmt) (t : TS)  : Prop where
  go : ∀ (pins : List (Addr × Obj)) (s : Shared) (σ : St) (H : Hp) (D : Ends), Inv X pins σ H s → t D σ H → wpAny (model X.prog X.w) X.A (execs st X.env) (SP X pins D) X.xe s
instance {X : Cx} {st : List Stmt} {t : TS} : CoeFun (PSs X st t) (fun _ => ∀ (pins : List (Addr × Obj)) (s : Shared) (σ : St) (H : Hp) (D : Ends), Inv X pins σ H s → t D σ H → wpAny (model X.prog X.w) X.A (execs st X.env) (SP X pins D) X.xe s) := ⟨PSs.go⟩
theorem thn {α : Type} {t : Sem α} {Q Q' : α → Shared → Prop} {M : Model} {A : Around} {E : Value → Shared → Prop} {s : Shared} (h : wpAny M A t Q E s) (hQ : ∀ a s, Q a s → Q' a s) : wpAny M A t Q' E s := wpAny_mono h hQ fun _ _ x => x
end L2

namespace L2
open PySem PySem.Spec PyProof.Rows
section
variable {X : Cx}

noncomputable def tVar (i : Nat) : TE := fun σ H Q => ∃ v, σ[i]? = some (some v) ∧ Q v H
noncomputable def tC (v : V) : TE := fun _ H Q => Q v H
theorem pe_var {i : Nat} {x : Str} {pos : Pos} (hN : X.N[i]? = some x) (hv : Vis X.env.scope x) (hd : (x == ("__debug__" : Str)) = false := by decide) (hcd : (x == ("__classdict__" : Str)) = false := by decide) : PE X (.Name x pos) (tVar i) := by
  refine ⟨?_⟩
  intro pins s σ H Q I h
  obtain ⟨v, e, h⟩ := h
  obtain ⟨m, hn, hl⟩ := I.loc
  obtain ⟨u, r, l⟩ := hl i x v hN e hv
  have fin : EP X pins σ Q u s := ⟨v, H, I, r, h⟩
  rcases l with ⟨hk, hm⟩ | ⟨hk, c, hc, hcell⟩
  · exact wpAny_Name (wpAny_loadName_local I.ok.kind hk hn hm fin) hd
  · rcases hk with hk | hk
    · exact wpAny_Name (wpAny_loadName_cell I.ok.kind hk hc hcell fin) hd
    · exact wpAny_Name (wpAny_loadName_free I.ok.kind hk hc hcell fin hcd) hd
theorem pe_int {i j pos} : PE X (.Constant (.int i) j pos) (tC (.int i)) := ⟨fun _ _ _ H _ I h => wpAny_Constant_int ⟨.int i, H, I.tok _, ⟨_, rfl⟩, h⟩⟩
theorem pe_bl {b j pos} : PE X (.Constant (.bool b) j pos) (tC (.bl b)) := ⟨fun _ _ _ H _ I h => Constant_bool ⟨.bl b, H, I, rfl, h⟩⟩
theorem pe_non {j pos} : PE X (.Constant .none j pos) (tC .non) := ⟨fun _ _ _ H _ I h => Constant_none ⟨.non, H, I, rfl, h⟩⟩
theorem pe_str {x j pos} : PE X (.Constant (.str x) j pos) (tC (.str x)) := ⟨fun _ _ _ H _ I h => Calls.Constant_str ⟨.str x, H, I.tok _, ⟨_, rfl⟩, h⟩⟩
noncomputable def Gl (X : Cx) (x : Str) : Prop := X.env.kindOf x = some .globalImplicit
theorem ld_glob {E : Value → Shared → Prop} {pins : List (Addr × Obj)} {s : Shared} {σ : St} {H : Hp} {x : Str} {u : Value} {pos : Pos} {Q : Value → Shared → Prop} (I : Inv X pins σ H s) (hg : Gl X x) (hm : X.mg x = some u) (h : Q u s)
    (hd : (x == ("__debug__" : Str)) = false := by decide) : wpAny (model X.prog X.w) X.A (eval (.Name x pos) X.env) Q E s :=
  Calls.Name_function_global I.ok.kind hg (Calls.loadGlobal_global (by rw [I.ok.glob]; exact I.mod.glob.keeps I.bk) hm h) hd
theorem ld_blt {E : Value → Shared → Prop} {pins : List (Addr × Obj)} {s : Shared} {σ : St} {H : Hp} {x : Str} {u : Value} {pos : Pos} {Q : Value → Shared → Prop} (I : Inv X pins σ H s) (hg : Gl X x) (hm : X.mg x = none) (hv : bootBuiltins x = some u) (h : Q u s)
    (hn : x ≠ "__name__" := by decide) (hd : (x == ("__debug__" : Str)) = false := by decide) : wpAny (model X.prog X.w) X.A (eval (.Name x pos) X.env) Q E s := by
  obtain ⟨mb, h1, h2⟩ := I.mod.blt
  exact Calls.Name_function_global I.ok.kind hg (Calls.loadGlobal_builtin (by rw [I.ok.glob]; exact I.mod.glob.keeps I.bk) hm (by rw [I.ok.blt]; exact h1.keeps I.bk) ((h2 x hn).trans hv) h) hd
theorem pe_glob {x : Str} {v : V} {u : Value} {pos : Pos} (hg : Gl X x) (hm : X.mg x = some u) (r : RelV v u) (hd : (x == ("__debug__" : Str)) = false := by decide) : PE X (.Name x pos) (tC v) := ⟨fun _ _ _ H _ I h => ld_glob I hg hm ⟨v, H, I, r, h⟩ hd⟩
theorem pe_bltn {x : Str} {v : V} {u : Value} {pos : Pos} (hg : Gl X x) (hm : X.mg x = none) (hv : bootBuiltins x = some u) (r : RelV v u) (hn : x ≠ "__name__" := by decide) (hd : (x == ("__debug__" : Str)) = false := by decide) : PE X (.Name x pos) (tC v) := ⟨fun _ _ _ H _ I h => ld_blt I hg hm hv ⟨v, H, I, r, h⟩ hn hd⟩
noncomputable def t2I (ta tb : TE) (k : Int → Int → Hp → Prop) : St → Hp → Prop := fun σ H => ta σ H fun x H1 => tb σ H1 fun y H2 => ∃ i j, x = .int i ∧ y = .int j ∧ k i j H2
noncomputable def tAdd (ta tb : TE) : TE := fun σ H Q => t2I ta tb (fun i j H2 => Q (.int (i + j)) H2) σ H
noncomputable def tSub (ta tb : TE) : TE := fun σ H Q => t2I ta tb (fun i j H2 => Q (.int (i - j)) H2) σ H
noncomputable def tMul (ta tb : TE) : TE := fun σ H Q => t2I ta tb (fun i j H2 => (-(2 ^ 64) < i ∧ i < 2 ^ 64) ∧ Q (.int (i * j)) H2) σ H
variable {a b : Expr} {ta tb : TE} {pos : Pos}
structure PC (X : Cx) (op : CmpOp) (a b : Expr) (t : TE)  : Prop where
  go : ∀ (pins : List (Addr × Obj)) (s : Shared) (σ : St) (H : Hp) (Q : VK), Inv X pins σ H s → t σ H Q →
    wpAny (model X.prog X.w) X.A (eval a X.env) (fun v s₁ => wpAny (model X.prog X.w) X.A (eval b X.env) (fun u s₂ => wpAny (model X.prog X.w) X.A (compareOp op v u) (EP X pins σ Q) X.xe s₂) X.xe s₁) X.xe s
instance {X : Cx} {op : CmpOp} {a b : Expr} {t : TE} : CoeFun (PC X op a b t) (fun _ => ∀ (pins : List (Addr × Obj)) (s : Shared) (σ : St) (H : Hp) (Q : VK), Inv X pins σ H s → t σ H Q →
    wpAny (model X.prog X.w) X.A (eval a X.env) (fun v s₁ => wpAny (model X.prog X.w) X.A (eval b X.env) (fun u s₂ => wpAny (model X.prog X.w) X.A (compareOp op v u) (EP X pins σ Q) X.xe s₂) X.xe s₁) X.xe s) := ⟨PC.go⟩
noncomputable def tCmp (p : Int → Int → Bool) (ta tb : TE) : TE := fun σ H Q => t2I ta tb (fun i j H2 => Q (.bl (p i j)) H2) σ H
noncomputable abbrev tLt : TE → TE → TE := tCmp fun i j => decide (i < j)
noncomputable abbrev tLe : TE → TE → TE := tCmp fun i j => decide (i ≤ j)
noncomputable abbrev tGt : TE → TE → TE := tCmp fun i j => decide (j < i)
noncomputable abbrev tGe : TE → TE → TE := tCmp fun i j => decide (j ≤ i)
noncomputable abbrev tEqI : TE → TE → TE := tCmp fun i j => decide (i = j)
noncomputable abbrev tNeI : TE → TE → TE := tCmp fun i j => !decide (i = j)
noncomputable def tIsN (ta : TE) : TE := fun σ H Q => ta σ H fun x H1 => Q (.bl (decide (x = .non))) H1
noncomputable def tNotN (ta : TE) : TE := fun σ H Q => ta σ H fun x H1 => Q (.bl (!decide (x = .non))) H1
noncomputable def tB (t : TE) : TT := fun σ H Q => t σ H fun x H1 => ∃ c, x = .bl c ∧ Q c H1
theorem pt_val {e : Expr} {t : TE} (h : PE X e t) (he : ∀ whole, isTrue e X.env whole = (do let v ← whole; standAt e.pos; holding [v] (truthy v)) := by intro _; rfl) : PT X e (tB t) := by
  refine ⟨?_⟩
  intro pins s σ H Q I hw
  refine isTrue_plain (thn (h pins s σ H _ I hw) fun v s1 ⟨x, H1, I1, r1, q1⟩ => ?_) (he _)
  obtain ⟨d, rfl, q⟩ := q1
  cases r1
  exact wpAny_truthy_bool ⟨H1, I1, q⟩

variable {tA tB' : TT} {rest : List Expr}
noncomputable def tAnd (t u : TT) : TT := fun σ H Q => t σ H fun c H1 => if c = true then u σ H1 Q else Q false H1
noncomputable def tOr (t u : TT) : TT := fun σ H Q => t σ H fun c H1 => if c = true then Q true H1 else u σ H1 Q
noncomputable def tNot (t : TT) : TT := fun σ H Q => t σ H fun c H1 => Q (!c) H1
theorem pw_and1 (ha : PT X a tA) : PW X (.BoolOp .And [a] pos) tA := by
  refine ⟨?_⟩
  intro wh pins s σ H Q I h
  refine isTrue_and (thn (ha pins s σ H Q I h) fun c s1 e => ?_)
  cases c with
  | true => exact isTrue_and_nil e
  | false => exact e
theorem pw_or1 (ha : PT X a tA) : PW X (.BoolOp .Or [a] pos) tA := by
  refine ⟨?_⟩
  intro wh pins s σ H Q I h
  refine isTrue_or (thn (ha pins s σ H Q I h) fun c s1 e => ?_)
  cases c with
  | false => exact isTrue_or_nil e
  | true => exact e
theorem pw_and (ha : PT X a tA) (hb : PW X (.BoolOp .And (b :: rest) pos) tB') : PW X (.BoolOp .And (a :: b :: rest) pos) (tAnd tA tB') := by
  refine ⟨?_⟩
  intro wh pins s σ H Q I h
  refine isTrue_and (thn (ha pins s σ H _ I h) fun c s1 hzz => ?_)
  obtain ⟨H1, I1, q1⟩ := hzz
  cases c with
  | true => exact hb wh pins s1 σ H1 Q I1 q1
  | false => exact ⟨H1, I1, q1⟩
theorem pw_or (ha : PT X a tA) (hb : PW X (.BoolOp .Or (b :: rest) pos) tB') : PW X (.BoolOp .Or (a :: b :: rest) pos) (tOr tA tB') := by
  refine ⟨?_⟩
  intro wh pins s σ H Q I h
  refine isTrue_or (thn (ha pins s σ H _ I h) fun c s1 hzz => ?_)
  obtain ⟨H1, I1, q1⟩ := hzz
  cases c with
  | true => exact ⟨H1, I1, q1⟩
  | false => exact hb wh pins s1 σ H1 Q I1 q1
theorem pt_not (ha : PT X a tA) : PT X (.UnaryOp .Not a pos) (tNot tA) := by
  refine ⟨?_⟩
  intro pins s σ H Q I h
  exact isTrue_not (ha pins s σ H (fun c H1 => Q (!c) H1) I h)
noncomputable def tAndV (ta tb : TE) : TE := fun σ H Q => ta σ H fun x H1 => ∃ c, x = .bl c ∧ if c = true then tb σ H1 Q else Q (.bl false) H1
noncomputable def tOrV (ta tb : TE) : TE := fun σ H Q => ta σ H fun x H1 => ∃ c, x = .bl c ∧ if c = true then Q (.bl true) H1 else tb σ H1 Q
noncomputable def tNotV (ta : TE) : TE := fun σ H Q => ta σ H fun x H1 => ∃ c, x = .bl c ∧ Q (.bl (!c)) H1
theorem pe_one {op} {t : TE} (h : PE X a t) : PE X (.BoolOp op [a] pos) t := ⟨fun pins s σ H Q I hw => BoolOp_one (h pins s σ H Q I hw)⟩
theorem pe_and (ha : PE X a ta) (hb : PE X (.BoolOp .And (b :: rest) pos) tb) : PE X (.BoolOp .And (a :: b :: rest) pos) (tAndV ta tb) := by
  refine ⟨?_⟩
  intro pins s σ H Q I h
  refine BoolOp_and (thn (ha pins s σ H _ I h) fun v s1 hzz => ?_)
  obtain ⟨x, H1, I1, r1, q1⟩ := hzz
  obtain ⟨c, rfl, q1⟩ := q1
  cases r1
  refine wpAny_truthy_bool ?_
  cases c with
  | true => exact hb pins s1 σ H1 Q I1 q1
  | false => exact ⟨.bl false, H1, I1, rfl, q1⟩
theorem pe_or (ha : PE X a ta) (hb : PE X (.BoolOp .Or (b :: rest) pos) tb) : PE X (.BoolOp .Or (a :: b :: rest) pos) (tOrV ta tb) := by
  refine ⟨?_⟩
  intro pins s σ H Q I h
  refine BoolOp_or (thn (ha pins s σ H _ I h) fun v s1 hzz => ?_)
  obtain ⟨x, H1, I1, r1, q1⟩ := hzz
  obtain ⟨c, rfl, q1⟩ := q1
  cases r1
  refine wpAny_truthy_bool ?_
  cases c with
  | false => exact hb pins s1 σ H1 Q I1 q1
  | true => exact ⟨.bl true, H1, I1, rfl, q1⟩
theorem pe_not (ha : PE X a ta) : PE X (.UnaryOp .Not a pos) (tNotV ta) := by
  refine ⟨?_⟩
  intro pins s σ H Q I h
  refine UnaryOp_ (thn (ha pins s σ H _ I h) fun v s1 hzz => ?_)
  obtain ⟨x, H1, I1, r1, q1⟩ := hzz
  obtain ⟨c, rfl, q1⟩ := q1
  cases r1
  exact not_of (wpAny_truthy_bool ⟨.bl (!c), H1, I1, rfl, q1⟩)
noncomputable def tIf (t : TT) (ta tb : TE) : TE := fun σ H Q => t σ H fun c H1 => if c = true then ta σ H1 Q else tb σ H1 Q
end
end L2

namespace L2
open PySem PySem.Spec PyProof.Rows

noncomputable def SqL (K : PySem.W.Frag) (H : Hp) (a : Addr) (xs : List V) : Prop :=
  Rd H a (.lst xs) ∨
    ∃ (o : Obj) (its : Array Value) (n : Nat), K.lookup a = some o ∧ o.cls = .type "list" ∧ o.dict = none ∧ o.data = .seq its n ∧ its.size ≤ sizeLine ∧ Vals xs its.toList
noncomputable def SqT (K : PySem.W.Frag) (H : Hp) (a : Addr) (xs : List V) : Prop :=
  Rd H a (.tup xs) ∨
    ∃ (o : Obj) (its : Array Value) (n : Nat), K.lookup a = some o ∧ o.cls = .type "tuple" ∧ o.data = .seq its n ∧ its.size ≤ sizeLine ∧ Vals xs its.toList
noncomputable def absV : Value → Option V
  | .none => some .non
  | .bool b => some (.bl b)
  | .int i _ => some (.int i)
  | .str x _ => some (.str x)
  | .bytes b _ => some (.byt b)
  | .float b _ => some (.flt b)
  | .ref a => some (.ref a)
  | .type n => some (.ty n)
  | _ => none
theorem RelV.abs {x : V} {u : Value} (r : RelV x u) : absV u = some x := by
  cases x with
  | non => cases r; rfl
  | bl _ => cases r; rfl
  | int _ => obtain ⟨t, rfl⟩ := r; rfl
  | str _ => obtain ⟨t, rfl⟩ := r; rfl
  | byt _ => obtain ⟨t, rfl⟩ := r; rfl
  | flt _ => obtain ⟨t, rfl⟩ := r; rfl
  | ref _ => cases r; rfl
  | ty _ => cases r; rfl
theorem RelV.inj {x y : V} {u : Value} (r : RelV x u) (q : RelV y u) : x = y := Option.some.inj (r.abs.symm.trans q.abs)
theorem Vals.inj : ∀ {xs ys : List V} {us : List Value}, Vals xs us → Vals ys us → xs = ys
  | _, _, _, .nil, .nil => rfl
  | _, _, _, .cons r t, .cons r' t' => by rw [r.inj r', Vals.inj t t']
section
variable {X : Cx} {pins : List (Addr × Obj)} {σ : St} {H : Hp} {s : Shared} {a : Addr} {xs ys : List V}
theorem SqL.of {K : PySem.W.Frag} (h : H a = some (.lst xs)) : SqL K H a xs := .inl (.inl h)
theorem SqT.of {K : PySem.W.Frag} (h : H a = some (.tup xs)) : SqT K H a xs := .inl (.inl h)
theorem Inv.list (I : Inv X pins σ H s) (h : SqL X.K H a xs) : ∃ its : List Value, Vals xs its ∧ PlainL s.heap a its.toArray ∧ xs.length ≤ sizeLine := by
  rcases h with h | ⟨o, its, n, hk, hc, hd, hs, hz, r⟩
  · obtain ⟨z, its, n, r, e⟩ := h.ok I.hok
    exact ⟨its, r, ⟨_, n, e, rfl, rfl, rfl⟩, z⟩
  · refine ⟨its.toList, r, ⟨o, n, I.kIn a o hk, hc, hd, by simpa using hs⟩, ?_⟩
    have e := r.length
    simp only [Array.length_toList] at e
    (first | lia | omega)
theorem Inv.tuple (I : Inv X pins σ H s) (h : SqT X.K H a xs) : ∃ its : List Value, Vals xs its ∧ IsTup s.heap a its.toArray ∧ xs.length ≤ sizeLine := by
  rcases h with h | ⟨o, its, n, hk, hc, hs, hz, r⟩
  · obtain ⟨z, its, r, p⟩ := h.ok I.hok
    exact ⟨its, r, p, z⟩
  · refine ⟨its.toList, r, ⟨o, I.kIn a o hk, hc, n, by simpa using hs⟩, ?_⟩
    have e := r.length
    simp only [Array.length_toList] at e
    (first | lia | omega)
theorem Inv.list_inj (I : Inv X pins σ H s) (h : SqL X.K H a xs) (h' : SqL X.K H a ys) : xs = ys := by
  obtain ⟨its, r, ⟨o, n, e, _, _, d⟩, _⟩ := I.list h
  obtain ⟨its', r', ⟨o', n', e', _, _, d'⟩, _⟩ := I.list h'
  rw [e] at e'; cases e'
  rw [d] at d'
  injection d' with d1 _
  have : its = its' := by simpa using congrArg Array.toList d1
  subst this
  exact r.inj r'
theorem Inv.tuple_inj (I : Inv X pins σ H s) (h : SqT X.K H a xs) (h' : SqT X.K H a ys) : xs = ys := by
  obtain ⟨its, r, ⟨o, e, _, n, d⟩, _⟩ := I.tuple h
  obtain ⟨its', r', ⟨o', e', _, n', d'⟩, _⟩ := I.tuple h'
  rw [e] at e'; cases e'
  rw [d] at d'
  injection d' with d1 _
  have : its = its' := by simpa using congrArg Array.toList d1
  subst this
  exact r.inj r'
end

noncomputable abbrev Cx.wish (X : Cx) (E : Value → Shared → Prop) : Cx := { X with xe := E }
noncomputable abbrev Cx.nox (X : Cx) : Cx := X.wish fun _ _ => False
theorem Cx.Ok.wish {X : Cx} (ok : X.Ok) (E : Value → Shared → Prop) : (X.wish E).Ok :=
  ⟨ok.mod, ok.kind, ok.glob, ok.blt, ok.above, ok.inj, ok.has, ok.cab, ok.hd, ok.frames, ok.stk, ok.exf, ok.bs, ok.bsz, ok.noex, ok.exfs, ok.funs, ok.frf⟩
theorem Cx.Ok.unwish {X : Cx} {E : Value → Shared → Prop} (ok : (X.wish E).Ok) : X.Ok :=
  ⟨ok.mod, ok.kind, ok.glob, ok.blt, ok.above, ok.inj, ok.has, ok.cab, ok.hd, ok.frames, ok.stk, ok.exf, ok.bs, ok.bsz, ok.noex, ok.exfs, ok.funs, ok.frf⟩
section
variable {X : Cx} {pins : List (Addr × Obj)} {σ : St} {H : Hp} {s : Shared} {E : Value → Shared → Prop}
theorem Inv.wish (I : Inv X pins σ H s) (E : Value → Shared → Prop) : Inv (X.wish E) pins σ H s := ⟨I.ok.wish E, I.os, I.bare, I.base, I.loc, I.cell, I.free, I.freeC, I.pin, I.hok, I.len⟩
theorem Inv.unwish (I : Inv (X.wish E) pins σ H s) : Inv X pins σ H s := ⟨I.ok.unwish, I.os, I.bare, I.base, I.loc, I.cell, I.free, I.freeC, I.pin, I.hok, I.len⟩
theorem SP.unwish {D : Ends} {f : Flow} {s' : Shared} (h : SP (X.wish E) pins D f s') : SP X pins D f s' := by
  cases f with
  | next => obtain ⟨σ', H', I, q⟩ := h; exact ⟨σ', H', I.unwish, q⟩
  | brk => obtain ⟨σ', H', I, q⟩ := h; exact ⟨σ', H', I.unwish, q⟩
  | cont => obtain ⟨σ', H', I, q⟩ := h; exact ⟨σ', H', I.unwish, q⟩
  | ret u => obtain ⟨v, σ', H', I, r, q⟩ := h; exact ⟨v, σ', H', I.unwish, r, q⟩
theorem PSs.nox {st : List Stmt} {t : TS} (h : PSs X.nox st t) : PSs X st t := ⟨fun pins s σ H D I hw =>
  wpAny_mono (h pins s σ H D (I.wish _) hw) (fun _ _ q => q.unwish) fun _ _ z => False.elim z⟩
end

section
variable {X : Cx} {st : Stmt} {rest : List Stmt} {t u : TS} {e : Expr} {te : TE} {pos : Pos}
noncomputable def tNext : TS := fun D σ H => D.nx σ H
noncomputable def tSeq (t u : TS) : TS := fun D σ H => t { D with nx := u D } σ H
theorem pss_nil : PSs X [] tNext := ⟨fun _ _ σ H _ I h => wpAny_execs_nil ⟨σ, H, I, h⟩⟩
theorem pss_cons (h1 : PS X st t) (h2 : PSs X rest u) : PSs X (st :: rest) (tSeq t u) := by
  refine ⟨?_⟩
  intro pins s σ H D I h
  refine wpAny_execs_cons (thn (h1 pins s σ H { D with nx := u D } I h) fun f s1 q => ?_)
  cases f with
  | next =>
    obtain ⟨σ', H', I', q⟩ := q
    exact h2 pins s1 σ' H' D I' q
  | ret v => exact q
  | brk => exact q
  | cont => exact q
theorem pss_one (h1 : PS X st t) : PSs X [st] t := by
  refine ⟨?_⟩
  intro pins s σ H D I h
  refine wpAny_execs_cons (thn (h1 pins s σ H D I h) fun f s1 q => ?_)
  cases f with
  | next => exact wpAny_execs_nil q
  | ret v => exact q
  | brk => exact q
  | cont => exact q
noncomputable def tBreak : TS := fun D σ H => D.bk σ H
noncomputable def tCont : TS := fun D σ H => D.ct σ H
theorem Inv.quiet {pins : List (Addr × Obj)} {σ : St} {H : Hp} {s : Shared} (I : Inv X pins σ H s) : interactive X.env = false := by simp [interactive, I.ok.kind]
noncomputable def tDrop (te : TE) : TS := fun D σ H => te σ H fun _ H1 => D.nx σ H1
theorem ps_expr (he : PE X e te) (hs : swapsWith e none pos.line X.env = pure false := by rfl) : PS X (.Expr e pos) (tDrop te) := by
  refine ⟨?_⟩
  intro pins s σ H D I h
  exact wpAny_Expr_any (thn (he pins s σ H _ I h) fun v s1 ⟨x, H1, I1, r1, q1⟩ => ⟨σ, H1, I1, q1⟩) I.quiet hs
noncomputable def tRet (te : TE) : TS := fun D σ H => te σ H D.rt
theorem ps_ret (he : PE X e te) : PS X (.Return (some e) pos) (tRet te) := by
  refine ⟨?_⟩
  intro pins s σ H D I h
  exact wpAny_Return_some (thn (he pins s σ H _ I h) fun v s1 ⟨x, H1, I1, r1, q1⟩ => ⟨x, σ, H1, I1, r1, q1⟩)
noncomputable def tRetN : TS := fun D _ H => D.rt .non H
noncomputable def tIfS (c : TT) (t u : TS) : TS := fun D σ H => c σ H fun b H1 => if b = true then t D σ H1 else u D σ H1
theorem ps_if {c : Expr} {a b : List Stmt} {tc : TT} (hc : PT X c tc) (ha : PSs X a t) (hb : PSs X b u) : PS X (.If c a b pos) (tIfS tc t u) := by
  refine ⟨?_⟩
  intro pins s σ H D I h
  refine wpAny_If (thn (hc pins s σ H _ I h) fun d s1 hzz => ?_)
  obtain ⟨H1, I1, q1⟩ := hzz
  cases d with
  | true => exact ha pins s1 σ H1 D I1 q1
  | false => exact hb pins s1 σ H1 D I1 q1
noncomputable def tNever : TS := fun _ _ _ => False
end

noncomputable abbrev TG := V → St → Hp → (St → Hp → Prop) → Prop
noncomputable abbrev TGs := List V → St → Hp → (St → Hp → Prop) → Prop
structure PG (X : Cx) (target : Expr) (t : TG)  : Prop where
  go : ∀ (pins : List (Addr × Obj)) (s : Shared) (σ : St) (H : Hp) (v : V) (u : Value) (Q : St → Hp → Prop), Inv X pins σ H s → RelV v u → t v σ H Q →
    wpAny (model X.prog X.w) X.A (assign target X.env u) (fun _ s' => ∃ σ' H', Inv X pins σ' H' s' ∧ Q σ' H') X.xe s
instance {X : Cx} {target : Expr} {t : TG} : CoeFun (PG X target t) (fun _ => ∀ (pins : List (Addr × Obj)) (s : Shared) (σ : St) (H : Hp) (v : V) (u : Value) (Q : St → Hp → Prop), Inv X pins σ H s → RelV v u → t v σ H Q →
    wpAny (model X.prog X.w) X.A (assign target X.env u) (fun _ s' => ∃ σ' H', Inv X pins σ' H' s' ∧ Q σ' H') X.xe s) := ⟨PG.go⟩
structure PGs (X : Cx) (ts : List Expr) (t : TGs)  : Prop where
  go : ∀ (pins : List (Addr × Obj)) (s : Shared) (σ : St) (H : Hp) (vs : List V) (us : List Value) (Q : St → Hp → Prop), Inv X pins σ H s → Vals vs us → t vs σ H Q →
    wpAny (model X.prog X.w) X.A (assignInOrder ((assignEach ts X.env).map (·.2)) us) (fun _ s' => ∃ σ' H', Inv X pins σ' H' s' ∧ Q σ' H') X.xe s
instance {X : Cx} {ts : List Expr} {t : TGs} : CoeFun (PGs X ts t) (fun _ => ∀ (pins : List (Addr × Obj)) (s : Shared) (σ : St) (H : Hp) (vs : List V) (us : List Value) (Q : St → Hp → Prop), Inv X pins σ H s → Vals vs us → t vs σ H Q →
    wpAny (model X.prog X.w) X.A (assignInOrder ((assignEach ts X.env).map (·.2)) us) (fun _ s' => ∃ σ' H', Inv X pins σ' H' s' ∧ Q σ' H') X.xe s) := ⟨PGs.go⟩
noncomputable abbrev TSet := V → V → V → Hp → (Hp → Prop) → Prop
noncomputable def PSet (X : Cx) (t : TSet) : Prop :=
  ∀ (pins : List (Addr × Obj)) (s : Shared) (σ : St) (H : Hp) (o i v : V) (ov iv u : Value) (Q : Hp → Prop), Inv X pins σ H s → RelV o ov → RelV i iv → RelV v u → t o i v H Q →
    wpAny (model X.prog X.w) X.A (setItem ov iv u) (fun _ s' => ∃ H', Inv X pins σ H' s' ∧ Q H') X.xe s
noncomputable abbrev TIp := V → V → Hp → VK → Prop
noncomputable def PIp (X : Cx) (op : Operator) (t : TIp) : Prop :=
  ∀ (pins : List (Addr × Obj)) (s : Shared) (σ : St) (H : Hp) (x y : V) (v u : Value) (Q : VK), Inv X pins σ H s → RelV x v → RelV y u → t x y H Q →
    wpAny (model X.prog X.w) X.A (inplaceOp op v u) (EP X pins σ Q) X.xe s
section
variable {X : Cx} {pos : Pos}
noncomputable def gName (i : Nat) : TG := fun v σ H Q => Q (σ.set i (some v)) H
theorem pg_name {i : Nat} {x : Str} (hN : X.N.Nodup) (hi : X.N[i]? = some x) (hx : Loc X.env.scope x) (hf : X.fn x = true ∨ X.env.scope.names.lookup x = some .local := by first | exact .inl rfl | exact .inr rfl | assumption) : PG X (.Name x pos) (gName i) := by
  refine ⟨?_⟩
  intro pins s σ H v u Q I r h
  exact wpAny_assign_Name (store_ok I hN hi hx r (fun s' I' => ⟨_, H, I', h⟩) hf)
noncomputable def gNil : TGs := fun vs σ H Q => vs = [] ∧ Q σ H
noncomputable def gCons (t : TG) (u : TGs) : TGs := fun vs σ H Q => ∃ v r, vs = v :: r ∧ t v σ H fun σ' H' => u r σ' H' Q
theorem pgs_nil : PGs X [] gNil := by
  refine ⟨?_⟩
  intro pins s σ H vs us Q I r h
  obtain ⟨e, h⟩ := h
  subst e
  cases r
  exact assignInOrder_nil ⟨σ, H, I, h⟩
theorem pgs_cons {e : Expr} {es : List Expr} {t : TG} {u : TGs} (h1 : PG X e t) (h2 : PGs X es u)
    (hs : (assignEach (e :: es) X.env).map (·.2) = assign e X.env :: (assignEach es X.env).map (·.2) := by rfl) : PGs X (e :: es) (gCons t u) := by
  refine ⟨?_⟩
  intro pins s σ H vs us Q I r h
  obtain ⟨v, vr, e1, h⟩ := h
  subst e1
  cases r with
  | cons r rr =>
    rw [hs]
    refine assignInOrder_cons (thn (h1 pins s σ H _ _ _ I r h) fun _ s1 hzz => ?_)
    obtain ⟨σ1, H1, I1, q1⟩ := hzz
    exact h2 pins s1 σ1 H1 _ _ Q I1 rr q1
noncomputable def gTup (K : PySem.W.Frag) (n : Nat) (t : TGs) : TG := fun v σ H Q => ∃ a xs, v = .ref a ∧ SqT K H a xs ∧ xs.length = n ∧ t xs σ H Q
theorem pg_tup {es : List Expr} {k : Nat} {t : TGs} {n : Nat} (hc : X.calm = true) (h : PGs X es t)
    (hn : (assignEach es X.env).length = n := by rfl) (hst : (assignEach es X.env).findIdx? (·.1) = none := by rfl) : PG X (.Tuple es k pos) (gTup X.K n t) := by
  refine ⟨?_⟩
  intro pins s σ H v u Q I r hw
  obtain ⟨a, xs, e1, hq, hl, hw⟩ := hw
  subst e1
  cases r
  obtain ⟨its, rv, ht, hz⟩ := I.tuple hq
  refine assign_Tuple_tuple (I.ok.hd hc) ht (by simp [hn, ← hl, rv.length]) hst fun h' hx => ?_
  have I1 : Inv X pins σ H { s with heap := h' } := I.kept (t' := s.toks) fun b o e => hx b o (Nat.ne_of_lt (Heap.lt_size e)) e
  exact h pins _ σ H xs _ Q I1 (by simpa using rv) hw
noncomputable def gSub (to ti : TE) (t : TSet) : TG := fun v σ H Q => to σ H fun o H1 => ti σ H1 fun i H2 => t o i v H2 fun H3 => Q σ H3
theorem pg_sub {o i : Expr} {to ti : TE} {t : TSet} (ho : PE X o to) (hi : PE X i ti) (hs : PSet X t)
    (ha : ∀ v, assign (.Subscript o i pos) X.env v = (do
      let ov ← holding [v] (eval o X.env)
      let iv ← holding [v, ov] (eval i X.env)
      standAt pos
      holding [v, ov, iv] (setItem ov iv v)
      release [v, ov, iv] []) := by intro _; rfl) : PG X (.Subscript o i pos) (gSub to ti t) := by
  refine ⟨?_⟩
  intro pins s σ H v u Q I r h
  rw [ha]
  refine wpAny_bind (wpAny_holding (thn (ho pins s σ H _ I h) fun ov s1 hzz => ?_))
  obtain ⟨x, H1, I1, r1, q1⟩ := hzz
  refine wpAny_bind (wpAny_holding (thn (hi pins s1 σ H1 _ I1 q1) fun iv s2 hzz => ?_))
  obtain ⟨y, H2, I2, r2, q2⟩ := hzz
  refine wpAny_bind (wpAny_standAt (wpAny_bind (wpAny_holding (thn (hs pins s2 σ H2 x y v ov iv u _ I2 r1 r2 r q2) fun _ s3 hzz => ?_))))
  obtain ⟨H3, I3, q3⟩ := hzz
  exact wpAny_release ⟨σ, H3, I3, q3⟩
noncomputable def tAsg (te : TE) (g : TG) : TS := fun D σ H => te σ H fun x H1 => g x σ H1 D.nx
theorem ps_asg {tg e : Expr} {te : TE} {g : TG} (he : PE X e te) (hg : PG X tg g) (hs : swapsWithSole [tg] e pos.line X.env = pure false := by rfl) (hw : swappedStores [tg] e X.env = pure none := by rfl)
    (h1 : (assignEach [tg] X.env).map (·.2) = [assign tg X.env] := by rfl) : PS X (.Assign [tg] e pos) (tAsg te g) := by
  refine ⟨?_⟩
  intro pins s σ H D I h
  refine wpAny_Assign_stores (thn (he pins s σ H _ I h) fun v s1 ⟨x, H1, I1, r1, q1⟩ => ?_) hs hw
  rw [h1]
  exact thn (hg pins s1 σ H1 x v _ I1 r1 q1) fun _ s2 q => q
theorem ps_set {i : Nat} {x : Str} {e : Expr} {te : TE} {pos' : Pos} (hN : X.N.Nodup) (hi : X.N[i]? = some x) (hx : Loc X.env.scope x) (he : PE X e te) (hs : swapsWith e (some (.Name x pos')) pos.line X.env = pure false := by rfl) (hf : X.fn x = true ∨ X.env.scope.names.lookup x = some .local := by first | exact .inl rfl | exact .inr rfl | assumption) :
    PS X (.Assign [.Name x pos'] e pos) (tAsg te (gName i)) := by
  refine ⟨?_⟩
  intro pins s σ H D I h
  refine wpAny_Assign_Name (thn (he pins s σ H _ I h) fun v s1 ⟨y, H1, I1, r1, q1⟩ => ?_) hs
  exact store_ok I1 hN hi hx r1 (fun s2 I2 => ⟨_, H1, I2, q1⟩) hf
noncomputable def tPar (i j : Nat) (ta : TA) : TS := fun D σ H => ta σ H fun vs H1 => ∃ v w, vs = [v, w] ∧ D.nx ((σ.set i (some v)).set j (some w)) H1
noncomputable def tAug (i : Nat) (te : TE) (ti : TIp) : TS := fun D σ H => ∃ x, σ[i]? = some (some x) ∧ te σ H fun y H1 => ti x y H1 fun z H2 => D.nx (σ.set i (some z)) H2
noncomputable def tAugS (to ti te : TE) (tget : V → V → Hp → VK → Prop) (tip : TIp) (tset : TSet) : TS := fun D σ H => to σ H fun o H1 => ti σ H1 fun i H2 => tget o i H2 fun x H3 => te σ H3 fun y H4 => tip x y H4 fun z H5 => tset o i z H5 fun H6 => D.nx σ H6
noncomputable def PGet (X : Cx) (t : V → V → Hp → VK → Prop) : Prop :=
  ∀ (pins : List (Addr × Obj)) (s : Shared) (σ : St) (H : Hp) (o i : V) (ov iv : Value) (Q : VK), Inv X pins σ H s → RelV o ov → RelV i iv → t o i H Q →
    wpAny (model X.prog X.w) X.A (getItem ov iv) (EP X pins σ Q) X.xe s
noncomputable def ipI (f : Int → Int → Int) : TIp := fun x y H Q => ∃ i j, x = .int i ∧ y = .int j ∧ Q (.int (f i j)) H
end

section
variable {X : Cx} {pos : Pos}
noncomputable def tWhile (c : TT) (tb : TS) : TS := fun D σ H => ∃ W : Nat → St → Hp → Prop, (∃ m, W m σ H) ∧ ∀ m σ H, W m σ H →
  c σ H fun b H1 => if b = true then ∃ N : St → Hp → Prop, (∀ σ' H', N σ' H' → ∃ m', m' < m ∧ W m' σ' H') ∧ tb { D with nx := N, ct := N, bk := D.nx } σ H1 else D.nx σ H1
theorem ps_while {c : Expr} {body : List Stmt} {tc : TT} {tb : TS} (hp : PassesOwn (model X.prog X.w) X.A X.env X.xe) (hc : PT X c tc) (hb : PSs X body tb) : PS X (.While c body [] pos) (tWhile tc tb) := by
  refine ⟨?_⟩
  intro pins s σ H D I h
  obtain ⟨W, ⟨m0, w0⟩, turn⟩ := h
  refine wpAny_While (codeAny_whileLoop (fun n s' => ∃ σ' H', Inv X pins σ' H' s' ∧ W n σ' H') ?_ m0 ⟨σ, H, I, w0⟩)
  rintro n s1 ⟨σ1, H1, I1, w1⟩
  refine wpAny_passesOwn hp (thn (hc pins s1 σ1 H1 _ I1 (turn n σ1 H1 w1)) fun b s2 hzz => ?_)
  obtain ⟨H2, I2, q2⟩ := hzz
  cases b with
  | true =>
    obtain ⟨N, hN, q2⟩ := q2
    rw [if_pos rfl]
    refine wpAny_passesOwn hp (thn (hb pins s2 σ1 H2 _ I2 q2) fun f s3 q3 => ?_)
    cases f with
    | next =>
      obtain ⟨σ3, H3, I3, n3⟩ := q3
      obtain ⟨m', hm, w3⟩ := hN σ3 H3 n3
      exact ⟨m', hm, σ3, H3, I3, w3⟩
    | cont =>
      obtain ⟨σ3, H3, I3, n3⟩ := q3
      obtain ⟨m', hm, w3⟩ := hN σ3 H3 n3
      exact ⟨m', hm, σ3, H3, I3, w3⟩
    | brk => exact q3
    | ret v => exact q3
  | false =>
    rw [if_neg Bool.false_ne_true]
    exact wpAny_execs_nil ⟨σ1, H2, I2, q2⟩
end

structure It where
  go : Nat → Hp → Prop
  yld : Nat → Hp → V → Hp → Prop
  stop : Nat → Hp → Prop
noncomputable def FpOk (X : Cx) (pins : List (Addr × Obj)) (H : Hp) (b : Addr) : Prop :=
  H b = none ∧ b ≠ X.env.locals ∧ b ∉ X.fs ∧ (b ∈ X.ex ∨ X.s₀.heap.objs.size ≤ b) ∧ (∀ x c, X.env.cells.lookup x = some c → c ≠ b) ∧ ∀ p ∈ X.pn ++ pins, p.1 ≠ b
theorem Inv.fpOk {X : Cx} {pins : List (Addr × Obj)} {σ : St} {H H' : Hp} {s : Shared} {b : Addr} (I : Inv X pins σ H s) (hb : s.heap.objs.size ≤ b) (hn : H' b = none) : FpOk X pins H' b := by
  refine ⟨hn, Nat.ne_of_gt (Nat.lt_of_lt_of_le I.lt hb), I.nofs hb, .inr (Nat.le_trans I.sz hb), fun x c e z => ?_, fun p hp z => ?_⟩
  · obtain ⟨v, q⟩ := I.cell x c e
    exact absurd (Nat.lt_of_lt_of_le q.lt (by rw [z]; exact hb)) (Nat.lt_irrefl _)
  · exact absurd (Nat.lt_of_lt_of_le (Heap.lt_size (I.pin p hp).1) (by rw [z]; exact hb)) (Nat.lt_irrefl _)
structure Turn (P : Program) (w : World) (K : PySem.W.Frag) (tg : Expr) (J : It) (fp : List Addr) (it : Addr) (tn : Nat → Heap → Prop) : Prop where
  mem : it ∈ fp
  obj : ∀ i h, tn i h → ∀ b ∈ fp, ∃ o, h.get? b = some o ∧ ∀ v, o.data ≠ .cell v
  keep : ∀ i h h', tn i h → (∀ b ∈ fp, ∀ o, h.get? b = some o → h'.get? b = some o) → tn i h'
  item : ∀ (X : Cx), X.prog = P → X.w = w → X.K = K → X.calm = true → ∀ (i : Nat) (pins : List (Addr × Obj)) (s : Shared) (σ : St) (H : Hp) (E : Value → Shared → Prop), Inv X pins σ H s → (∀ b ∈ fp, FpOk X pins H b) → tn i s.heap → J.go i H →
    wpAny (model P w) X.A (pyNext (.ref it)) (fun r s1 => ∃ u, r = some u ∧
      wpAny (model P w) X.A (letOwnedTupleGo tg (.ref it) u) (fun _ s2 => ∃ x H', Inv X pins σ H' s2 ∧ RelV x u ∧ J.yld i H x H' ∧ tn (i + 1) s2.heap ∧ ∀ b ∈ fp, H' b = none) E s1) E s
  done : ∀ (X : Cx), X.prog = P → X.w = w → X.K = K → X.calm = true → ∀ (i : Nat) (pins : List (Addr × Obj)) (s : Shared) (σ : St) (H : Hp) (E : Value → Shared → Prop), Inv X pins σ H s → (∀ b ∈ fp, FpOk X pins H b) → tn i s.heap → J.stop i H →
    wpAny (model P w) X.A (pyNext (.ref it)) (fun r s1 => r = none ∧ Inv X pins σ H s1) E s
  self : ∀ (A : Around) (i : Nat) (s : Shared) (Q : Value → Shared → Prop) (E : Value → Shared → Prop), tn i s.heap → Q (.ref it) s → wpAny (model P w) A (pyIter (.ref it)) Q E s
noncomputable abbrev TI := St → Hp → (It → Hp → Prop) → Prop
noncomputable def PIE (X : Cx) (pins : List (Addr × Obj)) (σ : St) (tg : Expr) (R : It → Hp → Prop) (itv : Value) (s2 : Shared) : Prop :=
  ∃ (it : Addr) (fp : List Addr) (tn : Nat → Heap → Prop) (J : It) (H' : Hp), itv = .ref it ∧ Inv X pins σ H' s2 ∧ Turn X.prog X.w X.K tg J fp it tn ∧ tn 0 s2.heap ∧ (∀ b ∈ fp, FpOk X pins H' b) ∧ R J H'
structure PI (X : Cx) (tg iter : Expr) (wi : TI)  : Prop where
  go : ∀ (pins : List (Addr × Obj)) (s : Shared) (σ : St) (H : Hp) (R : It → Hp → Prop), Inv X pins σ H s → wi σ H R →
    wpAny (model X.prog X.w) X.A (eval iter X.env) (fun v s1 => wpAny (model X.prog X.w) X.A (pyIter v) (PIE X pins σ tg R) X.xe s1) X.xe s
instance {X : Cx} {tg iter : Expr} {wi : TI} : CoeFun (PI X tg iter wi) (fun _ => ∀ (pins : List (Addr × Obj)) (s : Shared) (σ : St) (H : Hp) (R : It → Hp → Prop), Inv X pins σ H s → wi σ H R →
    wpAny (model X.prog X.w) X.A (eval iter X.env) (fun v s1 => wpAny (model X.prog X.w) X.A (pyIter v) (PIE X pins σ tg R) X.xe s1) X.xe s) := ⟨PI.go⟩

theorem go_of {M : Model} {A : Around} {E : Value → Shared → Prop} {s : Shared} {tg : Expr} {it : Addr} {u : Value} {o : Obj} {n : String} {vs : Array Value} {Q : Unit → Shared → Prop} (ho : s.heap.get? it = some o) (hc : o.cls = .type n) (hd : o.data = .fields vs)
    (hn : ["enumerate", "zip", "dict_itemiterator", "dict_reverseitemiterator", "odict_iterator", "itertools.zip_longest", "itertools.pairwise"].contains n = false) (hQ : Q () s) : wpAny M A (letOwnedTupleGo tg (.ref it) u) Q E s := by
  unfold letOwnedTupleGo
  cases tg <;> first
    | exact wpAny_pure hQ
    | (cases u <;> first
        | exact wpAny_pure hQ
        | (refine wpAny_bind (wpAny_load ho ?_)
           rw [hc, hd]
           show wpAny M A (if (["enumerate", "zip", "dict_itemiterator", "dict_reverseitemiterator", "odict_iterator", "itertools.zip_longest", "itertools.pairwise"].contains n && vs[0]? == some (rawInt _)) = true then _ else _) Q E s
           rw [if_neg (by intro h; rw [hn, Bool.false_and] at h; cases h)]
           exact wpAny_pure hQ))

noncomputable def Itl (K : PySem.W.Frag) (a : Addr) : It :=
  ⟨fun i H => ∃ xs x, SqL K H a xs ∧ xs[i]? = some x, fun i H x H' => H' = H ∧ ∀ xs, SqL K H a xs → xs[i]? = some x, fun i H => ∃ xs, SqL K H a xs ∧ xs.length ≤ i⟩
noncomputable def Itt (K : PySem.W.Frag) (a : Addr) : It :=
  ⟨fun i H => ∃ xs x, SqT K H a xs ∧ xs[i]? = some x, fun i H x H' => H' = H ∧ ∀ xs, SqT K H a xs → xs[i]? = some x, fun i H => ∃ xs, SqT K H a xs ∧ xs.length ≤ i⟩
noncomputable def Itr (lo : Int) (n : Nat) : It := ⟨fun i _ => i < n, fun i H x H' => H' = H ∧ x = .int (lo + i), fun i _ => n ≤ i⟩
theorem turn_list {P : Program} {w : World} {K : PySem.W.Frag} {tg : Expr} (a it : Addr) : Turn P w K tg (Itl K a) [it] it (fun i h => h.IsListIter it a i) where
  mem := by simp
  obj := fun i h st b hb => by
    have e : b = it := by simpa using hb
    subst e
    obtain ⟨o, e, c, d⟩ := st
    exact ⟨o, e, fun v z => by rw [d] at z; cases z⟩
  keep := fun i h h' st k => st.at fun o e => k it (by simp) o e
  item := by
    intro X hP hw hK hc i pins s σ H E I hf st hg
    subst hP hw hK
    obtain ⟨xs, x, hq, hx⟩ := hg
    obtain ⟨its, rv, p, hz⟩ := I.list hq
    obtain ⟨u, hu, ru⟩ := rv.get hx
    obtain ⟨f0, f1, f2, f3, f4, f5⟩ := hf it (by simp)
    refine wpAny_pyNext_list_item st p.isList (x := u) (by simpa using hu) fun h' st' sb => ?_
    have I1 : Inv X pins σ H { s with heap := h' } := I.turned (t' := s.toks) (fun b o hb e => (sb.2 b hb).trans e) f0 f1 f3 f4 f5
    obtain ⟨o, e, c, d⟩ := id st'
    exact ⟨u, rfl, go_of (s := { s with heap := h' }) e c d (by decide) ⟨x, H, I1, ru, ⟨rfl, fun ys hy => by rw [I.list_inj hy hq]; exact hx⟩, st', fun b hb => (hf b hb).1⟩⟩
  done := by
    intro X hP hw hK hc i pins s σ H E I hf st hg
    subst hP hw hK
    obtain ⟨xs, hq, hx⟩ := hg
    obtain ⟨its, rv, p, hz⟩ := I.list hq
    obtain ⟨f0, f1, f2, f3, f4, f5⟩ := hf it (by simp)
    have hl := rv.length
    exact wpAny_pyNext_list_end (I.ok.hd hc) st p.isList (by simp; (first | lia | omega)) fun h' eb => ⟨rfl, I.turned (t' := s.toks) (fun b o hb e => eb b o hb e) f0 f1 f3 f4 f5⟩
  self := fun _ _ _ _ _ st h => wpAny_pyIter_listiter st h
theorem turn_range {P : Program} {w : World} {K : PySem.W.Frag} {tg : Expr} (it : Addr) (lo : Int) (n : Nat) : Turn P w K tg (Itr lo n) [it] it (fun i h => IsRangeIter h it (lo + (i : Nat) * 1) ((n : Int) - (i : Nat)) 1) where
  mem := by simp
  obj := fun i h st b hb => by
    have e : b = it := by simpa using hb
    subst e
    exact ⟨_, st, fun v z => by
      have z' : Data.fields _ = Data.cell v := z
      cases z'⟩
  keep := fun i h h' st k => k it (by simp) _ st
  item := by
    intro X hP hw hK hc i pins s σ H E I hf st hg
    subst hP hw hK
    obtain ⟨f0, f1, f2, f3, f4, f5⟩ := hf it (by simp)
    have W := Walks.range (prog := X.prog) (w := X.w) (I.ok.hd hc) it lo 1 n
    refine W.item i s _ _ hg st fun v h' tk hv st' kk => ?_
    obtain ⟨t, rfl⟩ := hv
    have I1 : Inv X pins σ H { s with heap := h', toks := tk } := I.turned (fun b o hb e => kk b o (by simpa using hb) e) f0 f1 f3 f4 f5
    refine ⟨_, rfl, go_of (s := { s with heap := h', toks := tk }) (n := "range_iterator") st' rfl rfl (by decide) ⟨.int (lo + i), H, I1, ⟨t, ?_⟩, ⟨rfl, rfl⟩, st', fun b hb => (hf b hb).1⟩⟩
    rw [Int.mul_one]
  done := by
    intro X hP hw hK hc i pins s σ H E I hf st hg
    subst hP hw hK
    obtain ⟨f0, f1, f2, f3, f4, f5⟩ := hf it (by simp)
    exact wpAny_pyNext_range_end (I.ok.hd hc) st (by have : n ≤ i := hg; (first | lia | omega)) fun h' eb => ⟨rfl, I.turned (t' := s.toks) (fun b o hb e => eb b o hb e) f0 f1 f3 f4 f5⟩
  self := fun _ _ _ _ _ st h => wpAny_pyIter_rangeiter st h
end L2

namespace L2
open PySem PySem.Spec PyProof.Rows
section
variable {X : Cx} {tg : Expr}
noncomputable def iList (K : PySem.W.Frag) (tl : TE) : TI := fun σ H R => tl σ H fun x H1 => ∃ a, x = .ref a ∧ (∃ xs, SqL K H1 a xs) ∧ R (Itl K a) H1
noncomputable def iTup (K : PySem.W.Frag) (tl : TE) : TI := fun σ H R => tl σ H fun x H1 => ∃ a, x = .ref a ∧ (∃ xs, SqT K H1 a xs) ∧ R (Itt K a) H1
theorem pi_list {l : Expr} {tl : TE} (hl : PE X l tl) : PI X tg l (iList X.K tl) := by
  refine ⟨?_⟩
  intro pins s σ H R I h
  refine thn (hl pins s σ H _ I h) fun v s1 hzz => ?_
  obtain ⟨x, H1, I1, r1, q1⟩ := hzz
  obtain ⟨a, e, ⟨xs, hq⟩, q⟩ := q1
  subst e
  cases r1
  obtain ⟨its, rv, p, hz⟩ := I1.list hq
  refine wpAny_pyIter_list p.isList ?_
  refine ⟨s1.heap.objs.size, [s1.heap.objs.size], _, _, H1, rfl, I1.kept (t' := s1.toks) fun b o e => Heap.get?_push_of_some _ e, turn_list a _, ⟨_, Heap.get?_push_size _ rfl, rfl, rfl⟩, fun b hb => ?_, q⟩
  have e : b = s1.heap.objs.size := by simpa using hb
  subst e
  exact I1.fpOk (Nat.le_refl _) (I1.hok.fresh (Nat.le_refl _))
theorem range_it {pins : List (Addr × Obj)} {σ : St} {H : Hp} {s : Shared} {R : It → Hp → Prop} {E : Value → Shared → Prop} {lo hi : Int} {t u v : Tok} {tk : Nat} (I : Inv X pins σ H s) (h1 : -(2 ^ 62) ≤ lo) (h2 : lo < 2 ^ 62) (h3 : -(2 ^ 62) ≤ hi) (h4 : hi < 2 ^ 62)
    (q : R (Itr lo (hi - lo).toNat) H) : wpAny (model X.prog X.w) X.A (pyIter (.ref s.heap.objs.size)) (PIE X pins σ tg R) E { s with heap := s.heap.push { cls := .type "range", data := .fields #[.int lo t, .int hi u, .int 1 v] }, toks := tk } := by
  refine wpAny_pyIter_range (IsRange.new ..) (small_one h1 h2 h3 h4) ?_
  have I1 : Inv X pins σ H { s with heap := s.heap.push { cls := .type "range", data := .fields #[.int lo t, .int hi u, .int 1 v] }, toks := tk } := I.kept fun b o e => Heap.get?_push_of_some _ e
  refine ⟨(s.heap.push { cls := .type "range", data := .fields #[.int lo t, .int hi u, .int 1 v] }).objs.size, [(s.heap.push { cls := .type "range", data := .fields #[.int lo t, .int hi u, .int 1 v] }).objs.size], _, _, H, rfl,
    I1.kept (t' := tk) fun b o e => Heap.get?_push_of_some _ e, turn_range _ lo (hi - lo).toNat, ?_, fun b hb => ?_, q⟩
  · have e1 : lo + ((0 : Nat) : Int) * 1 = lo := by simp
    have e2 : (((hi - lo).toNat : Nat) : Int) - ((0 : Nat) : Int) = Builtin.Range.rangeSize lo hi 1 := by rw [rangeSize_one]; split <;> (first | lia | omega)
    show IsRangeIter _ _ (lo + ((0 : Nat) : Int) * 1) ((((hi - lo).toNat : Nat) : Int) - ((0 : Nat) : Int)) 1
    rw [e1, e2]
    exact Heap.get?_push_size _ rfl
  · have e : b = (s.heap.push { cls := .type "range", data := .fields #[.int lo t, .int hi u, .int 1 v] }).objs.size := by simpa using hb
    subst e
    exact I1.fpOk (Nat.le_refl _) (I1.hok.fresh (Nat.le_refl _))
noncomputable def iRng1 (ta : TA) : TI := fun σ H R => ta σ H fun vs H1 => ∃ j : Int, vs = [.int j] ∧ -(2 ^ 62) ≤ j ∧ j < 2 ^ 62 ∧ R (Itr 0 j.toNat) H1
noncomputable def iRng2 (ta : TA) : TI := fun σ H R => ta σ H fun vs H1 => ∃ i j : Int, vs = [.int i, .int j] ∧ (-(2 ^ 62) ≤ i ∧ i < 2 ^ 62 ∧ -(2 ^ 62) ≤ j ∧ j < 2 ^ 62) ∧ R (Itr i (j - i).toNat) H1
theorem pi_range1 {a : Expr} {ta : TA} {p pos : Pos} (hg : Gl X "range") (hm : X.mg "range" = none) (ha : PA X [a] ta) (hs : starEach [a] X.env = [(false, eval a X.env)] := by rfl) : PI X tg (.Call (.Name "range" p) [a] [] pos) (iRng1 ta) := by
  refine ⟨?_⟩
  intro pins s σ H R I h
  refine Call_ (ld_blt I hg hm boot_range (PyProof.Rows.callWith_type1 (thn (ha pos pins s σ H _ I h) fun us s1 ⟨vs, H1, I1, r1, q1⟩ => ?_) hs rfl))
  obtain ⟨j, e, q1, q2, q⟩ := q1
  subst e
  cases r1 with
  | cons r rr =>
    cases rr
    obtain ⟨t, rfl⟩ := r
    exact call_range_1 (range_it I1 (by (first | lia | omega)) (by (first | lia | omega)) q1 q2 (by simpa using q))
theorem pi_range2 {a b : Expr} {ta : TA} {p pos : Pos} (hg : Gl X "range") (hm : X.mg "range" = none) (ha : PA X [a, b] ta) (hs : starEach [a, b] X.env = [(false, eval a X.env), (false, eval b X.env)] := by rfl) (hs2 : starEach [b] X.env = [(false, eval b X.env)] := by rfl) :
    PI X tg (.Call (.Name "range" p) [a, b] [] pos) (iRng2 ta) := by
  refine ⟨?_⟩
  intro pins s σ H R I h
  refine Call_ (ld_blt I hg hm boot_range (PyProof.Rows.callWith_type1 (thn (ha pos pins s σ H _ I h) fun us s1 ⟨vs, H1, I1, r1, q1⟩ => ?_) (by rw [hs, hs2]) (by rw [hs2]; rfl)))
  obtain ⟨i, j, e, ⟨q1, q2, q3, q4⟩, q⟩ := q1
  subst e
  cases r1 with
  | cons r rr =>
    cases rr with
    | cons r' rr =>
      cases rr
      obtain ⟨t, rfl⟩ := r
      obtain ⟨t', rfl⟩ := r'
      exact call_range_2 (range_it I1 q1 q2 q3 q4 q)

noncomputable def tFor (wi : TI) (g : TG) (tb : TS) : TS := fun D σ H => wi σ H fun J H1 => ∃ W : Nat → Nat → St → Hp → Prop, (∃ m, W 0 m σ H1) ∧ ∀ i m σ H, W i m σ H →
  (J.stop i H ∧ D.nx σ H) ∨ (J.go i H ∧ ∃ N : St → Hp → Prop, (∀ σ' H', N σ' H' → ∃ m', m' < m ∧ W (i + 1) m' σ' H') ∧ ∀ x H', J.yld i H x H' → g x σ H' fun σ2 H2 => tb { D with nx := N, ct := N, bk := D.nx } σ2 H2)
noncomputable def pinsAt (fp : List Addr) (h : Heap) : List (Addr × Obj) := fp.filterMap fun b => (h.get? b).map fun o => (b, o)
theorem mem_pinsAt {fp : List Addr} {h : Heap} {b : Addr} {o : Obj} (hb : b ∈ fp) (e : h.get? b = some o) : (b, o) ∈ pinsAt fp h := List.mem_filterMap.mpr ⟨b, hb, by rw [e]; rfl⟩
theorem of_pinsAt {fp : List Addr} {h : Heap} {p : Addr × Obj} (hp : p ∈ pinsAt fp h) : p.1 ∈ fp ∧ h.get? p.1 = some p.2 := by
  obtain ⟨b, hb, e⟩ := List.mem_filterMap.mp hp
  cases q : h.get? b with
  | none => rw [q] at e; cases e
  | some o =>
    rw [q] at e
    have e' : (b, o) = p := Option.some.inj e
    subst e'
    exact ⟨hb, q⟩
theorem Inv.pinned {pins : List (Addr × Obj)} {σ : St} {H : Hp} {s : Shared} {fp : List Addr} (I : Inv X pins σ H s) (hf : ∀ b ∈ fp, FpOk X pins H b) (ho : ∀ b ∈ fp, ∃ o, s.heap.get? b = some o ∧ ∀ v, o.data ≠ .cell v) : Inv X (pins ++ pinsAt fp s.heap) σ H s :=
  I.pins_of fun p hp => (List.mem_append.mp hp).elim (fun z => I.pin p (List.mem_append_right _ z)) fun z => by
    obtain ⟨hb, e⟩ := of_pinsAt z
    obtain ⟨f0, f1, f2, _⟩ := hf p.1 hb
    obtain ⟨o, e', d⟩ := ho p.1 hb
    rw [e] at e'; cases e'
    exact ⟨e, f0, f1, f2, d⟩
theorem Inv.unpinned {pins pl : List (Addr × Obj)} {σ : St} {H : Hp} {s : Shared} (I : Inv X (pins ++ pl) σ H s) : Inv X pins σ H s := I.pins_of fun p hp => I.pin p (List.mem_append_right _ (List.mem_append_left _ hp))
theorem ps_for {iter : Expr} {body : List Stmt} {wi : TI} {g : TG} {tb : TS} {pos : Pos} (hp : PassesOwn (model X.prog X.w) X.A X.env X.xe) (hc : X.calm = true) (hi : PI X tg iter wi) (hg : PG X tg g) (hb : PSs X body tb)
    (hs : ∀ x, foldedSetIterable iter X.env x = pure x := by intro _; rfl) : PS X (.For tg iter body [] pos) (tFor wi g tb) := by
  refine ⟨?_⟩
  intro pins s σ H D I h
  refine wpAny_For (thn (hi pins s σ H _ I h) fun v s1 h1 => thn h1 fun itv s2 h2 => ?_) hs
  obtain ⟨it, fp, tn, J, H2, e, I2, T, st2, f2, W, ⟨m0, w0⟩, turn⟩ := h2
  subst e
  -- what stays true of the iterator's objects through the loop
  have stat : ∀ {H' : Hp}, (∀ b ∈ fp, H' b = none) → ∀ b ∈ fp, FpOk X pins H' b := fun hn b hb => ⟨hn b hb, (f2 b hb).2⟩
  refine codeAny_forLoop_any (fun n s' => ∃ i σ' H', Inv X pins σ' H' s' ∧ tn i s'.heap ∧ (∀ b ∈ fp, H' b = none) ∧ W i n σ' H') ?_ m0 ⟨0, σ, H2, I2, st2, fun b hb => (f2 b hb).1, w0⟩
  rintro n s3 ⟨i, σ3, H3, I3, st3, fr3, w3⟩
  rcases turn i n σ3 H3 w3 with ⟨stop, qn⟩ | ⟨go, N, hN, step⟩
  · refine wpAny_passesOwn hp (thn (T.done X rfl rfl rfl hc i pins s3 σ3 H3 X.xe I3 (stat fr3) st3 stop) fun r s4 hzz => ?_)
    obtain ⟨hr, I4⟩ := hzz
    subst hr
    exact wpAny_execs_nil ⟨σ3, H3, I4, qn⟩
  · refine wpAny_passesOwn hp (thn (T.item X rfl rfl rfl hc i pins s3 σ3 H3 X.xe I3 (stat fr3) st3 go) fun r s4 hzz => ?_)
    obtain ⟨u, hr, h4⟩ := hzz
    subst hr
    refine wpAny_passesOwn hp (thn h4 fun _ s5 hzz => ?_)
    obtain ⟨x, H5, I5, r5, y5, st5, fr5⟩ := hzz
    have I5' := I5.pinned (stat fr5) (T.obj _ _ st5)
    refine wpAny_passesOwn hp (thn (hg _ s5 σ3 H5 x u _ I5' r5 (step x H5 y5)) fun _ s6 hzz => ?_)
    obtain ⟨σ6, H6, I6, q6⟩ := hzz
    refine wpAny_passesOwn hp (thn (hb _ s6 σ6 H6 _ I6 q6) fun f s7 q7 => ?_)
    have again : ∀ {σ7 : St} {H7 : Hp}, Inv X (pins ++ pinsAt fp s5.heap) σ7 H7 s7 → N σ7 H7 → ∃ m, m < n ∧ ∃ i σ' H', Inv X pins σ' H' s7 ∧ tn i s7.heap ∧ (∀ b ∈ fp, H' b = none) ∧ W i m σ' H' := fun {σ7 H7} I7 n7 => by
      obtain ⟨m', hm, w7⟩ := hN σ7 H7 n7
      refine ⟨m', hm, i + 1, σ7, H7, I7.unpinned, T.keep _ _ _ st5 fun b hb o e => (I7.pin (b, o) (List.mem_append_right _ (List.mem_append_right _ (mem_pinsAt hb e)))).1, fun b hb => ?_, w7⟩
      obtain ⟨o, e, d⟩ := T.obj _ _ st5 b hb
      exact (I7.pin (b, o) (List.mem_append_right _ (List.mem_append_right _ (mem_pinsAt hb e)))).2.1
    cases f with
    | next => obtain ⟨σ7, H7, I7, n7⟩ := q7; exact again I7 n7
    | cont => obtain ⟨σ7, H7, I7, n7⟩ := q7; exact again I7 n7
    | brk => obtain ⟨σ7, H7, I7, q7⟩ := q7; exact ⟨σ7, H7, I7.unpinned, q7⟩
    | ret v => obtain ⟨x7, σ7, H7, I7, r7, q7⟩ := q7; exact ⟨x7, σ7, H7, I7.unpinned, r7, q7⟩
end

theorem for_list {K : PySem.W.Frag} {a : Addr} {xs : List V} {g : TG} {tb : TS} {D : Ends} {σ : St} {H : Hp} (Pv : Nat → St → Hp → Prop) (h0 : Pv 0 σ H) (hl : ∀ i σ H, i ≤ xs.length → Pv i σ H → SqL K H a xs)
    (hs : ∀ i x σ H, xs[i]? = some x → Pv i σ H → g x σ H fun σ2 H2 => tb { D with nx := Pv (i + 1), ct := Pv (i + 1), bk := D.nx } σ2 H2) (hd : ∀ σ H, Pv xs.length σ H → D.nx σ H) :
    ∃ W : Nat → Nat → St → Hp → Prop, (∃ m, W 0 m σ H) ∧ ∀ i m σ H, W i m σ H →
      ((Itl K a).stop i H ∧ D.nx σ H) ∨ ((Itl K a).go i H ∧ ∃ N : St → Hp → Prop, (∀ σ' H', N σ' H' → ∃ m', m' < m ∧ W (i + 1) m' σ' H') ∧ ∀ x H', (Itl K a).yld i H x H' → g x σ H' fun σ2 H2 => tb { D with nx := N, ct := N, bk := D.nx } σ2 H2) := by
  refine ⟨fun i m σ H => m = xs.length - i ∧ i ≤ xs.length ∧ Pv i σ H, ⟨xs.length, by simp, Nat.zero_le _, h0⟩, ?_⟩
  rintro i m σ H ⟨rfl, hi, p⟩
  have q := hl i σ H hi p
  by_cases hlt : i < xs.length
  · refine .inr ⟨⟨xs, xs[i], q, by simp [hlt]⟩, Pv (i + 1), fun σ' H' p' => ⟨xs.length - (i + 1), by (first | lia | omega), rfl, hlt, p'⟩, fun x H' y => ?_⟩
    obtain ⟨e, y⟩ := y
    subst e
    exact hs i x σ _ (y xs q) p
  · have e : i = xs.length := by (first | lia | omega)
    subst e
    exact .inl ⟨⟨xs, q, Nat.le_refl _⟩, hd σ H p⟩
theorem for_range {lo : Int} {n : Nat} {g : TG} {tb : TS} {D : Ends} {σ : St} {H : Hp} (Pv : Nat → St → Hp → Prop) (h0 : Pv 0 σ H)
    (hs : ∀ i σ H, i < n → Pv i σ H → g (.int (lo + i)) σ H fun σ2 H2 => tb { D with nx := Pv (i + 1), ct := Pv (i + 1), bk := D.nx } σ2 H2) (hd : ∀ σ H, Pv n σ H → D.nx σ H) :
    ∃ W : Nat → Nat → St → Hp → Prop, (∃ m, W 0 m σ H) ∧ ∀ i m σ H, W i m σ H →
      ((Itr lo n).stop i H ∧ D.nx σ H) ∨ ((Itr lo n).go i H ∧ ∃ N : St → Hp → Prop, (∀ σ' H', N σ' H' → ∃ m', m' < m ∧ W (i + 1) m' σ' H') ∧ ∀ x H', (Itr lo n).yld i H x H' → g x σ H' fun σ2 H2 => tb { D with nx := N, ct := N, bk := D.nx } σ2 H2) := by
  refine ⟨fun i m σ H => m = n - i ∧ i ≤ n ∧ Pv i σ H, ⟨n, by simp, Nat.zero_le _, h0⟩, ?_⟩
  rintro i m σ H ⟨rfl, hi, p⟩
  by_cases hlt : i < n
  · refine .inr ⟨hlt, Pv (i + 1), fun σ' H' p' => ⟨n - (i + 1), by (first | lia | omega), rfl, hlt, p'⟩, fun x H' y => ?_⟩
    obtain ⟨e, y⟩ := y
    subst e y
    exact hs i σ _ hlt p
  · have e : i = n := by (first | lia | omega)
    subst e
    exact .inl ⟨Nat.le_refl _, hd σ H p⟩
end L2

namespace L2
open PySem PySem.Spec PyProof.Rows

noncomputable abbrev R2 := V → V → Hp → VK → Prop
noncomputable def OpR (X : Cx) (f : Value → Value → Sem Value) (r : R2) : Prop :=
  ∀ (pins : List (Addr × Obj)) (s : Shared) (σ : St) (H : Hp) (x y : V) (v u : Value) (Q : VK), Inv X pins σ H s → RelV x v → RelV y u → r x y H Q →
    wpAny (model X.prog X.w) X.A (f v u) (EP X pins σ Q) X.xe s
noncomputable def UnR (X : Cx) (f : Value → Sem Value) (r : V → Hp → VK → Prop) : Prop :=
  ∀ (pins : List (Addr × Obj)) (s : Shared) (σ : St) (H : Hp) (x : V) (v : Value) (Q : VK), Inv X pins σ H s → RelV x v → r x H Q →
    wpAny (model X.prog X.w) X.A (f v) (EP X pins σ Q) X.xe s
noncomputable def CallR (X : Cx) (f : Value) (r : List V → Hp → VK → Prop) : Prop :=
  ∀ (pins : List (Addr × Obj)) (s : Shared) (σ : St) (H : Hp) (xs : List V) (us : List Value) (Q : VK), Inv X pins σ H s → Vals xs us → r xs H Q →
    wpAny (model X.prog X.w) X.A (call f us) (EP X pins σ Q) X.xe s
noncomputable def TruR (X : Cx) (r : V → Hp → (Bool → Hp → Prop) → Prop) : Prop :=
  ∀ (pins : List (Addr × Obj)) (s : Shared) (σ : St) (H : Hp) (x : V) (v : Value) (Q : Bool → Hp → Prop), Inv X pins σ H s → RelV x v → r x H Q →
    wpAny (model X.prog X.w) X.A (truthy v) (TP X pins σ Q) X.xe s

noncomputable def tOp (r : R2) (ta tb : TE) : TE := fun σ H Q => ta σ H fun x H1 => tb σ H1 fun y H2 => r x y H2 Q
noncomputable def tUn (r : V → Hp → VK → Prop) (ta : TE) : TE := fun σ H Q => ta σ H fun x H1 => r x H1 Q
noncomputable def rI (C : Int → Int → Prop) (g : Int → Int → V) : R2 := fun x y H Q => ∃ i j, x = .int i ∧ y = .int j ∧ C i j ∧ Q (g i j) H
noncomputable def rI0 (g : Int → Int → V) : R2 := fun x y H Q => ∃ i j, x = .int i ∧ y = .int j ∧ Q (g i j) H
noncomputable def rU (g : Int → V) : V → Hp → VK → Prop := fun x H Q => ∃ i, x = .int i ∧ Q (g i) H

section
variable {X : Cx} {a b c : Expr} {ta tb tc : TE} {pos : Pos}

theorem binT (ha : PE X a ta) (hb : PE X b tb) {pins : List (Addr × Obj)} {s : Shared} {σ : St} {H : Hp} {R : V → V → Hp → Prop} (I : Inv X pins σ H s)
    (h : ta σ H fun x H1 => tb σ H1 fun y H2 => R x y H2) {Q : Value → Shared → Prop} {f : Value → Value → Sem Value}
    (hf : ∀ v u s2 x y H2, Inv X pins σ H2 s2 → RelV x v → RelV y u → R x y H2 → wpAny (model X.prog X.w) X.A (f v u) Q X.xe s2) :
    wpAny (model X.prog X.w) X.A (eval a X.env) (fun v s₁ => wpAny (model X.prog X.w) X.A (eval b X.env) (fun u s₂ => wpAny (model X.prog X.w) X.A (f v u) Q X.xe s₂) X.xe s₁) X.xe s := by
  refine thn (ha pins s σ H _ I h) fun v s1 hzz => ?_
  obtain ⟨x, H1, I1, r1, q1⟩ := hzz
  refine thn (hb pins s1 σ H1 _ I1 q1) fun u s2 hzz => ?_
  obtain ⟨y, H2, I2, r2, q2⟩ := hzz
  exact hf v u s2 x y H2 I2 r1 r2 q2

theorem pe_op {op : Operator} {r : R2} (ho : OpR X (binaryOp op) r) (ha : PE X a ta) (hb : PE X b tb) : PE X (.BinOp a op b pos) (tOp r ta tb) := by
  refine ⟨?_⟩
  intro pins s σ H Q I h
  exact wpAny_BinOp (binT ha hb I h fun v u s2 x y H2 I2 rx ry q => ho pins s2 σ H2 x y v u Q I2 rx ry q)
theorem pe_un {op : UnaryOp} {r : V → Hp → VK → Prop} (ho : UnR X (unaryOp op) r) (ha : PE X a ta) : PE X (.UnaryOp op a pos) (tUn r ta) := by
  refine ⟨?_⟩
  intro pins s σ H Q I h
  exact UnaryOp_ (thn (ha pins s σ H _ I h) fun v s1 ⟨x, H1, I1, r1, q1⟩ => ho pins s1 σ H1 x v Q I1 r1 q1)
theorem opI {f : Value → Value → Sem Value} {C : Int → Int → Prop} {g : Int → Int → Int}
    (rule : ∀ (i j : Int) (t u : Tok) (s : Shared) (Q : Value → Shared → Prop) (E : Value → Shared → Prop), C i j → Q (.int (g i j) s.toks) { s with toks := s.toks + 1 } → wpAny (model X.prog X.w) X.A (f (.int i t) (.int j u)) Q E s) :
    OpR X f (rI C fun i j => .int (g i j)) := by
  intro pins s σ H x y v u Q I rx ry h
  obtain ⟨i, j, rfl, rfl, hc, q⟩ := h
  obtain ⟨t, rfl⟩ := rx
  obtain ⟨t', rfl⟩ := ry
  exact rule i j t t' s _ _ hc ⟨.int (g i j), H, I.tok _, ⟨_, rfl⟩, q⟩
theorem opI0 {f : Value → Value → Sem Value} {g : Int → Int → Int}
    (rule : ∀ (i j : Int) (t u : Tok) (s : Shared) (Q : Value → Shared → Prop) (E : Value → Shared → Prop), Q (.int (g i j) s.toks) { s with toks := s.toks + 1 } → wpAny (model X.prog X.w) X.A (f (.int i t) (.int j u)) Q E s) :
    OpR X f (rI0 fun i j => .int (g i j)) := by
  intro pins s σ H x y v u Q I rx ry h
  obtain ⟨i, j, rfl, rfl, q⟩ := h
  obtain ⟨t, rfl⟩ := rx
  obtain ⟨t', rfl⟩ := ry
  exact rule i j t t' s _ _ ⟨.int (g i j), H, I.tok _, ⟨_, rfl⟩, q⟩
theorem opB0 {f : Value → Value → Sem Value} {g : Int → Int → Bool}
    (rule : ∀ (i j : Int) (t u : Tok) (s : Shared) (Q : Value → Shared → Prop) (E : Value → Shared → Prop), Q (.bool (g i j)) s → wpAny (model X.prog X.w) X.A (f (.int i t) (.int j u)) Q E s) :
    OpR X f (rI0 fun i j => .bl (g i j)) := by
  intro pins s σ H x y v u Q I rx ry h
  obtain ⟨i, j, rfl, rfl, q⟩ := h
  obtain ⟨t, rfl⟩ := rx
  obtain ⟨t', rfl⟩ := ry
  exact rule i j t t' s _ _ ⟨.bl (g i j), H, I, rfl, q⟩

noncomputable def CDiv (i j : Int) : Prop := 0 < j ∧ j < 1073741824
noncomputable def CDivN (i j : Int) : Prop := j ≠ 0 ∧ j.natAbs < 1073741824
noncomputable def CPow (i j : Int) : Prop := 0 ≤ j ∧ j ≤ 1000000 ∧ i.natAbs < 2 ^ 64
noncomputable def CMul (i j : Int) : Prop := (-(2 ^ 64) < i ∧ i < 2 ^ 64) ∨ (-(2 ^ 64) < j ∧ j < 2 ^ 64)
theorem CMul.ok {i j : Int} (h : CMul i j) : IntMulOk i j := by
  rcases h with ⟨h1, h2⟩ | ⟨h1, h2⟩
  · exact .of_left (intBits_le_64 h1 h2)
  · exact .of_right (intBits_le_64 h1 h2)
theorem op_add : OpR X (binaryOp .Add) (rI0 fun i j => .int (i + j)) := opI0 fun _ _ _ _ _ _ _ q => add_int q
theorem op_sub : OpR X (binaryOp .Sub) (rI0 fun i j => .int (i - j)) := opI0 fun _ _ _ _ _ _ _ q => sub_int q
theorem op_mul : OpR X (binaryOp .Mult) (rI CMul fun i j => .int (i * j)) := opI fun _ _ _ _ _ _ _ hc q => mul_int q hc.ok
theorem op_mod : OpR X (binaryOp .Mod) (rI (fun _ j => 0 < j) fun i j => .int (i % j)) := opI fun i j _ _ _ _ _ hc q => by
  have h1 : (0 : Int) < j := hc
  exact mod_int' (by (first | lia | omega)) (by rw [Int.fmod_eq_emod_of_nonneg i (by (first | lia | omega))]; exact q)
theorem op_pow : OpR X (binaryOp .Pow) (rI CPow fun i j => .int (i ^ j.toNat)) := opI fun _ _ _ _ _ _ _ hc q => pow_int_small hc.1 hc.2.1 hc.2.2 q
theorem unI {f : Value → Sem Value} {g : Int → Int}
    (rule : ∀ (i : Int) (t : Tok) (s : Shared) (Q : Value → Shared → Prop) (E : Value → Shared → Prop), Q (.int (g i) s.toks) { s with toks := s.toks + 1 } → wpAny (model X.prog X.w) X.A (f (.int i t)) Q E s) :
    UnR X f (rU fun i => .int (g i)) := by
  intro pins s σ H x v Q I rx h
  obtain ⟨i, rfl, q⟩ := h
  obtain ⟨t, rfl⟩ := rx
  exact rule i t s _ _ ⟨.int (g i), H, I.tok _, ⟨_, rfl⟩, q⟩
theorem un_neg : UnR X (unaryOp .USub) (rU fun i => .int (-i)) := unI fun _ _ _ _ _ q => neg_int q
end

noncomputable def scal : V → V → Bool
  | .non, .non => true | .non, .int _ => true | .int _, .non => true | .non, .bl _ => true | .bl _, .non => true | .non, .str _ => true | .str _, .non => true
  | .int _, .int _ => true | .bl _, .bl _ => true | .str _, .str _ => true | .byt _, .byt _ => true
  | .int _, .str _ => true | .str _, .int _ => true | .bl _, .str _ => true | .str _, .bl _ => true
  | _, _ => false
noncomputable def rEq : R2 := fun x y H Q => scal x y = true ∧ Q (.bl (decide (x = y))) H
noncomputable def rNe : R2 := fun x y H Q => scal x y = true ∧ Q (.bl (!decide (x = y))) H

theorem dec_int {i j : Int} : decide (V.int i = V.int j) = (i == j) := by
  rw [Bool.eq_iff_iff]
  simp
  exact ⟨fun h => by injection h, fun h => by rw [h]⟩
theorem dec_bl {i j : Bool} : decide (V.bl i = V.bl j) = (i == j) := by
  rw [Bool.eq_iff_iff]
  simp
  exact ⟨fun h => by injection h, fun h => by rw [h]⟩
theorem dec_str {i j : Str} : decide (V.str i = V.str j) = (i == j) := by
  rw [Bool.eq_iff_iff]
  simp
  exact ⟨fun h => by injection h, fun h => by rw [h]⟩
theorem dec_byt {i j : Array UInt8} : decide (V.byt i = V.byt j) = (i.toList == j.toList) := by
  rw [Bool.eq_iff_iff]
  cases i
  cases j
  simp
  exact ⟨fun h => by injection h with h; injection h, fun h => by rw [h]⟩

section
variable {X : Cx} {a b c : Expr} {ta tb tc : TE} {pos : Pos}
theorem fin_bl {pins : List (Addr × Obj)} {σ : St} {H : Hp} {s : Shared} {Q : VK} {k k' : Bool} (I : Inv X pins σ H s) (q : Q (.bl k) H) (e : k = k') : EP X pins σ Q (.bool k') s := by
  subst e
  exact ⟨.bl k, H, I, rfl, q⟩
theorem op_eq : OpR X (compareOp .Eq) rEq := by
  intro pins s σ H x y v u Q I rx ry h
  obtain ⟨hs, q⟩ := h
  cases x with
  | non =>
    cases rx
    cases y with
    | non => cases ry; exact PySem.EqNone.eq_none_none (fin_bl I q (by simp))
    | bl j => cases ry; exact PySem.EqNone.eq_none_bool (fin_bl I q (by simp))
    | int j => obtain ⟨t', rfl⟩ := ry; exact PySem.EqNone.eq_none_int (fin_bl I q (by simp))
    | str j => obtain ⟨t', rfl⟩ := ry; exact PySem.EqNone.eq_none_str (fin_bl I q (by simp))
    | _ => exact absurd (show false = true from hs) Bool.false_ne_true
  | bl i =>
    cases rx
    cases y with
    | non => cases ry; exact PySem.EqNone.eq_bool_none (fin_bl I q (by simp))
    | bl j => cases ry; exact eq_bool (fin_bl I q dec_bl)
    | str j => obtain ⟨t', rfl⟩ := ry; exact PySem.EqMixed.eq_bool_str (fin_bl I q (by simp))
    | _ => exact absurd (show false = true from hs) Bool.false_ne_true
  | int i =>
    obtain ⟨t, rfl⟩ := rx
    cases y with
    | non => cases ry; exact PySem.EqNone.eq_int_none (fin_bl I q (by simp))
    | int j => obtain ⟨t', rfl⟩ := ry; exact eq_int (fin_bl I q dec_int)
    | str j => obtain ⟨t', rfl⟩ := ry; exact PySem.EqMixed.eq_int_str (fin_bl I q (by simp))
    | _ => exact absurd (show false = true from hs) Bool.false_ne_true
  | str i =>
    obtain ⟨t, rfl⟩ := rx
    cases y with
    | non => cases ry; exact PySem.EqNone.eq_str_none (fin_bl I q (by simp))
    | bl j => cases ry; exact PySem.EqMixed.eq_str_bool (fin_bl I q (by simp))
    | int j => obtain ⟨t', rfl⟩ := ry; exact PySem.EqMixed.eq_str_int (fin_bl I q (by simp))
    | str j => obtain ⟨t', rfl⟩ := ry; exact eq_str (fin_bl I q dec_str)
    | _ => exact absurd (show false = true from hs) Bool.false_ne_true
  | byt i =>
    obtain ⟨t, rfl⟩ := rx
    cases y with
    | byt j => obtain ⟨t', rfl⟩ := ry; exact PySem.W.eq_bytes (fin_bl I q dec_byt)
    | _ => exact absurd (show false = true from hs) Bool.false_ne_true
  | _ => cases y <;> exact absurd (show false = true from hs) Bool.false_ne_true
theorem op_ne : OpR X (compareOp .NotEq) rNe := by
  intro pins s σ H x y v u Q I rx ry h
  obtain ⟨hs, q⟩ := h
  cases x with
  | non =>
    cases rx
    cases y with
    | non => cases ry; exact PySem.EqNone.ne_none_none (fin_bl I q (by simp))
    | bl j => cases ry; exact PySem.EqNone.ne_none_bool (fin_bl I q (by simp))
    | int j => obtain ⟨t', rfl⟩ := ry; exact PySem.EqNone.ne_none_int (fin_bl I q (by simp))
    | str j => obtain ⟨t', rfl⟩ := ry; exact PySem.EqNone.ne_none_str (fin_bl I q (by simp))
    | _ => exact absurd (show false = true from hs) Bool.false_ne_true
  | bl i =>
    cases rx
    cases y with
    | non => cases ry; exact PySem.EqNone.ne_bool_none (fin_bl I q (by simp))
    | bl j => cases ry; exact ne_bool (fin_bl I q (congrArg not dec_bl))
    | str j => obtain ⟨t', rfl⟩ := ry; exact PySem.EqMixed.ne_bool_str (fin_bl I q (by simp))
    | _ => exact absurd (show false = true from hs) Bool.false_ne_true
  | int i =>
    obtain ⟨t, rfl⟩ := rx
    cases y with
    | non => cases ry; exact PySem.EqNone.ne_int_none (fin_bl I q (by simp))
    | int j => obtain ⟨t', rfl⟩ := ry; exact ne_int (fin_bl I q (congrArg not dec_int))
    | str j => obtain ⟨t', rfl⟩ := ry; exact PySem.EqMixed.ne_int_str (fin_bl I q (by simp))
    | _ => exact absurd (show false = true from hs) Bool.false_ne_true
  | str i =>
    obtain ⟨t, rfl⟩ := rx
    cases y with
    | non => cases ry; exact PySem.EqNone.ne_str_none (fin_bl I q (by simp))
    | bl j => cases ry; exact PySem.EqMixed.ne_str_bool (fin_bl I q (by simp))
    | int j => obtain ⟨t', rfl⟩ := ry; exact PySem.EqMixed.ne_str_int (fin_bl I q (by simp))
    | str j => obtain ⟨t', rfl⟩ := ry; exact ne_str (fin_bl I q (congrArg not dec_str))
    | _ => exact absurd (show false = true from hs) Bool.false_ne_true
  | byt i =>
    obtain ⟨t, rfl⟩ := rx
    cases y with
    | byt j => obtain ⟨t', rfl⟩ := ry; exact PySem.W.ne_bytes (fin_bl I q (congrArg not dec_byt))
    | _ => exact absurd (show false = true from hs) Bool.false_ne_true
  | _ => cases y <;> exact absurd (show false = true from hs) Bool.false_ne_true

theorem op_lt : OpR X (compareOp .Lt) (rI0 fun i j => .bl (decide (i < j))) := opB0 fun _ _ _ _ _ _ _ q => lt_int q
theorem op_le : OpR X (compareOp .LtE) (rI0 fun i j => .bl (decide (i ≤ j))) := opB0 fun _ _ _ _ _ _ _ q => le_int q
theorem op_gt : OpR X (compareOp .Gt) (rI0 fun i j => .bl (decide (j < i))) := opB0 fun _ _ _ _ _ _ _ q => gt_int q
theorem op_ge : OpR X (compareOp .GtE) (rI0 fun i j => .bl (decide (j ≤ i))) := opB0 fun _ _ _ _ _ _ _ q => ge_int q
theorem op_isN : OpR X (compareOp .Is) (fun x y H Q => y = .non ∧ Q (.bl (decide (x = .non))) H) := by
  intro pins s σ H x y v u Q I rx ry h
  obtain ⟨rfl, q⟩ := h
  cases ry
  refine is_none_gen (fin_bl I q ?_)
  cases x <;> first
    | (cases rx; rfl)
    | (obtain ⟨t, rfl⟩ := rx; rfl)
theorem op_notN : OpR X (compareOp .IsNot) (fun x y H Q => y = .non ∧ Q (.bl (!decide (x = .non))) H) := by
  intro pins s σ H x y v u Q I rx ry h
  obtain ⟨rfl, q⟩ := h
  cases ry
  refine isnot_none_gen (fin_bl I q ?_)
  cases x <;> first
    | (cases rx; rfl)
    | (obtain ⟨t, rfl⟩ := rx; rfl)

noncomputable def isObj : HO → Bool
  | .lst _ => true
  | .ins _ _ _ => true
  | _ => false
theorem nomark (b : Expr) {op : CmpOp} (h : op ≠ .In := by decide) (h2 : op ≠ .NotIn := by decide) : behindInMarks op b = false := by
  have e1 : (op == CmpOp.In) = false := by cases op <;> first | rfl | exact absurd rfl h
  have e2 : (op == CmpOp.NotIn) = false := by cases op <;> first | rfl | exact absurd rfl h2
  cases b <;> simp [behindInMarks, e1, e2]
theorem pe_cmpR {op : CmpOp} {r : R2} (ho : OpR X (compareOp op) r) (ha : PE X a ta) (hb : PE X b tb) (hm : behindInMarks op b = false) : PE X (.Compare a [op] [b] pos) (tOp r ta tb) := by
  refine ⟨?_⟩
  intro pins s σ H Q I h
  exact wpAny_Compare1 (binT ha hb I h fun v u s2 x y H2 I2 rx ry q => ho pins s2 σ H2 x y v u Q I2 rx ry q) hm
noncomputable def tTest (t : TE) : TT := fun σ H Q => t σ H fun x H' => ∃ k, x = .bl k ∧ Q k H'
theorem pt_cmpR {op : CmpOp} {r : R2} (ho : OpR X (compareOp op) r) (ha : PE X a ta) (hb : PE X b tb) (hm : behindInMarks op b = false) : PT X (.Compare a [op] [b] pos) (tTest (tOp r ta tb)) := by
  refine ⟨?_⟩
  intro pins s σ H Q I h
  refine wpAny_isTrue_Compare1 (thn (ha pins s σ H _ I h) fun v s1 ⟨x, H1, I1, r1, q1⟩ => thn (hb pins s1 σ H1 _ I1 q1) fun u s2 ⟨y, H2, I2, r2, q2⟩ =>
    thn (ho pins s2 σ H2 x y v u _ I2 r1 r2 q2) fun c s3 ⟨z, H3, I3, r3, k, e, q3⟩ => ?_) hm
  subst e
  cases r3
  exact wpAny_truthy_bool ⟨H3, I3, q3⟩
noncomputable def tChain (r r' : R2) (ta tb tc : TE) : TE := fun σ H Q => ta σ H fun x H1 => tb σ H1 fun y H2 => r x y H2 fun z H3 => ∃ k, z = .bl k ∧
  (if k = true then tc σ H3 fun w' H4 => r' y w' H4 Q else Q (.bl false) H3)
theorem pt_chain {op op' : CmpOp} {r r' : R2} (ho : OpR X (compareOp op) r) (ho' : OpR X (compareOp op') r') (ha : PE X a ta) (hb : PE X b tb) (hc : PE X c tc)
    (hm : lastMarks [op, op'] [b, c] = false := by with_unfolding_all rfl) : PT X (.Compare a [op, op'] [b, c] pos) (tTest (tChain r r' ta tb tc)) := by
  refine ⟨?_⟩
  intro pins s σ H Q I h
  refine isTrue_chain (thn (ha pins s σ H _ I h) fun v s1 ⟨x, H1, I1, r1, q1⟩ => test_link (thn (hb pins s1 σ H1 _ I1 q1) fun u s2 ⟨y, H2, I2, r2, q2⟩ =>
    thn (ho pins s2 σ H2 x y v u _ I2 r1 r2 q2) fun d s3 ⟨z, H3, I3, r3, k, e, q3⟩ => ?_)) hm
  subst e
  cases r3
  refine wpAny_truthy_bool ?_
  cases k with
  | false =>
    obtain ⟨k', e', q'⟩ := q3
    cases e'
    exact ite_ff ⟨H3, I3, q'⟩
  | true =>
    refine ite_tt (test_last (thn (hc pins s3 σ H3 _ I3 q3) fun w' s4 ⟨z', H4, I4, r4, q4⟩ => thn (ho' pins s4 σ H4 y z' u w' _ I4 r2 r4 q4) fun d' s5 hzz => ?_))
    obtain ⟨z2, H5, I5, r5, k2, e2, q5⟩ := hzz
    subst e2
    cases r5
    exact wpAny_truthy_bool ⟨H5, I5, q5⟩

noncomputable def TruV (K : PySem.W.Frag) (x : V) (H : Hp) (k : Bool) : Prop :=
  match x with
  | .non => k = false
  | .bl b => k = b
  | .int i => k = (i != 0)
  | .str y => y.length ≤ sizeLine ∧ k = ((y.length : Int) != 0)
  | .byt y => y.size ≤ sizeLine ∧ k = ((y.size : Int) != 0)
  | .ref p => (∃ xs, SqL K H p xs ∧ k = !xs.isEmpty) ∨ (∃ xs, SqT K H p xs ∧ k = !xs.isEmpty) ∨ ∃ kvs, H p = some (.dK kvs) ∧ k = !kvs.isEmpty
  | _ => False
theorem isEmpty_kv {κ : Type} {kvs : List (κ × V)} {vs : List (κ × Value)} (r : KV kvs vs) : (!vs.isEmpty) = !kvs.isEmpty := by
  cases r <;> rfl
theorem isEmpty_of {xs : List V} {its : List Value} (r : Vals xs its) : (!its.toArray.isEmpty) = !xs.isEmpty := by
  cases r <;> simp
theorem line63 : (sizeLine : Nat) < 2 ^ 63 := by rw [sizeLine_eq]; decide
theorem tru_ok : TruR X (fun x H Q => ∃ k, TruV X.K x H k ∧ Q k H) := by
  intro pins s σ H x v Q I rx h
  obtain ⟨k, e, q⟩ := h
  have hl := line63
  have hs : sizeLine = 16777216 := sizeLine_eq
  cases x with
  | non =>
    cases rx
    have e' : k = false := e
    subst e'
    exact truthy_none ⟨H, I, q⟩
  | bl b =>
    cases rx
    have e' : k = b := e
    subst e'
    exact wpAny_truthy_bool ⟨H, I, q⟩
  | int i =>
    obtain ⟨t, rfl⟩ := rx
    have e' : k = (i != 0) := e
    subst e'
    exact PySem.P.truthy_int ⟨H, I, q⟩
  | str y =>
    obtain ⟨t, rfl⟩ := rx
    obtain ⟨hy, e'⟩ : y.length ≤ sizeLine ∧ k = ((y.length : Int) != 0) := e
    subst e'
    exact PySem.P.truthy_str (by (first | lia | omega)) ⟨H, I.tok _, q⟩
  | byt y =>
    obtain ⟨t, rfl⟩ := rx
    obtain ⟨hy, e'⟩ : y.size ≤ sizeLine ∧ k = ((y.size : Int) != 0) := e
    subst e'
    exact PySem.W.truthy_bytes (by (first | lia | omega)) ⟨H, I.tok _, q⟩
  | ref p =>
    cases rx
    have e' : (∃ xs, SqL X.K H p xs ∧ k = !xs.isEmpty) ∨ (∃ xs, SqT X.K H p xs ∧ k = !xs.isEmpty) ∨ ∃ kvs, H p = some (.dK kvs) ∧ k = !kvs.isEmpty := e
    rcases e' with ⟨xs, hx, e'⟩ | ⟨xs, hx, e'⟩ | ⟨kvs, hx, e'⟩
    · subst e'
      obtain ⟨its, r, pl, hz⟩ := I.list hx
      have hlen := r.length
      exact wpAny_truthy_list pl.isList (by simp only [List.size_toArray]; (first | lia | omega)) ⟨H, I.tok _, by rw [isEmpty_of r]; exact q⟩
    · subst e'
      obtain ⟨its, r, pl, hz⟩ := I.tuple hx
      have hlen := r.length
      exact truthy_tuple pl (by simp only [List.size_toArray]; (first | lia | omega)) ⟨H, I.tok _, by rw [isEmpty_of r]; exact q⟩
    · subst e'
      obtain ⟨hz, hS, vs, r, m⟩ : kvs.length ≤ sizeLine ∧ (p == sysModules) = false ∧ ∃ vs, KV kvs vs ∧ s.heap.DictOf (mixKind X.prog X.w) p vs := I.hok p _ hx
      have hlen : kvs.length = vs.length := Paired.length r
      exact wpAny_truthy_dict hS m (by (first | lia | omega)) ⟨H, I.tok _, by rw [isEmpty_kv r]; exact q⟩
  | _ => exact (show False from e).elim
theorem pt_truth (ha : PE X a ta) (he : ∀ whole, isTrue a X.env whole = (do let v ← whole; standAt a.pos; holding [v] (truthy v))) :
    PT X a (fun σ H Q => ta σ H fun x H' => ∃ k, TruV X.K x H' k ∧ Q k H') := by
  refine ⟨?_⟩
  intro pins s σ H Q I h
  exact isTrue_plain (thn (ha pins s σ H _ I h) fun v s1 ⟨x, H1, I1, r1, q1⟩ => tru_ok pins s1 σ H1 x v Q I1 r1 q1) (he _)

noncomputable def PlainIxT (b : Expr) : Prop := ∀ o i, subscripted b false o i = operate [o, i] (getItem o i)
theorem vals1 {x : V} {us : List Value} (r : Vals [x] us) : ∃ u, us = [u] ∧ RelV x u := by
  cases r with
  | cons r1 r2 => cases r2; exact ⟨_, rfl, r1⟩
theorem vals2 {x y : V} {us : List Value} (r : Vals [x, y] us) : ∃ u w', us = [u, w'] ∧ RelV x u ∧ RelV y w' := by
  cases r with
  | cons r1 r2 =>
    cases r2 with
    | cons r3 r4 => cases r4; exact ⟨_, _, rfl, r1, r3⟩
theorem call_abs : CallR X (.builtin "abs") (fun xs H Q => ∃ i, xs = [.int i] ∧ Q (.int (if i < 0 then -i else i)) H) := by
  intro pins s σ H xs us Q I r h
  obtain ⟨i, rfl, q⟩ := h
  obtain ⟨u, rfl, t, rfl⟩ := vals1 r
  exact call_abs_int fun u tk => ⟨.int (if i < 0 then -i else i), H, I.tok _, ⟨_, rfl⟩, q⟩
theorem call_int1 : CallR X (.type "int") (fun xs H Q => (∃ i, xs = [.int i] ∧ Q (.int i) H) ∨ ∃ k, xs = [.bl k] ∧ Q (.int (if k then 1 else 0)) H) := by
  intro pins s σ H xs us Q I r h
  rcases h with ⟨i, rfl, q⟩ | ⟨k, rfl, q⟩
  · obtain ⟨u, rfl, t, rfl⟩ := vals1 r
    exact call_int_int ⟨.int i, H, I, ⟨_, rfl⟩, q⟩
  · obtain ⟨u, rfl, r1⟩ := vals1 r
    cases r1
    exact call_int_bool ⟨.int (if k then 1 else 0), H, I.tok _, ⟨_, rfl⟩, q⟩
noncomputable def LenV (K : PySem.W.Frag) (x : V) (H : Hp) (n : Nat) : Prop :=
  match x with
  | .str y => y.length ≤ sizeLine ∧ n = y.length
  | .byt y => y.size ≤ sizeLine ∧ n = y.size
  | .ref p => (∃ xs, SqL K H p xs ∧ n = xs.length) ∨ ∃ xs, SqT K H p xs ∧ n = xs.length
  | _ => False
end
end L2

namespace L2
open PySem PySem.Spec PyProof.Rows

structure ObjM (h : Heap) (x dx C : Addr) (mA : Str → Option Value) : Prop where
  obj : h.get? x = some (PySem.W.instObj C dx)
  ns : h.Ns1 dx mA
  ne : dx ≠ x

theorem lookIn_ns {h : Heap} {dx : Addr} {mA : Str → Option Value} (n : h.Ns1 dx mA) : ∃ od, h.get? dx = some od ∧ ∀ name, PySem.W.lookIn name od = some (mA name) := by
  obtain ⟨o, es, ep, ho, hd, hk, _, hm⟩ := n
  refine ⟨o, ho, fun name => ?_⟩
  have e := hm name
  unfold nsFind findBy at e
  rw [← Array.find?_toList] at e
  unfold PySem.W.lookIn
  rw [hd]
  dsimp only
  split
  · rename_i y q
    rw [q] at e
    exact congrArg some e
  · rename_i q
    rw [q] at e
    have a : es.toList.any (·.refKey) = false := by
      rw [List.any_eq_false]
      intro y hy
      obtain ⟨z, t, hkey⟩ := hk y (Array.mem_toList_iff.mp hy)
      simp [DictEntry.refKey, hkey]
    have a' : ¬ es.toList.any (·.refKey) = true := by rw [a]; exact Bool.false_ne_true
    rw [if_neg a']
    exact congrArg some e

theorem ObjM.look {h : Heap} {x dx C : Addr} {mA : Str → Option Value} (I : ObjM h x dx C mA) : ∃ od, PySem.W.InstAt h x (PySem.W.instObj C dx) C (some od) ∧ ∀ name, PySem.W.lookIn name od = some (mA name) :=
  let ⟨od, ho, hl⟩ := lookIn_ns I.ns
  ⟨od, ⟨I.obj, rfl, rfl, ho⟩, hl⟩

section
variable {prog : Program} {w : World} {A : Around} {E : Value → Shared → Prop} {s : Shared} {K : PySem.W.Frag} {x dx C f : Addr} {mA : Str → Option Value} {name : Str} {v : Value}

theorem get_map {expr : Bool} {Q : Value → Shared → Prop} (X : K.In s.heap) (I : ObjM s.heap x dx C mA) (hg : PySem.W.plainGet K C name = true) (hh : PySem.W.hasDictIn K C = true)
    (ha : PySem.W.findIn K (.ref C) name = some none) (hv : mA name = some v) (hv' : PySem.W.handedIn v = true) (h : Q v { s with toks := s.toks + 1 }) :
    wpAny (model prog w) A (getAttr (.ref x) name expr) Q E s := by
  obtain ⟨od, J, hl⟩ := I.look
  exact PySem.W.get_value X J (PySem.W.plainGet_of hg).1 (PySem.W.findObj_own hh ha rfl (by rw [hl, hv])) hv' h

theorem get_meth {pl : Sem Bool} {Q : Value × List Value → Shared → Prop} (X : K.In s.heap) (I : ObjM s.heap x dx C mA) (hg : PySem.W.plainGet K C name = true)
    (hf : PySem.W.findIn K (.ref C) name = some (some (.ref f))) (ht : PySem.W.isFn K (.ref f) = true) (hv : mA name = none) (h : Q (.ref f, [.ref x]) s) :
    wpAny (model prog w) A (getMethod (.ref x) name pl) Q E s := by
  obtain ⟨od, J, hl⟩ := I.look
  exact PySem.W.method_fn X J (PySem.W.plainGet_of hg).1 (PySem.W.plainGet_of hg).2 hf (beq_iff_eq.mp ht) (by show (PySem.W.lookIn name od).map (·.isSome) = some false; rw [hl, hv]; rfl) h

theorem set_map {ns : List Str} {Q : Unit → Shared → Prop} (X : K.In s.heap) (I : ObjM s.heap x dx C mA)
    (hs : PySem.W.findIn K (.ref C) "__setattr__" = some (some (.builtin "object.__setattr__"))) (hp : PySem.W.plainOver K C = true) (ht : PySem.W.takerIn K C name = some none) (hh : PySem.W.hasDictIn K C = true)
    (hw : PySem.Within mA ns) (hsz : ns.length ≤ sizeLine)
    (h : ∀ h', ObjM h' x dx C (fun y => if y = name then some v else mA y) → Heap.SameBut dx s.heap h' → Q () { s with heap := h', toks := s.toks + 2 }) :
    wpAny (model prog w) A (setAttr (.ref x) name v) Q E s := by
  obtain ⟨od, J, hl⟩ := I.look
  refine PySem.W.set_plain X J hs (PySem.W.osa_open (s := { s with toks := s.toks + 1 }) (r := none) X J hp ht fun b => ?_)
  obtain ⟨cd, hc, hd'⟩ := PySem.W.any_some hh
  have hx : s.heap.get? x = some ⟨.ref C, some dx, .plain, #[]⟩ := I.obj
  refine wpAny_bind (wpAny_pure (wpAny_bind (wpAny_bind (wpAny_loadPart hx (wpAny_bind (PySem.W.Looks.here (s := { s with toks := s.toks + 1 }) (PySem.W.looks_clsIn X hc) ?_))))))
  rw [hd']
  refine wpAny_pure (a := some dx) (wpAny_bind (wpAny_pure (wpAny_bind ?_)))
  refine wpAny_nsSet1 (s := { s with toks := s.toks + 1 }) I.ns fun h' hn2 hs2 => ?_
  obtain ⟨oD, esD, epD, hoD, hdD, hcD⟩ := hn2.count (PySem.Within.cons name v hw)
  refine wpAny_bind (wpAny_lookBehind hoD (by rw [hdD]; exact pastItsLine_dict (Nat.le_trans hcD (by rw [List.length_cons]; (first | lia | omega)))) ?_)
  exact wpAny_pure (h _ ⟨(hs2.2 _ (Ne.symm I.ne)).trans I.obj, hn2, I.ne⟩ hs2)

theorem make_map {R : Result → Shared → Prop} {vs : List Value} {kw : List (Str × Value)} (X : K.In s.heap) (hm : PySem.W.makesIn K C = true)
    (hi : PySem.W.findIn K (.ref C) "__init__" = some (some (.ref f))) (hf : PySem.W.typeIn K (.ref f) = some (.type "function"))
    (h : codeAny (model prog w) (A.under (.builtin "type.__call__" ⟨.ref C :: vs, kw⟩)) (.call (.ref f) ⟨.ref (s.heap.objs.size + 1) :: vs, kw⟩) (PySem.W.InitBack (s.heap.objs.size + 1) R)
      { s with heap := (s.heap.push PySem.W.emptyDict).push (PySem.W.instObj C s.heap.objs.size) }) :
    codeAny (model prog w) A (.call (.ref C) ⟨vs, kw⟩) R s := by
  obtain ⟨hh, g, d, t, os⟩ := s
  exact PySem.W.make_core (PySem.W.makes_of X hm) (PySem.W.looks_findIn X hi) (fun self => PySem.W.bind_fn X self hf) (.inl rfl) h
end

noncomputable def putF (f : Str) (v : V) : List (Str × V) → List (Str × V)
  | [] => [(f, v)]
  | (g, x) :: r => if g = f then (g, v) :: r else (g, x) :: putF f v r
theorem lookup_putF (f g : Str) (v : V) : ∀ fs : List (Str × V), (putF f v fs).lookup g = if g = f then some v else fs.lookup g
  | [] => by
    show List.lookup g [(f, v)] = _
    by_cases h : g = f
    · have hb : (g == f) = true := beq_iff_eq.mpr h
      simp only [List.lookup, hb, if_pos h]
    · have hb : (g == f) = false := beq_eq_false_iff_ne.mpr h
      simp only [List.lookup, hb, if_neg h]
  | (k, x) :: r => by
    have ih := lookup_putF f g v r
    rw [show putF f v ((k, x) :: r) = (if k = f then (k, v) :: r else (k, x) :: putF f v r) from rfl]
    by_cases hk : k = f
    · rw [if_pos hk]
      by_cases h : g = k
      · have hb : (g == k) = true := beq_iff_eq.mpr h
        simp only [List.lookup, hb, if_pos (h.trans hk)]
      · have hb : (g == k) = false := beq_eq_false_iff_ne.mpr h
        simp only [List.lookup, hb, if_neg (fun e : g = f => h (e.trans hk.symm))]
    · rw [if_neg hk]
      by_cases h : g = k
      · have hb : (g == k) = true := beq_iff_eq.mpr h
        simp only [List.lookup, hb, if_neg (fun e : g = f => hk (h.symm.trans e))]
      · have hb : (g == k) = false := beq_eq_false_iff_ne.mpr h
        simp only [List.lookup, hb]
        exact ih
theorem keys_putF (f : Str) (v : V) : ∀ fs : List (Str × V), f ∈ (putF f v fs).map (·.1) ∧ ∀ g, g ∈ fs.map (·.1) → g ∈ (putF f v fs).map (·.1)
  | [] => ⟨by simp [putF], fun g h => by simp at h⟩
  | (k, x) :: r => by
    obtain ⟨i1, i2⟩ := keys_putF f v r
    rw [show putF f v ((k, x) :: r) = (if k = f then (k, v) :: r else (k, x) :: putF f v r) from rfl]
    by_cases hk : k = f
    · rw [if_pos hk]
      subst hk
      exact ⟨by simp, fun g h => by simpa using h⟩
    · rw [if_neg hk]
      refine ⟨?_, fun g h => ?_⟩
      · rw [List.map_cons]
        exact List.mem_cons_of_mem _ i1
      · rw [List.map_cons] at h ⊢
        rcases List.mem_cons.mp h with e | e
        · exact List.mem_cons.mpr (.inl e)
        · exact List.mem_cons_of_mem _ (i2 g e)
theorem length_putF (f : Str) (v : V) : ∀ fs : List (Str × V), (putF f v fs).length ≤ fs.length + 1
  | [] => by simp [putF]
  | (k, x) :: r => by
    have ih := length_putF f v r
    rw [show putF f v ((k, x) :: r) = (if k = f then (k, v) :: r else (k, x) :: putF f v r) from rfl]
    by_cases hk : k = f
    · rw [if_pos hk, List.length_cons, List.length_cons]; (first | lia | omega)
    · rw [if_neg hk, List.length_cons, List.length_cons]; (first | lia | omega)

theorem RelO.some_of {v : V} {o : Option Value} (r : RelO (some v) o) : ∃ u, o = some u ∧ RelV v u := by
  cases o with
  | none => exact (show False from r).elim
  | some u => exact ⟨u, rfl, r⟩
theorem RelO.none_of {o : Option Value} (r : RelO none o) : o = none := by
  cases o with
  | none => rfl
  | some u => exact (show False from r).elim
theorem handed_of {v : V} {u : Value} (r : RelV v u) : PySem.W.handedIn u = true := by
  cases v with
  | non => cases (show u = Value.none from r); rfl
  | bl b => cases (show u = Value.bool b from r); rfl
  | int i => obtain ⟨t, e⟩ := (show ∃ t, u = Value.int i t from r); cases e; rfl
  | str x => obtain ⟨t, e⟩ := (show ∃ t, u = Value.str x t from r); cases e; rfl
  | byt b => obtain ⟨t, e⟩ := (show ∃ t, u = Value.bytes b t from r); cases e; rfl
  | flt b => obtain ⟨t, e⟩ := (show ∃ t, u = Value.float b t from r); cases e; rfl
  | ref a => cases (show u = Value.ref a from r); rfl
  | ty n => cases (show u = Value.type n from r); rfl

section
variable {P : Program} {w : World} {H H' : Hp} {h h' : Heap} {a C dx : Addr} {fs fs' : List (Str × V)}
theorem ins_get (hok : HOk P w H h) (e : H a = some (.ins C dx fs)) : ∃ mA, ObjM h a dx C mA ∧ (∀ f, RelO (fs.lookup f) (mA f)) ∧ PySem.Within mA (fs.map (·.1)) ∧ fs.length ≤ 1000 ∧ H dx = some (.own a) := by
  obtain ⟨d, z, ne, ob, mA, n, r, q⟩ := (show ObjOk P w H h a (.ins C dx fs) from hok a _ e)
  exact ⟨mA, ⟨ob, n, ne⟩, r, q, z, d⟩
end

structure Cls (K : PySem.W.Frag) (C : Addr) : Prop where
  pg : PySem.W.plainGet K C Str.empty = true
  hd : PySem.W.hasDictIn K C = true
  po : PySem.W.plainOver K C = true
  sa : PySem.W.findIn K (.ref C) "__setattr__" = some (some (.builtin "object.__setattr__"))
theorem Cls.get {K : PySem.W.Frag} {C : Addr} (c : Cls K C) (f : Str) : PySem.W.plainGet K C f = true := c.pg
noncomputable def NoAttr (K : PySem.W.Frag) (C : Addr) (f : Str) : Prop := PySem.W.findIn K (.ref C) f = some none
theorem NoAttr.taker {K : PySem.W.Frag} {C : Addr} {f : Str} (n : NoAttr K C f) : PySem.W.takerIn K C f = some none := by
  unfold PySem.W.takerIn
  rw [show PySem.W.findIn K (.ref C) f = some none from n]
  rfl
structure Con (K : PySem.W.Frag) (C : Addr) (f : Str) (v : V) (u : Value) : Prop where
  at_ : PySem.W.findIn K (.ref C) f = some (some u)
  rel : RelV v u
  get : PySem.W.specialIn K u "__get__" = some none
  cp : PySem.W.copiedNames.contains f = false
structure Meth (K : PySem.W.Frag) (C : Addr) (m : Str) (f : Addr) : Prop where
  at_ : PySem.W.findIn K (.ref C) m = some (some (.ref f))
  fn : PySem.W.isFn K (.ref f) = true
  kp : PySem.W.keepIn K (.ref f) = true

section
variable {X : Cx} {pins : List (Addr × Obj)} {σ : St} {H : Hp} {s : Shared} {a C dx : Addr} {fs : List (Str × V)} {f : Str} {v : V} {A : Around} {E : Value → Shared → Prop}

theorem getattr_ok {b : Bool} {Q : Value → Shared → Prop} (I : Inv X pins σ H s) (e : H a = some (.ins C dx fs)) (c : Cls X.K C) (n : NoAttr X.K C f) (l : fs.lookup f = some v)
    (h : ∀ u s', Inv X pins σ H s' → RelV v u → Q u s') : wpAny (model X.prog X.w) A (getAttr (.ref a) f b) Q E s := by
  obtain ⟨mA, O, r, _, _, _⟩ := ins_get I.hok e
  obtain ⟨u, hu, ru⟩ := RelO.some_of (v := v) (o := mA f) (by rw [← l]; exact r f)
  exact get_map I.kIn O (c.get f) c.hd n hu (handed_of ru) (h u _ (I.tok _) ru)

theorem getmeth_ok {m : Str} {g : Addr} {pl : Sem Bool} {Q : Value × List Value → Shared → Prop} (I : Inv X pins σ H s) (e : H a = some (.ins C dx fs)) (c : Cls X.K C) (k : Meth X.K C m g) (l : fs.lookup m = none)
    (h : Q (.ref g, [.ref a]) s) : wpAny (model X.prog X.w) A (getMethod (.ref a) m pl) Q E s := by
  obtain ⟨mA, O, r, _, _, _⟩ := ins_get I.hok e
  have hn : mA m = none := RelO.none_of (by rw [← l]; exact r m)
  exact get_meth I.kIn O (c.get m) k.at_ k.fn hn h

theorem setattr_ok {y : V} {u : Value} {Q : Unit → Shared → Prop} (I : Inv X pins σ H s) (e : H a = some (.ins C dx fs)) (c : Cls X.K C) (n : NoAttr X.K C f) (hl : fs.length < 1000) (ry : RelV y u)
    (h : ∀ s', Inv X pins σ (upd H a (.ins C dx (putF f y fs))) s' → Q () s') : wpAny (model X.prog X.w) A (setAttr (.ref a) f u) Q E s := by
  obtain ⟨mA, O, r, wi, _, ho⟩ := ins_get I.hok e
  have hz : (fs.map (·.1)).length ≤ sizeLine := by rw [List.length_map, sizeLine_eq]; (first | lia | omega)
  refine set_map I.kIn O c.sa c.po n.taker c.hd wi hz fun h' O' sb => h _ ?_
  have hd : ∃ o, h'.get? dx = some o := let ⟨o, _, _, e', _⟩ := O'.ns; ⟨o, e'⟩
  refine I.write (x := a) (e := dx) (by rw [e]; exact True.intro) (.inr ho) (fun b q hb z => (sb.2 b hb).trans z) hd ?_
  refine ⟨by rw [upd_ne O.ne]; exact ho, ?_, O.ne, O'.obj, _, O'.ns, fun g => ?_, fun g hg => ?_⟩
  · have := length_putF f y fs; (first | lia | omega)
  · show RelO ((putF f y fs).lookup g) (if g = f then some u else mA g)
    rw [lookup_putF]
    by_cases q : g = f
    · rw [if_pos q, if_pos q]; exact ry
    · rw [if_neg q, if_neg q]; exact r g
  · by_cases q : g = f
    · rw [q]; exact (keys_putF f y fs).1
    · refine (keys_putF f y fs).2 g (wi g fun z => hg ?_)
      show (if g = f then some u else mA g) = none
      rw [if_neg q]; exact z

theorem Inv.made (I : Inv X pins σ H s) : Inv X pins σ (upd (upd H s.heap.objs.size (.own (s.heap.objs.size + 1))) (s.heap.objs.size + 1) (.ins C s.heap.objs.size []))
    { s with heap := (s.heap.push PySem.W.emptyDict).push (PySem.W.instObj C s.heap.objs.size) } := by
  have e1 : (s.heap.push PySem.W.emptyDict).get? s.heap.objs.size = some PySem.W.emptyDict := Heap.get?_push_size s.heap rfl
  have e2 : ((s.heap.push PySem.W.emptyDict).push (PySem.W.instObj C s.heap.objs.size)).get? (s.heap.objs.size + 1) = some (PySem.W.instObj C s.heap.objs.size) := by
    have := Heap.get?_push_size (s.heap.push PySem.W.emptyDict) (o := PySem.W.instObj C s.heap.objs.size) rfl
    rwa [Heap.size_push] at this
  have e3 : (s.heap.push PySem.W.emptyDict).Ns s.heap.objs.size (fun _ => none) := ⟨PySem.W.emptyDict, #[], _, e1, rfl, (fun e he => absurd he (by simp)), fun _ => rfl⟩
  have I1 := I.laid (a := s.heap.objs.size) (o := .own (s.heap.objs.size + 1)) (h' := s.heap.push PySem.W.emptyDict) (t' := s.toks) (fun b u q => Heap.get?_push_of_some _ q) (Nat.le_refl _) ⟨_, e1⟩
  refine I1.laid (a := s.heap.objs.size + 1) (o := .ins C s.heap.objs.size []) (t' := s.toks) (fun b u q => Heap.get?_push_of_some _ q) (Nat.le_of_eq (Heap.size_push _ _)) ?_
  have ne : s.heap.objs.size ≠ s.heap.objs.size + 1 := Nat.ne_of_lt (Nat.lt_succ_self _)
  refine ⟨by rw [upd_ne ne, upd_same], Nat.zero_le _, ne, e2, fun _ => none, (Heap.Ns1.of_empty e3).at fun o q => Heap.get?_push_of_some _ q, fun _ => True.intro, fun y hy => absurd rfl hy⟩

theorem attr_of {prog : Program} {w : World} {env : Env} {e : Expr} {f : Str} {pos : Pos} {s : Shared} {Q : Value → Shared → Prop} (hb : attributeBase e f env (eval e env) = eval e env)
    (h : wpAny (model prog w) A (eval e env) (fun o s₁ => wpAny (model prog w) A (getAttr o f true) Q E s₁) E s) : wpAny (model prog w) A (eval (.Attribute e f pos) env) Q E s :=
  Attribute_any_ h (by rw [arm_eval_Attribute, hb])
end

noncomputable def tFld (K : PySem.W.Frag) (ta : TE) (f : Str) : TE := fun σ H Q => ta σ H fun x H1 => ∃ a C dx fs v, x = .ref a ∧ H1 a = some (.ins C dx fs) ∧ Cls K C ∧ NoAttr K C f ∧ fs.lookup f = some v ∧ Q v H1
noncomputable def tCon (K : PySem.W.Frag) (ta : TE) (f : Str) : TE := fun σ H Q => ta σ H fun x H1 => ∃ a C dx fs v u, x = .ref a ∧ H1 a = some (.ins C dx fs) ∧ Cls K C ∧ Con K C f v u ∧ fs.lookup f = none ∧ Q v H1
noncomputable def sFld (K : PySem.W.Frag) (ta tv : TE) (f : Str) : TS := fun D σ H => tv σ H fun y H1 => ta σ H1 fun x H2 => ∃ a C dx fs, x = .ref a ∧ H2 a = some (.ins C dx fs) ∧ Cls K C ∧ NoAttr K C f ∧ fs.length < 1000 ∧
  D.nx σ (upd H2 a (.ins C dx (putF f y fs)))
noncomputable def InOp (X : Cx) (op : Operator) (rd : V → V → Hp → VK → Prop) : Prop :=
  ∀ (pins : List (Addr × Obj)) (s : Shared) (σ : St) (H : Hp) (x y : V) (u v : Value) (Q : VK), Inv X pins σ H s → RelV x u → RelV y v → rd x y H Q → wpAny (model X.prog X.w) X.A (inplaceOp op u v) (EP X pins σ Q) X.xe s
noncomputable def sFldAug (K : PySem.W.Frag) (ta tv : TE) (rd : V → V → Hp → VK → Prop) (f : Str) : TS := fun D σ H => ta σ H fun x H1 => ∃ a C dx fs v, x = .ref a ∧ H1 a = some (.ins C dx fs) ∧ Cls K C ∧ NoAttr K C f ∧ fs.lookup f = some v ∧
  tv σ H1 fun y H2 => rd v y H2 fun z H3 => ∃ dx' fs', H3 a = some (.ins C dx' fs') ∧ fs'.length < 1000 ∧ D.nx σ (upd H3 a (.ins C dx' (putF f z fs')))

section
variable {X : Cx} {o e value : Expr} {f : Str} {pos pos' tpos : Pos} {ta tv : TE}
theorem pe_fld (he : PE X e ta) (hb : attributeBase e f X.env (eval e X.env) = eval e X.env) : PE X (.Attribute e f pos) (tFld X.K ta f) := by
  refine ⟨?_⟩
  intro pins s σ H Q I h
  refine attr_of hb (thn (he pins s σ H _ I h) fun u s1 hzz => ?_)
  obtain ⟨x, H1, I1, rx, a, C, dx, fs, v, ex, ea, c, n, l, q⟩ := hzz
  subst ex
  obtain rfl : u = Value.ref a := rx
  exact getattr_ok I1 ea c n l fun u' s2 I2 ru => ⟨v, H1, I2, ru, q⟩
theorem ps_fld (ha : PE X o ta) (hv : PE X value tv) (hs : swapsWith value (some (.Attribute o f pos')) pos.line X.env = pure false) : PS X (.Assign [.Attribute o f pos'] value pos) (sFld X.K ta tv f) := by
  refine ⟨?_⟩
  intro pins s σ H D I h
  refine plainObj_wpAny_Assign_Attribute (thn (hv pins s σ H _ I h) fun u s1 ⟨y, H1, I1, ry, q⟩ => thn (ha pins s1 σ H1 _ I1 q) fun ov s2 ⟨x, H2, I2, rx, a, C, dx, fs, ex, ea, c, n, l, q2⟩ => ?_) hs
  subst ex
  obtain rfl : ov = Value.ref a := rx
  exact setattr_ok I2 ea c n l ry fun s3 I3 => ⟨σ, _, I3, q2⟩
theorem ps_fldaug {op : Operator} {rd : V → V → Hp → VK → Prop} (ha : PE X o ta) (hv : PE X value tv) (hop : InOp X op rd) : PS X (.AugAssign (.Attribute o f tpos) op value pos) (sFldAug X.K ta tv rd f) := by
  refine ⟨?_⟩
  intro pins s σ H D I h
  refine wpAny_AugAssign_AttributeAny (thn (ha pins s σ H _ I h) fun ov s1 hzz => ?_)
  obtain ⟨x, H1, I1, rx, a, C, dx, fs, v, ex, ea, c, n, l, q⟩ := hzz
  subst ex
  obtain rfl : ov = Value.ref a := rx
  refine getattr_ok I1 ea c n l fun u s2 I2 ru => thn (hv pins s2 σ H1 _ I2 q) fun w3 s3 ⟨y, H2, I3, ry, q3⟩ => thn (hop pins s3 σ H2 v y u w3 _ I3 ru ry q3) fun w4 s4 hzz => ?_
  obtain ⟨z, H3, I4, rz, dx', fs', ea', l', q4⟩ := hzz
  exact setattr_ok I4 ea' c n l' rz fun s5 I5 => ⟨σ, _, I5, q4⟩
noncomputable def rAdd : V → V → Hp → VK → Prop := fun x y H Q => ∃ i j, x = .int i ∧ y = .int j ∧ Q (.int (i + j)) H
noncomputable def rSub : V → V → Hp → VK → Prop := fun x y H Q => ∃ i j, x = .int i ∧ y = .int j ∧ Q (.int (i - j)) H
theorem in_add : InOp X .Add rAdd := by
  rintro pins s σ H x y u v Q I rx ry ⟨i, j, rfl, rfl, q⟩
  obtain ⟨t, rfl⟩ := (show ∃ t, u = Value.int i t from rx)
  obtain ⟨t', rfl⟩ := (show ∃ t', v = Value.int j t' from ry)
  exact PyProof.Rows.iadd_int ⟨.int (i + j), H, I.tok _, ⟨_, rfl⟩, q⟩
end

section
variable {X : Cx} {pins : List (Addr × Obj)} {σ : St} {H : Hp} {s : Shared} {A : Around} {E : Value → Shared → Prop} {Q : Value → Shared → Prop} {c : Value} {b : Bool}
inductive TyOf (K : PySem.W.Frag) (H : Hp) : V → Value → Prop where
  | non : TyOf K H .non (.type "NoneType")
  | bl (x : Bool) : TyOf K H (.bl x) (.type "bool")
  | int (i : Int) : TyOf K H (.int i) (.type "int")
  | str (x : Str) : TyOf K H (.str x) (.type "str")
  | flt (x : UInt64) : TyOf K H (.flt x) (.type "float")
  | lst {a : Addr} {xs : List V} (e : H a = some (.lst xs)) : TyOf K H (.ref a) (.type "list")
  | frz {a : Addr} {o : Obj} {xs : List V} (e : H a = some (.frz o (.lst xs))) : TyOf K H (.ref a) (.type "list")
  | tup {a : Addr} {xs : List V} (e : H a = some (.tup xs)) : TyOf K H (.ref a) (.type "tuple")
  | dK {a : Addr} {kvs : List (Key × V)} (e : H a = some (.dK kvs)) : TyOf K H (.ref a) (.type "dict")
  | dT {a : Addr} {kvs : List (List Key × V)} (e : H a = some (.dT kvs)) : TyOf K H (.ref a) (.type "dict")
  | ins {a C dx : Addr} {fs : List (Str × V)} (e : H a = some (.ins C dx fs)) (cl : Cls K C) (ha : PySem.W.findIn K (.ref C) "__class__" = some (some (.builtin "object.__class__")))
      (hn : PySem.W.specialIn K (.builtin "object.__class__") "__get__" = some (some (.builtin "getset_descriptor.__get__"))) (htk : PySem.W.takesIn K (.builtin "object.__class__") = some true)
      (hm : PySem.W.mroIn K C (.type "object") = some true) : TyOf K H (.ref a) (.ref C)
theorem isinst_ok {x : V} {u t : Value} (I : Inv X pins σ H s) (rx : RelV x u) (ty : TyOf X.K H x t) (e : PySem.W.kitOne X.K t c = some b) (h : ∀ tk, Q (.bool b) { s with toks := tk }) :
    wpAny (model X.prog X.w) A (call (.builtin "isinstance") [u, c]) Q E s := by
  cases ty with
  | non => cases (show u = Value.none from rx); exact PySem.W.kia_one PySem.W.kitx_none I.kIn True.intro e (fun z => nomatch z) h
  | bl y => cases (show u = Value.bool y from rx); exact PySem.W.kia_one PySem.W.kitx_bool I.kIn True.intro e (fun z => nomatch z) h
  | int i => obtain ⟨t, q⟩ := (show ∃ t, u = Value.int i t from rx); cases q; exact PySem.W.kia_one PySem.W.kitx_int I.kIn True.intro e (fun z => nomatch z) h
  | str y => obtain ⟨t, q⟩ := (show ∃ t, u = Value.str y t from rx); cases q; exact PySem.W.kia_one PySem.W.kitx_str I.kIn True.intro e (fun z => nomatch z) h
  | flt y => obtain ⟨t, q⟩ := (show ∃ t, u = Value.float y t from rx); cases q; exact PySem.W.kia_one PySem.W.kitx_float I.kIn True.intro e (fun z => nomatch z) h
  | @lst a xs ea =>
    cases (show u = Value.ref a from rx)
    obtain ⟨_, _, n, _, h1⟩ := (show ObjOk X.prog X.w H s.heap a (.lst xs) from I.hok a _ ea)
    exact PySem.W.kia_one PySem.W.kitx_list I.kIn ⟨_, h1, rfl⟩ e (fun z => nomatch z) h
  | @frz a ob xs ea =>
    cases (show u = Value.ref a from rx)
    obtain ⟨_, _, _, n, _, h1⟩ := (show ObjOk X.prog X.w H s.heap a (.frz ob (.lst xs)) from I.hok a _ ea)
    exact PySem.W.kia_one PySem.W.kitx_list I.kIn ⟨_, h1, rfl⟩ e (fun z => nomatch z) h
  | @tup a xs ea =>
    cases (show u = Value.ref a from rx)
    obtain ⟨_, _, _, p⟩ := (show ObjOk X.prog X.w H s.heap a (.tup xs) from I.hok a _ ea)
    obtain ⟨o, h1, h2, _⟩ := p
    exact PySem.W.kia_one PySem.W.kitx_tuple I.kIn ⟨o, h1, h2⟩ e (fun z => nomatch z) h
  | @dK a kvs ea =>
    cases (show u = Value.ref a from rx)
    obtain ⟨_, _, vs, _, p⟩ := (show ObjOk X.prog X.w H s.heap a (.dK kvs) from I.hok a _ ea)
    obtain ⟨o, es, ep, h1, h2, _⟩ := p
    exact PySem.W.kia_one PySem.W.kitx_dict I.kIn ⟨o, h1, h2.1⟩ e (fun z => nomatch z) h
  | @dT a kvs ea =>
    cases (show u = Value.ref a from rx)
    obtain ⟨_, _, xs, _, o, es, ep, h1, h2, _⟩ := (show ObjOk X.prog X.w H s.heap a (.dT kvs) from I.hok a _ ea)
    exact PySem.W.kia_one PySem.W.kitx_dict I.kIn ⟨o, h1, h2.1⟩ e (fun z => nomatch z) h
  | @ins a C dx fs ea cl ha hn htk hm =>
    cases (show u = Value.ref a from rx)
    obtain ⟨mA, O, _⟩ := ins_get I.hok ea
    obtain ⟨od, J, _⟩ := O.look
    exact PySem.W.kia_one (PySem.W.kitx_own (cl.get _) cl.hd ha hn htk hm) I.kIn J e (fun z => nomatch z) h
end
end L2

namespace L2
open PySem PySem.Spec PyProof.Rows

structure Room (k : Nat) (A : Around) : Prop where
  hd : A.handled = none
  dp : A.depth + 3 * k + 5 < recursionLimit
  un : A.units + 16 * k + 200 < cLine
theorem Room.mono {j k : Nat} {A : Around} (r : Room k A) (h : j ≤ k) : Room j A := ⟨r.hd, by have := r.dp; (first | lia | omega), by have := r.un; (first | lia | omega)⟩
theorem Room.deeper {k : Nat} {A : Around} (r : Room (k + 1) A) (env : Env) : Room k (A.deeper env) :=
  ⟨r.hd, by have := r.dp; show A.depth + 1 + 3 * k + 5 < _; (first | lia | omega), by have := r.un; show A.units + 3 + 16 * k + 200 < _; (first | lia | omega)⟩
theorem make_depth {A : Around} {C : Addr} {us : List Value} {kw : List (Str × Value)} : (A.under (.builtin "type.__call__" ⟨.ref C :: us, kw⟩)).depth = A.depth + 1 := by
  first | rfl | simp [Around.under, Code.weight, Code.isCreation, Code.isGuard, Code.isCaller, Code.frames, Code.isFrame, guardIds]
theorem make_units {A : Around} {C : Addr} {us : List Value} {kw : List (Str × Value)} : (A.under (.builtin "type.__call__" ⟨.ref C :: us, kw⟩)).units = A.units + 1 := by
  first | rfl | simp [Around.under, Code.cUnits, Code.frames, Code.isFrame]
theorem Room.make {k : Nat} {A : Around} (r : Room (k + 1) A) (C : Addr) (us : List Value) (kw : List (Str × Value)) : Room k (A.under (.builtin "type.__call__" ⟨.ref C :: us, kw⟩)) :=
  ⟨r.hd, by have := r.dp; rw [make_depth]; (first | lia | omega), by have := r.un; rw [make_units]; (first | lia | omega)⟩
theorem Room.depth {k : Nat} {A : Around} (r : Room k A) : A.depth < recursionLimit := by have := r.dp; (first | lia | omega)
noncomputable def tNil : TA := fun _ H Q => Q [] H
noncomputable def tCons (ta : TE) (tr : TA) : TA := fun σ H Q => ta σ H fun x H1 => tr σ H1 fun xs H2 => Q (x :: xs) H2
section
variable {X : Cx} {e : Expr} {es : List Expr} {te : TE} {t : TA} {pos : Pos}
theorem pa_nil : PA X [] tNil := ⟨fun _ _ _ _ H Q I h => Calls.spliced_nil ⟨[], H, I, .nil, h⟩⟩
theorem pa_cons (ha : PE X e te) (hr : PA X es t) (hs : starEach (e :: es) X.env = (false, eval e X.env) :: starEach es X.env := by rfl) : PA X (e :: es) (tCons te t) := by
  refine ⟨?_⟩
  intro pos pins s σ H Q I h
  rw [hs]
  show wpAny _ _ (spliced ((false, eval e X.env) :: backTo pos (starEach es X.env))) _ _ s
  refine Calls.spliced_cons (thn (ha pins s σ H _ I h) fun u s1 hzz => ?_)
  obtain ⟨x, H1, I1, r1, q1⟩ := hzz
  exact thn (hr pos pins s1 σ H1 _ I1 q1) fun us s2 ⟨xs, H2, I2, r2, q2⟩ => ⟨x :: xs, H2, I2, .cons r1 r2, q2⟩

noncomputable def tTup (t : TA) : TE := fun σ H Q => t σ H fun xs H1 => xs.length ≤ sizeLine ∧ ∀ p, H1 p = none → Q (.ref p) (upd H1 p (.tup xs))
noncomputable def tLst (t : TA) : TE := fun σ H Q => t σ H fun xs H1 => xs.length ≤ sizeLine ∧ ∀ p, H1 p = none → Q (.ref p) (upd H1 p (.lst xs))
theorem pe_tup {x1} (h : PA X es t) : PE X (.Tuple es x1 pos) (tTup t) := by
  refine ⟨?_⟩
  intro pins s σ H Q I hq
  refine wpAny_Tuple_spliced (thn (h pos pins s σ H _ I hq) fun us s1 ⟨xs, H1, I1, r, z, q⟩ => ⟨by rw [← r.length]; exact z, ?_⟩)
  have hf : H1 s1.heap.objs.size = none := I1.hok.fresh (Nat.le_refl _)
  refine ⟨.ref s1.heap.objs.size, upd H1 s1.heap.objs.size (.tup xs), I1.laid (t' := s1.toks) (fun b u e => Heap.get?_push_of_some _ e) (Nat.le_refl _) ?_, rfl, q _ hf⟩
  exact ⟨z, us, r, ⟨_, Heap.get?_push_size _ rfl, rfl, _, rfl⟩⟩
theorem pe_lst (h : PA X es t) : PE X (.List es pos) (tLst t) := by
  refine ⟨?_⟩
  intro pins s σ H Q I hq
  refine wpAny_List_spliced (thn (h pos pins s σ H _ I hq) fun us s1 ⟨xs, H1, I1, r, z, q⟩ => ⟨by rw [← r.length]; exact z, ?_⟩)
  have hf : H1 s1.heap.objs.size = none := I1.hok.fresh (Nat.le_refl _)
  refine ⟨.ref s1.heap.objs.size, upd H1 s1.heap.objs.size (.lst xs), I1.laid (t' := s1.toks) (fun b u e => Heap.get?_push_of_some _ e) (Nat.le_refl _) ?_, rfl, q _ hf⟩
  exact ⟨z, us, 0, r, Heap.get?_push_size _ rfl⟩
end

noncomputable abbrev Sp := List V → Hp → VK → XK → Prop
noncomputable abbrev CXT := List Env → Hp → Shared → XK → Value → Shared → Prop

structure Env0 (P : Program) (w : World) (K : PySem.W.Frag) (mg : Str → Option Value) (base : Heap) (A : Around) (outer : List Env) (s : Shared) (H : Hp) : Prop where
  frames : A.frames = some outer
  mod : Mod K mg base
  bs : ∀ b o, base.get? b = some o → s.heap.get? b = some o ∧ H b = none
  bsz : base.objs.size ≤ s.heap.objs.size
  funs : s.heap.FunFrames base outer
  frf : ∀ b ∈ frs outer, H b = none
  hok : HOk P w H s.heap
  bare : AllBare s.gens
noncomputable def CE (outer : List Env) (P : Program) (w : World) (H : Hp) (s : Shared) (Q : VK) (u : Value) (s' : Shared) : Prop :=
  ∃ v H', s'.os = s.os ∧ AllBare s'.gens ∧ Un (frs outer) [] H H' s.heap s'.heap ∧ HOk P w H' s'.heap ∧ RelV v u ∧ Q v H'
noncomputable def CR (CX : CXT) (outer : List Env) (P : Program) (w : World) (H : Hp) (s : Shared) (Q : VK) (E : XK) (r : Result) (s' : Shared) : Prop :=
  match r with
  | .ok (.ret u) => CE outer P w H s Q u s'
  | .ok _ => False
  | .error e => CX outer H s E e s'
structure FnOk (P : Program) (w : World) (K : PySem.W.Frag) (mg : Str → Option Value) (base : Heap) (CX : CXT) (k : Nat) (f : Addr) (fd : FuncData) (ps : List Str) (sp : Sp) : Prop where
  len : ∀ vs H Q E, sp vs H Q E → vs.length = ps.length
  run : ∀ (A : Around) (outer : List Env) (s : Shared) (H : Hp) (args : Args) (us : List Value) (vs : List V) (Q : VK) (E : XK), Room k A → Env0 P w K mg base A outer s H → BindsTo s fd args (ps.zip us) → Vals vs us → sp vs H Q E →
    codeAny (model P w) A (.call (.ref f) args) (CR CX outer P w H s Q E) s
theorem Env0.make {P : Program} {w : World} {K : PySem.W.Frag} {mg : Str → Option Value} {base : Heap} {A : Around} {outer : List Env} {s : Shared} {H : Hp} (e : Env0 P w K mg base A outer s H) (C : Addr) (us : List Value) (kw : List (Str × Value)) :
    Env0 P w K mg base (A.under (.builtin "type.__call__" ⟨.ref C :: us, kw⟩)) outer s H := ⟨by first | exact e.frames | (simpa [Around.under, Code.envs, Code.isFrame, pushEnvs] using e.frames), e.mod, e.bs, e.bsz, e.funs, e.frf, e.hok, e.bare⟩
section
variable {X : Cx} {pins : List (Addr × Obj)} {σ : St} {H : Hp} {s s' : Shared}
theorem Inv.env0 (I : Inv X pins σ H s) : Env0 X.prog X.w X.K X.mg X.base X.A X.stack s H :=
  ⟨I.ok.frames, I.ok.mod, I.bs, Nat.le_trans I.ok.bsz I.sz, I.stack, I.stkFree, I.hok, I.bare⟩
theorem Inv.after {Q : VK} {u : Value} (I : Inv X pins σ H s) (h : CE X.stack X.prog X.w H s Q u s') : EP X pins σ Q u s' := by
  obtain ⟨v, H', os, bare, un, hok, r, q⟩ := h
  obtain ⟨hh, g, d, t, os'⟩ := s'
  obtain rfl : os' = s.os := os
  exact ⟨v, H', I.call (h' := hh) (g' := g) (d' := d) (t' := t) (ch := []) un hok bare (fun b z => absurd z (by simp)), r, q⟩
end

noncomputable def tCall (sp : Sp) (dvs : List V) (E : XK) (t : TA) : TE := fun σ H Q => t σ H fun vs H1 => sp (vs ++ dvs) H1 Q E
noncomputable def tMeth (C : Addr) (m : Str) (sp : Sp) (dvs : List V) (E : XK) (ta : TE) (t : TA) : TE := fun σ H Q => ta σ H fun x H1 => ∃ a dx fs, x = .ref a ∧ H1 a = some (.ins C dx fs) ∧ fs.lookup m = none ∧
  t σ H1 fun vs H2 => sp (x :: (vs ++ dvs)) H2 Q E
noncomputable def tMake (C : Addr) (sp : Sp) (dvs : List V) (E : XK) (t : TA) : TE := fun σ H Q => t σ H fun vs H1 => ∀ x dx, H1 x = none → H1 dx = none → dx ≠ x →
  sp (.ref x :: (vs ++ dvs)) (upd (upd H1 dx (.own x)) x (.ins C dx [])) (fun v H2 => v = .non ∧ Q (.ref x) H2) E

noncomputable def Binds (K : PySem.W.Frag) (fd : FuncData) (ps : List Str) (ds : List Value) : Prop :=
  ∀ (s : Shared) (us : List Value), K.In s.heap → (us ++ ds).length = ps.length → BindsTo s fd ⟨us, []⟩ (ps.zip (us ++ ds))
theorem Binds.all {K : PySem.W.Frag} {fd : FuncData} {ps : List Str} (h : ∀ us : List Value, us.length = ps.length → bindArgs fd ⟨us, []⟩ = pure (ps.zip us)) : Binds K fd ps [] := fun s us _ hl => by
  rw [List.append_nil] at hl ⊢
  exact .of_eq (h us hl)

noncomputable def Passes (CX : CXT) (X : Cx) (E : XK) : Prop := ∀ (pins : List (Addr × Obj)) (σ : St) (H : Hp) (s : Shared) (e : Value) (s' : Shared), Inv X pins σ H s → CX X.stack H s E e s' → X.xe e s'

section
variable {X : Cx} {CX : CXT} {k : Nat} {f C : Addr} {fd : FuncData} {ps : List Str} {sp : Sp} {dvs : List V} {ds : List Value} {E : XK} {x m : Str} {p pos apos : Pos} {e o : Expr} {es : List Expr} {ta : TE} {t : TA}

theorem run_fn {pins : List (Addr × Obj)} {σ : St} {H : Hp} {s : Shared} {Q : VK} {us : List Value} {vs : List V} (F : FnOk X.prog X.w X.K X.mg X.base CX k f fd ps sp) (hr : Room k X.A) (hb : Binds X.K fd ps ds) (hd : Vals dvs ds) (hx : Passes CX X E)
    (I : Inv X pins σ H s) (r : Vals vs us) (h : sp (vs ++ dvs) H Q E) : wpAny (model X.prog X.w) X.A (call (.ref f) us) (EP X pins σ Q) X.xe s := by
  have r2 : Vals (vs ++ dvs) (us ++ ds) := r.append hd
  have hl : (us ++ ds).length = ps.length := by rw [← r2.length]; exact F.len _ _ _ _ h
  refine wpAny_call (codeAny_mono (F.run X.A X.stack s H ⟨us, []⟩ (us ++ ds) (vs ++ dvs) Q E hr I.env0 (hb s us I.kIn hl) r2 h) fun r s' hq => ?_)
  cases r with
  | error e => exact hx pins σ H s e s' I hq
  | ok fl =>
    cases fl with
    | ret u => exact I.after hq
    | next => exact False.elim hq
    | brk => exact False.elim hq
    | cont => exact False.elim hq

theorem pe_call (F : FnOk X.prog X.w X.K X.mg X.base CX k f fd ps sp) (hr : Room k X.A) (hg : Gl X x) (hm : X.mg x = some (.ref f)) (hk : PySem.W.keepIn X.K (.ref f) = true) (hb : Binds X.K fd ps ds) (hd : Vals dvs ds) (hx : Passes CX X E)
    (ha : PA X (e :: es) t) (hdb : (x == ("__debug__" : Str)) = false := by decide) (he : starEach (e :: es) X.env = (false, eval e X.env) :: starEach es X.env := by rfl) (hpl : (backTo pos (starEach es X.env)).any (·.1) = false := by rfl) :
    PE X (.Call (.Name x p) (e :: es) [] pos) (tCall sp dvs E t) := by
  refine ⟨?_⟩
  intro pins s σ H Q I h
  refine wpAny_Call_Name_kw (ld_glob I hg hm ?_ hdb)
  refine PySem.W.callWith_K (h₀ := X.base) I.ok.mod.kin hk (thn (ha pos pins s σ H _ I h) fun us s1 ⟨vs, H1, I1, r, q⟩ => ⟨I1.kIn, ?_⟩) he hpl
  exact run_fn F hr hb hd hx I1 r q
theorem pe_meth {pl : Sem Bool} (he : PE X o ta) (c : Cls X.K C) (hm : Meth X.K C m f) (F : FnOk X.prog X.w X.K X.mg X.base CX k f fd ps sp) (hr : Room k X.A) (hb : Binds X.K fd ps ds) (hd : Vals dvs ds) (hx : Passes CX X E) (ha : PA X (e :: es) t)
    (hst : starEach (e :: es) X.env = (false, eval e X.env) :: starEach es X.env := by rfl) (hpl : (backTo pos (starEach es X.env)).any (·.1) = false := by rfl)
    (ht : eval (.Call (.Attribute o m apos) (e :: es) [] pos) X.env = (do
      let ov ← eval o X.env
      standAt apos.atName
      let (f, first) ← holding [ov] (getMethod ov m pl)
      callWith pos f first (backTo pos (starEach (e :: es) X.env)) (backToKw pos (keywordEach [] X.env))) := by rfl) :
    PE X (.Call (.Attribute o m apos) (e :: es) [] pos) (tMeth C m sp dvs E ta t) := by
  refine ⟨?_⟩
  intro pins s σ H Q I h
  refine PySem.W.methodCall_KW (pl := pl) (thn (he pins s σ H _ I h) fun u s1 ⟨x, H1, I1, rx, a, dx, fs, ex, ea, l, q⟩ => ?_) ht
  subst ex
  obtain rfl : u = Value.ref a := rx
  refine getmeth_ok I1 ea c hm l ?_
  refine PySem.W.callWith_K (first := [.ref a]) (h₀ := X.base) I.ok.mod.kin hm.kp (thn (ha pos pins s1 σ H1 _ I1 q) fun us s2 ⟨vs, H2, I2, r, q2⟩ => ⟨I2.kIn, ?_⟩) hst hpl
  exact run_fn (us := .ref a :: us) (vs := .ref a :: vs) F hr hb hd hx I2 (.cons rfl r) q2
theorem pe_meth0 {pl : Sem Bool} (he : PE X o ta) (c : Cls X.K C) (hm : Meth X.K C m f) (F : FnOk X.prog X.w X.K X.mg X.base CX k f fd ps sp) (hr : Room k X.A) (hb : Binds X.K fd ps ds) (hd : Vals dvs ds) (hx : Passes CX X E)
    (ht : eval (.Call (.Attribute o m apos) [] [] pos) X.env = (do
      let ov ← eval o X.env
      standAt apos.atName
      let (f, first) ← holding [ov] (getMethod ov m pl)
      callWith pos f first (backTo pos (starEach [] X.env)) (backToKw pos (keywordEach [] X.env))) := by rfl) :
    PE X (.Call (.Attribute o m apos) [] [] pos) (tMeth C m sp dvs E ta tNil) := by
  refine ⟨?_⟩
  intro pins s σ H Q I h
  refine PySem.W.methodCall_KW (pl := pl) (thn (he pins s σ H _ I h) fun u s1 ⟨x, H1, I1, rx, a, dx, fs, ex, ea, l, q⟩ => ?_) ht
  subst ex
  obtain rfl : u = Value.ref a := rx
  refine getmeth_ok I1 ea c hm l ?_
  exact PySem.W.callWith_K0 (first := [.ref a]) I1.kIn hm.kp (run_fn (us := [.ref a]) (vs := [.ref a]) F hr hb hd hx I1 (.cons rfl .nil) q)

structure Mk (K : PySem.W.Frag) (C f : Addr) : Prop where
  makes : PySem.W.makesIn K C = true
  init : PySem.W.findIn K (.ref C) "__init__" = some (some (.ref f))
  fn : PySem.W.isFn K (.ref f) = true
  kp : PySem.W.keepIn K (.ref C) = true

theorem run_make {pins : List (Addr × Obj)} {σ : St} {H : Hp} {s : Shared} {Q : VK} {us : List Value} {vs : List V} (M : Mk X.K C f) (F : FnOk X.prog X.w X.K X.mg X.base CX k f fd ps sp) (hr : Room (k + 1) X.A) (hb : Binds X.K fd ps ds) (hd : Vals dvs ds)
    (hx : Passes CX X E) (I : Inv X pins σ H s) (r : Vals vs us)
    (h : ∀ x dx, H x = none → H dx = none → dx ≠ x → sp (.ref x :: (vs ++ dvs)) (upd (upd H dx (.own x)) x (.ins C dx [])) (fun v H2 => v = .non ∧ Q (.ref x) H2) E) :
    wpAny (model X.prog X.w) X.A (call (.ref C) us) (EP X pins σ Q) X.xe s := by
  have hq := h (s.heap.objs.size + 1) s.heap.objs.size (I.hok.fresh (Nat.le_succ _)) (I.hok.fresh (Nat.le_refl _)) (Nat.ne_of_lt (Nat.lt_succ_self _))
  have I2 := Inv.made (C := C) I
  have r2 : Vals (V.ref (s.heap.objs.size + 1) :: (vs ++ dvs)) (Value.ref (s.heap.objs.size + 1) :: (us ++ ds)) := .cons rfl (r.append hd)
  have hl : (Value.ref (s.heap.objs.size + 1) :: us ++ ds).length = ps.length := by
    have e := r2.length
    rw [F.len _ _ _ _ hq] at e
    exact e.symm
  refine wpAny_call (make_map (f := f) I.kIn M.makes M.init (beq_iff_eq.mp M.fn) (codeAny_mono (F.run _ X.stack _ _ ⟨Value.ref (s.heap.objs.size + 1) :: us, []⟩ (Value.ref (s.heap.objs.size + 1) :: (us ++ ds)) _ _ E (hr.make C us [])
    (I2.env0.make C us []) (hb _ (Value.ref (s.heap.objs.size + 1) :: us) I2.kIn hl) r2 hq) fun r s' hq' => ?_))
  cases r with
  | error e => exact hx pins σ _ _ e s' I2 hq'
  | ok fl =>
    cases fl with
    | ret u =>
      obtain ⟨v, H', I3, rv, ev, q3⟩ := I2.after hq'
      subst ev
      exact ⟨rv, ⟨V.ref (s.heap.objs.size + 1), H', I3, rfl, q3⟩⟩
    | next => exact False.elim hq'
    | brk => exact False.elim hq'
    | cont => exact False.elim hq'
theorem pe_make (M : Mk X.K C f) (F : FnOk X.prog X.w X.K X.mg X.base CX k f fd ps sp) (hr : Room (k + 1) X.A) (hg : Gl X x) (hm : X.mg x = some (.ref C)) (hb : Binds X.K fd ps ds) (hd : Vals dvs ds) (hx : Passes CX X E)
    (ha : PA X (e :: es) t) (hdb : (x == ("__debug__" : Str)) = false := by decide) (he : starEach (e :: es) X.env = (false, eval e X.env) :: starEach es X.env := by rfl) (hpl : (backTo pos (starEach es X.env)).any (·.1) = false := by rfl) :
    PE X (.Call (.Name x p) (e :: es) [] pos) (tMake C sp dvs E t) := by
  refine ⟨?_⟩
  intro pins s σ H Q I h
  refine wpAny_Call_Name_kw (ld_glob I hg hm ?_ hdb)
  refine PySem.W.callWith_K (h₀ := X.base) I.ok.mod.kin M.kp (thn (ha pos pins s σ H _ I h) fun us s1 ⟨vs, H1, I1, r, q⟩ => ⟨I1.kIn, ?_⟩) he hpl
  exact run_make M F hr hb hd hx I1 r q
end

structure PK (X : Cx) (kws : List Keyword) (t : TA)  : Prop where
  go : ∀ (pos : Pos) (pins : List (Addr × Obj)) (s : Shared) (σ : St) (H : Hp) (Q : List V → Hp → Prop), Inv X pins σ H s → t σ H Q → wpAny (model X.prog X.w) X.A (evalAll ((backToKw pos (keywordEach kws X.env)).map (·.2))) (AP X pins σ Q) X.xe s
instance {X : Cx} {kws : List Keyword} {t : TA} : CoeFun (PK X kws t) (fun _ => ∀ (pos : Pos) (pins : List (Addr × Obj)) (s : Shared) (σ : St) (H : Hp) (Q : List V → Hp → Prop), Inv X pins σ H s → t σ H Q → wpAny (model X.prog X.w) X.A (evalAll ((backToKw pos (keywordEach kws X.env)).map (·.2))) (AP X pins σ Q) X.xe s) := ⟨PK.go⟩
section
variable {X : Cx} {CX : CXT} {k : Nat} {f C : Addr} {fd : FuncData} {ps ks : List Str} {sp : Sp} {E : XK} {x m : Str} {p pos apos kpos : Pos} {e o : Expr} {es : List Expr} {kws : List Keyword} {te ta : TE} {t tk : TA} {nm : Option Str}
structure KBinds (K : PySem.W.Frag) (fd : FuncData) (ps ks : List Str) (g : List Value → List Value → List Value) (gV : List V → List V → List V) : Prop where
  to : ∀ (s : Shared) (us ws : List Value), K.In s.heap → (g us ws).length = ps.length → BindsTo s fd ⟨us, ks.zip ws⟩ (ps.zip (g us ws))
  rel : ∀ {vs : List V} {us : List Value} {zs : List V} {ws : List Value}, Vals vs us → Vals zs ws → Vals (gV vs zs) (g us ws)
noncomputable def tCallK (sp : Sp) (gV : List V → List V → List V) (E : XK) (t tk : TA) : TE := fun σ H Q => t σ H fun vs H1 => tk σ H1 fun zs H2 => sp (gV vs zs) H2 Q E
variable {g : List Value → List Value → List Value} {gV : List V → List V → List V}
end

structure FnScope (N P : List Str) (sc : Scope) : Prop where
  kind : sc.kind = .function
  co : sc.isCoroutine = false
  gen : sc.isGenerator = false
  nd : N.Nodup
  pre : N.take P.length = P
  par : ∀ x ∈ P, sc.names.lookup x = some .local ∨ sc.names.lookup x = some .cell
  nofree : ∀ y ∈ sc.names, y.2 ≠ .free

theorem bindL_out {kindOf : Str → Option NameKind} {x : Str} : ∀ {binds : List (Str × Value)} {m : Str → Option Value}, (∀ v, (x, v) ∉ binds) → bindL kindOf binds m x = m x
  | [], _, _ => rfl
  | (n, v) :: r, m, h => by
    unfold bindL
    rw [bindL_out fun w hw => h w (List.mem_cons_of_mem _ hw)]
    split
    · have : x ≠ n := by rintro rfl; exact h v List.mem_cons_self
      simp [this]
    · rfl
theorem bindC_out {kindOf : Str → Option NameKind} {x : Str} : ∀ {binds : List (Str × Value)} {m : Str → Option Value}, (∀ v, (x, v) ∉ binds) → bindC kindOf binds m x = m x
  | [], _, _ => rfl
  | (n, v) :: r, m, h => by
    unfold bindC
    rw [bindC_out fun w hw => h w (List.mem_cons_of_mem _ hw)]
    split
    · rfl
    · have : x ≠ n := by rintro rfl; exact h v List.mem_cons_self
      simp [this]
theorem bindL_get {kindOf : Str → Option NameKind} {x : Str} {v : Value} : ∀ {P : List Str} {vs : List Value} {i : Nat} {m : Str → Option Value}, P.Nodup → P[i]? = some x → vs[i]? = some v → kindOf x = some .local →
    bindL kindOf (P.zip vs) m x = some v
  | [], _, _, _, _, h, _, _ => by simp at h
  | _ :: _, [], _, _, _, _, h, _ => by simp at h
  | p :: P, w :: vs, 0, m, nd, h1, h2, hk => by
    simp at h1 h2; subst h1; subst h2
    show bindL kindOf ((p, w) :: P.zip vs) m p = _
    unfold bindL
    rw [bindL_out fun v hv => (List.nodup_cons.mp nd).1 (List.of_mem_zip hv).1, if_pos hk]
    simp
  | p :: P, w :: vs, i + 1, m, nd, h1, h2, hk => by
    show bindL kindOf ((p, w) :: P.zip vs) m x = _
    unfold bindL
    exact bindL_get (i := i) (List.nodup_cons.mp nd).2 (by simpa using h1) (by simpa using h2) hk
theorem bindC_get {kindOf : Str → Option NameKind} {x : Str} {v : Value} : ∀ {P : List Str} {vs : List Value} {i : Nat} {m : Str → Option Value}, P.Nodup → P[i]? = some x → vs[i]? = some v → kindOf x ≠ some .local →
    bindC kindOf (P.zip vs) m x = some v
  | [], _, _, _, _, h, _, _ => by simp at h
  | _ :: _, [], _, _, _, _, h, _ => by simp at h
  | p :: P, w :: vs, 0, m, nd, h1, h2, hk => by
    simp at h1 h2; subst h1; subst h2
    show bindC kindOf ((p, w) :: P.zip vs) m p = _
    unfold bindC
    rw [bindC_out fun v hv => (List.nodup_cons.mp nd).1 (List.of_mem_zip hv).1, if_neg hk]
    simp
  | p :: P, w :: vs, i + 1, m, nd, h1, h2, hk => by
    show bindC kindOf ((p, w) :: P.zip vs) m x = _
    unfold bindC
    exact bindC_get (i := i) (List.nodup_cons.mp nd).2 (by simpa using h1) (by simpa using h2) hk

noncomputable def start (N : List Str) (vs : List V) : St := vs.map some ++ List.replicate (N.length - vs.length) none

noncomputable def cxOf (CX : CXT) (P : Program) (w : World) (K : PySem.W.Frag) (mg : Str → Option Value) (base : Heap) (N : List Str) (qual : Str) (scope : Scope) (f : Addr) (cd : Value) (A : Around) (outer : List Env) (s : Shared) (H : Hp) (E : XK) : Cx where
  prog := P
  w := w
  K := K
  mg := mg
  base := base
  A := A.deeper (envOfC qual scope s.heap.objs.size f cd)
  N := N
  s₀ := s
  H₀ := H
  env := envOfC qual scope s.heap.objs.size f cd
  outer := outer
  stack := envOfC qual scope s.heap.objs.size f cd :: outer
  ex := []
  calm := true
  fn := fun _ => true
  pn := []
  xe := fun e s' => wpAny (model P w) (A.deeper (envOfC qual scope s.heap.objs.size f cd)) (leaving (envOfC qual scope s.heap.objs.size f cd) e) (fun _ s'' => CX outer H s E e s'') (fun e' s'' => CX outer H s E e' s'') s'

theorem cell_has {sc : Scope} {n : Nat} {x : Str} (h : sc.names.lookup x = some .cell) : ∃ c, (cellsFrom n sc.names []).lookup x = some c := by
  have q := PySem.W.cellsFrom_some sc.names n [] (.inl h)
  exact Option.isSome_iff_exists.mp q

theorem inv_start {CX : CXT} {P : Program} {w : World} {K : PySem.W.Frag} {mg : Str → Option Value} {base : Heap} {N ps : List Str} {qual : Str} {scope : Scope} {f : Addr} {cd : Value} {A : Around} {outer : List Env} {s s1 : Shared} {H : Hp} {E : XK} {us : List Value} {vs : List V}
    (S : FnScope N ps scope) (hd : A.handled = none) (e0 : Env0 P w K mg base A outer s H) (hl : vs.length = ps.length) (r : Vals vs us)
    (x : InCallC s s.heap.objs.size (bindL (envOfC qual scope s.heap.objs.size f cd).kindOf (ps.zip us) fun _ => none) (cellsFrom (s.heap.objs.size + 1) scope.names []) (bindC (envOfC qual scope s.heap.objs.size f cd).kindOf (ps.zip us) fun _ => none) s1) :
    Inv (cxOf CX P w K mg base N qual scope f cd A outer s H E) [] (start N vs) H s1 := by
  have hpl : ps.length ≤ N.length := by have := congrArg List.length S.pre; rw [List.length_take] at this; (first | lia | omega)
  obtain ⟨h1, tk, rfl, hk⟩ := x.done
  have noA : ∀ b : Addr, b ∉ (cxOf CX P w K mg base N qual scope f cd A outer s H E).ex := fun b z => absurd (show b ∈ ([] : List Addr) from z) (by simp)
  refine ⟨⟨e0.mod, S.kind, rfl, rfl, Nat.le_refl _, fun y z c h1 h2 => ?_, fun y hy => ?_, fun y c _ h => ?_, fun _ => hd, Around.frames_deeper e0.frames, .inr ⟨rfl, rfl⟩, fun b z => absurd z (noA b), e0.bs, e0.bsz, fun b _ _ => noA b, fun b z => absurd z (noA b), e0.funs, e0.frf⟩,
    rfl, e0.bare, Un.kept hk, ⟨_, x.toInCall.ns, fun i y v h1 h2 h3 => ?_⟩, fun y c h => ⟨_, x.cell y c h⟩, e0.hok.fresh (Nat.le_refl _), fun y c h => ?_, fun p hp => absurd (show p ∈ ([] : List (Addr × Obj)) from hp) (by simp), e0.hok.kept hk, ?_⟩
  · exact name_of_addr x.apart (PySem.mem_of_lookup h1) (PySem.mem_of_lookup h2)
  · have hy : scope.names.lookup y = some .cell ∨ scope.names.lookup y = some .free := hy
    rcases hy with hy | hy
    · exact cell_has hy
    · exact absurd rfl (S.nofree _ (PySem.mem_of_lookup hy))
  · exact Nat.le_of_lt (x.above y c (PySem.mem_of_lookup h))
  · have hi : i < vs.length := by
      unfold start at h2
      by_cases hi : i < vs.length
      · exact hi
      · rw [List.getElem?_append_right (by simpa using hi)] at h2
        rw [List.getElem?_replicate] at h2
        split at h2 <;> cases h2
    have ha : vs[i]? = some v := by
      unfold start at h2
      rw [List.getElem?_append_left (by simpa using hi), List.getElem?_map] at h2
      cases e : vs[i]? with
      | none => rw [e] at h2; cases h2
      | some a => rw [e] at h2; cases h2; rfl
    obtain ⟨u, hu, rv⟩ := r.get ha
    have hp : ps[i]? = some y := by
      rw [← S.pre, List.getElem?_take_of_lt (by (first | lia | omega))]; exact h1
    have ndP : ps.Nodup := by rw [← S.pre]; exact S.nd.sublist (List.take_sublist _ _)
    refine ⟨u, rv, ?_⟩
    rcases S.par y (List.mem_of_getElem? hp) with k | k
    · exact .inl ⟨k, bindL_get ndP hp hu k⟩
    · obtain ⟨c, e⟩ := cell_has (n := s.heap.objs.size + 1) k
      refine .inr ⟨.inl k, c, e, ?_⟩
      have q := x.cell y c e
      rw [bindC_get ndP hp hu (by show scope.names.lookup y ≠ _; rw [k]; decide)] at q
      exact q
  · exact e0.hok.fresh (Nat.le_of_lt (x.above y c (PySem.mem_of_lookup h)))
  · unfold start
    show _ = N.length
    rw [List.length_append, List.length_map, List.length_replicate]
    (first | lia | omega)

theorem fn_of {CX : CXT} {P : Program} {w : World} {K : PySem.W.Frag} {mg : Str → Option Value} {base : Heap} {k : Nat} {f : Addr} {name qual : Str} {params : Arguments} {body : List Stmt} {scope : Scope} {dV kV doc pm cdv ct oc : Value} {an od : Option Addr}
    {osl : Array (Option Value)} {N ps : List Str} {sp : Sp} (lk : K.lookup f = some ⟨oc, od, .func (PySem.W.fnOf name qual params body scope dV kV doc pm an cdv ct), osl⟩) (hcd : PySem.W.codeIn K cdv qual = true) (S : FnScope N ps scope)
    (len : ∀ vs H Q E, sp vs H Q E → vs.length = ps.length)
    (hbody : ∀ (A : Around) (outer : List Env) (s : Shared) (H : Hp) (vs : List V) (Q : VK) (E : XK), Room k (A.deeper (envOfC qual scope s.heap.objs.size f cdv)) → sp vs H Q E →
      ∃ t, PSs (cxOf CX P w K mg base N qual scope f cdv A outer s H E) body t ∧ t { nx := fun _ H' => Q .non H', rt := Q } (start N vs) H) :
    FnOk P w K mg base CX (k + 1) f (PySem.W.fnOf name qual params body scope dV kV doc pm an cdv ct) ps sp := by
  refine ⟨len, fun A outer s H args us vs Q E hr e0 hb r hsp => ?_⟩
  have hl := len _ _ _ _ hsp
  have KX : K.In s.heap := e0.mod.kin.keeps fun b o e => (e0.bs b o e).1
  have lim : s.heap.NoLimit := e0.mod.nolimit.keeps fun b o e => (e0.bs b o e).1
  have hkind : ∀ y ∈ ps.zip us, scope.names.lookup y.1 = some .local ∨ (scope.names.lookup y.1 = some .cell ∧ ((cellsFrom (s.heap.objs.size + 1) scope.names []).lookup y.1).isSome = true) := fun ⟨n, v⟩ hy => by
    rcases S.par n (List.of_mem_zip hy).1 with q | q
    · exact .inl q
    · exact .inr ⟨q, PySem.W.cellsFrom_some _ _ _ (.inl q)⟩
  refine codeAny_call_function hr.depth (KX _ _ lk) rfl S.co S.gen rfl (PySem.W.codeRec_of KX hcd) (hb _ _ _ _ ?_)
  refine wpAny_newFunctionEnv_cells S.kind hkind fun env he s1 x => ?_
  subst he
  refine ⟨lim.keeps x.toInCall.keep, codeAny_func ?_⟩
  obtain ⟨t, ht, hq⟩ := hbody A outer s H vs Q E (hr.deeper _) hsp
  have I : Inv (cxOf CX P w K mg base N qual scope f cdv A outer s H E) [] (start N vs) H s1 := inv_start S hr.hd e0 hl r x
  refine wpAny_mono (ht [] s1 (start N vs) H _ I hq) (fun fl s' hs => ?_) fun e s' hs => hs
  have fin : ∀ {σ' : St} {H' : Hp} {v : V} {u : Value}, Inv (cxOf CX P w K mg base N qual scope f cdv A outer s H E) [] σ' H' s' → RelV v u → Q v H' → CE outer P w H s Q u s' :=
    fun {σ' H' v u} J rv q => ⟨v, H', J.os, J.bare, J.base, J.hok, rv, q⟩
  cases fl with
  | ret u =>
    obtain ⟨v, σ', H', J, rv, q⟩ := hs
    exact fin J rv q
  | next =>
    obtain ⟨σ', H', J, q⟩ := hs
    exact fin (v := V.non) (u := Value.none) J rfl q
  | brk =>
    obtain ⟨_, _, _, q⟩ := hs
    exact False.elim q
  | cont =>
    obtain ⟨_, _, _, q⟩ := hs
    exact False.elim q
end L2

namespace L2
open PySem PySem.Spec PyProof.Rows
section
variable {X : Cx} {x : Str} {p pos : Pos} {e : Expr} {es : List Expr} {t : TA} {id T : String} {r : List V → Hp → VK → Prop}

noncomputable def tCB (r : List V → Hp → VK → Prop) (t : TA) : TE := fun σ H Q => t σ H fun vs H1 => r vs H1 Q
theorem pe_callB (hc : CallR X (.builtin id) r) (hg : Gl X x) (hm : X.mg x = none) (hv : bootBuiltins x = some (.builtin id)) (ha : PA X (e :: es) t) (hn : x ≠ "__name__" := by decide) (hdb : (x == ("__debug__" : Str)) = false := by decide)
    (he : starEach (e :: es) X.env = (false, eval e X.env) :: starEach es X.env := by rfl) (hpl : (backTo pos (starEach es X.env)).any (·.1) = false := by rfl) : PE X (.Call (.Name x p) (e :: es) [] pos) (tCB r t) := by
  refine ⟨?_⟩
  intro pins s σ H Q I h
  refine wpAny_Call_Name_kw (ld_blt I hg hm hv ?_ hn hdb)
  exact PyProof.Rows.callWith_builtin1 (thn (ha pos pins s σ H _ I h) fun us s1 ⟨vs, H1, I1, r1, q1⟩ => hc pins s1 σ H1 vs us Q I1 r1 q1) he hpl
theorem pe_callTy (hc : CallR X (.type T) r) (hg : Gl X x) (hm : X.mg x = none) (hv : bootBuiltins x = some (.type T)) (ha : PA X (e :: es) t) (hn : x ≠ "__name__" := by decide) (hdb : (x == ("__debug__" : Str)) = false := by decide)
    (he : starEach (e :: es) X.env = (false, eval e X.env) :: starEach es X.env := by rfl) (hpl : (backTo pos (starEach es X.env)).any (·.1) = false := by rfl) : PE X (.Call (.Name x p) (e :: es) [] pos) (tCB r t) := by
  refine ⟨?_⟩
  intro pins s σ H Q I h
  refine wpAny_Call_Name_kw (ld_blt I hg hm hv ?_ hn hdb)
  exact PyProof.Rows.callWith_type1 (thn (ha pos pins s σ H _ I h) fun us s1 ⟨vs, H1, I1, r1, q1⟩ => hc pins s1 σ H1 vs us Q I1 r1 q1) he hpl
end
end L2

namespace HT
open PySem PyProof.Rows

noncomputable def lexLt : List Int → List Int → Bool
  | [], [] => false
  | [], _ :: _ => true
  | _ :: _, [] => false
  | x :: xs, y :: ys => if x = y then lexLt xs ys else decide (x < y)
section
open PySem.SeqAt
open PySem.AutoSeq1 (wpAny_loadPart')
open PySem.MeetsSeq PySem.MeetsSeq2 PySem.MeetsSeq3

end

section
variable {prog : Program} {w : World} {A : Around} {E : Value → Shared → Prop} {s : Shared}

noncomputable def sIx (n d : Nat) : Option Int → Nat
  | none => d
  | some v => if v < 0 then (v + (n : Int)).toNat else min v.toNat n
end
end HT

namespace L2
open PySem PySem.Spec PyProof.Rows

noncomputable abbrev TO := St → Hp → (Option Int → Hp → Prop) → Prop
structure PO (X : Cx) (e : Option Expr) (t : TO)  : Prop where
  go : ∀ (pins : List (Addr × Obj)) (s : Shared) (σ : St) (H : Hp) (Q : Option Int → Hp → Prop), Inv X pins σ H s → t σ H Q →
    wpAny (model X.prog X.w) X.A (evalPart e X.env) (fun u s' => ∃ o H', Inv X pins σ H' s' ∧ IsPart u o ∧ Q o H') X.xe s
instance {X : Cx} {e : Option Expr} {t : TO} : CoeFun (PO X e t) (fun _ => ∀ (pins : List (Addr × Obj)) (s : Shared) (σ : St) (H : Hp) (Q : Option Int → Hp → Prop), Inv X pins σ H s → t σ H Q →
    wpAny (model X.prog X.w) X.A (evalPart e X.env) (fun u s' => ∃ o H', Inv X pins σ H' s' ∧ IsPart u o ∧ Q o H') X.xe s) := ⟨PO.go⟩
noncomputable def tNoPart : TO := fun _ H Q => Q none H
noncomputable def tPart (t : TE) : TO := fun σ H Q => t σ H fun x H1 => ∃ i, x = .int i ∧ Q (some i) H1

section
variable {X : Cx} {e : Expr} {te : TE} {lo hi : Option Expr} {tl th : TO} {pos p2 : Pos}

theorem po_none : PO X none tNoPart := by
  refine ⟨?_⟩
  intro pins s σ H Q I h
  rw [evalPart_none]
  exact wpAny_pure ⟨none, H, I, .none, h⟩
theorem po_some (h : PE X e te) : PO X (some e) (tPart te) := by
  refine ⟨?_⟩
  intro pins s σ H Q I hw
  rw [evalPart_some]
  refine thn (h pins s σ H _ I hw) fun u s1 hzz => ?_
  obtain ⟨x, H1, I1, r1, q1⟩ := hzz
  obtain ⟨i, rfl, q⟩ := q1
  obtain ⟨t, rfl⟩ := r1
  exact ⟨some i, H1, I1, .int i t, q⟩

noncomputable def SlR (X : Cx) (r : V → Option Int → Option Int → Hp → VK → Prop) : Prop :=
  ∀ (pins : List (Addr × Obj)) (s : Shared) (σ : St) (H : Hp) (x : V) (v vl vu : Value) (lo hi : Option Int) (sl : Addr) (Q : VK), Inv X pins σ H s → RelV x v → s.heap.IsSliceOf sl vl vu .none → IsPart vl lo → IsPart vu hi → r x lo hi H Q →
    ∃ T id, typeLookup (.type T) "__getitem__" = pure (some (.builtin id)) ∧ s.TypeIs v T ∧ wpAny (model X.prog X.w) X.A (getItem v (.ref sl)) (EP X pins σ Q) X.xe s
noncomputable def tSl (r : V → Option Int → Option Int → Hp → VK → Prop) (te : TE) (tl th : TO) : TE := fun σ H Q => te σ H fun x H1 => tl σ H1 fun l H2 => th σ H2 fun u H3 => r x l u H3 Q
theorem pe_slice {r : V → Option Int → Option Int → Hp → VK → Prop} (hr : SlR X r) (he : PE X e te) (hl : PO X lo tl) (hu : PO X hi th) : PE X (.Subscript e (.Slice lo hi none p2) pos) (tSl r te tl th) := by
  refine ⟨?_⟩
  intro pins s σ H Q I h
  refine Subscript_ (thn (he pins s σ H _ I h) fun v s1 hzz => ?_)
  obtain ⟨x, H1, I1, r1, q1⟩ := hzz
  refine wpAny_Slice (thn (hl pins s1 σ H1 _ I1 q1) fun vl s2 ⟨l, H2, I2, pl, q2⟩ => thn (hu pins s2 σ H2 _ I2 q2) fun vu s3 hzz => ?_)
  obtain ⟨u, H3, I3, pu, q3⟩ := hzz
  rw [evalPart_none]
  refine wpAny_pure ?_
  have I4 : Inv X pins σ H3 { s3 with heap := s3.heap.push { cls := .type "slice", data := .fields #[vl, vu, .none] } } := I3.kept (t' := s3.toks) fun b ob q => Heap.get?_push_of_some _ q
  obtain ⟨T, id, hT, ht, hg⟩ := hr pins { s3 with heap := s3.heap.push { cls := .type "slice", data := .fields #[vl, vu, .none] } } σ H3 x v vl vu l u s3.heap.objs.size Q I4 r1 (Heap.IsSliceOf.new ..) pl pu q3
  show wpAny (model X.prog X.w) X.A (subscriptTail e (.Slice lo hi none p2) v (.ref s3.heap.objs.size)) (EP X pins σ Q) X.xe { s3 with heap := s3.heap.push { cls := .type "slice", data := .fields #[vl, vu, .none] } }
  exact tail_any (ops := [.ref s3.heap.objs.size, v]) ht hT hg (by with_unfolding_all rfl)

noncomputable def cutV (xs : List V) (lo hi : Option Int) : List V := (xs.drop (HT.sIx xs.length 0 lo)).take (HT.sIx xs.length xs.length hi - HT.sIx xs.length 0 lo)
theorem cutV_length (xs : List V) (lo hi : Option Int) : (cutV xs lo hi).length ≤ xs.length := by
  unfold cutV
  rw [List.length_take, List.length_drop]
  (first | lia | omega)
noncomputable def rSlT (K : PySem.W.Frag) : V → Option Int → Option Int → Hp → VK → Prop := fun x lo hi H Q => ∃ a xs, x = .ref a ∧ SqT K H a xs ∧
  ¬ (HT.sIx xs.length 0 lo = 0 ∧ HT.sIx xs.length xs.length hi = xs.length) ∧ ∀ p, H p = none → Q (.ref p) (upd H p (.tup (cutV xs lo hi)))
noncomputable def rLtT (K : PySem.W.Frag) : R2 := fun x y H Q => ∃ a b ns ms, x = .ref a ∧ y = .ref b ∧ SqT K H a (ns.map V.int) ∧ SqT K H b (ms.map V.int) ∧ Q (.bl (HT.lexLt ns ms)) H
noncomputable def rCatT (K : PySem.W.Frag) : R2 := fun x y H Q => ∃ a b xs ys, x = .ref a ∧ y = .ref b ∧ SqT K H a xs ∧ SqT K H b ys ∧ xs ≠ [] ∧ xs.length + ys.length ≤ sizeLine ∧
  (ys = [] → Q (.ref a) H) ∧ (ys ≠ [] → ∀ p, H p = none → Q (.ref p) (upd H p (.tup (xs ++ ys))))
end
end L2

namespace L2
open PySem PySem.Spec PyProof.Rows

noncomputable def ixN (n : Nat) (i : Int) : Option Nat := if 0 ≤ i then (if i < n then some i.toNat else none) else if -(n : Int) ≤ i then some (i + n).toNat else none
noncomputable def atI {α : Type} (xs : List α) (i : Int) : Option α := (ixN xs.length i).bind fun j => xs[j]?
theorem ixN_seq {n : Nat} {i : Int} {j : Nat} (h : ixN n i = some j) : seqIndex? i n = some j ∧ j < n ∧ -(n : Int) ≤ i ∧ i < n := by
  unfold ixN at h
  by_cases h0 : 0 ≤ i
  · rw [if_pos h0] at h
    by_cases h1 : i < n
    · rw [if_pos h1] at h
      have e : i.toNat = j := Option.some.inj h
      exact ⟨by rw [seqIndex_of h0 h1, e], by (first | lia | omega), by (first | lia | omega), h1⟩
    · rw [if_neg h1] at h; cases h
  · rw [if_neg h0] at h
    by_cases h1 : -(n : Int) ≤ i
    · rw [if_pos h1] at h
      have e : (i + n).toNat = j := Option.some.inj h
      exact ⟨by rw [seqIndex_neg (by (first | lia | omega)) h1, e], by (first | lia | omega), h1, by (first | lia | omega)⟩
    · rw [if_neg h1] at h; cases h
theorem atI_get {α : Type} {xs : List α} {i : Int} {v : α} (h : atI xs i = some v) : ∃ j, seqIndex? i xs.length = some j ∧ xs[j]? = some v ∧ j < xs.length ∧ -(xs.length : Int) ≤ i ∧ i < xs.length := by
  unfold atI at h
  cases e : ixN xs.length i with
  | none => rw [e] at h; cases h
  | some j =>
    rw [e] at h
    obtain ⟨h1, h2, h3, h4⟩ := ixN_seq e
    exact ⟨j, h1, h, h2, h3, h4⟩
theorem atI_nat {α : Type} {xs : List α} {j : Nat} {v : α} (h : xs[j]? = some v) : atI xs (j : Int) = some v := by
  have hj : j < xs.length := (List.getElem?_eq_some_iff.mp h).1
  have e : ixN xs.length (j : Int) = some j := by
    unfold ixN
    rw [if_pos (by (first | lia | omega)), if_pos (by (first | lia | omega))]; simp
  unfold atI; rw [e]; exact h
noncomputable def PlainIx (b : Expr) : Prop := ∀ o i, subscripted b false o i = operate [o, i] (getItem o i)
noncomputable def IxR (X : Cx) (r : R2) : Prop :=
  ∀ (value slice : Expr) (pins : List (Addr × Obj)) (s : Shared) (σ : St) (H : Hp) (x y : V) (v u : Value) (Q : VK), Inv X pins σ H s → RelV x v → RelV y u → r x y H Q →
    subscripted slice false v u = operate [v, u] (getItem v u) → wpAny (model X.prog X.w) X.A (subscriptTail value slice v u) (EP X pins σ Q) X.xe s
noncomputable def MtR (X : Cx) (id : String) (r : V → List V → Hp → VK → Prop) : Prop :=
  ∀ (pins : List (Addr × Obj)) (s : Shared) (σ : St) (H : Hp) (x : V) (xs : List V) (v : Value) (us : List Value) (Q : VK), Inv X pins σ H s → RelV x v → Vals xs us → r x xs H Q →
    wpAny (model X.prog X.w) X.A (call (.builtin id) (v :: us)) (EP X pins σ Q) X.xe s
section
variable {X : Cx} {a b : Expr} {ta tb : TE} {pos : Pos}
theorem pe_ix {r : R2} (hr : IxR X r) (ha : PE X a ta) (hb : PE X b tb) (hs : PlainIx b) : PE X (.Subscript a b pos) (tOp r ta tb) := by
  refine ⟨?_⟩
  intro pins s σ H Q I h
  exact Subscript_ (binT ha hb I h fun v u s2 x y H2 I2 rx ry q => hr a b pins s2 σ H2 x y v u Q I2 rx ry q (hs _ _))

noncomputable def rIxL (K : PySem.W.Frag) : R2 := fun x y H Q => ∃ p xs i v, x = .ref p ∧ y = .int i ∧ SqL K H p xs ∧ atI xs i = some v ∧ Q v H
noncomputable def rIxT (K : PySem.W.Frag) : R2 := fun x y H Q => ∃ p xs i v, x = .ref p ∧ y = .int i ∧ SqT K H p xs ∧ atI xs i = some v ∧ Q v H
noncomputable def rIxS : R2 := fun x y H Q => ∃ z i c, x = .str z ∧ y = .int i ∧ z.length ≤ sizeLine ∧ atI z.cps.toList i = some c ∧ Q (.str ⟨#[c]⟩) H
theorem ix_list : IxR X (rIxL X.K) := by
  intro value slice pins s σ H x y v u Q I rx ry h hs
  obtain ⟨p, xs, i, z, rfl, rfl, hq, he, q⟩ := h
  cases rx
  obtain ⟨t, rfl⟩ := ry
  obtain ⟨its, r, pl, hz⟩ := I.list hq
  obtain ⟨j, h1, h2, h3, h4, h5⟩ := atI_get he
  obtain ⟨w, ew, rw'⟩ := r.get h2
  have hl := r.length
  have hn := line63
  have fin : EP X pins σ Q w s := ⟨z, H, I, rw', q⟩
  by_cases h0 : 0 ≤ i
  · have hj : i.toNat = j := by
      rw [seqIndex_of h0 h5] at h1
      exact Option.some.inj h1
    exact item_listR pl.isList h0 (by (first | lia | omega)) (by rw [hj]; simpa using ew) fin hs
  · have hj : (i + (its.toArray.size : Int)).toNat = j := by
      rw [seqIndex_neg (by (first | lia | omega)) h4] at h1
      rw [List.size_toArray, ← hl]
      exact Option.some.inj h1
    exact subscriptTail_builtinR (x := w) pl.isList.typeIs slot_list_getitem.lookup
      (wpAny_getItem_list_neg (Q := fun r s' => r = w ∧ EP X pins σ Q r s') pl.isList (by (first | lia | omega)) (by rw [List.size_toArray] <;> (first | lia | omega)) (by (first | lia | omega)) (by rw [hj]; simpa using ew) ⟨rfl, fin⟩) hs
theorem ix_tup : IxR X (rIxT X.K) := by
  intro value slice pins s σ H x y v u Q I rx ry h hs
  obtain ⟨p, xs, i, z, rfl, rfl, hq, he, q⟩ := h
  cases rx
  obtain ⟨t, rfl⟩ := ry
  obtain ⟨its, r, pl, hz⟩ := I.tuple hq
  obtain ⟨j, h1, h2, h3, h4, h5⟩ := atI_get he
  obtain ⟨w, ew, rw'⟩ := r.get h2
  have hl := r.length
  have hn := line63
  have fin : EP X pins σ Q w s := ⟨z, H, I, rw', q⟩
  exact subscriptTail_builtinR (x := w) pl.typeIs slot_tuple_getitem.lookup
    (getItem_tuple (j := j) (Q := fun r s' => r = w ∧ EP X pins σ Q r s') pl (by (first | lia | omega)) (by (first | lia | omega)) (by rw [List.size_toArray, ← hl]; exact h1) (by simpa using ew) ⟨rfl, fin⟩) hs
noncomputable def rIx (K : PySem.W.Frag) : R2 := fun x y H Q => rIxL K x y H Q ∨ rIxT K x y H Q ∨ rIxS x y H Q
theorem mapSeq_set (its : List Value) (n j : Nat) (u : Value) : Obj.mapSeq (·.setIfInBounds j u) { cls := .type "list", data := .seq its.toArray n } = { cls := .type "list", data := .seq (its.set j u).toArray n } := by
  simp [Obj.mapSeq]
theorem Inv.lst {pins : List (Addr × Obj)} {σ : St} {H : Hp} {s : Shared} {p : Addr} {xs : List V} (I : Inv X pins σ H s) (h : H p = some (.lst xs)) :
    ∃ (its : List Value) (n : Nat), Vals xs its ∧ s.heap.get? p = some { cls := .type "list", data := .seq its.toArray n } ∧ xs.length ≤ sizeLine := by
  obtain ⟨z, its, n, r, e⟩ := I.hok p _ h
  exact ⟨its, n, r, e, z⟩
theorem Inv.lstUpd {pins : List (Addr × Obj)} {σ : St} {H : Hp} {s : Shared} {p : Addr} {xs ys : List V} {its its' : List Value} {n n' : Nat} {f : Obj → Obj} (I : Inv X pins σ H s) (h : H p = some (.lst xs))
    (ho : s.heap.get? p = some { cls := .type "list", data := .seq its.toArray n }) (hf : f { cls := .type "list", data := .seq its.toArray n } = { cls := .type "list", data := .seq its'.toArray n' }) (r : Vals ys its') (hz : ys.length ≤ sizeLine) (t : Nat) :
    Inv X pins σ (upd H p (.lst ys)) { s with heap := s.heap.update p f, toks := t } := by
  have e : (s.heap.update p f).get? p = some { cls := .type "list", data := .seq its'.toArray n' } := by
    rw [Heap.get?_update_self f ho (by rw [hf] <;> rfl), hf]
  refine I.write (x := p) (e := p) (by rw [h]; trivial) (.inl rfl) (fun b u hb q => (Heap.get?_update_other _ _ (Ne.symm hb)).trans q) ⟨_, e⟩ ?_
  exact ⟨hz, its', n', r, e⟩
noncomputable def rSetL : V → V → V → Hp → (Hp → Prop) → Prop := fun o i v H Q => ∃ p xs k j, o = .ref p ∧ i = .int k ∧ H p = some (.lst xs) ∧ ixN xs.length k = some j ∧ Q (upd H p (.lst (xs.set j v)))
theorem set_list : PSet X rSetL := by
  intro pins s σ H o i v ov iv u Q I ro ri rv h
  obtain ⟨p, xs, k, j, rfl, rfl, hp, hj, q⟩ := h
  cases ro
  obtain ⟨t, rfl⟩ := ri
  obtain ⟨its, n, r, ho, hz⟩ := I.lst hp
  obtain ⟨h1, h2, h3, h4⟩ := ixN_seq hj
  have hl := r.length
  have hn := line63
  have I' : Inv X pins σ (upd H p (.lst (xs.set j v))) { s with heap := s.heap.update p (Obj.mapSeq (·.setIfInBounds j u)) } :=
    I.lstUpd hp ho (mapSeq_set its n j u) (r.set rv j) (by rw [List.length_set]; exact hz) s.toks
  by_cases h0 : 0 ≤ k
  · have hk : k.toNat = j := by
      rw [seqIndex_of h0 h4] at h1
      exact Option.some.inj h1
    exact PySem.W.ki_setAt ho h0 (by (first | lia | omega)) (by rw [List.size_toArray, ← hl]; exact h4) (by rw [hk]; exact ⟨_, I', q⟩)
  · have hk : (k + (its.toArray.size : Int)).toNat = j := by
      rw [seqIndex_neg (by (first | lia | omega)) h3] at h1
      rw [List.size_toArray, ← hl]
      exact Option.some.inj h1
    exact PySem.W.ki_setBack ho (by (first | lia | omega)) (by rw [List.size_toArray, ← hl]; exact h3) (by (first | lia | omega)) (by rw [hk]; exact ⟨_, I', q⟩)

theorem slice_bounds (lo hi : Option Int) (n : Nat) : (sliceBounds lo hi none n).1 = ((HT.sIx n 0 lo : Nat) : Int) ∧ (sliceBounds lo hi none n).2.1 = ((HT.sIx n n hi : Nat) : Int) ∧ (sliceBounds lo hi none n).2.2 = 1 := by
  refine ⟨?_, ?_, rfl⟩
  · cases lo with
    | none => simp [sliceBounds, HT.sIx]
    | some i =>
      simp only [sliceBounds, HT.sIx, Option.getD_none, show (1 : Int) > 0 by decide, if_true]
      by_cases h : i < 0
      · simp only [h, if_true] <;> (first | lia | omega)
      · simp only [h, if_false] <;> (first | lia | omega)
  · cases hi with
    | none => simp [sliceBounds, HT.sIx]
    | some i =>
      simp only [sliceBounds, HT.sIx, Option.getD_none, show (1 : Int) > 0 by decide, if_true]
      by_cases h : i < 0
      · simp only [h, if_true] <;> (first | lia | omega)
      · simp only [h, if_false] <;> (first | lia | omega)
theorem slicePick_cut (its : List Value) (lo hi : Option Int) : slicePick its.toArray lo hi none = ((its.drop (HT.sIx its.length 0 lo)).take (HT.sIx its.length its.length hi - HT.sIx its.length 0 lo)).toArray := by
  obtain ⟨h1, h2, h3⟩ := slice_bounds lo hi its.toArray.size
  unfold slicePick
  rw [h1, h2, h3]
  simp only [sliceRange_one, pick_run, List.size_toArray] <;> rfl
noncomputable def rSlL (K : PySem.W.Frag) : V → Option Int → Option Int → Hp → VK → Prop := fun x lo hi H Q => ∃ a xs, x = .ref a ∧ SqL K H a xs ∧ ∀ p, H p = none → Q (.ref p) (upd H p (.lst (cutV xs lo hi)))
theorem sl_list : SlR X (rSlL X.K) := by
  intro pins s σ H x v vl vu lo hi sl Q I rx hs pl pu h
  obtain ⟨a, xs, rfl, hx, q⟩ := h
  cases rx
  obtain ⟨its, r, ht, hz⟩ := I.list hx
  have hlen := r.length
  refine ⟨"list", _, slot_list_getitem.lookup, ht.isList.typeIs, ?_⟩
  refine wpAny_getItem_list_slice ht.isList hs pl pu .none (by simp) ?_ (by rw [List.size_toArray] <;> (first | lia | omega))
  rw [slicePick_cut, ← hlen]
  refine ⟨.ref s.heap.objs.size, _, I.laid (t' := s.toks) (o := .lst (cutV xs lo hi)) (fun b ob q => Heap.get?_push_of_some _ q) (Nat.le_refl _) ?_, rfl, q _ (I.hok.fresh (Nat.le_refl _))⟩
  exact ⟨Nat.le_trans (cutV_length xs lo hi) hz, _, 0, (r.drop (HT.sIx xs.length 0 lo)).take (HT.sIx xs.length xs.length hi - HT.sIx xs.length 0 lo), Heap.get?_push_size _ rfl⟩

noncomputable def flatV : V → Bool
  | .non => true
  | .bl _ => true
  | .int _ => true
  | .str _ => true
  | _ => false
noncomputable def eqV : V → V → Bool
  | .non, .non => true
  | .bl a, .bl b => a == b
  | .bl a, .int b => (if a then 1 else 0) == b
  | .int a, .bl b => a == (if b then 1 else 0)
  | .int a, .int b => a == b
  | .str a, .str b => a == b
  | _, _ => false
theorem eqAt_V {A : Around} {s : Shared} {y x : V} {u v : Value} (ry : RelV y u) (rx : RelV x v) (fy : flatV y = true) (fx : flatV x = true) : SeqAt.EqAt A s u v (eqV y x) := by
  cases y with
  | non =>
    cases ry
    cases x with
    | non => cases rx; exact SeqAt.EqAt.same _
    | bl b => cases rx; exact SeqAt.EqAt.none_bool b
    | int b => obtain ⟨t, rfl⟩ := rx; exact SeqAt.EqAt.none_int b t
    | str b => obtain ⟨t, rfl⟩ := rx; exact SeqAt.EqAt.none_str b t
    | _ => exact absurd (show false = true from fx) Bool.false_ne_true
  | bl a =>
    cases ry
    cases x with
    | non => cases rx; exact SeqAt.EqAt.bool_none a
    | bl b => cases rx; exact SeqAt.EqAt.bool_bool a b
    | int b => obtain ⟨t, rfl⟩ := rx; exact SeqAt.EqAt.bool_int a b t
    | str b => obtain ⟨t, rfl⟩ := rx; exact SeqAt.EqAt.bool_str a b t
    | _ => exact absurd (show false = true from fx) Bool.false_ne_true
  | int a =>
    obtain ⟨t', rfl⟩ := ry
    cases x with
    | non => cases rx; exact SeqAt.EqAt.int_none a t'
    | bl b => cases rx; exact SeqAt.EqAt.int_bool a t' b
    | int b => obtain ⟨t, rfl⟩ := rx; exact SeqAt.EqAt.int_int a t' b t
    | str b => obtain ⟨t, rfl⟩ := rx; exact SeqAt.EqAt.int_str a t' b t
    | _ => exact absurd (show false = true from fx) Bool.false_ne_true
  | str a =>
    obtain ⟨t', rfl⟩ := ry
    cases x with
    | non => cases rx; exact SeqAt.EqAt.str_none a t'
    | bl b => cases rx; exact SeqAt.EqAt.str_bool a t' b
    | int b => obtain ⟨t, rfl⟩ := rx; exact SeqAt.EqAt.str_int a t' b t
    | str b => obtain ⟨t, rfl⟩ := rx; exact SeqAt.EqAt.str_str a t' b t
    | _ => exact absurd (show false = true from fx) Bool.false_ne_true
  | _ => exact absurd (show false = true from fy) Bool.false_ne_true
noncomputable def eqU (x : V) (u : Value) : Bool := match u with
  | .none => eqV .non x
  | .bool b => eqV (.bl b) x
  | .int i _ => eqV (.int i) x
  | .str z _ => eqV (.str z) x
  | _ => false
theorem eqU_of {x y : V} {u : Value} (r : RelV y u) (f : flatV y = true) : eqU x u = eqV y x := by
  cases y with
  | non => cases r; rfl
  | bl b => cases r; rfl
  | int i => obtain ⟨t, rfl⟩ := r; rfl
  | str z => obtain ⟨t, rfl⟩ := r; rfl
  | _ => exact absurd (show false = true from f) Bool.false_ne_true
theorem any_eqU {x : V} : ∀ {xs : List V} {us : List Value}, Vals xs us → xs.all flatV = true → us.any (eqU x) = xs.any fun y => eqV y x
  | _, _, .nil, _ => rfl
  | y :: xs, u :: us, .cons r t, f => by
    rw [List.all_cons, Bool.and_eq_true] at f
    rw [List.any_cons, List.any_cons, eqU_of r f.1, any_eqU t f.2]
theorem mem_eqAt {A : Around} {s : Shared} {x : V} {v : Value} (rx : RelV x v) (fx : flatV x = true) : ∀ {xs : List V} {us : List Value}, Vals xs us → xs.all flatV = true → ∀ u ∈ us, SeqAt.EqAt A s u v (eqU x u)
  | _, _, .nil, _ => fun u hu => by cases hu
  | y :: xs, u :: us, .cons r t, f => fun u' hu => by
    rw [List.all_cons, Bool.and_eq_true] at f
    rcases List.mem_cons.mp hu with rfl | hu
    · rw [eqU_of r f.1]; exact eqAt_V r rx f.1 fx
    · exact mem_eqAt rx fx t f.2 u' hu
noncomputable def inV (x : V) (xs : List V) : Bool := xs.any fun y => eqV y x
noncomputable def rIn (K : PySem.W.Frag) (neg : Bool) : R2 := fun x y H Q => ∃ p xs, y = .ref p ∧ (SqL K H p xs ∨ SqT K H p xs) ∧ flatV x = true ∧ xs.all flatV = true ∧ Q (.bl (if neg then !inV x xs else inV x xs)) H
theorem op_in_seq : OpR X (compareOp .In) (rIn X.K false) := by
  intro pins s σ H x y v u Q I rx ry h
  obtain ⟨p, xs, rfl, hq, fx, fs, q⟩ := h
  cases ry
  rcases hq with hq | hq
  · obtain ⟨its, r, pl, hz⟩ := I.list hq
    refine SeqAt.in_listAt (eqU x) pl.isList (fun w hw => mem_eqAt rx fx r fs w (by simpa using hw)) ⟨.bl _, H, I, rfl, ?_⟩
    rw [show its.toArray.any (eqU x) = its.any (eqU x) by simp, any_eqU r fs]
    exact q
  · obtain ⟨its, r, pl, hz⟩ := I.tuple hq
    refine SeqAt.in_tupleAt (eqU x) pl (fun w hw => mem_eqAt rx fx r fs w (by simpa using hw)) ⟨.bl _, H, I, rfl, ?_⟩
    rw [show its.toArray.any (eqU x) = its.any (eqU x) by simp, any_eqU r fs]
    exact q
theorem call_len_seq : CallR X (.builtin "len") (fun xs H Q => ∃ p ys, xs = [.ref p] ∧ (SqL X.K H p ys ∨ SqT X.K H p ys) ∧ Q (.int ys.length) H) := by
  intro pins s σ H xs us Q I r h
  obtain ⟨p, ys, rfl, hq, q⟩ := h
  obtain ⟨u, rfl, rx⟩ := vals1 r
  cases rx
  have hn := line63
  rcases hq with hq | hq
  · obtain ⟨its, r', pl, hz⟩ := I.list hq
    have hlen := r'.length
    exact Calls.call_len_list pl.isList (by simp only [List.size_toArray] <;> (first | lia | omega)) ⟨.int ys.length, H, I.tok _, ⟨s.toks + 1, by rw [List.size_toArray, hlen]⟩, q⟩
  · obtain ⟨its, r', pl, hz⟩ := I.tuple hq
    have hlen := r'.length
    exact len_tuple pl (by simp only [List.size_toArray] <;> (first | lia | omega)) ⟨.int ys.length, H, I.tok _, ⟨s.toks + 1, by rw [List.size_toArray, hlen]⟩, q⟩
theorem call_list_of : CallR X (.type "list") (fun xs H Q => ∃ p ys, xs = [.ref p] ∧ (SqL X.K H p ys ∨ SqT X.K H p ys) ∧ ∀ l, H l = none → Q (.ref l) (upd H l (.lst ys))) := by
  intro pins s σ H xs us Q I r h
  obtain ⟨p, ys, rfl, hq, q⟩ := h
  obtain ⟨u, rfl, rx⟩ := vals1 r
  cases rx
  have fin : ∀ (its : List Value), Vals ys its → ys.length ≤ sizeLine → ∀ (h' : Heap) (c' : Nat), (∀ b o', s.heap.get? b = some o' → h'.get? b = some o') →
      h'.get? s.heap.objs.size = some { cls := .type "list", dict := none, data := .seq its.toArray c', slots := #[] } → EP X pins σ Q (.ref s.heap.objs.size) { s with heap := h' } := fun its r' hz h' c' kp e =>
    ⟨.ref s.heap.objs.size, _, I.laid (t' := s.toks) kp (Nat.le_refl _) (show ObjOk X.prog X.w _ h' _ (.lst ys) from ⟨hz, its, c', r', e⟩), rfl, q _ (I.hok.fresh (Nat.le_refl _))⟩
  rcases hq with hq | hq
  · obtain ⟨its, r', pl, hz⟩ := I.list hq
    have hlen := r'.length
    obtain ⟨o, ho, hc, n, hd⟩ := pl.isList
    exact call_list_seq p (.inl rfl) ho hc hd (fun h' c' kp e => fin its r' hz h' c' kp e) (by simp only [List.size_toArray] <;> (first | lia | omega))
  · obtain ⟨its, r', pl, hz⟩ := I.tuple hq
    have hlen := r'.length
    obtain ⟨o, ho, hc, n, hd⟩ := pl
    exact call_list_seq p (.inr rfl) ho hc hd (fun h' c' kp e => fin its r' hz h' c' kp e) (by simp only [List.size_toArray] <;> (first | lia | omega))
theorem call_tuple_of : CallR X (.type "tuple") (fun xs H Q => ∃ p ys, xs = [.ref p] ∧ ((SqL X.K H p ys ∧ ∀ l, H l = none → Q (.ref l) (upd H l (.tup ys))) ∨ (SqT X.K H p ys ∧ Q (.ref p) H))) := by
  intro pins s σ H xs us Q I r h
  obtain ⟨p, ys, rfl, h⟩ := h
  obtain ⟨u, rfl, rx⟩ := vals1 r
  cases rx
  rcases h with ⟨hq, q⟩ | ⟨hq, q⟩
  · obtain ⟨its, r', pl, hz⟩ := I.list hq
    have hlen := r'.length
    refine call_tuple_list pl.isList (fun h' kp => ?_) (by simp only [List.size_toArray] <;> (first | lia | omega))
    have I1 : Inv X pins σ H { s with heap := h' } := I.kept (t' := s.toks) kp
    have I2 : Inv X pins σ (upd H h'.objs.size (.tup ys)) { s with heap := h'.push { cls := .type "tuple", data := .seq its.toArray } } :=
      I1.laid (t' := s.toks) (fun b o e => Heap.get?_push_of_some _ e) (Nat.le_refl _) (show ObjOk X.prog X.w _ _ _ (.tup ys) from ⟨hz, its, r', IsTup.new _ _⟩)
    exact ⟨.ref h'.objs.size, _, I2, rfl, q _ (I1.hok.fresh (Nat.le_refl _))⟩
  · obtain ⟨its, r', pl, hz⟩ := I.tuple hq
    exact call_tuple_same pl ⟨.ref p, H, I, rfl, q⟩

noncomputable def tyV (K : PySem.W.Frag) (T : String) (x : V) (H : Hp) : Prop := match x with
  | .str _ => T = "str"
  | .int _ => T = "int"
  | .ref p => (T = "list" ∧ ∃ xs, SqL K H p xs) ∨ (T = "tuple" ∧ ∃ o, K.lookup p = some o ∧ o.cls = .type "tuple" ∧ o.dict = none) ∨
      (T = "dict" ∧ ((∃ kvs, H p = some (.dK kvs)) ∨ ∃ kvs, H p = some (.dT kvs))) ∨ (T = "set" ∧ ∃ S n, H p = some (.set S n))
  | _ => False
theorem tyV_is {pins : List (Addr × Obj)} {σ : St} {H : Hp} {s : Shared} {T : String} {x : V} {v : Value} (I : Inv X pins σ H s) (r : RelV x v) (ty : tyV X.K T x H) :
    s.TypeIs v T ∧ ∀ a, v = .ref a → ∃ ob, s.heap.get? a = some ob ∧ ob.dict = none := by
  cases x with
  | str z =>
    obtain ⟨t, rfl⟩ := r
    cases (show T = "str" from ty)
    exact ⟨typeIs_str s z t, fun _ e => nomatch e⟩
  | int i =>
    obtain ⟨t, rfl⟩ := r
    cases (show T = "int" from ty)
    exact ⟨typeIs_int s i t, fun _ e => nomatch e⟩
  | ref p =>
    cases r
    rcases ty with ⟨rfl, xs, hq⟩ | ⟨rfl, o, hk, hc, hd⟩ | ⟨rfl, hk⟩ | ⟨rfl, S, n, hk⟩
    · obtain ⟨its, _, pl, _⟩ := I.list hq
      refine ⟨pl.isList.typeIs, fun a e => ?_⟩
      cases e
      obtain ⟨o, n, e, c, hd, _⟩ := pl
      exact ⟨o, e, hd⟩
    · refine ⟨⟨o, I.kIn p o hk, hc⟩, fun a e => ?_⟩
      cases e
      exact ⟨o, I.kIn _ o hk, hd⟩
    · have z : ∃ o, s.heap.get? p = some o ∧ o.ExactDict := by
        rcases hk with ⟨kvs, hk⟩ | ⟨kvs, hk⟩
        · obtain ⟨_, _, _, _, o, _, _, e, ex, _⟩ := I.hok p _ hk
          exact ⟨o, e, ex⟩
        · obtain ⟨_, _, _, _, o, _, _, e, ex, _⟩ := I.hok p _ hk
          exact ⟨o, e, ex⟩
      obtain ⟨o, e, ex⟩ := z
      refine ⟨⟨o, e, ex.1⟩, fun a e2 => ?_⟩
      cases e2
      exact ⟨o, e, ex.2.1⟩
    · obtain ⟨o, _, _, _, e, ex, _⟩ := I.hok p _ hk
      refine ⟨⟨o, e, ex.1⟩, fun a e2 => ?_⟩
      cases e2
      exact ⟨o, e, ex.2.1⟩
  | _ => exact False.elim ty
noncomputable def tBM0 (K : PySem.W.Frag) (T : String) (r : V → List V → Hp → VK → Prop) (to : TE) : TE := fun σ H Q => to σ H fun x H1 => tyV K T x H1 ∧ r x [] H1 Q
noncomputable def tBM (K : PySem.W.Frag) (T : String) (r : V → List V → Hp → VK → Prop) (to : TE) (t : TA) : TE := fun σ H Q => to σ H fun x H1 => tyV K T x H1 ∧ t σ H1 fun xs H2 => r x xs H2 Q
variable {o e : Expr} {es : List Expr} {to : TE} {t : TA} {name : Str} {apos cpos : Pos} {T id : String} {r : V → List V → Hp → VK → Prop}
theorem pe_bm0 (pa : PlainAttrs T) (slot : Slot T name id) (hty : typeOf (.builtin id) = pure (.type "method_descriptor")) (hm : MtR X id r) (ho : PE X o to)
    (hbase : attributeBase o name X.env (eval o X.env) = eval o X.env := by rfl) (hline : (apos.endLine == cpos.line) = true := by rfl) : PE X (.Call (.Attribute o name apos) [] [] cpos) (tBM0 X.K T r to) := by
  refine ⟨?_⟩
  intro pins s σ H Q I h
  refine wpAny_Call_method0_late hbase hline (thn (ho pins s σ H _ I h) fun v s1 hzz => ?_)
  obtain ⟨x, H1, I1, r1, ty, q1⟩ := hzz
  obtain ⟨h1, h2⟩ := tyV_is I1 r1 ty
  exact ⟨T, id, pa, slot, hty, h1, h2, Calls.callWith_builtin rfl (PySem.evalArgs_none (hm pins s1 σ H1 x [] v [] Q I1 r1 .nil q1))⟩
theorem pe_bm (pa : PlainAttrs T) (slot : Slot T name id) (hty : typeOf (.builtin id) = pure (.type "method_descriptor")) (hm : MtR X id r) (ho : PE X o to) (ha : PA X (e :: es) t)
    (hbase : attributeBase o name X.env (eval o X.env) = eval o X.env := by rfl)
    (hfew : ((backTo cpos (starEach (e :: es) X.env)).all (fun x => !x.1) && (backToKw cpos (keywordEach [] X.env)).all (fun x => x.1.isSome)
      && decide ((e :: es).length + ([] : List Keyword).length + (if ([] : List Keyword).isEmpty then 0 else 1) < 30)) = true := by rfl)
    (hline : (apos.endLine == cpos.line) = true := by rfl) (hs : starEach (e :: es) X.env = (false, eval e X.env) :: starEach es X.env := by rfl) (hplain : (backTo cpos (starEach es X.env)).any (·.1) = false := by rfl) :
    PE X (.Call (.Attribute o name apos) (e :: es) [] cpos) (tBM X.K T r to t) := by
  refine ⟨?_⟩
  intro pins s σ H Q I h
  refine wpAny_Call_method_late hbase hfew hline rfl (thn (ho pins s σ H _ I h) fun v s1 hzz => ?_)
  obtain ⟨x, H1, I1, r1, ty, q1⟩ := hzz
  obtain ⟨h1, h2⟩ := tyV_is I1 r1 ty
  refine ⟨T, id, pa, slot, hty, h1, h2, ?_⟩
  have hA := ha cpos pins s1 σ H1 _ I1 q1
  rw [hs] at hA ⊢
  refine Calls.callWith_builtin (by show (false || (backTo cpos (starEach es X.env)).any (·.1)) = false; rw [hplain] <;> rfl) (Calls.evalArgs_plain ?_)
  exact thn hA fun us s2 ⟨vs, H2, I2, r2, q2⟩ => hm pins s2 σ H2 x vs v us Q I2 r1 r2 q2
/- xs.append(e), list.index on a module's tuple .. are MtR facts of 06m -/
end
end L2

namespace L2
open PySem PySem.Spec PyProof.Rows

noncomputable def MtM (X : Cx) (id : String) (r : V → List V → Hp → VK → Prop) : Prop :=
  ∀ (pins : List (Addr × Obj)) (s : Shared) (σ : St) (H : Hp) (x : V) (xs : List V) (v : Value) (us : List Value) (Q : VK), Inv X pins σ H s → RelV x v → Vals xs us → r x xs H Q →
    wpAny (model X.prog X.w) X.A (call (.builtin id) (v :: us)) (EP X pins σ Q) X.xe s

theorem Vals.one : ∀ {x : V} {us : List Value}, Vals [x] us → ∃ u, us = [u] ∧ RelV x u
  | _, _, .cons r .nil => ⟨_, rfl, r⟩
theorem Vals.zero : ∀ {us : List Value}, Vals [] us → us = []
  | _, .nil => rfl
theorem Vals.dropLast {xs : List V} {us : List Value} (h : Vals xs us) : Vals xs.dropLast us.dropLast := by
  induction h with
  | nil => exact .nil
  | cons r t ih =>
    cases t with
    | nil => exact .nil
    | cons q t' => exact .cons r ih
theorem Vals.rep {xs : List V} {us : List Value} (h : Vals xs us) : ∀ k : Nat, Vals (List.replicate k xs).flatten (List.replicate k us).flatten
  | 0 => .nil
  | k + 1 => by
    rw [List.replicate_succ, List.replicate_succ, List.flatten_cons, List.flatten_cons]
    exact Vals.append h (Vals.rep h k)
theorem erase_last {α : Type} (l : List α) : l.eraseIdx (l.length - 1) = l.dropLast := by
  induction l with
  | nil => rfl
  | cons a r ih =>
    cases r with
    | nil => rfl
    | cons b r =>
      have e : (a :: b :: r).length - 1 = ((b :: r).length - 1) + 1 := by
        have h1 : (a :: b :: r).length = r.length + 2 := rfl
        have h2 : (b :: r).length = r.length + 1 := rfl
        (first | lia | omega)
      rw [e, List.eraseIdx_cons_succ, ih]
      all_goals rfl
theorem foldl_rep (its : List Value) : ∀ (k : Nat) (acc : List Value),
    List.foldl (fun x1 x2 => x1 ++ x2) acc.toArray (List.replicate k its.toArray) = (acc ++ (List.replicate k its).flatten).toArray
  | 0, acc => by simp
  | k + 1, acc => by
    have e : acc.toArray ++ its.toArray = (acc ++ its).toArray := by simp
    have e2 : (acc ++ its) ++ (List.replicate k its).flatten = acc ++ (List.replicate (k + 1) its).flatten := by
      rw [List.replicate_succ, List.flatten_cons, List.append_assoc]
    rw [← e2, ← foldl_rep its k (acc ++ its), ← e, List.replicate_succ, List.foldl_cons]

section
variable {X : Cx} {pins : List (Addr × Obj)} {σ : St} {H : Hp} {s : Shared} {l b : Addr} {xs ys zs : List V}

theorem Inv.lset {its its' : List Value} {n : Nat} {f : Array Value → Array Value} {t' : Nat} (I : Inv X pins σ H s) (hH : H l = some (.lst xs))
    (e : s.heap.get? l = some { cls := .type "list", data := .seq its.toArray n }) (hf : f its.toArray = its'.toArray) (hv : Vals ys its') (hz : ys.length ≤ sizeLine) :
    Inv X pins σ (upd H l (.lst ys)) { s with heap := s.heap.update l (Obj.mapSeq f), toks := t' } := by
  have q := PySem.IsL.update e f
  rw [hf] at q
  refine I.write (x := l) (e := l) (by rw [hH]; exact trivial) (.inl rfl) (fun b' u hb hu => (Heap.get?_update_other s.heap (Obj.mapSeq f) (Ne.symm hb)).trans hu) ⟨_, q⟩ ?_
  exact ⟨hz, its', _, hv, q⟩
theorem Inv.lnew {its : List Value} {t' : Nat} (I : Inv X pins σ H s) (hv : Vals ys its) (hz : ys.length ≤ sizeLine) :
    Inv X pins σ (upd H s.heap.objs.size (.lst ys)) { s with heap := s.heap.push { cls := .type "list", data := .seq its.toArray }, toks := t' } :=
  I.laid (fun _ _ q => Heap.get?_push_of_some _ q) (Nat.le_refl _) ⟨hz, its, 0, hv, Heap.get?_push_size _ rfl⟩
theorem Inv.fresh (I : Inv X pins σ H s) : H s.heap.objs.size = none := I.hok.fresh (Nat.le_refl _)
theorem Inv.lstM (I : Inv X pins σ H s) (hH : H l = some (.lst xs)) : xs.length ≤ sizeLine ∧ ∃ (its : List Value) (n : Nat), Vals xs its ∧ xs.length = its.length ∧ s.heap.get? l = some { cls := .type "list", data := .seq its.toArray n } := by
  obtain ⟨z, its, n, r, e⟩ := I.hok l _ hH
  exact ⟨z, its, n, r, r.length, e⟩

theorem notLongL {n : Nat} (h : n ≤ sizeLine) : Builtin.List.listTooLong n = false := by
  unfold Builtin.List.listTooLong
  exact decide_eq_false (by (first | lia | omega))
end

section
variable {X : Cx}

noncomputable def rAppend : V → List V → Hp → VK → Prop := fun x vs H Q => ∃ l xs y, x = .ref l ∧ vs = [y] ∧ H l = some (.lst xs) ∧ xs.length < sizeLine ∧ Q .non (upd H l (.lst (xs ++ [y])))
theorem mt_append : MtM X "list.append" rAppend := by
  intro pins s σ H x vs v us Q I rx rv h
  obtain ⟨l, xs, y, rfl, rfl, hH, hz, q⟩ := h
  cases rx
  obtain ⟨u, rfl, ru⟩ := rv.one
  obtain ⟨z, its, n, r, hl, e⟩ := I.lstM hH
  refine call_meets F.slot_list_append ⟨_, e, rfl⟩ F.entry_list_append (F.args_list_append_2 _ _) (PySem.list_append l its.toArray n u (by rw [List.size_toArray]; (first | lia | omega))) ⟨e, ?_⟩
  refine ⟨.non, _, I.lset (its' := its ++ [u]) hH e (by simp) (r.append (.cons ru .nil)) ?_, rfl, q⟩
  rw [List.length_append, List.length_singleton]
  (first | lia | omega)

noncomputable def rExtend : V → List V → Hp → VK → Prop := fun x vs H Q => ∃ l b xs zs, x = .ref l ∧ vs = [.ref b] ∧ H l = some (.lst xs) ∧ H b = some (.lst zs) ∧ xs.length + zs.length ≤ sizeLine ∧ Q .non (upd H l (.lst (xs ++ zs)))
theorem mt_extend : MtM X "list.extend" rExtend := by
  intro pins s σ H x vs v us Q I rx rv h
  obtain ⟨l, b, xs, zs, rfl, rfl, hH, hB, hz, q⟩ := h
  cases rx
  obtain ⟨u, rfl, ru⟩ := rv.one
  cases ru
  obtain ⟨z, its, n, r, hl, e⟩ := I.lstM hH
  obtain ⟨z2, its2, n2, r2, hl2, e2⟩ := I.lstM hB
  have hsz : its.toArray.size + its2.toArray.size ≤ sizeLine := by rw [List.size_toArray, List.size_toArray]; (first | lia | omega)
  have hlong : ¬ (!its.toArray.isEmpty && Builtin.List.listTooLong (its.toArray.size + its2.toArray.size)) = true := by
    rw [notLongL hsz, Bool.and_false]
    exact Bool.false_ne_true
  refine call_meets F.slot_list_extend ⟨_, e, rfl⟩ F.entry_list_extend (F.args_list_extend_2 _ _)
    (AutoSeq1.list_extend_list_list_0 l its.toArray n b its2.toArray n2 hlong (by rw [List.size_toArray]; (first | lia | omega)) (by (first | lia | omega))) ⟨e, e2, ?_⟩
  refine ⟨.non, _, I.lset (its' := its ++ its2) hH e (by simp) (r.append r2) ?_, rfl, q⟩
  rw [List.length_append]
  (first | lia | omega)

noncomputable def rPop : V → List V → Hp → VK → Prop := fun x vs H Q => ∃ l xs y, x = .ref l ∧ vs = [] ∧ H l = some (.lst xs) ∧ xs[xs.length - 1]? = some y ∧ Q y (upd H l (.lst xs.dropLast))
theorem mt_pop : MtM X "list.pop" rPop := by
  intro pins s σ H x vs v us Q I rx rv h
  obtain ⟨l, xs, y, rfl, rfl, hH, hy, q⟩ := h
  cases rx
  have hus := rv.zero
  subst hus
  obtain ⟨z, its, n, r, hl, e⟩ := I.lstM hH
  obtain ⟨u, hu, ru⟩ := r.get hy
  have hy' : its.toArray[its.toArray.size - 1]? = some u := by
    show its.toArray[its.length - 1]? = some u
    rw [← Array.getElem?_toList, ← hl]
    exact hu
  refine call_meets F.slot_list_pop ⟨_, e, rfl⟩ F.entry_list_pop (F.args_list_pop_1 _) (MeetsSeq.list_pop_last l its.toArray n u hy' (by rw [List.size_toArray]; (first | lia | omega))) ⟨e, ?_⟩
  refine ⟨y, _, I.lset (its' := its.dropLast) hH e ?_ r.dropLast ?_, ru, q⟩
  · show its.toArray.eraseIdxIfInBounds (its.toArray.size - 1) = its.dropLast.toArray
    rw [List.size_toArray, List.eraseIdxIfInBounds_toArray, erase_last]
  · rw [List.length_dropLast]
    (first | lia | omega)

noncomputable def rPopAt : V → List V → Hp → VK → Prop := fun x vs H Q => ∃ l xs i k y, x = .ref l ∧ vs = [.int i] ∧ H l = some (.lst xs) ∧ -(2 ^ 63) ≤ i ∧ i < 2 ^ 63 ∧ seqIndex? i xs.length = some k ∧ xs[k]? = some y ∧ Q y (upd H l (.lst (xs.eraseIdx k)))
noncomputable def rReverse : V → List V → Hp → VK → Prop := fun x vs H Q => ∃ l xs, x = .ref l ∧ vs = [] ∧ H l = some (.lst xs) ∧ Q .non (upd H l (.lst xs.reverse))
noncomputable def rClear : V → List V → Hp → VK → Prop := fun x vs H Q => ∃ l xs, x = .ref l ∧ vs = [] ∧ H l = some (.lst xs) ∧ Q .non (upd H l (.lst []))
noncomputable def rCat : R2 := fun x y H Q => ∃ l b xs zs, x = .ref l ∧ y = .ref b ∧ H l = some (.lst xs) ∧ H b = some (.lst zs) ∧ xs.length + zs.length ≤ sizeLine ∧ ∀ p, H p = none → Q (.ref p) (upd H p (.lst (xs ++ zs)))
theorem op_cat : OpR X (binaryOp .Add) rCat := by
  intro pins s σ H x y v u Q I rx ry h
  obtain ⟨l, b, xs, zs, rfl, rfl, hH, hB, hz, q⟩ := h
  cases rx
  cases ry
  obtain ⟨z, its, n, r, hl, e⟩ := I.lstM hH
  obtain ⟨z2, its2, n2, r2, hl2, e2⟩ := I.lstM hB
  refine PySem.P.add_list e e2 ?_ (by rw [List.size_toArray, List.size_toArray]; (first | lia | omega))
  have ea : its.toArray ++ its2.toArray = (its ++ its2).toArray := by simp
  rw [ea]
  exact ⟨.ref _, _, I.lnew (t' := s.toks) (r.append r2) (by rw [List.length_append]; (first | lia | omega)), rfl, q _ I.fresh⟩
noncomputable def rRep : R2 := fun x y H Q => ∃ l k xs, x = .ref l ∧ y = .int k ∧ H l = some (.lst xs) ∧ -(2 ^ 63) ≤ k ∧ k < 2 ^ 63 ∧ xs.length * k.toNat ≤ sizeLine ∧
  ∀ p, H p = none → Q (.ref p) (upd H p (.lst (List.replicate k.toNat xs).flatten))
theorem len_rep {α : Type} (xs : List α) (k : Nat) : (List.replicate k xs).flatten.length = k * xs.length := by
  induction k with
  | zero => simp
  | succ k ih => rw [List.replicate_succ, List.flatten_cons, List.length_append, ih, Nat.succ_mul, Nat.add_comm]
theorem op_rep : OpR X (binaryOp .Mult) rRep := by
  intro pins s σ H x y v u Q I rx ry h
  obtain ⟨l, k, xs, rfl, rfl, hH, h1, h2, hz, q⟩ := h
  cases rx
  obtain ⟨t, rfl⟩ := ry
  obtain ⟨z, its, n, r, hl, e⟩ := I.lstM hH
  have hlen : its.toArray.size * k.toNat ≤ sizeLine := by rw [List.size_toArray, ← hl]; exact hz
  have hcap : ¬ its.toArray.size * k.toNat > (2 ^ 63 - 1) / 8 := by
    have : (sizeLine : Nat) ≤ (2 ^ 63 - 1) / 8 := by decide
    (first | lia | omega)
  have hfit : ¬ (!Builtin.List.listFitsIndex k) = true := by
    rw [fitsIndex_both h1 h2]
    exact Bool.false_ne_true
  have hlong : ¬ Builtin.List.listTooLong (its.toArray.size * k.toNat) = true := by
    rw [notLongL hlen]
    exact Bool.false_ne_true
  have hnew : List.foldl (fun x1 x2 => x1 ++ x2) #[] (List.replicate (if its.toArray.isEmpty = true then 0 else k.toNat) its.toArray) = (List.replicate k.toNat its).flatten.toArray := by
    have f0 : ∀ m : Nat, List.foldl (fun x1 x2 => x1 ++ x2) #[] (List.replicate m its.toArray) = (List.replicate m its).flatten.toArray := fun m => by
      have := foldl_rep its m []
      rw [List.nil_append] at this
      exact this
    rw [f0]
    cases its with
    | nil => simp
    | cons a r' => rw [if_neg (by simp)]
  refine wpAny_binaryOp_repeat_ref (T := "list") (U := "int") (by decide) ⟨_, e, rfl⟩ (fun s' => typeIs_int s' k t) noFill_list_mul F.fills_int_mul F.slot_int_rmul repeat_list F.slot_int_index.lookup
    (call_meets F.slot_int_rmul (typeIs_int s k t) F.entry_int_rmul (F.args_int_rmul_2 _ _) (int___rmul___int_list k t l its.toArray n)
      ⟨e, rfl, ⟨_, e, rfl⟩, call_meets F.slot_list_mul ⟨_, e, rfl⟩ F.entry_list_mul (F.args_list_mul_2 _ _) (AutoListH.list___mul___list_int_3 l its.toArray n k t hfit hcap hlong) ⟨e, ?_⟩⟩)
  rw [hnew]
  exact ⟨.ref _, _, I.lnew (t' := s.toks) (r.rep k.toNat) (by rw [len_rep, Nat.mul_comm]; exact hz), rfl, q _ I.fresh⟩

end

section
variable {prog : Program} {w : World} {A : Around} {E : Value → Shared → Prop} {s : Shared}
set_option maxRecDepth 100000 in
end

section
variable {X : Cx}
end
end L2

namespace Att
open PySem PySem.W PySem.Calls PyProof.Rows

theorem ints_of_wellAll {P : Params} {h : Heap} : ∀ (ns : List Int) (vs : List Value), WellAll P h vs (ns.map WData.int) → IntsAre vs ns := by
  intro ns
  induction ns with
  | nil =>
    intro vs w
    rw [List.map_nil] at w
    cases w
    exact .nil
  | cons n ns ih =>
    intro vs w
    rw [List.map_cons] at w
    cases w with
    | cons a b =>
      cases a
      exact .cons _ _ (ih _ b)

theorem script_of {l : OpenLaw} {n : Nat} (hn : l.most = some n) {P : Params} {h : Heap} {args : List WData} {vals : List Value}
    (hpre : l.row.toRowW.claim.pre args = true) (hwl : WellAll P h vals args) :
    ∃ a vs ns, vals = [Value.ref a] ∧ args = [WData.list (ns.map WData.int)] ∧ h.get? a = some { cls := .type "list", data := .seq vs.toArray } ∧ IntsAre vs ns ∧ ns.length ≤ n := by
  have hsh : WShape.hasAll [] args [.list .int] = true := (pre_splitW hpre).1
  have hc : l.pre.holds [] { args := args } = true := (pre_splitW hpre).2
  obtain ⟨d, r, rfl, h1, h2⟩ := hasAllW_cons hsh
  obtain rfl := hasAllW_nil h2
  obtain ⟨xs, rfl, h3⟩ := hasW_list h1
  obtain ⟨ns, rfl⟩ := items_int h3
  have hlen : ns.length ≤ n := by
    unfold OpenLaw.pre at hc
    have h4 : (WTm.not (.lt (.lit (.int (n : Int))) (.len (.arg 0)))).holds [] { args := [.list (ns.map .int)] } = true := by
      have h4 := (holds_andW hc).1
      rw [hn] at h4
      exact h4
    have h5 := condW_of h4 (w_not (w_lt w_lit (w_len_list (w_arg rfl))))
    rw [List.length_map] at h5
    refine Nat.le_of_not_lt fun q => ?_
    have q' : (n : Int) < ((ns.length : Nat) : Int) := by (first | lia | omega)
    first
      | (rw [decide_eq_true q'] at h5; exact absurd h5 (by decide))
      | (simp at h5; (first | lia | omega))
  cases hwl with
  | cons w1 w2 =>
    cases w2
    cases w1 with
    | list ho hall => exact ⟨_, _, ns, rfl, rfl, ho, ints_of_wellAll ns _ hall, hlen⟩

theorem post_true (l : OpenLaw) (args : List WData) : l.row.toRowW.claim.post args (.bool true) args = true :=
  postW_of (r := l.row.toRowW) (X := (true == true))
    (show WShape.has [] (.bool true) .bool = true by first | rfl | decide | simp [WShape.has, WShape.arms, WShape.armsAll])
    (show (WTm.eq .res (.lit (.bool true))).value [] { args := args, res := some (.bool true), after := args } = some (.bool (true == true)) from w_eq_bool (w_res rfl) w_lit) rfl

theorem attach_call {l : OpenLaw} {n : Nat} {q : Program} {loose : List Str} {XP : (Str → Option Value) → Heap → Prop} {YP : World → Heap → Prop} {d : DefRec}
    (hn : l.most = some n) (hdf : d.params.defaults = [])
    (call : ∀ (w : World) (s₀ s₁ : Shared) (mg mb : Str → Option Value) (fa : Addr) (o : Obj) (pm cd doc : Value) (a : Addr) (vs : List Value) (ns : List Int),
      Ground q loose [] XP w s₀ mg mb s₁.heap → YP w s₁.heap →
      s₁.heap.get? fa = some o → o.data = .func (docDef d.name d.params d.body d.scope pm cd doc) → s₁.heap.CodeRec cd d.name → mg d.name = some (.ref fa) →
      s₁.heap.get? a = some { cls := .type "list", data := .seq vs.toArray } → IntsAre vs ns → ns.length ≤ n → s₁.gens = #[] →
      codeAny (model l.prog w) callerA (.call (.ref fa) ⟨[.ref a], []⟩) (fun r s' => r = .ok (.ret (.bool true)) ∧ OldK s₁.heap s'.heap ∧ s'.os = s₁.os ∧ AllBare s'.gens) s₁) :
    WalkO q loose XP YP l.row.toRowW d [] (fun f vs => PySem.call f vs) := by
  intro w s₀ s₁ mg mb G Y fa o pm cd doc dV kV ho hd hcd hD hmg hg args vals as hpre hlay hrd hwl hlo
  obtain rfl : dV = .none := Dflts.none hD hdf
  obtain rfl : kV = .none := Dflts.noKw hD
  obtain ⟨a, vs, ns, rfl, rfl, hobj, hints, hlen⟩ := script_of hn hpre hwl
  refine enter_call (codeAny_mono (call w s₀ s₁ mg mb fa o pm cd doc a vs ns G Y ho (fd_plain hd) hcd hmg hobj hints hlen hg) fun r s' hq => ?_)
  obtain ⟨rfl, h2, h3, h4⟩ := hq
  exact ⟨.inl ⟨.bool true, .bool true, [], rfl, fun _ => rfl, .bool true, post_true l _, fun _ => ⟨List.Pairwise.nil, fun _ hm => (nomatch hm)⟩⟩, h2, h3, h4⟩

section
variable {prog : Program} {w : World} {A : Around} {E : Value → Shared → Prop} {s : Shared} {K : Frag}

noncomputable def noObjs (h : Heap) : Heap := { h with objs := #[] }
noncomputable def ledger (h : Heap) (L d : Addr) : List (Addr × Obj) := (List.range h.objs.size).filterMap fun a => if a = L ∨ a = d then none else (h.get? a).map fun o => (a, o)
end
end Att

namespace L2
open PySem PySem.Spec PyProof.Rows

theorem vals_ints : ∀ {vs : List Value} {ns : List Int}, IntsAre vs ns → Vals (ns.map V.int) vs
  | _, _, .nil => .nil
  | _, _, .cons n t h => .cons ⟨t, rfl⟩ (vals_ints h)

noncomputable def Only (H : Hp) : Prop := ∀ b, H b = none ∨ ∃ o xs, H b = some (.frz o (.lst xs))

theorem law_call {P : Program} {w : World} {K : PySem.W.Frag} {mg mb : Str → Option Value} {CX : CXT} {k : Nat} {fa a : Addr} {fd : FuncData} {x : Str} {sp : Sp} {s₁ : Shared} {vs : List Value} {ns : List Int}
    (KX : K.In s₁.heap) (hns : s₁.heap.Ns mainGlobals mg) (hb : s₁.heap.Ns builtinsNs mb) (hbb : ∀ x : Str, x ≠ "__name__" → mb x = bootBuiltins x) (hlim : s₁.heap.NoLimit) (hg : s₁.gens = #[])
    (ha : s₁.heap.get? a = some { cls := .type "list", data := .seq vs.toArray }) (hi : IntsAre vs ns) (hl : ns.length ≤ sizeLine) (hr : Room k callerA)
    (F : ∀ base : Heap, K.In base → base.Ns mainGlobals mg → FnOk P w K mg base CX k fa fd [x] sp) (hbind : ∀ (s : Shared) (u : Value), BindsTo s fd ⟨[u], []⟩ [(x, u)])
    (hsp : ∀ H : Hp, Only H → SqL K H a (ns.map V.int) → sp [.ref a] H (fun v _ => v = .bl true) fun _ _ _ => False)
    (hCX : ∀ H e s', CX [] H s₁ (fun _ _ _ => False) e s' → False) :
    codeAny (model P w) callerA (.call (.ref fa) ⟨[.ref a], []⟩) (fun r s' => r = .ok (.ret (.bool true)) ∧ OldK s₁.heap s'.heap ∧ s'.os = s₁.os ∧ AllBare s'.gens) s₁ := by
  have rv := vals_ints hi
  have lenV := hi.length
  -- from an abstract heap in which nothing but the script may be tracked
  have core : ∀ H : Hp, Only H → SqL K H a (ns.map V.int) → HOk P w H s₁.heap → (∀ b, H b ≠ none → b = a) → (H a ≠ none → K.lookup a = none) →
      codeAny (model P w) callerA (.call (.ref fa) ⟨[.ref a], []⟩) (fun r s' => r = .ok (.ret (.bool true)) ∧ OldK s₁.heap s'.heap ∧ s'.os = s₁.os ∧ AllBare s'.gens) s₁ := by
    intro H hO hS hok hA hK
    have base_of : ∀ {b : Addr} {o : Obj}, s₁.heap.get? b = some o → H b = none → (hidT s₁.heap H).get? b = some o := fun e n => hidT_get e n
    have noA : ∀ {b : Addr} {o : Obj} {es : Array DictEntry} {ep : Nat}, s₁.heap.get? b = some o → o.data = .dict es ep → H b = none := fun {b o es ep} e d => by
      cases q : H b with
      | none => rfl
      | some u =>
        have e' : b = a := hA b (by rw [q]; simp)
        subst e'
        rw [ha] at e; cases e
        have d' : Data.seq vs.toArray _ = Data.dict es ep := d
        cases d'
    have nsK : ∀ {b : Addr} {m : Str → Option Value}, s₁.heap.Ns b m → (hidT s₁.heap H).Ns b m := fun {b m} ⟨o, es, ep, e, d, r⟩ => ⟨o, es, ep, base_of e (noA e d), d, r⟩
    have hKb : K.In (hidT s₁.heap H) := fun b o e => base_of (KX b o e) (by
      cases q : H b with
      | none => rfl
      | some u =>
        have e' : b = a := hA b (by rw [q]; simp)
        subst e'
        rw [hK (by rw [q]; simp)] at e; cases e)
    have hM : Mod K mg (hidT s₁.heap H) := ⟨hKb, nsK hns, ⟨mb, nsK hb, hbb⟩, let ⟨mc, h1, h2⟩ := hlim; ⟨mc, nsK h1, h2⟩⟩
    have e0 : Env0 P w K mg (hidT s₁.heap H) callerA [] s₁ H := ⟨rfl, hM, fun b o e => of_hidT e, Nat.le_of_eq (hidT_size _ _), trivial, fun b hb => absurd (show b ∈ ([] : List Addr) from hb) (by simp), hok, .of_eq hg⟩
    refine codeAny_mono ((F _ hKb (nsK hns)).run callerA [] s₁ H ⟨[.ref a], []⟩ [.ref a] [.ref a] _ _ hr e0 (hbind s₁ (.ref a)) (.cons rfl .nil) (hsp H hO hS)) fun r s' h => ?_
    cases r with
    | error e => exact (hCX H e s' h).elim
    | ok fl =>
      cases fl with
      | next => exact False.elim h
      | brk => exact False.elim h
      | cont => exact False.elim h
      | ret u =>
        obtain ⟨v, H', os, bare, un, hok', r', q⟩ := h
        have q' : v = .bl true := q
        subst q'
        obtain rfl : u = Value.bool true := r'
        refine ⟨rfl, OldK.of_keep fun b o e => ?_, os, bare⟩
        cases q : H b with
        | none => exact un.keep b o e q (by intro z; exact absurd (show b ∈ ([] : List Addr) from z) (by simp)) (by simp)
        | some u =>
          rcases hO b with z | ⟨ob, xs, z⟩
          · rw [q] at z; cases z
          · have z2 := un.frzs b ob _ z
            obtain ⟨e1, _⟩ := hok b _ z
            obtain ⟨e2, _⟩ := hok' b _ z2
            rw [e] at e1; cases e1
            exact e2
  cases hk : K.lookup a with
  | some o =>
    -- the script is one of the module's own objects
    have e := KX a o hk
    rw [ha] at e
    cases e
    refine core (fun _ => none) (fun _ => .inl rfl) (.inr ⟨_, vs.toArray, _, hk, rfl, rfl, rfl, by rw [List.size_toArray, lenV]; exact hl, by simpa using rv⟩) (fun b u z => by have z' : (none : Option HO) = some u := z; cases z') (fun b z => absurd rfl z) fun z => absurd rfl z
  | none =>
    refine core (fun b => if b = a then some (.frz { cls := .type "list", data := .seq vs.toArray } (.lst (ns.map V.int))) else none) (fun b => ?_) (.inl (.inr ⟨{ cls := .type "list", data := .seq vs.toArray }, if_pos rfl⟩)) (fun b u z => ?_) (fun b z => ?_) fun _ => hk
    · by_cases hb : b = a
      · exact .inr ⟨_, _, if_pos hb⟩
      · exact .inl (if_neg hb)
    · by_cases hb : b = a
      · have z' := (if_pos hb).symm.trans z
        cases z'
        subst hb
        exact ⟨ha, by rw [List.length_map]; exact hl, vs, _, rv, ha⟩
      · have z' := (if_neg hb).symm.trans z
        cases z'
    · by_cases hb : b = a
      · exact hb
      · exact absurd (if_neg hb) z
end L2

namespace L2
open PySem PySem.Spec PyProof.Rows

noncomputable abbrev KOf {K : PySem.W.Frag} {h : Heap} (_ : K.In h) : PySem.W.Frag := K

theorem walk_of {l : PySem.W.OpenLaw} {n k : Nat} {q : Program} {loose : List Str} {XP : (Str → Option Value) → Heap → Prop} {YP : World → Heap → Prop} {d : DefRec} {K : Params → PySem.W.Frag} {CX : World → CXT} {sp : World → Sp} {x : Str}
    (hn : l.most = some n) (hn2 : n ≤ sizeLine) (hdf : d.params.defaults = []) (hr : Room k callerA)
    (hY : ∀ (w : World) (h : Heap), YP w h → (K w.params).In h)
    (F : ∀ (w : World) (mg : Str → Option Value) (fa : Addr) (h : Heap), (K w.params).In h → h.Ns mainGlobals mg → mg d.name = some (.ref fa) →
      ∃ fd : FuncData, (∀ (s : Shared) (u : Value), BindsTo s fd ⟨[u], []⟩ [(x, u)]) ∧
        ∀ base : Heap, (K w.params).In base → base.Ns mainGlobals mg → FnOk l.prog w (K w.params) mg base (CX w) k fa fd [x] (sp w))
    (hsp : ∀ (w : World) (H : Hp) (a : Addr) (ns : List Int), ns.length ≤ n → Only H → SqL (K w.params) H a (ns.map V.int) → sp w [.ref a] H (fun v _ => v = .bl true) fun _ _ _ => False)
    (hCX : ∀ (w : World) (H : Hp) (s : Shared) (e : Value) (s' : Shared), CX w [] H s (fun _ _ _ => False) e s' → False) :
    PySem.W.WalkO q loose XP YP l.row.toRowW d [] (fun f vs => PySem.call f vs) := by
  refine Att.attach_call hn hdf fun w s₀ s₁ mg mb fa o pm cd doc a vs ns G Y ho hd hcd hmg hobj hints hlen hg => ?_
  have KX := hY w _ Y
  obtain ⟨fd, hb, hF⟩ := F w mg fa _ KX G.T.g hmg
  exact law_call KX G.T.g G.T.b G.T.builtins G.T.nolimit hg hobj hints (Nat.le_trans hlen hn2) hr hF hb (fun H hO hS => hsp w H a ns hlen hO hS) fun H e s' => hCX w H s₁ e s'
end L2


namespace L2
open PySem PySem.Spec PyProof.Rows

noncomputable def inClass (s : Stmt) (j : Nat) : Stmt := match s with
  | .ClassDef _ _ _ body _ _ _ _ _ _ _ => body.getD j (.Pass ⟨0, 0, 0, 0⟩)
  | _ => .Pass ⟨0, 0, 0, 0⟩
noncomputable def defArgs (s : Stmt) : Arguments := match s with
  | .FunctionDef _ a _ _ _ _ _ _ _ _ => a
  | _ => { posonlyargs := [], args := [], vararg := none, kwonlyargs := [], kw_defaults := [], kwarg := none, defaults := [] }
noncomputable def defBody (s : Stmt) : List Stmt := match s with
  | .FunctionDef _ _ b _ _ _ _ _ _ _ => b
  | _ => []
noncomputable def defScope (s : Stmt) : Scope := match s with
  | .FunctionDef _ _ _ _ _ _ sc _ _ _ => sc
  | _ => { kind := .function, names := [], isGenerator := false, isCoroutine := false }

noncomputable abbrev CX0 : CXT := fun _ _ _ _ _ _ => False
noncomputable abbrev E0 : XK := fun _ _ _ => False
structure Fun (K : PySem.W.Frag) (x qual : Str) (st : Stmt) (f : Addr) (fd : FuncData) : Prop where
  ex : ∃ (oc : Value) (od : Option Addr) (kV doc pm : Value) (an : Option Addr) (cdv ct : Value) (osl : Array (Option Value)),
    fd = PySem.W.fnOf x qual (defArgs st) (defBody st) (defScope st) .none kV doc pm an cdv ct ∧ K.lookup f = some ⟨oc, od, .func fd, osl⟩ ∧ PySem.W.codeIn K cdv qual = true
  kp : PySem.W.keepIn K (.ref f) = true
section
variable {P : Program} {w : World} {K : PySem.W.Frag} {mg : Str → Option Value} {base : Heap}
theorem Fun.binds {x qual : Str} {st : Stmt} {f : Addr} {fd : FuncData} {ps : List Str} (F : Fun K x qual st f fd)
    (h : ∀ (kV doc pm : Value) (an : Option Addr) (cdv ct : Value) (us : List Value), us.length = ps.length → bindArgs (PySem.W.fnOf x qual (defArgs st) (defBody st) (defScope st) .none kV doc pm an cdv ct) ⟨us, []⟩ = pure (ps.zip us)) : Binds K fd ps [] := by
  obtain ⟨oc, od, kV, doc, pm, an, cdv, ct, osl, rfl, lk, hcd⟩ := F.ex
  exact .all (h kV doc pm an cdv ct)
theorem fun_mk {x qual : Str} {st : Stmt} {f : Addr} {oc : Value} {od an : Option Addr} {osl : Array (Option Value)} {kV doc pm cdv ct : Value} (l : K.lookup f = some ⟨oc, od, .func (PySem.W.fnOf x qual (defArgs st) (defBody st) (defScope st) .none kV doc pm an cdv ct), osl⟩)
    (c : PySem.W.codeIn K cdv qual = true) (k : PySem.W.keepIn K (.ref f) = true) : Fun K x qual st f (PySem.W.fnOf x qual (defArgs st) (defBody st) (defScope st) .none kV doc pm an cdv ct) := ⟨⟨oc, od, kV, doc, pm, an, cdv, ct, osl, rfl, l, c⟩, k⟩
end
theorem small1000 {n : Nat} (h : n ≤ 1000) : n < sizeLine := Nat.lt_of_le_of_lt h (by decide)

section
variable {X : Cx}
theorem pv (i : Nat) {x : Str} {pos : Pos} (hN : X.N[i]? = some x := by rfl) (hv : Vis X.env.scope x := by first | exact Or.inl rfl | exact Or.inr (Or.inl rfl) | exact Or.inr (Or.inr rfl)) (hd : (x == ("__debug__" : Str)) = false := by decide)
    (hcd : (x == ("__classdict__" : Str)) = false := by decide) : PE X (.Name x pos) (tVar i) := pe_var hN hv hd hcd
end

theorem iteF {A B : Prop} (h : B) : if false = true then A else B := by
  rw [if_neg Bool.false_ne_true]
  exact h
theorem iteT {A B : Prop} (h : A) : if true = true then A else B := by
  rw [if_pos rfl]
  exact h
theorem ite2 {c A B : Prop} [Decidable c] (h1 : c → A) (h2 : ¬ c → B) : if c then A else B := by
  by_cases h : c
  · rw [if_pos h]
    exact h1 h
  · rw [if_neg h]
    exact h2 h
theorem iteNS {c A B : Prop} [Decidable c] (hc : c) (h : B) : if (!decide c) = true then A else B := by
  rw [decide_eq_true hc]
  exact iteF h

noncomputable def Same (H H' : Hp) : Prop := ∀ b o, H b = some o → H' b = some o
theorem Same.refl (H : Hp) : Same H H := fun _ _ h => h
theorem Same.trans {H H1 H2 : Hp} (a : Same H H1) (b : Same H1 H2) : Same H H2 := fun c o h => b c o (a c o h)
theorem Same.free {H H' : Hp} (e : Same H H') {l : Addr} (h : H' l = Option.none) : H l = Option.none := by
  cases q : H l with
  | none => rfl
  | some o =>
    rw [e l o q] at h
    cases h
end L2

set_option Elab.async false
set_option linter.all false
set_option maxRecDepth 100000
namespace L2
open PySem PySem.Spec PyProof.Rows

theorem comp_turns {prog : Program} {w : World} {A : Around} {R : Result → Shared → Prop} {s : Shared} {elt target iter : Expr} {ifs : List Expr} {scope : Scope} {pos : Pos} {it acc : Value} {env : Env} (J : Nat → Shared → Prop)
    (turn : ∀ n s, J n s → wpAny (model prog w) A (pyNext it) (fun r s1 => match r with
      | none => R (.ok .next) s1
      | some v => wpAny (model prog w) A (letOwnedTupleGo target it v) (fun _ s1 => wpAny (model prog w) A (assign target env v) (fun _ s2 =>
          wpAny (model prog w) A (forIn ifs true fun c r => if r = true then do let ok ← isTrue c env (eval c env); pure (ForInStep.yield ok) else pure (ForInStep.yield r)) (fun ok s3 =>
            if ok = true then wpAny (model prog w) A (eval elt env) (fun x s4 =>
              wpAny (model prog w) A (call (.builtin "list.append") [acc, x]) (fun _ s5 => ∃ m, m < n ∧ J m s5) (fun _ _ => False) s4) (fun _ _ => False) s3
            else ∃ m, m < n ∧ J m s3) (fun _ _ => False) s2) (fun _ _ => False) s1) (fun _ _ => False) s1) (fun _ _ => False) s)
    (n : Nat) (h : J n s) :
    codeAny (model prog w) A (.compLoop (.ListComp elt [⟨target, iter, ifs, 0⟩] scope pos) 0 it acc env) R s := by
  refine codeAny_loop rfl J (fun n s hI => ?_) n h
  show wpAny _ A ((compTurn (.ListComp elt [⟨target, iter, ifs, 0⟩] scope pos) 0 it acc env).onRaise (fun x => do noteFrame x env; theTreesLotGoes x)) _ _ s
  refine wpAny_noted (wpAny_mono (E := fun _ _ => False) ?_ (fun _ _ q => q) fun _ _ q => q.elim)
  rw [compTurn_list]
  refine wpAny_bind (wpAny_standAt (wpAny_bind (thn (turn n s hI) fun r s1 h1 => ?_)))
  cases r with
  | none => exact wpAny_pure h1
  | some v =>
    refine wpAny_bind (thn h1 fun _ s1 h1 => ?_)
    refine wpAny_bind (thn h1 fun _ s2 h2 => wpAny_bind (thn h2 fun ok s3 h3 => ?_))
    cases ok with
    | false => exact wpAny_pure ⟨rfl, h3⟩
    | true => exact wpAny_bind (wpAny_bind (thn h3 fun x s4 h4 => wpAny_bind (thn h4 fun _ s5 h5 => wpAny_pure (wpAny_pure ⟨rfl, h5⟩))))

theorem closure_ok {env : Env} : ∀ (names : List (Str × NameKind)) (acc : List (Str × Addr)), (∀ y ∈ names, y.2 = .free → ∃ c, env.cells.lookup y.1 = some c) →
    ∃ cl : List (Str × Addr), (forIn names acc (fun (y : Str × NameKind) (r : List (Str × Addr)) => if (y.2 == NameKind.free) = true then do let a ← cellOf env y.1; pure (ForInStep.yield ((y.1, a) :: r)) else pure (ForInStep.yield r)) : Sem _) = pure cl ∧
      ∀ x, (∀ c, cl.lookup x = some c → acc.lookup x = some c ∨ env.cells.lookup x = some c) ∧ ((acc.lookup x).isSome = true ∨ (x, NameKind.free) ∈ names → (cl.lookup x).isSome = true)
  | [], acc, _ => ⟨acc, rfl, fun x => ⟨fun c h => .inl h, fun h => h.elim id fun z => nomatch z⟩⟩
  | (n, k) :: r, acc, hf => by
    by_cases hk : k = .free
    · subst hk
      obtain ⟨c, hc⟩ := hf (n, .free) List.mem_cons_self rfl
      obtain ⟨cl, e, q⟩ := closure_ok r ((n, c) :: acc) fun y hy => hf y (List.mem_cons_of_mem _ hy)
      refine ⟨cl, ?_, fun x => ⟨fun d hd => ?_, fun hx => ?_⟩⟩
      · rw [List.forIn_cons]
        have e1 : cellOf env n = pure c := by unfold cellOf; simp only [hc]
        simp only [beq_self_eq_true, if_true, e1]
        exact e
      · rcases (q x).1 d hd with z | z
        · by_cases hx : x = n
          · subst hx; rw [List.lookup_cons_self] at z; cases z; exact .inr hc
          · rw [List.lookup_cons, beq_eq_false_iff_ne.mpr hx] at z; exact .inl z
        · exact .inr z
      · refine (q x).2 ?_
        by_cases hxn : x = n
        · subst hxn; exact .inl (by rw [List.lookup_cons_self]; rfl)
        · rcases hx with z | z
          · exact .inl (by rw [List.lookup_cons, beq_eq_false_iff_ne.mpr hxn]; exact z)
          · rcases List.mem_cons.mp z with z | z
            · cases z; exact absurd rfl hxn
            · exact .inr z
    · obtain ⟨cl, e, q⟩ := closure_ok r acc fun y hy => hf y (List.mem_cons_of_mem _ hy)
      refine ⟨cl, ?_, fun x => ⟨(q x).1, fun hx => (q x).2 ?_⟩⟩
      · rw [List.forIn_cons]
        have hb : (k == NameKind.free) = false := by simpa using hk
        simp only [hb, Bool.false_eq_true, if_false]
        exact e
      · rcases hx with z | z
        · exact .inl z
        · rcases List.mem_cons.mp z with z | z
          · cases z; exact absurd rfl hk
          · exact .inr z
theorem closure_at {env : Env} {scope : Scope} (hf : ∀ y ∈ scope.names, y.2 = .free → ∃ c, env.cells.lookup y.1 = some c) :
    ∃ cl, closureFor scope env = pure cl ∧ (∀ x c, cl.lookup x = some c → env.cells.lookup x = some c) ∧ ∀ x, (x, NameKind.free) ∈ scope.names → ∃ c, cl.lookup x = some c := by
  obtain ⟨cl, e, q⟩ := closure_ok scope.names [] hf
  refine ⟨cl, ?_, fun x c h => ?_, fun x hx => Option.isSome_iff_exists.mp ((q x).2 (.inr hx))⟩
  · unfold closureFor
    exact (congrArg (· >>= fun r => pure r) e).trans rfl
  · rcases (q x).1 c h with z | z
    · simp at z
    · exact z

noncomputable abbrev Cx.comp (X : Cx) (N : List Str) (scope : Scope) (cl : List (Str × Addr)) (C : Addr) (fp : List Addr) (s : Shared) (H : Hp) : Cx :=
  { X with N := N, s₀ := s, H₀ := H, env := compEnvC scope cl C X.env, outer := X.stack, stack := X.stack, ex := fp, fn := fun _ => false, pn := [], xe := fun _ _ => False }

structure PTs (X : Cx) (ifs : List Expr) (t : TT)  : Prop where
  go : ∀ (pins : List (Addr × Obj)) (s : Shared) (σ : St) (H : Hp) (Q : Bool → Hp → Prop), Inv X pins σ H s → t σ H Q →
    wpAny (model X.prog X.w) X.A (forIn ifs true fun c r => if r = true then do let ok ← isTrue c X.env (eval c X.env); pure (ForInStep.yield ok) else pure (ForInStep.yield r)) (TP X pins σ Q) X.xe s
instance {X : Cx} {ifs : List Expr} {t : TT} : CoeFun (PTs X ifs t) (fun _ => ∀ (pins : List (Addr × Obj)) (s : Shared) (σ : St) (H : Hp) (Q : Bool → Hp → Prop), Inv X pins σ H s → t σ H Q →
    wpAny (model X.prog X.w) X.A (forIn ifs true fun c r => if r = true then do let ok ← isTrue c X.env (eval c X.env); pure (ForInStep.yield ok) else pure (ForInStep.yield r)) (TP X pins σ Q) X.xe s) := ⟨PTs.go⟩
noncomputable def tYes : TT := fun _ H Q => Q true H
theorem pts_nil {X : Cx} : PTs X [] tYes := ⟨fun _ _ _ H _ I h => wpAny_tests_nil ⟨H, I, h⟩⟩
noncomputable def compSt (own : Nat) (js : List Nat) (σ : St) : St := List.replicate own none ++ js.map fun j => (σ[j]?).join
noncomputable def CompGo (J : It) (p : Addr) (σ0 : St) (H0 : Hp) (g : TG) (tt : TT) (te : TE) (R : Hp → Prop) : Prop :=
  ∃ W : Nat → Nat → St → Hp → Prop, (∃ m, W 0 m σ0 H0) ∧ ∀ i m σ' H', W i m σ' H' →
    (J.stop i H' ∧ R H') ∨ (J.go i H' ∧ ∀ x H2, J.yld i H' x H2 → g x σ' H2 fun σ3 H3 => tt σ3 H3 fun b H4 =>
      if b = true then te σ3 H4 fun v H5 => ∃ ys, H5 p = some (.lst ys) ∧ ys.length < sizeLine ∧ ∃ m', m' < m ∧ W (i + 1) m' σ3 (upd H5 p (.lst (ys ++ [v])))
      else ∃ m', m' < m ∧ W (i + 1) m' σ3 H4)
noncomputable def tComp (wi : TI) (own : Nat) (js : List Nat) (g : TG) (tt : TT) (te : TE) : TE := fun σ H Q => wi σ H fun J H1 => ∀ p, H1 p = none → CompGo J p (compSt own js σ) (upd H1 p (.lst [])) g tt te (Q (.ref p))
inductive Frees (N : List Str) : List Str → List Nat → Prop where
  | nil : Frees N [] []
  | cons {y : Str} {j : Nat} {ys : List Str} {js : List Nat} (h : N[j]? = some y) (r : Frees N ys js) : Frees N (y :: ys) (j :: js)
theorem Frees.at {N : List Str} : ∀ {ys : List Str} {js : List Nat}, Frees N ys js → ∀ (i : Nat) (y : Str), ys[i]? = some y → ∃ j, js[i]? = some j ∧ N[j]? = some y
  | _, _, .nil, _, _, e => by simp at e
  | _, _, .cons (j := j) h _, 0, _, e => by simp at e; subst e; exact ⟨j, rfl, h⟩
  | _, _, .cons _ r, i + 1, y, e => by
    obtain ⟨j, h1, h2⟩ := r.at i y (by simpa using e)
    exact ⟨j, by simpa using h1, h2⟩
theorem Frees.length {N : List Str} : ∀ {ys : List Str} {js : List Nat}, Frees N ys js → ys.length = js.length
  | _, _, .nil => rfl
  | _, _, .cons _ r => by simp [r.length]
theorem lookup_map_names {f : Str → NameKind → NameKind} : ∀ {names : List (Str × NameKind)} {x : Str}, (names.map fun y => (y.1, f y.1 y.2)).lookup x = (names.lookup x).map (f x)
  | [], _ => rfl
  | (n, k) :: r, x => by
    by_cases h : x = n
    · subst h; rw [List.map_cons, List.lookup_cons_self, List.lookup_cons_self]; rfl
    · have hb : (x == n) = false := beq_eq_false_iff_ne.mpr h
      rw [List.map_cons, List.lookup_cons, List.lookup_cons, hb]
      exact lookup_map_names
noncomputable def relK (env : Env) (n : Str) (k : NameKind) : NameKind := if (k == .free && env.scope.kind == .function && env.kindOf n == some .cell) = true then .cell else k
theorem relabel_look (scope : Scope) (env : Env) (x : Str) : (relabel scope env).names.lookup x = (scope.names.lookup x).map (relK env x) := by
  have e : (relabel scope env).names = scope.names.map fun y => (y.1, relK env y.1 y.2) := by
    unfold relabel
    refine List.map_congr_left fun y _ => ?_
    obtain ⟨n, k⟩ := y
    show (if (k == .free && env.scope.kind == .function && env.kindOf n == some .cell) = true then (n, NameKind.cell) else (n, k)) = (n, relK env n k)
    unfold relK
    split <;> rfl
  rw [e, lookup_map_names]

section
variable {X : Cx} {elt target iter : Expr} {ifs : List Expr} {scope : Scope} {own ys : List Str} {js : List Nat} {wi : TI} {g : TG} {tt : TT} {te : TE} {pos : Pos}
theorem comp_block {pins : List (Addr × Obj)} {σ : St} {H : Hp} {s2 : Shared} {it : Addr} {fp : List Addr} {tn : Nat → Heap → Prop} {J : It} {Q : VK} {E : Value → Shared → Prop} {cl : List (Str × Addr)} {RR : Value → Addr → Result → Shared → Prop}
    (hc : X.calm = true) (I : Inv X pins σ H s2) (T : Turn X.prog X.w X.K target J fp it tn) (st : tn 0 s2.heap) (fpk : ∀ b ∈ fp, FpOk X pins H b)
    (hkind : scope.kind = .function) (hcell : ∀ y ∈ scope.names, y.2 ≠ .cell) (fr : Frees X.N ys js) (hys : ∀ y ∈ ys, X.env.kindOf y = some .cell)
    (hcl1 : ∀ x c, cl.lookup x = some c → X.env.cells.lookup x = some c) (hcl2 : ∀ x, (x, NameKind.free) ∈ scope.names → ∃ c, cl.lookup x = some c)
    (hvis : ∀ y ∈ ys, (relabel scope X.env).names.lookup y = some .cell)
    (hg : ∀ cl C fp s H, PG (X.comp (own ++ ys) scope cl C fp s H) target g) (ht : ∀ cl C fp s H, PTs (X.comp (own ++ ys) scope cl C fp s H) ifs tt) (he : ∀ cl C fp s H, PE (X.comp (own ++ ys) scope cl C fp s H) elt te)
    (h : ∀ p, H p = none → ∃ W : Nat → Nat → St → Hp → Prop, (∃ m, W 0 m (compSt own.length js σ) (upd H p (.lst []))) ∧ ∀ i m σ' H', W i m σ' H' →
      (J.stop i H' ∧ Q (.ref p) H') ∨ (J.go i H' ∧ ∀ x H2, J.yld i H' x H2 → g x σ' H2 fun σ3 H3 => tt σ3 H3 fun b H4 =>
        if b = true then te σ3 H4 fun v H5 => ∃ ys, H5 p = some (.lst ys) ∧ ys.length < sizeLine ∧ ∃ m', m' < m ∧ W (i + 1) m' σ3 (upd H5 p (.lst (ys ++ [v])))
        else ∃ m', m' < m ∧ W (i + 1) m' σ3 H4))
    (hRR : ∀ D C (H' : Hp) (s' : Shared), Inv X pins σ H' s' → Q (.ref D) H' → (∃ m, s'.heap.Ns C m) → H' C = none → C ≠ X.env.locals → X.s₀.heap.objs.size ≤ C → (∀ x c, X.env.cells.lookup x = some c → c ≠ C) → (∀ p ∈ X.pn ++ pins, p.1 ≠ C) → RR (.ref D) C (.ok .next) s') :
    wpAny (model X.prog X.w) X.A (newList []) (fun acc s3 => wpAny (model X.prog X.w) X.A (newFunctionEnv scope X.env.globals cl [] X.env.qual none .none (some X.env)) (fun cenv s4 =>
      codeAny (model X.prog X.w) X.A (.compStart (.ListComp elt [⟨target, iter, ifs, 0⟩] scope pos) 0 (.ref it) acc { cenv with scope := relabel scope X.env }) (RR acc cenv.locals) s4) E s3) E s2 := by
  refine wpAny_newObj_type (wpAny_newFunctionEnv hcell (by intro y hy; simp at hy) (fun h1 hns1 hsb1 => ?_) hkind)
  have hnp : H s2.heap.objs.size = none := I.hok.fresh (Nat.le_refl _)
  have I3 : Inv X pins σ (upd H s2.heap.objs.size (.lst [])) { s2 with heap := s2.heap.push { cls := .type "list", data := .seq ([] : List Value).toArray }, toks := s2.toks } :=
    I.lnew (its := []) (ys := []) .nil (Nat.zero_le _)
  obtain ⟨W, ⟨m0, w0⟩, turn⟩ := h _ hnp
  clear h
  generalize hH0 : upd H s2.heap.objs.size (.lst []) = H0 at I3 w0
  generalize hp : s2.heap.objs.size = p at *
  have eS : ({ s2 with heap := s2.heap.push { cls := .type "list", data := .seq ([] : List Value).toArray }, toks := s2.toks } : Shared) = { s2 with heap := s2.heap.push { cls := .type "list", data := .seq ([] : List Value).toArray } } := rfl
  rw [eS] at I3
  clear eS
  generalize hs3 : ({ s2 with heap := s2.heap.push { cls := .type "list", data := .seq ([] : List Value).toArray } } : Shared) = s3 at *
  have heap3 : s3.heap = s2.heap.push { cls := .type "list", data := .seq ([] : List Value).toArray } := by rw [← hs3]
  have old3 : ∀ b o, s2.heap.get? b = some o → s3.heap.get? b = some o := fun b o e => by rw [heap3]; exact Heap.get?_push_of_some _ e
  generalize hC : s3.heap.objs.size = C at *
  have st3 : tn 0 s3.heap := T.keep _ _ _ st fun b _ o e => old3 b o e
  have fp3 : ∀ b ∈ fp, b < C := fun b hb => by
    obtain ⟨o, e, _⟩ := T.obj _ _ st3 b hb
    have := Heap.lt_size e
    rw [hC] at this; exact this
  have nH0 : ∀ b ∈ fp, H0 b = none := fun b hb => by
    obtain ⟨o, e, _⟩ := T.obj _ _ st b hb
    rw [← hH0, upd_ne (fun z => by have := Heap.lt_size e; rw [hp, z] at this; exact Nat.lt_irrefl _ this)]
    exact (fpk b hb).1
  have old1 : ∀ b o, s3.heap.get? b = some o → h1.get? b = some o := fun b o e =>
    hsb1.extBut b o (fun z => by have := Heap.lt_size e; rw [hC, z] at this; exact Nat.lt_irrefl _ this) (Heap.get?_push_of_some _ e)
  have nstk : ∀ b ∈ fp, b ∉ frs X.stack := fun b hb z => by
    rcases List.mem_cons.mp (I.stkSub b z) with e | e
    · exact (fpk b hb).2.1 e
    · exact (fpk b hb).2.2.1 e
  have ncC : ∀ x c, X.env.cells.lookup x = some c → c ≠ C := fun x c e z => by
    obtain ⟨v, o, ho, _⟩ := I3.cell x c e
    have := Heap.lt_size ho
    rw [hC, z] at this; exact Nat.lt_irrefl _ this
  have LC : C ≠ X.env.locals := fun z => by have := I3.lt; rw [hC, z] at this; exact Nat.lt_irrefl _ this
  have sC : X.s₀.heap.objs.size ≤ C := by rw [← hC]; exact I3.sz
  have rl : ∀ x k, (compEnvC scope cl C X.env).kindOf x = some k → (k = .cell ∨ k = .free) → (x, NameKind.free) ∈ scope.names := fun x k e hk => by
    have e' : (relabel scope X.env).names.lookup x = some k := e
    rw [relabel_look] at e'
    cases q : scope.names.lookup x with
    | none => rw [q] at e'; cases e'
    | some k0 =>
      rw [q] at e'
      have m0 := PySem.mem_of_lookup q
      have n0 := hcell _ m0
      have : relK X.env x k0 = k := Option.some.inj e'
      unfold relK at this
      split at this
      · rename_i z
        have : k0 = .free := by
          simp only [Bool.and_eq_true, beq_iff_eq] at z
          exact z.1.1
        rw [← this]; exact m0
      · rcases hk with hk | hk
        · exact absurd (this.trans hk) n0
        · rw [← hk, ← this]; exact m0
  -- the inner invariant at the block's entry
  let Y := X.comp (own ++ ys) scope cl C fp s3 H0
  have okY : Y.Ok := by
    refine ⟨I.ok.mod, ?_, I.ok.glob, I.ok.blt, ?_, fun x y c e1 e2 => I.ok.inj x y c (hcl1 x c e1) (hcl1 y c e2), fun x hx => ?_, fun x c z => (nomatch z), I.ok.hd, I.ok.frames, .inl rfl, fun b hb => ⟨?_, fun x c e => (fpk b hb).2.2.2.2.1 x c (hcl1 x c e)⟩, fun b o e => I3.bs b o e, ?_, fun b o e hb => ?_, nstk, I3.stack, I3.stkFree⟩
    · exact hkind
    · exact Nat.le_of_eq hC
    · rcases hx with hx | hx
      · exact hcl2 x (rl x _ hx (.inl rfl))
      · exact hcl2 x (rl x _ hx (.inr rfl))
    · exact Nat.ne_of_lt (fp3 b hb)
    · exact Nat.le_trans I.ok.bsz I3.sz
    · rcases (fpk b hb).2.2.2.1 with z | z
      · exact I.ok.noex b o e z
      · exact absurd (Nat.lt_of_lt_of_le (Heap.lt_size e) (Nat.le_trans I.ok.bsz z)) (Nat.lt_irrefl _)
  have I4 : Inv Y [] (compSt own.length js σ) H0 { s3 with heap := h1, toks := s3.toks + ([] : List (Str × Value)).length } := by
    refine ⟨okY, rfl, I3.bare, Un.kept old1, ⟨_, hns1, fun i x v e1 e2 e3 => ?_⟩, fun x c e => ?_, ?_, fun x c e => I3.freeC x c (hcl1 x c e), fun p hp => absurd (show p ∈ ([] : List (Addr × Obj)) from hp) (by simp), I3.hok.kept old1, ?_⟩
    · have e1 : (own ++ ys)[i]? = some x := e1
      have hi : own.length ≤ i := Nat.le_of_not_lt fun lt => by
        unfold compSt at e2
        rw [List.getElem?_append_left (by simpa using lt), List.getElem?_replicate] at e2
        split at e2 <;> cases e2
      rw [List.getElem?_append_right hi] at e1
      obtain ⟨j, hj, hN⟩ := fr.at _ _ e1
      unfold compSt at e2
      rw [List.getElem?_append_right (by simpa using hi), List.length_replicate, List.getElem?_map, hj] at e2
      have e2 : (σ[j]?).join = some v := Option.some.inj e2
      have e2' : σ[j]? = some (some v) := by
        cases q : σ[j]? with
        | none => rw [q] at e2; cases e2
        | some z => rw [q] at e2; rw [show z = some v from e2]
      have my := List.mem_of_getElem? e1
      have hk := hys x my
      obtain ⟨m, hn, hl⟩ := I3.loc
      obtain ⟨u, r, q⟩ := hl j x v hN e2' (.inr (.inl hk))
      refine ⟨u, r, ?_⟩
      rcases q with ⟨k, _⟩ | ⟨_, c, e, z⟩
      · rw [hk] at k; cases k
      · obtain ⟨c', e'⟩ := hcl2 x (rl x _ (hvis x my) (.inl rfl))
        have : c' = c := by have := hcl1 x c' e'; rw [e] at this; exact (Option.some.inj this).symm
        subst this
        refine .inr ⟨?_, c', e', ?_⟩
        · exact .inl (hvis x my)
        · obtain ⟨o, ho, hd⟩ := z
          exact ⟨o, old1 _ _ ho, hd⟩
    · obtain ⟨v, o, ho, hd⟩ := I3.cell x c (hcl1 x c e)
      exact ⟨v, o, old1 _ _ ho, hd⟩
    · exact I3.hok.fresh (Nat.le_of_eq hC)
    · unfold compSt
      show _ = (own ++ ys).length
      rw [List.length_append, List.length_replicate, List.length_map, List.length_append, fr.length]
  have stat : ∀ {H' : Hp}, (∀ b ∈ fp, H' b = none) → ∀ b ∈ fp, FpOk Y [] H' b := fun hn b hb =>
    ⟨hn b hb, Nat.ne_of_lt (fp3 b hb), nstk b hb, .inl hb, fun x c e => (fpk b hb).2.2.2.2.1 x c (hcl1 x c e), fun p hp => absurd (show p ∈ ([] : List (Addr × Obj)) from hp) (by simp)⟩
  have fin : ∀ {σ' : St} {H' : Hp} {s' : Shared}, Inv Y [] σ' H' s' → Q (.ref p) H' → RR (.ref p) C (.ok .next) s' := fun {σ' H' s'} I' q => by
    have back : Inv X pins σ H' s' := I3.call' (ch := fp) I'.os I'.base I'.hok I'.bare fun b hb => ⟨(fpk b hb).2.2.2.1, (fpk b hb).2.1, (fpk b hb).2.2.2.2.1, (fpk b hb).2.2.2.2.2⟩
    obtain ⟨m, hn, _⟩ := I'.loc
    exact hRR p C H' s' back q ⟨m, hn⟩ I'.free LC sC ncC fun q hq z => by
      have := Heap.lt_size (I3.pin q hq).1
      rw [hC, z] at this; exact Nat.lt_irrefl _ this
  have loop : ∀ s4 : Shared, s4 = { s3 with heap := h1, toks := s3.toks + ([] : List (Str × Value)).length } →
      codeAny (model X.prog X.w) X.A (.compLoop (.ListComp elt [⟨target, iter, ifs, 0⟩] scope pos) 0 (.ref it) (.ref p) (compEnvC scope cl C X.env)) (RR (.ref p) C) s4 := by
    rintro s4 rfl
    refine comp_turns (fun n s' => ∃ i σ' H', Inv Y [] σ' H' s' ∧ tn i s'.heap ∧ (∀ b ∈ fp, H' b = none) ∧ W i n σ' H') ?_ m0 ⟨0, _, _, I4, T.keep _ _ _ st3 fun b _ o e => old1 b o e, nH0, w0⟩
    rintro n s5 ⟨i, σ5, H5, I5, st5, fr5, w5⟩
    rcases turn i n σ5 H5 w5 with ⟨stop, qn⟩ | ⟨go, step⟩
    · refine thn (T.done Y rfl rfl rfl hc i [] s5 σ5 H5 (fun _ _ => False) I5 (stat fr5) st5 stop) fun r s6 hzz => ?_
      obtain ⟨hr, I6⟩ := hzz
      subst hr
      exact fin I6 qn
    · refine thn (T.item Y rfl rfl rfl hc i [] s5 σ5 H5 (fun _ _ => False) I5 (stat fr5) st5 go) fun r s6 hzz => ?_
      obtain ⟨u, hr, h6⟩ := hzz
      subst hr
      refine thn h6 fun _ s7 hzz => ?_
      obtain ⟨x, H7, I7, r7, y7, st7, fr7⟩ := hzz
      have I7' := I7.pinned (stat fr7) (T.obj _ _ st7)
      have again : ∀ {σ9 : St} {H9 : Hp} {s9 : Shared} {m' : Nat}, Inv Y ([] ++ pinsAt fp s7.heap) σ9 H9 s9 → m' < n → W (i + 1) m' σ9 H9 → ∃ m, m < n ∧ ∃ i σ' H', Inv Y [] σ' H' s9 ∧ tn i s9.heap ∧ (∀ b ∈ fp, H' b = none) ∧ W i m σ' H' := fun {σ9 H9 s9 m'} I9 hm w9 => by
        refine ⟨m', hm, i + 1, σ9, H9, I9.unpinned, T.keep _ _ _ st7 fun b hb o e => (I9.pin (b, o) (List.mem_append_right _ (List.mem_append_right _ (mem_pinsAt hb e)))).1, fun b hb => ?_, w9⟩
        obtain ⟨o, e, d⟩ := T.obj _ _ st7 b hb
        exact (I9.pin (b, o) (List.mem_append_right _ (List.mem_append_right _ (mem_pinsAt hb e)))).2.1
      refine thn (hg cl C fp s3 H0 _ s7 σ5 H7 x u _ I7' r7 (step x H7 y7)) fun _ s8 hzz => ?_
      obtain ⟨σ8, H8, I8, q8⟩ := hzz
      refine thn (ht cl C fp s3 H0 _ s8 σ8 H8 _ I8 q8) fun b s9 hzz => ?_
      obtain ⟨H9, I9, q9⟩ := hzz
      cases b with
      | false =>
        obtain ⟨m', hm, w9⟩ := q9
        exact again I9 hm w9
      | true =>
        refine thn (he cl C fp s3 H0 _ s9 σ8 H9 _ I9 q9) fun y s10 hzz => ?_
        obtain ⟨v, H10, I10, r10, zs, e10, z10, m', hm, w10⟩ := hzz
        refine thn (mt_append (X := Y) _ s10 σ8 H10 (.ref p) [v] (.ref p) [y] (fun _ H' => H' = upd H10 p (.lst (zs ++ [v]))) I10 rfl (.cons r10 .nil) ⟨p, zs, v, rfl, rfl, e10, z10, rfl⟩) fun _ s11 hzz => ?_
        obtain ⟨_, H11, I11, _, q11⟩ := hzz
        subst q11
        exact again I11 hm w10
  have st4 : tn 0 h1 := T.keep _ _ _ st3 fun b _ o e => old1 b o e
  exact codeAny_compStart_list (loop _ rfl) (T.self _ 0 _ _ _ st4 (loop _ rfl))
end

section
variable {X : Cx} {elt target iter : Expr} {ifs : List Expr} {scope : Scope} {own ys : List Str} {js : List Nat} {wi : TI} {g : TG} {tt : TT} {te : TE} {pos : Pos}
structure CompSc (X : Cx) (scope : Scope) (ys : List Str) : Prop where
  kind : scope.kind = .function
  cell : ∀ y ∈ scope.names, y.2 ≠ .cell
  loc : ∀ y ∈ scope.names, y.2 = .local → scope.names.lookup y.1 = some .local
  free : ∀ y ∈ scope.names, y.2 = .free → X.env.kindOf y.1 = some .cell
  cap : ∀ y ∈ ys, X.env.kindOf y = some .cell
  vis : ∀ y ∈ ys, (relabel scope X.env).names.lookup y = some .cell
noncomputable def compScB (sc scope : Scope) (ys : List Str) : Bool :=
  scope.kind == .function && sc.kind == .function && (scope.names.all fun y => y.2 != .cell && (y.2 != .local || scope.names.lookup y.1 == some .local) && (y.2 != .free || sc.names.lookup y.1 == some .cell)) &&
    ys.all fun y => sc.names.lookup y == some .cell && scope.names.lookup y == some .free
theorem compSc_of {sc : Scope} (hsc : X.env.scope = sc) (h : compScB sc scope ys = true) : CompSc X scope ys := by
  unfold compScB at h
  simp only [Bool.and_eq_true, List.all_eq_true, beq_iff_eq, bne_iff_ne, Bool.or_eq_true, ne_eq] at h
  obtain ⟨⟨⟨h1, h0⟩, h2⟩, h3⟩ := h
  subst hsc
  refine ⟨h1, fun y hy => (h2 y hy).1.1, fun y hy e => ?_, fun y hy e => ?_, fun y hy => (h3 y hy).1, fun y hy => ?_⟩
  · rcases (h2 y hy).1.2 with z | z
    · exact absurd e z
    · exact z
  · rcases (h2 y hy).2 with z | z
    · exact absurd e z
    · exact z
  · rw [relabel_look, (h3 y hy).2]
    show some (relK X.env y .free) = _
    have z : X.env.kindOf y = some .cell := (h3 y hy).1
    unfold relK
    rw [z, h0]
    rfl
theorem ps_setcomp {i : Nat} {x : Str} {pos' spos : Pos} (hN : X.N.Nodup) (hix : X.N[i]? = some x) (hx : X.env.scope.names.lookup x = some .local) (hc : X.calm = true) (hi : PI X target iter wi) (S : CompSc X scope ys) (fr : Frees X.N ys js)
    (hg : ∀ cl C fp s H, PG (X.comp (own ++ ys) scope cl C fp s H) target g) (ht : ∀ cl C fp s H, PTs (X.comp (own ++ ys) scope cl C fp s H) ifs tt) (he : ∀ cl C fp s H, PE (X.comp (own ++ ys) scope cl C fp s H) elt te)
    (hsw : swapsWith (.ListComp elt [⟨target, iter, ifs, 0⟩] scope pos) (some (.Name x pos')) spos.line X.env = pure true := by rfl)
    (hs : ∀ x, foldedSetIterable iter X.env x = pure x := by intro _; rfl) : PS X (.Assign [.Name x pos'] (.ListComp elt [⟨target, iter, ifs, 0⟩] scope pos) spos) (fun D σ H => tComp wi own.length js g tt te σ H fun v H1 => D.nx (σ.set i (some v)) H1) := by
  refine ⟨?_⟩
  intro pins s σ H D I h
  rw [exec_Assign_Name_used _ _ _ _ hsw]
  refine wpAny_bind (wpAny_standAt (wpAny_bind ?_))
  show wpAny _ X.A (do let _ ← comprehension (.ListComp elt [⟨target, iter, ifs, 0⟩] scope pos) scope X.env _ (newList []) false (eval iter X.env) (some (assign (.Name x pos') X.env))) _ _ s
  obtain ⟨cl, e, c1, c2⟩ := closure_at (env := X.env) (scope := scope) fun y hy hf => I.ok.has y.1 (.inl (S.free y hy hf))
  refine wpAny_bind (thn (wpAny_comprehension_free (use := some (assign (.Name x pos') X.env)) (Q := fun _ s' => SP X pins D .next s') rfl hs e S.kind S.loc
    (thn (hi pins s σ H _ I h) fun v s1 h1 => thn h1 fun itv s2 h2 => ?_)) fun _ s' hq => wpAny_pure (wpAny_pure hq))
  obtain ⟨it, fp, tn, J, H2, e, I2, T, st2, f2, q2⟩ := h2
  subst e
  refine comp_block (Q := fun v H1 => D.nx (σ.set i (some v)) H1) (RR := fun acc C => compPost (model X.prog X.w) X.A X.xe (some (assign (.Name x pos') X.env)) (fun _ s' => SP X pins D .next s') acc C) hc I2 T st2 f2 S.kind S.cell fr S.cap c1 c2 S.vis hg ht he q2 ?_
  intro B C H' s' I' q hm n1 n2 n3 n4 n5
  obtain ⟨m, hn⟩ := hm
  show wpAny _ X.A (assign (.Name x pos') X.env (.ref B)) _ _ _
  refine wpAny_assign_Name (store_ok2 I' hN hix (.inl hx) (v := .ref B) rfl (fun s2 I2 hsb => ?_) (.inr hx))
  obtain ⟨a, hsb, ha⟩ := hsb
  have ne : C ≠ a := by
    rcases ha with z | z
    · rw [z]; exact n2
    · exact Ne.symm (n4 x a z)
  exact ⟨m, hn.sameBut hsb ne, fun h' hs' => ⟨_, H', I2.turned (fun b o hb e => (hs'.2 b hb).trans e) n1 n2 (.inr n3) n4 n5, q⟩⟩
end
end L2

set_option Elab.async false
set_option linter.all false
set_option maxRecDepth 100000
namespace L2
open PySem PySem.Spec PyProof.Rows
section
variable {X : Cx} {x : Str} {p pos : Pos} {e : Expr} {es : List Expr} {t : TA}

noncomputable def GInt (mg : Str → Option Value) (x : Str) (i : Int) : Prop := ∃ t, mg x = some (.int i t)
theorem pe_gint {i : Int} (hg : Gl X x) (hm : GInt X.mg x i) (hd : (x == ("__debug__" : Str)) = false := by decide) : PE X (.Name x pos) (tC (.int i)) := by
  obtain ⟨t, hm⟩ := hm
  exact pe_glob (v := .int i) hg hm ⟨t, rfl⟩ hd
theorem pe_gref {a : Addr} (hg : Gl X x) (hm : X.mg x = some (.ref a)) (hd : (x == ("__debug__" : Str)) = false := by decide) : PE X (.Name x pos) (tC (.ref a)) := pe_glob (v := .ref a) hg hm rfl hd

structure Cal (P : Program) (w : World) (K : PySem.W.Frag) (mg : Str → Option Value) (base : Heap) (CX : CXT) (k : Nat) (x : Str) (ps : List Str) (sp : Sp) : Prop where
  ex : ∃ f fd, FnOk P w K mg base CX k f fd ps sp ∧ mg x = some (.ref f) ∧ PySem.W.keepIn K (.ref f) = true ∧ Binds K fd ps []
theorem pe_callC {CX : CXT} {k n : Nat} {ps : List Str} {sp : Sp} {E : XK} (C : Cal X.prog X.w X.K X.mg X.base CX k x ps sp) (hr : Room n X.A) (hg : Gl X x) (ha : PA X (e :: es) t) (hx : Passes CX X E) (hk : k ≤ n := by first | decide | (first | lia | omega)) (hdb : (x == ("__debug__" : Str)) = false := by decide)
    (he : starEach (e :: es) X.env = (false, eval e X.env) :: starEach es X.env := by rfl) (hpl : (backTo pos (starEach es X.env)).any (·.1) = false := by rfl) : PE X (.Call (.Name x p) (e :: es) [] pos) (tCall sp [] E t) := by
  obtain ⟨f, fd, F, hm, kp, hb⟩ := C.ex
  exact pe_call F (hr.mono hk) hg hm kp hb .nil hx ha hdb he hpl
inductive Consts : List Expr → List V → Prop where
  | nil : Consts [] []
  | int {i j pos es vs} (r : Consts es vs) : Consts (.Constant (.int i) j pos :: es) (.int i :: vs)
  | str {x j pos es vs} (r : Consts es vs) : Consts (.Constant (.str x) j pos :: es) (.str x :: vs)
theorem pa_consts : ∀ {es : List Expr} {vs : List V}, Consts es vs → PA X es (fun _ H Q => Q vs H)
  | _, _, .nil => ⟨fun pos pins s σ H Q I h => pa_nil pos pins s σ H Q I h⟩
  | _, _, .int r => ⟨fun pos pins s σ H Q I h => pa_cons pe_int (pa_consts r) (by rfl) pos pins s σ H Q I h⟩
  | _, _, .str r => ⟨fun pos pins s σ H Q I h => pa_cons pe_str (pa_consts r) (by rfl) pos pins s σ H Q I h⟩

noncomputable def rIsi (K : PySem.W.Frag) : List V → Hp → VK → Prop := fun xs H Q =>
  (∃ x n t b, xs = [x, .ty n] ∧ TyOf K H x t ∧ PySem.W.kitOne K t (.type n) = some b ∧ Q (.bl b) H) ∨ ∃ x C t b, xs = [x, .ref C] ∧ TyOf K H x t ∧ PySem.W.kitOne K t (.ref C) = some b ∧ Q (.bl b) H
theorem call_isiK (K : PySem.W.Frag) (hK : X.K = K) : CallR X (.builtin "isinstance") (rIsi K) := by
  subst hK
  intro pins s σ H xs us Q I r h
  rcases h with ⟨x, n, t, b, rfl, ty, e, q⟩ | ⟨x, C, t, b, rfl, ty, e, q⟩
  · obtain ⟨u, w', rfl, ru, rw'⟩ := vals2 r
    cases rw'
    exact isinst_ok I ru ty e fun tk => ⟨.bl b, H, I.tok tk, rfl, q⟩
  · obtain ⟨u, w', rfl, ru, rw'⟩ := vals2 r
    cases rw'
    exact isinst_ok I ru ty e fun tk => ⟨.bl b, H, I.tok tk, rfl, q⟩
theorem call_isi : CallR X (.builtin "isinstance") (rIsi X.K) := call_isiK X.K rfl

theorem ix_listK (K : PySem.W.Frag) (hK : X.K = K) : IxR X (rIxL K) := hK ▸ ix_list
noncomputable def rSlS : V → Option Int → Option Int → Hp → VK → Prop := fun x lo hi H Q => ∃ z, x = .str z ∧ z.length ≤ sizeLine ∧ Q (.str (Txt.slice z lo hi)) H
noncomputable def rJoin (K : PySem.W.Frag) : V → List V → Hp → VK → Prop := fun x vs H Q => ∃ z l ys, x = .str z ∧ vs = [.ref l] ∧ SqL K H l (ys.map V.str) ∧ (ys.map (·.length)).sum + ys.length * z.length ≤ 16777216 ∧ Q (.str (Txt.join z ys)) H
noncomputable def FirstAt (xs : List V) (y : V) (j : Nat) : Prop := (∃ z, xs[j]? = some z ∧ eqV z y = true) ∧ ∀ (m : Nat) (z : V), m < j → xs[m]? = some z → eqV z y = false
noncomputable def rIndex (S : Hp → Addr → List V → Prop) : V → List V → Hp → VK → Prop := fun x vs H Q => ∃ l xs y j, x = .ref l ∧ vs = [y] ∧ S H l xs ∧ flatV y = true ∧ xs.all flatV = true ∧ FirstAt xs y j ∧ Q (.int (j : Nat)) H
end
end L2

set_option Elab.async false
set_option linter.all false
set_option maxRecDepth 100000
namespace L2
open PySem PySem.Spec PyProof.Rows
theorem bt_len : bootBuiltins "len" = some (.builtin "len") := PySem.boot_len
theorem bt_abs : bootBuiltins "abs" = some (.builtin "abs") := by decide +kernel
theorem bt_isinstance : bootBuiltins "isinstance" = some (.builtin "isinstance") := by decide +kernel
theorem bt_int : bootBuiltins "int" = some (.type "int") := by decide +kernel
theorem bt_bool : bootBuiltins "bool" = some (.type "bool") := by decide +kernel
theorem bt_list : bootBuiltins "list" = some (.type "list") := by decide +kernel
theorem bt_tuple : bootBuiltins "tuple" = some (.type "tuple") := by decide +kernel
theorem bt_ValueError : bootBuiltins "ValueError" = some (.type "ValueError") := by decide +kernel
theorem bt_reversed : bootBuiltins "reversed" = some (.type "reversed") := by decide +kernel
theorem small {n : Nat} (h : n ≤ 1000) : n ≤ sizeLine := Nat.le_of_lt (small1000 h)
theorem same_new {H : Hp} {p : Addr} (h : H p = none) (o : HO) : Same H (upd H p o) := fun b u q => by rw [upd_ne (ne_of_none q h)]; exact q

noncomputable def Scr (K : PySem.W.Frag) (H : Hp) (a : Addr) (ns : List Int) : Prop :=
  (∃ o, H a = some (.frz o (.lst (ns.map V.int)))) ∨
    ∃ (o : Obj) (its : Array Value) (n : Nat), K.lookup a = some o ∧ o.cls = .type "list" ∧ o.dict = none ∧ o.data = .seq its n ∧ its.size ≤ sizeLine ∧ Vals (ns.map V.int) its.toList
theorem Scr.sq {K : PySem.W.Frag} {H : Hp} {a : Addr} {ns : List Int} (h : Scr K H a ns) : SqL K H a (ns.map V.int) := by
  rcases h with h | h
  · exact .inl (.inr h)
  · exact .inr h
theorem Scr.of {K : PySem.W.Frag} {H : Hp} {a : Addr} {ns : List Int} (hO : Only H) (h : SqL K H a (ns.map V.int)) : Scr K H a ns := by
  rcases h with (h | h) | h
  · rcases hO a with z | ⟨o, xs, z⟩
    · rw [h] at z; cases z
    · rw [h] at z; cases z
  · exact .inl h
  · exact .inr h
noncomputable def Keep (st : Addr) (H H' : Hp) : Prop := ∀ b o, b ≠ st → H b = some o → H' b = some o
theorem Keep.refl (st : Addr) (H : Hp) : Keep st H H := fun _ _ _ e => e
theorem Keep.trans {st : Addr} {H H1 H2 : Hp} (a : Keep st H H1) (b : Keep st H1 H2) : Keep st H H2 := fun c o n e => b c o n (a c o n e)
theorem Keep.same {st : Addr} {H H1 : Hp} (a : Same H H1) : Keep st H H1 := fun c o _ e => a c o e
theorem Keep.upd {st : Addr} {H : Hp} {o : HO} : Keep st H (upd H st o) := fun c u n e => by rw [upd_ne n]; exact e
theorem Keep.new {st p : Addr} {H : Hp} (o : HO) (h : H p = none) : Keep st H (L2.upd H p o) := Keep.same (same_new h o)
theorem Scr.keep {K : PySem.W.Frag} {H H' : Hp} {a st : Addr} {ns : List Int} {xs : List V} (h : Scr K H a ns) (hst : H st = some (.lst xs)) (k : Keep st H H') : Scr K H' a ns := by
  rcases h with ⟨o, h⟩ | h
  · exact .inl ⟨o, k a _ (fun z => by rw [z, hst] at h; cases h) h⟩
  · exact .inr h
noncomputable def Draw (K : PySem.W.Frag) (H : Hp) (st : Addr) : Prop := ∃ a ns k c, H st = some (.lst [.ref a, .int k, .int c]) ∧ Scr K H a ns ∧ ns.length ≤ 63 ∧ 0 ≤ k ∧ 0 ≤ c
structure Drawn (K : PySem.W.Frag) (st : Addr) (H H' : Hp) : Prop where
  draw : Draw K H' st
  keep : Keep st H H'
theorem Drawn.trans {K : PySem.W.Frag} {st : Addr} {H H1 H2 : Hp} (a : Drawn K st H H1) (b : Drawn K st H1 H2) : Drawn K st H H2 := ⟨b.draw, a.keep.trans b.keep⟩
theorem Draw.refl {K : PySem.W.Frag} {st : Addr} {H : Hp} (d : Draw K H st) : Drawn K st H H := ⟨d, Keep.refl st H⟩
theorem Draw.ne {K : PySem.W.Frag} {st b : Addr} {H : Hp} (d : Draw K H st) (h : H b = none) : st ≠ b := by
  obtain ⟨a, ns, k, c, e, _⟩ := d
  exact ne_of_none e h
theorem Draw.same {K : PySem.W.Frag} {st : Addr} {H H' : Hp} (d : Draw K H st) (h : Same H H') : Draw K H' st := by
  obtain ⟨a, ns, k, c, e, s, r⟩ := d
  exact ⟨a, ns, k, c, h _ _ e, s.keep e (Keep.same h), r⟩
theorem Draw.new {K : PySem.W.Frag} {st p : Addr} {H : Hp} (d : Draw K H st) (h : H p = none) (o : HO) : Drawn K st H (upd H p o) := ⟨d.same (same_new h o), Keep.new o h⟩
theorem Draw.put {K : PySem.W.Frag} {st p : Addr} {H : Hp} {xs ys : List V} (d : Draw K H st) (hp : H p = some (.lst xs)) (n : p ≠ st) : Draw K (upd H p (.lst ys)) st := by
  obtain ⟨a, ns, k, c, e, s, r⟩ := d
  refine ⟨a, ns, k, c, (by rw [upd_ne (Ne.symm n)]; exact e), ?_, r⟩
  rcases s with ⟨o, s⟩ | s
  · exact .inl ⟨o, by rw [upd_ne (fun z => by rw [z, hp] at s; cases s)]; exact s⟩
  · exact .inr s

noncomputable def spMixed : Sp := fun vs H Q _ => ∃ c k : Int, vs = [.int c, .int k] ∧ ∀ r : Int, 0 ≤ r → Q (.int r) H
noncomputable def spTake (K : PySem.W.Frag) : Sp := fun vs H Q _ => ∃ (st : Addr) (many : Int), vs = [.ref st, .int many] ∧ 0 < many ∧ many < 1073741824 ∧ Draw K H st ∧ ∀ (r : Int) (H' : Hp), 0 ≤ r → r < many → Drawn K st H H' → Q (.int r) H'
noncomputable def spLaw (K : PySem.W.Frag) : Sp := fun vs H Q _ => ∃ (a : Addr) (ns : List Int), vs = [.ref a] ∧ Scr K H a ns ∧ ns.length ≤ 63 ∧ ∀ H', Q (.bl true) H'
theorem atI_int {ns : List Int} {k : Int} (h0 : 0 ≤ k) (h : k < (ns.length : Int)) : ∃ v : Int, atI (ns.map V.int) k = some (.int v) := by
  have hk : k.toNat < ns.length := by (first | lia | omega)
  have q : atI (ns.map V.int) ((k.toNat : Nat) : Int) = some (.int ns[k.toNat]) := atI_nat (by rw [List.getElem?_map, List.getElem?_eq_getElem hk] <;> rfl)
  rw [show ((k.toNat : Nat) : Int) = k by (first | lia | omega)] at q
  exact ⟨_, q⟩

theorem tyes {σ : St} {H : Hp} {A B : Hp → Prop} (h : A H) : tYes σ H fun b H4 => if b = true then A H4 else B H4 := by
  show if true = true then A H else B H
  exact iteT h
noncomputable def CompW (n : Nat) (fs : St) (Pv : Nat → List V → Hp → Prop) (i m : Nat) (σ : St) (H : Hp) : Prop := i ≤ n ∧ m = n - i ∧ (∃ v, σ = v :: fs) ∧ ∃ ys, Pv i ys H
theorem kit_of {K : PySem.W.Frag} {t : Value} {n : String} {b : Bool} (h : PySem.W.subIn K t (.type n) = some b) (h1 : (t == Value.type n) = false := by decide) (h2 : PySem.W.kitMeta n = true := by decide +kernel) : PySem.W.kitOne K t (.type n) = some b := by
  unfold PySem.W.kitOne PySem.W.kitCls
  rw [h1]
  simp only [Bool.false_eq_true, if_false, h2, if_true]
  exact h
theorem kit_self {K : PySem.W.Frag} {t : Value} (h : (t == t) = true := by decide) : PySem.W.kitOne K t t = some true := by
  unfold PySem.W.kitOne
  rw [if_pos h]
theorem sqT_of {K : PySem.W.Frag} {a : Addr} {its : Array Value} {n : Nat} {sl : Array (Option Value)} {dd : Option Addr} {xs : List V} (h : K.lookup a = some ⟨.type "tuple", dd, .seq its n, sl⟩) (hz : its.size ≤ sizeLine) (r : Vals xs its.toList) (H : Hp) : SqT K H a xs :=
  .inr ⟨_, its, n, h, rfl, rfl, hz, r⟩
noncomputable def absVs : List Value → List V
  | [] => []
  | u :: r => (absV u).getD .non :: absVs r
end L2

set_option Elab.async false
set_option linter.all false
set_option maxRecDepth 100000
namespace L2
open PySem PySem.Spec PySem.W PyProof.Rows
section
variable {prog : Program} {w : World} {A : Around} {K : Frag} {E : Value → Shared → Prop} {h : Heap} {g : Array GenState} {d : PySem.Drawn} {t : Nat} {os : OsState} {R : Result → Shared → Prop}
variable {nm q : Str} {C N f : Addr} {bs bm bmB : List Value} {hdct : Bool} {sn : List Str} {sub : List Value} {ab : Bool} {col : Option Bool} {dd : Option Addr} {k0 k1 k2 k3 k5 : Option Value} {B newId initId : String}
noncomputable abbrev excObj (C tp : Addr) : Obj := { cls := .ref C, data := .fields #[.ref tp, .none, .none, .none, .bool false, .none] }
noncomputable abbrev excHeap (h : Heap) (C : Addr) (rest : List Value) : Heap := (h.push { cls := .type "tuple", data := .seq rest.toArray }).push (excObj C h.objs.size)
theorem exc_make (X : K.In h) (hC : h.get? C = some (excClassObj nm q C N bs bm hdct sn sub ab col dd k0 k1 k2 k3 k5 newId)) (F : ExcBaseFacts B newId initId bmB) (T : OwnTail h bmB bm)
    (hi : findIn K (.ref C) "__init__" = some (some (.ref f))) (hf : typeIn K (.ref f) = some (.type "function")) {rest : List Value} (hrest : rest.length ≤ sizeLine)
    (hq : codeAny (model prog w) (A.under (.builtin "type.__call__" ⟨.ref C :: rest, []⟩)) (.call (.ref f) ⟨.ref (h.objs.size + 1) :: rest, []⟩) (InitBack (h.objs.size + 1) R) ⟨excHeap h C rest, g, d, t, os⟩) :
    codeAny (model prog w) A (.call (.ref C) ⟨rest, []⟩) R ⟨h, g, d, t, os⟩ := by
  have f1 := tc_lookup
  have f2 := tc_bind (.ref C)
  have hT : (⟨h, g, d, t, os⟩ : Shared).TypeIs (.ref C) "type" := ⟨_, hC, rfl⟩
  refine codeAny_of_tree ?_
  show wpAny _ _ (callAny (.ref C) _) _ _ _
  repeat (any_goals (first | assumption | with_reducible refine wpAny_loadPart_at hC ?_ | wp_step))
  refine ⟨rfl, ?_⟩
  refine codeAny_call_builtin_at (Code.quiet_builtin _ (by decide +kernel)) entry_typeCall (wpAny_check_type_call_sub hC ?_)
  repeat (first | with_reducible refine wpAny_loadPart_at hC ?_ | with_reducible refine wpAny_madeBy_exc hC ?_ | wp_step)
  refine codeAny_call_builtin_code (Code.quiet_builtin _ F.quiet) (wpAny_check_new_subT F T hC ?_)
  refine codeAny_exc_new_subT F T hC ?_ hrest
  show wpAny _ _ _ _ _ _
  have k : ∀ b o, h.get? b = some o → (excHeap h C rest).get? b = some o := fun b o e => Heap.get?_push_of_some _ (Heap.get?_push_of_some _ e)
  have hx : (excHeap h C rest).get? (h.objs.size + 1) = some (excObj C h.objs.size) := by heap_get
  have t1 : Looks (model prog w) (excHeap h C rest) (typeOf (.ref (h.objs.size + 1))) (.ref C) := (Looks.ld hx).andThen .now
  have hcC : (Value.ref C :: bm).contains (.ref C) = true := by simp
  have i1 := (looks_findIn (M := model prog w) X hi).keeps k
  have b1 := (bind_fn (M := model prog w) X (.ref (h.objs.size + 1)) hf).keeps k
  have s1 : Looks (model prog w) (excHeap h C rest) (isSubtype (.ref C) (.ref C)) true := by
    intro A' Q' E' s' kk hq'
    obtain ⟨h', g', d', t', os'⟩ := s'
    refine wpAny_isSubtype_exc (kk _ _ (k _ _ hC)) ?_
    rw [hcC]; exact hq'
  have n1 : Looks (model prog w) (excHeap h C rest) (isInstance (.ref (h.objs.size + 1)) (.ref C)) true := t1.andThen s1
  refine wpAny_bind (n1.at ?_)
  have c1 : Looks (model prog w) (excHeap h C rest) (specialOf (.ref (h.objs.size + 1)) "__init__") (some (.ref f)) := t1.andThen i1
  unfold callSpecial?
  repeat (first | with_reducible refine wpAny_call ?_ | lk)
  refine codeAny_mono hq fun r s' z => ?_
  rcases r with e | (v | _ | _ | _) <;> first | exact z | exact z.elim | skip
  obtain ⟨rfl, z⟩ := z
  exact wpAny_pure (wpAny_pure z)

structure ExCls (K : Frag) (C : Addr) : Prop where
  cd : ∃ cd, clsIn K C = some cd ∧ cd.hasDict = true ∧ ∀ self, refuseLoop self "__setattr__" cd.mro = pure ()
  obj : mroIn K C (.type "object") = some true
  base : mroIn K C (.type "BaseException") = some true
  sa : findIn K (.ref C) "__setattr__" = some (some (.builtin "object.__setattr__"))
  ga : findIn K (.ref C) "__getattribute__" = some (some (.builtin "BaseException.__getattribute__"))
  noHook : findIn K (.ref C) "__getattr__" = some none

section
variable {s : Shared} {x : Addr} {ox : Obj} {od : Option Obj} {name : Str} {v : Value} {expr : Bool} {Q : Value → Shared → Prop}
theorem exc_getattr (X : K.In s.heap) (I : InstAt s.heap x ox C od) (Ec : ExCls K C) (hf : findObj K C od name = some (.value v)) (hh : handedIn v = true) (hq : Q v { s with toks := s.toks + 1 }) :
    wpAny (model prog w) A (getAttr (.ref x) name expr) Q E s := by
  obtain ⟨h, g, d, t, os⟩ := s
  have L0 := I.type (M := model prog w)
  have L1 := looks_findIn (M := model prog w) X Ec.ga
  have L2' := looks_findIn (M := model prog w) X Ec.noHook
  have L3 := looks_find (M := model prog w) X I hf
  have Lb : Looks (model prog w) h (isInstance (.ref x) (.type "BaseException")) true := L0.andThen (looks_mroIn X Ec.base)
  have f3 := F.excAttr_ValueError.ga.bind (.ref x)
  have hx0 : (expr && onTheHeap (Value.builtin "BaseException.__getattribute__")) = false := by cases expr <;> rfl
  have hk : builtinKind "BaseException.__getattribute__" = some .slot := by decide +kernel
  have hsplit : splitId "BaseException.__getattribute__" = some ("BaseException", "__getattribute__") := by decide +kernel
  unfold getAttr getAttrBy
  refine wpAny_bind (wpAny_mkText (wpAny_holding (wpAny_bind (L0.at (wpAny_bind (L1.at ?_))))))
  show wpAny _ _ (getAttrByItsOwn _ _ _ _ _ _) _ _ _
  unfold getAttrByItsOwn
  refine wpAny_bind (L2'.at (wpAny_bind (wpAny_attempt (wpAny_holding ?_))))
  unfold callGetattribute
  rw [hx0]
  unfold boundAndCalled
  show wpAny _ _ (bindSpecial _ _ >>= _) _ _ _
  rw [f3]
  refine wpAny_bind (wpAny_pure (wpAny_call (codeAny_call_builtin F.excAttr_ValueError.ga.plain F.entry_bexc_ga (@check_slot (model prog w) _ _ _ "BaseException.__getattribute__" "BaseException" "__getattribute__" (.ref x) [.str name t] [] _ hk hsplit Lb (F.args_bexc_ga _ _) ?_))))
  refine wpAny_bind (wpAny_pure (wpAny_bind (wpAny_pure (wpAny_bind (L0.at (wpAny_bind (L3.at ?_)))))))
  refine wpAny_pure ?_
  show wpAny _ _ (handedOut v) _ _ _
  rw [handedOut_of hh]; exact wpAny_pure hq
theorem exc_osa {tk : Tok} {R : Result → Shared → Prop} (X : K.In s.heap) (I : InstAt s.heap x ox C od) (Ec : ExCls K C) (ha : findIn K (.ref C) name = some none)
    (hq : wpAny (model prog w) A.in1 (PySem.Builtin.ObjectAttr.storeInOwnDict (.ref x) (.ref C) (.str name tk) name v false)
      (fun fin s' => match fin with | .done f => R (.ok f) s' | .again c' => c'.quiet = true ∧ codeAny (model prog w) A c' R s') (fun e s' => R (.error e) s') s) :
    codeAny (model prog w) A (.call (.builtin "object.__setattr__") ⟨[.ref x, .str name tk, v], []⟩) R s := by
  have SF := PySem.F.store_object
  obtain ⟨cd, hc, hd, hp⟩ := Ec.cd
  have sub : Looks (model prog w) s.heap (isInstance (.ref x) (.type "object")) true := I.type.andThen (looks_mroIn X Ec.obj)
  refine codeAny_call_builtin SF.slot.plain SF.entry (@check_slot (model prog w) _ _ s "object.__setattr__" "object" "__setattr__" (.ref x) [.str name tk, v] [] _ SF.kind SF.split sub (SF.args (.ref x) (.str name tk) v) ?_)
  have hm : Looks (model prog w) s.heap (mroOf (.ref C)) cd.mro := (looks_clsIn X hc).andThen .now
  rw [osa_eq, refuse_eq]
  refine wpAny_bind (wpAny_bind (I.type.here (wpAny_bind (hm.here ?_))))
  rw [hp]
  exact wpAny_pure (wpAny_bind (I.type.here (wpAny_bind ((looks_findIn X ha).here (wpAny_bind (wpAny_pure hq))))))
theorem exc_set_new {vs : Array Value} {Qu : Unit → Shared → Prop} (X : K.In s.heap) (hx : s.heap.get? x = some ox) (hcl : ox.cls = .ref C) (hdi : ox.dict = none) (hda : ox.data = .fields vs) (Ec : ExCls K C) (ha : findIn K (.ref C) name = some none)
    (hq : ∀ h', h'.Ns1 s.heap.objs.size (fun y => if y = name then some v else none) → h'.get? x = some { ox with dict := some s.heap.objs.size } → (∀ b o, b ≠ x → s.heap.get? b = some o → h'.get? b = some o) → Qu () { s with heap := h', toks := s.toks + 2 }) :
    wpAny (model prog w) A (setAttr (.ref x) name v) Qu E s := by
  have I : InstAt s.heap x ox C none := ⟨hx, hcl, by unfold notCls; rw [hda], by rw [hdi]; trivial⟩
  obtain ⟨cd, hc, hd, hp⟩ := id Ec.cd
  refine set_plain X I Ec.sa (exc_osa (s := { s with toks := s.toks + 1 }) X I Ec ha ?_)
  have hxlt := Heap.lt_size hx
  clear I
  obtain ⟨oc, odi, oda, osl⟩ := ox
  dsimp only at hcl hdi hda
  subst hcl hdi hda
  refine wpAny_bind (wpAny_pure (wpAny_bind (wpAny_bind (wpAny_loadPart hx (wpAny_bind (Looks.here (s := { s with toks := s.toks + 1 }) (looks_clsIn X hc) ?_))))))
  rw [hd]
  show wpAny _ _ (alloc { cls := Value.type "dict", data := Data.dict #[] } >>= _) _ _ _
  refine wpAny_bind (wpAny_alloc (wpAny_bind ?_))
  have hx1 := Heap.get?_push_of_some (h := s.heap) ({ cls := Value.type "dict", data := Data.dict #[] } : Obj) hx
  refine wpAny_update hx1 (wpAny_pure ?_)
  have ne : s.heap.objs.size ≠ x := Nat.ne_of_gt hxlt
  have hx2 := Heap.get?_update_self (fun o : Obj => { o with dict := some s.heap.objs.size }) hx1 rfl
  have hd2 : ((s.heap.push ({ cls := Value.type "dict", data := Data.dict #[] } : Obj)).update x fun o => { o with dict := some s.heap.objs.size }).Ns1 s.heap.objs.size (fun _ => none) := by
    refine ⟨_, #[], _, (Heap.get?_update_other _ _ (Ne.symm ne)).trans (Heap.get?_push_size _ rfl), rfl, fun e he => by simp at he, List.Pairwise.nil, fun n => rfl⟩
  refine wpAny_bind (wpAny_pure (wpAny_bind ?_))
  refine wpAny_nsSet1 (s := { s with heap := (s.heap.push ({ cls := Value.type "dict", data := Data.dict #[] } : Obj)).update x fun o => { o with dict := some s.heap.objs.size }, toks := s.toks + 1 }) hd2 fun h' hn2 hs2 => ?_
  have w0 : PySem.Within (fun _ : Str => (none : Option Value)) [] := fun n hn => by first | cases hn | exact absurd rfl hn | simp at hn
  obtain ⟨oD, esD, epD, hoD, hdD, hcD⟩ := hn2.count (PySem.Within.cons name v w0)
  refine wpAny_bind (wpAny_lookBehind hoD (by rw [hdD]; exact pastItsLine_dict (Nat.le_trans hcD (show 1 ≤ sizeLine + 1 by decide))) ?_)
  refine wpAny_pure (hq _ hn2 ((hs2.2 _ (Ne.symm ne)).trans hx2) fun b o hb e => ?_)
  have hbs : b ≠ s.heap.objs.size := Nat.ne_of_lt (Heap.lt_size e)
  exact (hs2.2 _ hbs).trans ((Heap.get?_update_other _ _ (Ne.symm hb)).trans (Heap.get?_push_of_some _ e))
theorem exc_set_more {vs : Array Value} {dx : Addr} {mA : Str → Option Value} {ns : List Str} {Qu : Unit → Shared → Prop} (X : K.In s.heap) (hx : s.heap.get? x = some ox) (hcl : ox.cls = .ref C) (hdi : ox.dict = some dx) (hda : ox.data = .fields vs) (hn : s.heap.Ns1 dx mA)
    (hw : PySem.Within mA ns) (hsz : ns.length < sizeLine) (Ec : ExCls K C) (ha : findIn K (.ref C) name = some none)
    (hq : ∀ h', h'.Ns1 dx (fun y => if y = name then some v else mA y) → Heap.SameBut dx s.heap h' → Qu () { s with heap := h', toks := s.toks + 2 }) :
    wpAny (model prog w) A (setAttr (.ref x) name v) Qu E s := by
  obtain ⟨od, hod, _⟩ := lookIn_ns hn
  have I : InstAt s.heap x ox C (some od) := ⟨hx, hcl, by unfold notCls; rw [hda], by rw [hdi]; exact hod⟩
  obtain ⟨cd, hc, hd, hp⟩ := id Ec.cd
  refine set_plain X I Ec.sa (exc_osa (s := { s with toks := s.toks + 1 }) X I Ec ha ?_)
  clear I
  obtain ⟨oc, odi, oda, osl⟩ := ox
  dsimp only at hcl hdi hda
  subst hcl hdi hda
  refine wpAny_bind (wpAny_pure (wpAny_bind (wpAny_bind (wpAny_loadPart hx (wpAny_bind (Looks.here (s := { s with toks := s.toks + 1 }) (looks_clsIn X hc) ?_))))))
  rw [hd]
  refine wpAny_pure (a := some dx) (wpAny_bind (wpAny_pure (wpAny_bind ?_)))
  refine wpAny_nsSet1 (s := { s with toks := s.toks + 1 }) hn fun h' hn2 hs2 => ?_
  obtain ⟨oD, esD, epD, hoD, hdD, hcD⟩ := hn2.count (PySem.Within.cons name v hw)
  refine wpAny_bind (wpAny_lookBehind hoD (by rw [hdD]; exact pastItsLine_dict (Nat.le_trans hcD (by rw [List.length_cons]; (first | lia | omega)))) ?_)
  exact wpAny_pure (hq _ hn2 hs2)
end
end
end L2

set_option Elab.async false
set_option linter.all false
set_option maxRecDepth 100000
namespace L2
open PySem PySem.Spec PyProof.Rows
noncomputable def ExO (x C : Addr) (od : Option Addr) : HO := .ext fun h => ∃ o vs, h.get? x = some o ∧ o.cls = .ref C ∧ o.dict = od ∧ o.data = .fields vs ∧ 6 ≤ vs.size
noncomputable def ExN (x C : Addr) (od : Option Addr) : HO := .ext fun h => ∃ o vs, h.get? x = some o ∧ o.cls = .ref C ∧ o.dict = od ∧ o.data = .fields vs ∧ 6 ≤ vs.size ∧ vs[1]? = some .none
noncomputable def XdO (dx : Addr) (fs : List (Str × V)) : HO := .ext fun h => ∃ mA, h.Ns1 dx mA ∧ (∀ f, RelO (fs.lookup f) (mA f)) ∧ PySem.Within mA (fs.map (·.1))
section
variable {P : Program} {w : World} {H : Hp} {h : Heap} {x C dx : Addr} {od : Option Addr} {fs : List (Str × V)}
theorem ExO.ok {o : Obj} {vs : Array Value} (e : h.get? x = some o) (hc : o.cls = .ref C) (hd : o.dict = od) (hf : o.data = .fields vs) (hz : 6 ≤ vs.size) : ObjOk P w H h x (ExO x C od) :=
  ⟨⟨o, vs, e, hc, hd, hf, hz⟩, ⟨o, e⟩, fun h1 h2 ⟨o, vs, e, r⟩ k => ⟨o, vs, k o e, r⟩⟩
theorem ExN.ok {o : Obj} {vs : Array Value} (e : h.get? x = some o) (hc : o.cls = .ref C) (hd : o.dict = od) (hf : o.data = .fields vs) (hz : 6 ≤ vs.size) (h1 : vs[1]? = some .none) : ObjOk P w H h x (ExN x C od) :=
  ⟨⟨o, vs, e, hc, hd, hf, hz, h1⟩, ⟨o, e⟩, fun g1 g2 ⟨o, vs, e, r⟩ k => ⟨o, vs, k o e, r⟩⟩
theorem ExN.get (ok : HOk P w H h) (e : H x = some (ExN x C od)) : ∃ o vs, h.get? x = some o ∧ o.cls = .ref C ∧ o.dict = od ∧ o.data = .fields vs ∧ 6 ≤ vs.size ∧ vs[1]? = some .none := (ok x _ e).1
theorem ExO.get (ok : HOk P w H h) (e : H x = some (ExO x C od)) : ∃ o vs, h.get? x = some o ∧ o.cls = .ref C ∧ o.dict = od ∧ o.data = .fields vs ∧ 6 ≤ vs.size := (ok x _ e).1
theorem XdO.ok {mA : Str → Option Value} (n : h.Ns1 dx mA) (r : ∀ f, RelO (fs.lookup f) (mA f)) (wi : PySem.Within mA (fs.map (·.1))) : ObjOk P w H h dx (XdO dx fs) := by
  obtain ⟨o, es, ep, e, q⟩ := id n
  exact ⟨⟨mA, n, r, wi⟩, ⟨o, e⟩, fun h1 h2 ⟨mA, n, r⟩ k => ⟨mA, n.at k, r⟩⟩
theorem XdO.get (ok : HOk P w H h) (e : H dx = some (XdO dx fs)) : ∃ mA, h.Ns1 dx mA ∧ (∀ f, RelO (fs.lookup f) (mA f)) ∧ PySem.Within mA (fs.map (·.1)) := (ok dx _ e).1
end

noncomputable def tFldX (K : PySem.W.Frag) (ta : TE) (f : Str) : TE := fun σ H Q => ta σ H fun y H1 => ∃ a C d fs v, y = .ref a ∧ H1 a = some (ExO a C (some d)) ∧ H1 d = some (XdO d fs) ∧ ExCls K C ∧ NoAttr K C f ∧ fs.lookup f = some v ∧ Q v H1
noncomputable def sFldX (K : PySem.W.Frag) (ta tv : TE) (f : Str) : TS := fun D σ H => tv σ H fun y H1 => ta σ H1 fun u H2 => ∃ a C od, u = .ref a ∧ H2 a = some (ExN a C od) ∧ ExCls K C ∧ NoAttr K C f ∧
  ((od = none ∧ ∀ d, H2 d = none → D.nx σ (upd (upd H2 d (XdO d [(f, y)])) a (ExN a C (some d)))) ∨ ∃ d fs, od = some d ∧ H2 d = some (XdO d fs) ∧ fs.length < 1000 ∧ D.nx σ (upd H2 d (XdO d (putF f y fs))))
section
variable {X : Cx} {o e value : Expr} {f : Str} {pos pos' : Pos} {ta tv : TE}
theorem pe_fldX (he : PE X e ta) (hb : attributeBase e f X.env (eval e X.env) = eval e X.env := by rfl) : PE X (.Attribute e f pos) (tFldX X.K ta f) := by
  refine ⟨?_⟩
  intro pins s σ H Q I h
  refine attr_of hb (thn (he pins s σ H _ I h) fun u s1 hzz => ?_)
  obtain ⟨y, H1, I1, r1, a, C, d, fs, v, hy, ha, hd, ec, na, l, q⟩ := hzz
  subst hy
  cases r1
  obtain ⟨ox, vs, gx, hcl, hdi, hda, _⟩ := ExO.get I1.hok ha
  obtain ⟨mA, n, r, wi⟩ := XdO.get I1.hok hd
  obtain ⟨od, hod, hl⟩ := lookIn_ns n
  have J : PySem.W.InstAt s1.heap a ox C (some od) := ⟨gx, hcl, by unfold PySem.W.notCls; rw [hda], by rw [hdi]; exact hod⟩
  obtain ⟨u, eu, ru⟩ := RelO.some_of (by have := r f; rw [l] at this; exact this)
  obtain ⟨cd, hc, hdd, _⟩ := ec.cd
  refine exc_getattr I1.kIn J ec (v := u) ?_ (handed_of ru) ⟨v, H1, I1.tok _, ru, q⟩
  unfold PySem.W.findObj
  rw [hc, Option.bind_some, na, Option.bind_some]
  simp only [Option.bind_some, PySem.W.ownOf, hdd, if_true, hl, eu]
theorem Inv.excDict {pins : List (Addr × Obj)} {σ : St} {H : Hp} {s : Shared} {h' : Heap} {a C : Addr} {oa ob : HO} {t' : Nat} (I : Inv X pins σ H s) (ha : H a = some (ExN a C none))
    (keep : ∀ b o, b ≠ a → s.heap.get? b = some o → h'.get? b = some o) (hat : ∃ o, h'.get? a = some o) (hoa : ObjOk X.prog X.w (upd (upd H s.heap.objs.size ob) a oa) h' a oa) (hob : ObjOk X.prog X.w (upd (upd H s.heap.objs.size ob) a oa) h' s.heap.objs.size ob) :
    Inv X pins σ (upd (upd H s.heap.objs.size ob) a oa) { s with heap := h', toks := t' } := by
  have hd : H s.heap.objs.size = none := I.fresh
  have nda : a ≠ s.heap.objs.size := ne_of_none ha hd
  have off : ∀ b u, H b = some u → u ≠ ExN a C none → b ≠ a ∧ b ≠ s.heap.objs.size := fun b u e ne => ⟨fun z => by rw [z, ha] at e; exact ne (Option.some.inj e).symm, ne_of_none e hd⟩
  have up : ∀ b, b ≠ a → b ≠ s.heap.objs.size → upd (upd H s.heap.objs.size ob) a oa b = H b := fun b h1 h2 => by rw [upd_ne h1, upd_ne h2]
  refine I.un ⟨fun b o e n _ _ => keep b o (fun z => by rw [z, ha] at n; cases n) e, fun b o e n _ _ => ⟨o.slots, keep b o (fun z => by rw [z, ha] at n; cases n) e⟩, fun b o e n _ => ?_, fun b o e _ => ?_, fun b xs e => ?_, fun b o xs e => ?_, fun b ps e => ?_⟩ fun b u e => ?_
  · rw [up b (fun z => by rw [z, ha] at n; cases n) (Nat.ne_of_lt (Heap.lt_size e))]; exact n
  · by_cases z : b = a
    · subst z; exact hat
    · exact ⟨o, keep b o z e⟩
  · obtain ⟨h1, h2⟩ := off b _ e (by intro z; cases z)
    rw [up b h1 h2]; exact e
  · obtain ⟨h1, h2⟩ := off b _ e (by intro z; cases z)
    rw [up b h1 h2]; exact e
  · obtain ⟨h1, h2⟩ := off b _ e (by intro z; cases z)
    exact ⟨#[], by rw [up b h1 h2, e]; simp⟩
  · by_cases z : b = a
    · subst z; rw [upd_same] at e; cases e; exact hoa
    · rw [upd_ne z] at e
      by_cases z2 : b = s.heap.objs.size
      · subst z2; rw [upd_same] at e; cases e; exact hob
      · rw [upd_ne z2] at e
        refine (I.hok b u e).stay (fun c v hc q => keep c v ?_ q) (fun c q => ?_) fun c xs q => ?_
        · rcases hc with hc | hc
          · rw [hc]; exact z
          · exact (off c _ hc (by intro z; cases z)).1
        · obtain ⟨h1, h2⟩ := off c _ q (by intro z; cases z)
          rw [up c h1 h2]; exact q
        · obtain ⟨h1, h2⟩ := off c _ q (by intro z; cases z)
          rw [up c h1 h2]; exact q
theorem ps_fldX (ha : PE X o ta) (hv : PE X value tv) (hs : swapsWith value (some (.Attribute o f pos')) pos.line X.env = pure false := by rfl) : PS X (.Assign [.Attribute o f pos'] value pos) (sFldX X.K ta tv f) := by
  refine ⟨?_⟩
  intro pins s σ H D I h
  refine plainObj_wpAny_Assign_Attribute (thn (hv pins s σ H _ I h) fun u s1 ⟨y, H1, I1, ry, q⟩ => thn (ha pins s1 σ H1 _ I1 q) fun ov s2 ⟨x, H2, I2, rx, a, C, od, ex, ea, ec, na, q2⟩ => ?_) hs
  subst ex
  obtain rfl : ov = Value.ref a := rx
  obtain ⟨ox, vs, gx, hcl, hdi, hda, hz, h1⟩ := ExN.get I2.hok ea
  rcases q2 with ⟨rfl, q2⟩ | ⟨d, fs, rfl, hd, hl, q2⟩
  · refine exc_set_new I2.kIn gx hcl hdi hda ec na fun h' hn hx' keep => ?_
    refine ⟨σ, _, I2.excDict ea keep ⟨_, hx'⟩ (ExN.ok hx' hcl rfl hda hz h1) (XdO.ok hn (fun g => ?_) fun g hg => ?_), q2 _ I2.fresh⟩
    · show RelO ([(f, y)].lookup g) (if g = f then some u else none)
      by_cases z : g = f
      · subst z; rw [List.lookup_cons_self, if_pos rfl]; exact ry
      · rw [List.lookup_cons, beq_eq_false_iff_ne.mpr z, if_neg z]; exact True.intro
    · by_cases z : g = f
      · subst z; simp
      · exact absurd (show (if g = f then some u else none) = none by rw [if_neg z]) hg
  · obtain ⟨mA, n, r, wi⟩ := XdO.get I2.hok hd
    refine exc_set_more I2.kIn gx hcl hdi hda n wi (by rw [List.length_map, sizeLine_eq]; (first | lia | omega)) ec na fun h' hn sb => ?_
    refine ⟨σ, _, I2.write (x := d) (e := d) (by rw [hd]; exact True.intro) (.inl rfl) (fun b q hb z => (sb.2 b hb).trans z) (let ⟨o, _, _, e', _⟩ := hn; ⟨o, e'⟩) (XdO.ok hn (fun g => ?_) fun g hg => ?_), q2⟩
    · show RelO ((putF f y fs).lookup g) (if g = f then some u else mA g)
      rw [lookup_putF]
      by_cases q : g = f
      · rw [if_pos q, if_pos q]; exact ry
      · rw [if_neg q, if_neg q]; exact r g
    · by_cases q : g = f
      · rw [q]; exact (keys_putF f y fs).1
      · refine (keys_putF f y fs).2 g (wi g fun z => hg ?_)
        show (if g = f then some u else mA g) = none
        rw [if_neg q]; exact z
end

noncomputable def Ours (X : Cx) (pins : List (Addr × Obj)) (H : Hp) (T : Addr) : Prop := H T = none ∧ X.s₀.heap.objs.size ≤ T ∧ T ≠ X.env.locals ∧ ∀ p ∈ X.pn ++ pins, p.1 ≠ T
noncomputable def Tb (X : Cx) (pins : List (Addr × Obj)) (H : Hp) (x : Addr) (h : Heap) : Prop :=
  ∃ oe vs, h.get? x = some oe ∧ oe.data = .fields vs ∧ (vs[1]? = some .none ∨ ∃ T oT ts fl, vs[1]? = some (.ref T) ∧ T ≠ x ∧ Ours X pins H T ∧ h.get? T = some oT ∧ oT.data = .fields ts ∧ ts[3]? = some fl ∧ (fl = .none ∨ fl = rawInt X.env.locals))
noncomputable def TbAt (X : Cx) (pins : List (Addr × Obj)) (H : Hp) (x : Addr) (fl : Value) (h : Heap) : Prop :=
  ∃ oe vs T oT ts, h.get? x = some oe ∧ oe.data = .fields vs ∧ vs[1]? = some (.ref T) ∧ T ≠ x ∧ Ours X pins H T ∧ h.get? T = some oT ∧ oT.data = .fields ts ∧ ts[3]? = some fl
theorem TbAt.tb {X : Cx} {pins : List (Addr × Obj)} {H : Hp} {x : Addr} {fl : Value} {h : Heap} (t : TbAt X pins H x fl h) (hf : fl = .none ∨ fl = rawInt X.env.locals) : Tb X pins H x h := by
  obtain ⟨oe, vs, T, oT, ts, e, d, h1, r1, r2, r3, r4, r5⟩ := t
  exact ⟨oe, vs, e, d, .inr ⟨T, oT, ts, fl, h1, r1, r2, r3, r4, r5, hf⟩⟩
section
variable {X : Cx} {pins : List (Addr × Obj)} {σ : St} {H : Hp} {s : Shared} {h' : Heap} {x C : Addr} {od : Option Addr}
theorem Inv.flight (I : Inv X pins σ H s) (hx : H x = some (ExO x C od)) {ch : List Addr} (hch : ∀ b ∈ ch, Ours X pins H b) (ncell : ∀ b ∈ ch, ∀ y c, X.env.cells.lookup y = some c → c ≠ b)
    (keep : ∀ b o, b ≠ x → b ∉ ch → b ∉ frs X.stack → s.heap.get? b = some o → h'.get? b = some o) (slot : ∀ b o, b ≠ x → b ∉ ch → s.heap.get? b = some o → ∃ sl, h'.get? b = some { o with slots := sl })
    (hx' : ∃ o vs, h'.get? x = some o ∧ o.cls = .ref C ∧ o.dict = od ∧ o.data = .fields vs ∧ 6 ≤ vs.size) : Inv X pins σ H { s with heap := h' } := by
  have nx : ∀ b, H b = none → b ≠ x := fun b n z => by rw [z, hx] at n; cases n
  have nst : ∀ b, b ≠ X.env.locals → b ∉ X.fs → b ∉ frs X.stack := fun b h1 h2 z => (List.mem_cons.mp (I.stkSub b z)).elim h1 h2
  have nch : ∀ b u, H b = some u → b ∉ ch := fun b u e z => by rw [(hch b z).1] at e; cases e
  have nfr : ∀ b u, H b = some u → b ∉ frs X.stack := fun b u e z => by rw [I.stkFree b z] at e; cases e
  refine I.step (g' := s.gens) (d' := s.drawn) (t' := s.toks) (ch := ch) (fun b hb => ⟨.inr (hch b hb).2.1, (hch b hb).2.2.1, ncell b hb, (hch b hb).2.2.2⟩)
    (fun b o hL hf hc e n => keep b o (nx b n) hc (nst b hL hf) e) (fun b o hL hf hc e n => slot b o (nx b n) hc e) (fun b o hc e n => n) (fun b o hc e => ?_) (fun _ _ e => e) (fun _ _ _ e => e) (fun b ps e => ⟨#[], by rw [e]; simp⟩) (fun m hm => ?_) (fun b u e => ?_) I.bare
  · by_cases z : b = x
    · subst z; obtain ⟨o, _, g, _⟩ := hx'; exact ⟨o, g⟩
    · obtain ⟨sl, q⟩ := slot b o z hc e; exact ⟨_, q⟩
  · obtain ⟨o, es, ep, ho, hd, r⟩ := hm
    obtain ⟨sl, q⟩ := slot _ o (nx _ I.free) (fun z => (hch _ z).2.2.1 rfl) ho
    exact ⟨_, es, ep, q, hd, r⟩
  · by_cases z : b = x
    · subst z; rw [hx] at e; cases e
      obtain ⟨o, vs, g, r1, r2, r3, r4⟩ := hx'
      exact ExO.ok g r1 r2 r3 r4
    · refine (I.hok b u e).stay (fun c v hc q => ?_) (fun _ q => q) fun _ _ q => q
      rcases hc with hc | hc
      · rw [hc] at q ⊢; exact keep b v z (nch b u e) (nfr b u e) q
      · exact keep c v (fun z2 => by rw [z2, hx] at hc; cases hc) (nch c _ hc) (nfr c _ hc) q

theorem Ours.ncell {T : Addr} {oT : Obj} {ts : Array Value} (I : Inv X pins σ H s) (g : s.heap.get? T = some oT) (d : oT.data = .fields ts) : ∀ b ∈ [T], ∀ y c, X.env.cells.lookup y = some c → c ≠ b := fun b hb y c e z => by
  rw [List.mem_singleton.mp hb] at z
  obtain ⟨v, o, ho, hd⟩ := I.cell y c e
  rw [z, g] at ho; cases ho; rw [d] at hd; cases hd
theorem fly_entry {M : Model} {A : Around} {E : Value → Shared → Prop} {Q : Unit → Shared → Prop} {head : Value} {hadNext : Bool} (I : Inv X pins σ H s) (hst : X.stack = X.env :: X.outer) (hfr : X.env.frame = some X.env.locals) (hA : A.frames = some X.stack)
    (hx : H x = some (ExO x C od)) (hq : ∀ s', Inv X pins σ H s' → TbAt X pins H x (rawInt X.env.locals) s'.heap → Q () s') :
    wpAny M A (do let a ← frameOf X.env; let pl ← entryPlaceOf X.env.locals hadNext; let b ← EntryCells.newEntry head a .none (rawInt X.env.locals) .none pl; setField (.ref x) 1 b) Q E s := by
  have hl : s.heap.FunFrames X.base (X.env :: X.outer) := hst ▸ I.stack
  refine wpAny_bind (wpAny_frameOf_fun (hst ▸ hA) hl hfr fun h1 hs1 => ?_)
  refine wpAny_bind (wpAny_entryPlaceOf fun pl hpl => ?_)
  unfold EntryCells.newEntry newFields
  refine wpAny_bind (wpAny_newObj_type ?_ (hpl.sizeOk5 _ _ _ _ _))
  obtain ⟨ox, vs, gx, hcl, hdi, hda, hz⟩ := ExO.get I.hok hx
  have hxf : x ∉ (X.env :: X.outer).filterMap (·.frame) := fun hm => by
    obtain ⟨_, o, ho, hnf⟩ := hl.mem hm
    rw [gx] at ho; cases ho; exact hnf vs hda
  have gx1 : h1.get? x = some ox := (hs1.2.1 x hxf).trans gx
  generalize hob : ({ cls := .type "traceback", dict := none, data := .fields ([head, .ref X.env.locals, .none, rawInt X.env.locals, .none] ++ (if pl.isEmpty then List.replicate 6 Value.none else pl)).toArray } : Obj) = ob
  have gx2 := Heap.get?_push_of_some (h := h1) ob gx1
  have hz1 : 1 < vs.size := by (first | lia | omega)
  refine wpAny_setField gx2 hda hz1 ?_
  have sz : h1.objs.size = s.heap.objs.size := hs1.1
  have hd3 := Obj.data_mapFields hda (·.setIfInBounds 1 (Value.ref h1.objs.size))
  have gx3 := Heap.get?_update_self (Obj.mapFields (·.setIfInBounds 1 (Value.ref h1.objs.size))) gx2 (Obj.isFreed_of_fields hd3)
  have hTx : h1.objs.size ≠ x := Nat.ne_of_gt (Heap.lt_size gx1)
  have gT : (h1.push ob).get? h1.objs.size = some ob := Heap.get?_push_size _ (by rw [← hob]; rfl)
  have hT : H h1.objs.size = none := by rw [sz]; exact I.fresh
  have keep : ∀ b o, b ≠ x → h1.get? b = some o → ((h1.push ob).update x (Obj.mapFields (·.setIfInBounds 1 (Value.ref h1.objs.size)))).get? b = some o := fun b o hb e => by
    rw [Heap.get?_update_other _ _ (Ne.symm hb)]; exact Heap.get?_push_of_some _ e
  have I' : Inv X pins σ H { s with heap := (h1.push ob).update x (Obj.mapFields (·.setIfInBounds 1 (Value.ref h1.objs.size))) } := by
    refine I.flight hx (ch := []) (fun b hb => (nomatch hb)) (fun b hb => (nomatch hb)) (fun b o hb _ hf e => keep b o hb ((hs1.2.1 b (by rw [← hst]; exact hf)).trans e)) (fun b o hb _ e => ?_) ⟨_, _, gx3, (Obj.cls_mapFields _ _).trans hcl, ?_, hd3, by simp; exact hz⟩
    · obtain ⟨sl, q⟩ := hs1.2.2 b o e
      exact ⟨sl, keep b _ hb q⟩
    · obtain ⟨oc, odi, oda, osl⟩ := ox
      simp only at hda
      subst hda
      exact hdi
  refine hq _ I' ⟨_, _, h1.objs.size, ob, _, gx3, hd3, by simp [hz1], hTx, ⟨hT, ?_, ?_, fun p hp z => ?_⟩, ?_, by rw [← hob], ?_⟩
  · rw [sz]; exact I.sz
  · rw [sz]; exact Nat.ne_of_gt I.lt
  · have := Heap.lt_size (I.pin p hp).1
    rw [z, sz] at this; exact Nat.lt_irrefl _ this
  · rw [Heap.get?_update_other _ _ (Ne.symm hTx)]; exact gT
  · first | (simp; done) | (rcases hpl with rfl | ⟨_, _, _, _, _, _, _, rfl⟩ <;> simp)
theorem fly_note {M : Model} {A : Around} {E : Value → Shared → Prop} {Q : Unit → Shared → Prop} (I : Inv X pins σ H s) (hst : X.stack = X.env :: X.outer) (hfr : X.env.frame = some X.env.locals) (hA : A.frames = some X.stack)
    (hx : H x = some (ExO x C od)) (tb : Tb X pins H x s.heap) (hq : ∀ s', Inv X pins σ H s' → TbAt X pins H x (rawInt X.env.locals) s'.heap → Q () s') : wpAny M A (noteFrame (.ref x) X.env) Q E s := by
  obtain ⟨oe, vs, ge, hd, h1⟩ := tb
  unfold noteFrame
  simp only [hfr]
  rcases h1 with h1 | ⟨T, oT, ts, fl, h1, hTx, ours, gT, dT, h3, hfl⟩
  · refine wpAny_bind (wpAny_field ge hd h1 ?_)
    rw [if_neg (by decide)]
    exact fly_entry I hst hfr hA hx hq
  · refine wpAny_bind (wpAny_field ge hd h1 ?_)
    rw [if_pos (show (Value.ref T != Value.none) = true from by simp)]
    refine wpAny_bind (wpAny_field gT dT h3 ?_)
    rcases hfl with rfl | rfl
    · rw [if_neg (show ¬ ((Value.none == rawInt X.env.locals) = true) from by simp [rawInt])]
      refine wpAny_bind (wpAny_setField gT dT (Array.getElem?_eq_some_iff.mp h3).1 ?_)
      have other : ∀ b, b ≠ T → (s.heap.update T (Obj.mapFields (·.setIfInBounds 3 Value.none))).get? b = s.heap.get? b := fun b hb => Heap.get?_update_other _ _ (Ne.symm hb)
      obtain ⟨ox, ws, gx, r⟩ := ExO.get I.hok hx
      have I' : Inv X pins σ H { s with heap := s.heap.update T (Obj.mapFields (·.setIfInBounds 3 Value.none)) } := by
        refine I.flight hx (ch := [T]) (fun b hb => by rw [List.mem_singleton.mp hb]; exact ours) (Ours.ncell I gT dT) (fun b o hb hc _ e => (other b fun z => hc (by simp [z])).trans e) (fun b o hb hc e => ⟨o.slots, (other b fun z => hc (by simp [z])).trans e⟩) ⟨ox, ws, (other x (Ne.symm hTx)).trans gx, r⟩
      exact fly_entry I' hst hfr hA hx hq
    · rw [if_pos (show (rawInt X.env.locals == rawInt X.env.locals) = true from by simp)]
      exact wpAny_pure (hq s I ⟨oe, vs, T, oT, ts, ge, hd, h1, hTx, ours, gT, dT, h3⟩)
theorem fly_set {M : Model} {A : Around} {E : Value → Shared → Prop} {Q : Unit → Shared → Prop} {fl : Value} {to : Option Addr} (I : Inv X pins σ H s) (hx : H x = some (ExO x C od)) (tb : TbAt X pins H x fl s.heap)
    (hq : ∀ s', Inv X pins σ H s' → TbAt X pins H x (to.elim Value.none fun f => rawInt f) s'.heap → Q () s') : wpAny M A (setFlight (.ref x) to) Q E s := by
  obtain ⟨oe, vs, T, oT, ts, ge, hd, h1, hTx, ours, gT, dT, h3⟩ := tb
  unfold setFlight
  refine wpAny_bind (wpAny_field ge hd h1 ?_)
  rw [if_pos (show (Value.ref T != Value.none) = true from by simp)]
  have hsz3 := (Array.getElem?_eq_some_iff.mp h3).1
  refine wpAny_setField gT dT hsz3 (hq _ ?_ ?_)
  · obtain ⟨ox, ws, gx, r⟩ := ExO.get I.hok hx
    exact I.flight hx (ch := [T]) (fun b hb => by rw [List.mem_singleton.mp hb]; exact ours) (Ours.ncell I gT dT) (fun b o hb hc _ e => (Heap.get?_update_other _ _ (fun z => hc (by simp [z]))).trans e) (fun b o hb hc e => ⟨o.slots, (Heap.get?_update_other _ _ (fun z => hc (by simp [z]))).trans e⟩) ⟨ox, ws, (Heap.get?_update_other _ _ hTx).trans gx, r⟩
  · exact ⟨oe, vs, T, _, _, (Heap.get?_update_other _ _ hTx).trans ge, hd, h1, hTx, ours, Heap.get?_update_self _ gT (Obj.isFreed_of_fields (Obj.data_mapFields dT _)), Obj.data_mapFields dT _, by simp [hsz3]⟩
end

noncomputable def CXE (P : Program) (w : World) : CXT := fun outer H s E e s' => ∃ x C d H', e = .ref x ∧ s'.os = s.os ∧ AllBare s'.gens ∧ Un (frs outer) [] H H' s.heap s'.heap ∧ HOk P w H' s'.heap ∧ H' x = some (ExO x C (some d)) ∧
  (∃ oe vs T oT ts, s'.heap.get? x = some oe ∧ oe.data = .fields vs ∧ vs[1]? = some (.ref T) ∧ T ≠ x ∧ H' T = none ∧ s.heap.objs.size ≤ T ∧ s'.heap.get? T = some oT ∧ oT.data = .fields ts ∧ ts[3]? = some .none) ∧ E (.ref C) (some d) H'
theorem cxe_none {P : Program} {w : World} {outer : List Env} {H : Hp} {s : Shared} {e : Value} {s' : Shared} (h : CXE P w outer H s (fun _ _ _ => False) e s') : False := by
  obtain ⟨_, _, _, _, _, _, _, _, _, _, _, z⟩ := h
  exact z
noncomputable def FlyW (X : Cx) (E : XK) : Value → Shared → Prop := fun e s1 => ∃ x C d pins σ H, e = .ref x ∧ Inv X pins σ H s1 ∧ H x = some (ExO x C (some d)) ∧ Tb X pins H x s1.heap ∧ E (.ref C) (some d) H
noncomputable abbrev Cx.exc (X : Cx) (E : XK) : Cx := X.wish (FlyW X E)
section
variable {X : Cx} {E : XK}
theorem passN {P : Program} {w : World} : Passes (CXE P w) X E0 := fun _ _ _ _ _ _ _ h => (cxe_none h).elim
theorem cxe_fly {pins : List (Addr × Obj)} {σ : St} {H : Hp} {s s' : Shared} {e : Value} (I : Inv X pins σ H s) (h : CXE X.prog X.w X.stack H s E e s') : FlyW X E e s' := by
  obtain ⟨x, C, d, H', rfl, ho, hg, u, hok, hx, ⟨oe, vs, T, oT, ts, ge, hd, h1, hTx, hT, lo, gT, dT, h3⟩, q⟩ := h
  have I' : Inv X pins σ H' s' := I.call' (ch := []) ho u hok hg fun b z => (nomatch z)
  refine ⟨x, C, d, pins, σ, H', rfl, I', hx, ⟨oe, vs, ge, hd, .inr ⟨T, oT, ts, .none, h1, hTx, ⟨hT, Nat.le_trans I.sz lo, Nat.ne_of_gt (Nat.lt_of_lt_of_le I.lt lo), fun p hp z => ?_⟩, gT, dT, h3, .inl rfl⟩⟩, q⟩
  have := Heap.lt_size (I.pin p hp).1
  rw [z] at this
  exact absurd (Nat.lt_of_lt_of_le this lo) (Nat.lt_irrefl _)
theorem passX : Passes (CXE X.prog X.w) (X.exc E) E := fun pins σ H s e s' I h => cxe_fly I.unwish h
theorem fly_leave {e : Value} {s1 : Shared} {E' : Value → Shared → Prop} (hst : X.stack = X.env :: X.outer) (hfr : X.env.frame = some X.env.locals) (hex : X.ex = []) (h : FlyW X E e s1) :
    wpAny (model X.prog X.w) X.A (leaving X.env e) (fun _ s'' => CXE X.prog X.w X.outer X.H₀ X.s₀ E e s'') E' s1 := by
  obtain ⟨x, C, d, pins, σ, H, rfl, I, hx, tb, q⟩ := h
  unfold leaving
  refine wpAny_bind (fly_note I hst hfr I.ok.frames hx tb fun s2 I2 t2 => fly_set (to := none) I2 hx t2 fun s3 I3 t3 => ?_)
  obtain ⟨oe, vs, T, oT, ts, ge, hd, h1, hTx, ours, gT, dT, h3⟩ := t3
  have b := I3.base
  rw [hex] at b
  exact ⟨x, C, d, H, rfl, I3.os, I3.bare, b, I3.hok, hx, ⟨oe, vs, T, oT, ts, ge, hd, h1, hTx, ours.1, ours.2.1, gT, dT, h3⟩, q⟩
theorem own_fly (hst : X.stack = X.env :: X.outer) (hfr : X.env.frame = some X.env.locals) : PassesOwn (model X.prog X.w) X.A X.env (FlyW X E) := fun e s1 h => by
  obtain ⟨x, C, d, pins, σ, H, rfl, I, hx, tb, q⟩ := h
  refine fly_note I hst hfr I.ok.frames hx tb fun s2 I2 t2 => ?_
  have t2' := t2
  obtain ⟨oe, vs, T, oT, ts, ge, hd, h1, hTx, ours, gT, dT, h3⟩ := t2
  unfold cameBackBy
  refine wpAny_bind (wpAny_field ge hd h1 ?_)
  rw [if_neg (show ¬ ((Value.ref T == Value.none) = true) from by simp)]
  rw [hfr]
  exact fly_set (to := some X.env.locals) I2 hx t2' fun s3 I3 t3 => ⟨x, C, d, pins, σ, H, rfl, I3, hx, t3.tb (.inr rfl), q⟩
end
section
variable {P : Program} {w : World} {K : PySem.W.Frag} {mg : Str → Option Value} {base : Heap}
theorem Fun.okN {CX : CXT} {x qual : Str} {st : Stmt} {f : Addr} {fd : FuncData} {N ps : List Str} {k : Nat} {sp : Sp} (F : Fun K x qual st f fd) (S : FnScope N ps (defScope st)) (len : ∀ vs H Q E, sp vs H Q E → vs.length = ps.length)
    (hbody : ∀ (cdv : Value) (A : Around) (outer : List Env) (s : Shared) (H : Hp) (vs : List V) (Q : VK) (E : XK), Room k (A.deeper (envOfC qual (defScope st) s.heap.objs.size f cdv)) → sp vs H Q E →
      ∃ t, PSs (cxOf CX P w K mg base N qual (defScope st) f cdv A outer s H E).nox (defBody st) t ∧ t { nx := fun _ H' => Q .non H', rt := Q } (start N vs) H) : FnOk P w K mg base CX (k + 1) f fd ps sp := by
  obtain ⟨oc, od, kV, doc, pm, an, cdv, ct, osl, rfl, lk, hcd⟩ := F.ex
  refine fn_of lk hcd S len fun A outer s H vs Q E hr hsp => ?_
  obtain ⟨t, h, q⟩ := hbody cdv A outer s H vs Q E hr hsp
  exact ⟨t, h.nox, q⟩
theorem Fun.okX {x qual : Str} {st : Stmt} {f : Addr} {fd : FuncData} {N ps : List Str} {k : Nat} {sp : Sp} (F : Fun K x qual st f fd) (S : FnScope N ps (defScope st)) (len : ∀ vs H Q E, sp vs H Q E → vs.length = ps.length)
    (hbody : ∀ (cdv : Value) (A : Around) (outer : List Env) (s : Shared) (H : Hp) (vs : List V) (Q : VK) (E : XK), Room k (A.deeper (envOfC qual (defScope st) s.heap.objs.size f cdv)) → sp vs H Q E →
      ∃ t, PSs ((cxOf (CXE P w) P w K mg base N qual (defScope st) f cdv A outer s H E).exc E) (defBody st) t ∧ t { nx := fun _ H' => Q .non H', rt := Q } (start N vs) H) : FnOk P w K mg base (CXE P w) (k + 1) f fd ps sp := by
  obtain ⟨oc, od, kV, doc, pm, an, cdv, ct, osl, rfl, lk, hcd⟩ := F.ex
  refine fn_of lk hcd S len fun A outer s H vs Q E hr hsp => ?_
  obtain ⟨t, h, q⟩ := hbody cdv A outer s H vs Q E hr hsp
  refine ⟨t, ⟨fun pins s1 σ H1 D I hw => ?_⟩, q⟩
  refine wpAny_mono (h pins s1 σ H1 D (I.wish _) hw) (fun fl s2 hs => hs.unwish) fun e s2 fl => ?_
  exact fly_leave rfl rfl rfl fl
end
end L2

set_option Elab.async false
set_option linter.all false
set_option maxRecDepth 100000
namespace L2
open PySem PySem.Spec PyProof.Rows
noncomputable abbrev bmValue : List Value := [.type "ValueError", .type "Exception", .type "BaseException", .type "object"]
structure ExMk (K : PySem.W.Frag) (C f : Addr) : Prop where
  cls : ∃ (B nw ini : String) (bmB : List Value), ExcBaseFacts B nw ini bmB ∧ bmB.contains (.type "BaseException") = true ∧ ∃ nm q N bs bm hdct sn sub ab col dd k0 k1 k2 k3 k5, K.lookup C = some (excClassObj nm q C N bs bm hdct sn sub ab col dd k0 k1 k2 k3 k5 nw) ∧ ∀ h, K.In h → OwnTail h bmB bm
  init : PySem.W.findIn K (.ref C) "__init__" = some (some (.ref f))
  fn : PySem.W.typeIn K (.ref f) = some (.type "function")
  kp : PySem.W.keepIn K (.ref C) = true
  ec : ExCls K C
theorem ExMk.ofValue {K : PySem.W.Frag} {C f : Addr} (h : ∃ nm q N bs bm hdct sn sub ab col dd k0 k1 k2 k3 k5, K.lookup C = some (excClassObj nm q C N bs bm hdct sn sub ab col dd k0 k1 k2 k3 k5 "ValueError.__new__") ∧ ∀ h, K.In h → OwnTail h bmValue bm)
    (i : PySem.W.findIn K (.ref C) "__init__" = some (some (.ref f))) (fn : PySem.W.typeIn K (.ref f) = some (.type "function")) (kp : PySem.W.keepIn K (.ref C) = true) (ec : ExCls K C) : ExMk K C f :=
  ⟨⟨_, _, _, bmValue, F.excBase_ValueError, by decide, h⟩, i, fn, kp, ec⟩
section
variable {X : Cx} {pins : List (Addr × Obj)} {σ : St} {H : Hp} {s : Shared}
theorem Inv.excMade (I : Inv X pins σ H s) (C : Addr) (us : List Value) : Inv X pins σ (upd H (s.heap.objs.size + 1) (ExN (s.heap.objs.size + 1) C none)) { s with heap := excHeap s.heap C us } := by
  have gx : (excHeap s.heap C us).get? (s.heap.objs.size + 1) = some (excObj C s.heap.objs.size) := by heap_get
  refine I.laid (t' := s.toks) (fun b o e => Heap.get?_push_of_some _ (Heap.get?_push_of_some _ e)) (Nat.le_succ _) (ExN.ok gx rfl rfl rfl (show 6 ≤ 6 by decide) rfl)
theorem run_exc {CX : CXT} {k : Nat} {f C : Addr} {fd : FuncData} {ps : List Str} {sp : Sp} {E : XK} {Q : Addr → Hp → Prop} {us : List Value} {vs : List V} (M : ExMk X.K C f) (G : FnOk X.prog X.w X.K X.mg X.base CX k f fd ps sp) (hr : Room (k + 1) X.A) (hb : Binds X.K fd ps [])
    (hx : Passes CX X E) (I : Inv X pins σ H s) (r : Vals vs us) (hz : us.length ≤ sizeLine)
    (h : ∀ x, H x = none → sp (.ref x :: vs) (upd H x (ExN x C none)) (fun v H2 => v = .non ∧ Q x H2) E) :
    wpAny (model X.prog X.w) X.A (call (.ref C) us) (fun u s' => ∃ x H', u = .ref x ∧ Inv X pins σ H' s' ∧ Q x H') X.xe s := by
  have hq := h (s.heap.objs.size + 1) (I.hok.fresh (Nat.le_succ _))
  have I2 := I.excMade C us
  have r2 : Vals (V.ref (s.heap.objs.size + 1) :: vs) (Value.ref (s.heap.objs.size + 1) :: us) := .cons rfl r
  have hl : (Value.ref (s.heap.objs.size + 1) :: us ++ []).length = ps.length := by
    have e := r2.length
    rw [G.len _ _ _ _ hq] at e
    rw [List.append_nil]
    exact e.symm
  obtain ⟨_, _, _, bmB, BF, hcb, nm, q, N, bs, bm, hdct, sn, sub, ab, col, dd, k0, k1, k2, k3, k5, hC, T⟩ := M.cls
  have KI := I.kIn
  have bd := hb { s with heap := excHeap s.heap C us } (Value.ref (s.heap.objs.size + 1) :: us) I2.kIn hl
  rw [List.append_nil] at bd
  obtain ⟨hh, g, d, t, os⟩ := s
  refine wpAny_call (exc_make KI (KI _ _ hC) BF (T _ KI) M.init M.fn hz (codeAny_mono (G.run _ X.stack _ _ ⟨Value.ref (hh.objs.size + 1) :: us, []⟩ _ _ _ E (hr.make C us []) (I2.env0.make C us []) bd r2 hq) fun r s' hq' => ?_))
  cases r with
  | error e => exact hx pins σ _ _ e s' I2 hq'
  | ok fl =>
    cases fl with
    | ret u =>
      obtain ⟨v, H', I3, rv, ev, q3⟩ := I2.after hq'
      subst ev
      exact ⟨rv, hh.objs.size + 1, H', rfl, I3, q3⟩
    | next => exact False.elim hq'
    | brk => exact False.elim hq'
    | cont => exact False.elim hq'
theorem raise_stmt {M : Model} {A : Around} {E : Value → Shared → Prop} {env : Env} {xs : Sem Value} {Q : Flow → Shared → Prop} {K : PySem.W.Frag} {C : Addr} {s : Shared} {f : Addr} (hM : ExMk K C f) (hh : A.handled = none)
    (h : wpAny M A xs (fun v s1 => ∃ x oe vs, v = .ref x ∧ K.In s1.heap ∧ s1.heap.get? x = some oe ∧ oe.cls = .ref C ∧ oe.data = .fields vs ∧ vs[1]? = some .none ∧ E (.ref x) s1) E s) :
    wpAny M A (raiseStmt env (some xs) none) Q E s := by
  obtain ⟨_, _, _, bmB, BF, hcb, nm, q, N, bs, bm, hdct, sn, sub, ab, col, dd, k0, k1, k2, k3, k5, hC, T⟩ := hM.cls
  unfold raiseStmt
  refine wpAny_bind (thn h fun v s1 h1 => ?_)
  obtain ⟨x, oe, vs, rfl, KI, ge, hcl, hd, h1, hE⟩ := h1
  have hC1 := KI _ _ hC
  have hcB : (Value.ref C :: bm).contains (.type "BaseException") = true := by rw [List.contains_cons, (T _ KI).hasType hcb, Bool.or_true]
  obtain ⟨hp, g, d, tk, os⟩ := s1
  repeat (first | (with_reducible refine wpAny_loadPart_at ge ?_; try rw [hcl]) | with_reducible refine wpAny_loadPart_at hC1 ?_ | (with_reducible refine wpAny_isSubtype_exc hC1 ?_; rw [hcB]) | with_reducible refine wpAny_field ge hd h1 ?_ | wp_step)
  exact wpAny_raiseNew_none hh hE
theorem Inv.excFlies {x C d : Addr} (I : Inv X pins σ H s) (hx : H x = some (ExN x C (some d))) : Inv X pins σ (upd H x (ExO x C (some d))) s := by
  obtain ⟨o, vs, g, r1, r2, r3, r4, r5⟩ := ExN.get I.hok hx
  exact I.write (h' := s.heap) (t' := s.toks) (x := x) (e := x) (by rw [hx]; exact True.intro) (.inl rfl) (fun _ _ _ q => q) ⟨o, g⟩ (ExO.ok g r1 r2 r3 r4)
end
noncomputable def tRaise (C : Addr) (sp : Sp) (E : XK) (t : TA) : TS := fun _ σ H => t σ H fun vs H1 => vs.length ≤ sizeLine ∧ ∀ x, H1 x = none →
  sp (.ref x :: vs) (upd H1 x (ExN x C none)) (fun v H2 => v = .non ∧ ∃ d, H2 x = some (ExN x C (some d)) ∧ E (.ref C) (some d) (upd H2 x (ExO x C (some d)))) E
section
variable {X : Cx} {E : XK} {k : Nat} {f C : Addr} {fd : FuncData} {ps : List Str} {sp : Sp} {x : Str} {np cpos pos : Pos} {e : Expr} {es : List Expr} {t : TA}
theorem ps_raise (M : ExMk X.K C f) (G : FnOk X.prog X.w X.K X.mg X.base (CXE X.prog X.w) k f fd ps sp) (hr : Room (k + 1) X.A) (hg : Gl (X.exc E) x) (hm : X.mg x = some (.ref C)) (hb : Binds X.K fd ps []) (ha : PA (X.exc E) (e :: es) t) (hc : X.calm = true := by rfl)
    (hdb : (x == ("__debug__" : Str)) = false := by decide) (he : starEach (e :: es) X.env = (false, eval e X.env) :: starEach es X.env := by rfl) (hpl : (backTo cpos (starEach es X.env)).any (·.1) = false := by rfl) :
    PS (X.exc E) (.Raise (some (.Call (.Name x np) (e :: es) [] cpos)) none pos) (tRaise C sp E t) := by
  refine ⟨?_⟩
  intro pins s σ H D I h
  have cal : wpAny (model X.prog X.w) X.A (eval (.Call (.Name x np) (e :: es) [] cpos) X.env) (fun v s1 => ∃ y oe vs, v = .ref y ∧ X.K.In s1.heap ∧ s1.heap.get? y = some oe ∧ oe.cls = .ref C ∧ oe.data = .fields vs ∧ vs[1]? = some .none ∧ FlyW X E (.ref y) s1) (FlyW X E) s := by
    refine wpAny_Call_Name_kw (ld_glob (X := X.exc E) I hg hm ?_ hdb)
    refine PySem.W.callWith_K (h₀ := X.base) I.ok.mod.kin M.kp (thn (ha cpos pins s σ H _ I h) fun us s1 ⟨vs, H1, I1, r, hz, q⟩ => ⟨I1.kIn, ?_⟩) he hpl
    refine thn (run_exc (X := X.exc E) (Q := fun y H2 => ∃ d, H2 y = some (ExN y C (some d)) ∧ E (.ref C) (some d) (upd H2 y (ExO y C (some d)))) M G hr hb passX I1 r (by have := r.length; rw [List.nil_append]; (first | lia | omega)) q) fun v s2 ⟨y, H2, ev, I2, d, hy, qe⟩ => ?_
    · subst ev
      obtain ⟨o, ws, g, r1, r2, r3, r4, r5⟩ := ExN.get I2.hok hy
      exact ⟨y, o, ws, rfl, I2.kIn, g, r1, r3, r5, y, C, d, pins, σ, _, rfl, I2.unwish.excFlies hy, upd_same, ⟨o, ws, g, r3, .inl r5⟩, qe⟩
  show wpAny _ _ (exec (.Raise (some (.Call (.Name x np) (e :: es) [] cpos)) none pos) X.env) _ _ _
  rw [arm_exec_Raise]
  refine wpAny_bind (wpAny_standAt (raise_stmt (K := X.K) M (I.ok.hd hc) ?_))
  exact wpAny_bind (thn cal fun v s1 h1 => wpAny_bind (wpAny_standAt (wpAny_pure h1)))
end
end L2

set_option Elab.async false
set_option linter.all false
set_option maxRecDepth 100000
namespace L2
open PySem PySem.Spec PyProof.Rows
section
variable {X : Cx} {pins : List (Addr × Obj)} {σ : St} {H : Hp} {s : Shared}
theorem name_gone {M : Model} {A : Around} {E : Value → Shared → Prop} {i : Nat} {n : Str} {pos : Pos} {Q : Unit → Shared → Prop} (I : Inv X pins σ H s) (hN : X.N.Nodup) (hi : X.N[i]? = some n) (hl : X.env.scope.names.lookup n = some .local)
    (h : ∀ s', Inv X pins (σ.set i none) H s' → Q () s') : wpAny M A (do bindName X.env n .none; unbindBehindTheSuite X.env n pos) Q E s := by
  obtain ⟨m, hn, hlk⟩ := id I.loc
  have hcls : (X.env.scope.kind == .class || (X.env.scope.kind == .module && X.env.locals != X.env.globals)) = false := by rw [I.ok.kind]; rfl
  have hiσ : i < σ.length := by rw [I.len]; exact (List.getElem?_eq_some_iff.mp hi).1
  refine wpAny_nameGoes_keeps hl hn hcls fun h' v hn' hs => h _ ?_
  have neL : ∀ b o, X.s₀.heap.get? b = some o → b ≠ X.env.locals := fun b o e => Nat.ne_of_lt (Nat.lt_of_lt_of_le (Heap.lt_size e) I.ok.above)
  refine ⟨I.ok, I.os, I.bare, ⟨fun b o e n hb hx => (hs.2 b (neL b o e)).trans (I.base.keep b o e n hb hx), fun b o e n hb hx => ?_, I.base.free, fun b o e hx => ?_, I.base.tups, I.base.frzs, I.base.tbls⟩, ⟨_, hn', fun j y v' e1 e2 e3 => ?_⟩, fun y c e => ?_, I.free, I.freeC, fun p hp => ?_, fun b u e => ?_, by simpa using I.len⟩
  · obtain ⟨sl, e1⟩ := I.base.slot b o e n hb hx
    exact ⟨sl, (hs.2 b (neL b o e)).trans e1⟩
  · obtain ⟨o', e1⟩ := I.base.there b o e hx
    exact ⟨o', (hs.2 b (neL b o e)).trans e1⟩
  · by_cases hj : j = i
    · subst hj
      rw [List.getElem?_set_self hiσ] at e2
      cases e2
    · rw [List.getElem?_set_ne (Ne.symm hj)] at e2
      obtain ⟨u', r', q⟩ := hlk j y v' e1 e2 e3
      refine ⟨u', r', ?_⟩
      rcases q with ⟨k, e⟩ | ⟨k, c, e, z⟩
      · refine .inl ⟨k, ?_⟩
        have : y ≠ n := fun e => hj (nodup_ix hN e1 (e ▸ hi))
        simp [this, e]
      · exact .inr ⟨k, c, e, z.sameBut hs (I.cne y c e)⟩
  · obtain ⟨w', z⟩ := I.cell y c e
    exact ⟨w', z.sameBut hs (I.cne y c e)⟩
  · obtain ⟨e, n, ne, nf, d⟩ := I.pin p hp
    exact ⟨(hs.2 p.1 ne).trans e, n, ne, nf, d⟩
  · refine (I.hok b u e).stay (fun c w' hc q => (hs.2 c ?_).trans q) (fun _ q => q) fun _ _ q => q
    rintro rfl
    rcases hc with rfl | hc
    · rw [I.free] at e; cases e
    · rw [I.free] at hc; cases hc
noncomputable abbrev Cx.mark (X : Cx) (v : Value) : Cx := { X with A := X.A.mark (some v), calm := false, xe := fun _ _ => False }
theorem Inv.mark (I : Inv X pins σ H s) (v : Value) : Inv (X.mark v) pins σ H s :=
  ⟨⟨I.ok.mod, I.ok.kind, I.ok.glob, I.ok.blt, I.ok.above, I.ok.inj, I.ok.has, I.ok.cab, fun z => (nomatch z), I.ok.frames, I.ok.stk, I.ok.exf, I.ok.bs, I.ok.bsz, I.ok.noex, I.ok.exfs, I.ok.funs, I.ok.frf⟩, I.os, I.bare, I.base, I.loc, I.cell, I.free, I.freeC, I.pin, I.hok, I.len⟩
theorem Inv.unmark {v : Value} (hd : X.calm = true → X.A.handled = none) (I : Inv (X.mark v) pins σ H s) : Inv X pins σ H s :=
  ⟨⟨I.ok.mod, I.ok.kind, I.ok.glob, I.ok.blt, I.ok.above, I.ok.inj, I.ok.has, I.ok.cab, hd, I.ok.frames, I.ok.stk, I.ok.exf, I.ok.bs, I.ok.bsz, I.ok.noex, I.ok.exfs, I.ok.funs, I.ok.frf⟩, I.os, I.bare, I.base, I.loc, I.cell, I.free, I.freeC, I.pin, I.hok, I.len⟩
noncomputable abbrev Cx.pinned (X : Cx) (pn : List (Addr × Obj)) : Cx := { X with pn := pn }
theorem Inv.topin (I : Inv X pins σ H s) : Inv (X.pinned (X.pn ++ pins)) [] σ H s :=
  ⟨⟨I.ok.mod, I.ok.kind, I.ok.glob, I.ok.blt, I.ok.above, I.ok.inj, I.ok.has, I.ok.cab, I.ok.hd, I.ok.frames, I.ok.stk, I.ok.exf, I.ok.bs, I.ok.bsz, I.ok.noex, I.ok.exfs, I.ok.funs, I.ok.frf⟩, I.os, I.bare, I.base, I.loc, I.cell, I.free, I.freeC, fun p hp => I.pin p (by rw [List.append_nil] at hp; exact hp), I.hok, I.len⟩
theorem Inv.unpin {pins' : List (Addr × Obj)} (I : Inv (X.pinned (X.pn ++ pins)) pins' σ H s) : Inv X pins σ H s :=
  ⟨⟨I.ok.mod, I.ok.kind, I.ok.glob, I.ok.blt, I.ok.above, I.ok.inj, I.ok.has, I.ok.cab, I.ok.hd, I.ok.frames, I.ok.stk, I.ok.exf, I.ok.bs, I.ok.bsz, I.ok.noex, I.ok.exfs, I.ok.funs, I.ok.frf⟩, I.os, I.bare, I.base, I.loc, I.cell, I.free, I.freeC, fun p hp => I.pin p (List.mem_append_left _ hp), I.hok, I.len⟩
end
structure Mch (K : PySem.W.Frag) (C CE : Addr) : Prop where
  sub : PySem.W.subIn K (.ref C) (.ref CE) = some true
  ty : PySem.W.typeIn K (.ref CE) = some (.type "type")
  cl : (PySem.W.clsIn K CE).isSome = true
  base : PySem.W.subIn K (.ref CE) (.type "BaseException") = some true
theorem exc_matches {M : Model} {A : Around} {E : Value → Shared → Prop} {K : PySem.W.Frag} {s : Shared} {x C CE : Addr} {oe : Obj} {Q : Bool → Shared → Prop} (KI : K.In s.heap) (m : Mch K C CE) (ge : s.heap.get? x = some oe) (hcl : oe.cls = .ref C) (hq : Q true s) :
    wpAny M A (excMatches (.ref x) (.ref CE)) Q E s := by
  obtain ⟨h, g, d, t, os⟩ := s
  have kc : PySem.W.kitCls K (.ref C) (.ref CE) = some true := by
    unfold PySem.W.kitCls
    simp only [m.cl, m.ty, beq_self_eq_true, Bool.and_self, if_true]
    exact m.sub
  obtain ⟨L1, L2', L3⟩ := PySem.W.kit_cls (M := M) (h := h) KI kc
  have L4 := PySem.W.looks_subIn (M := M) (h := h) KI m.base
  have L5 : PySem.W.Looks M h (typeOf (.ref x)) (.ref C) := hcl ▸ (PySem.W.Looks.ld ge).andThen .now
  have L6 : PySem.W.Looks M h (isInstance (.ref CE) (.type "tuple")) false := L1.andThen (PySem.W.Looks.of_pure tc_notTuple)
  have L7 : PySem.W.Looks M h (isExcClass (.ref CE)) true := L2'.andThen L4
  unfold excMatches
  refine wpAny_bind (L6.at (wpAny_bind (wpAny_pure (wpAny_bind ?_))))
  show wpAny M A (forIn [Value.ref CE] PUnit.unit _) _ E _
  simp only [List.forIn_cons, List.forIn_nil]
  refine wpAny_bind (wpAny_bind (L7.at ?_))
  refine wpAny_pure (wpAny_pure (wpAny_bind (L5.at (wpAny_bind (wpAny_bind (wpAny_bind (L3.at ?_)))))))
  exact wpAny_pure (wpAny_pure (wpAny_pure hq))

noncomputable def behind (D : Ends) (i : Nat) : Ends := { nx := fun σ H => D.nx (σ.set i none) H, rt := D.rt, bk := fun σ H => D.bk (σ.set i none) H, ct := fun σ H => D.ct (σ.set i none) H }
noncomputable def tTry (K : PySem.W.Frag) (N i : Nat) (CE : Addr) (tb : XK → TS) (th : TS) : TS := fun D σ H =>
  tb (fun cls dx H1 => ∃ C d, cls = .ref C ∧ dx = some d ∧ Mch K C CE ∧ ∀ (x : Addr) (σ1 : St), H1 x = some (ExO x C (some d)) → σ1.length = N → th (behind D i) (σ1.set i (some (.ref x))) H1) D σ H
section
variable {X : Cx}
theorem ps_try {body suite : List Stmt} {b0 : Stmt} {x n : Str} {i : Nat} {CE : Addr} {tb : XK → TS} {th : TS} {np hpos pos : Pos} (hN : X.N.Nodup) (hi : X.N[i]? = some n) (hl : X.env.scope.names.lookup n = some .local) (hg : Gl X x) (hm : X.mg x = some (.ref CE))
    (hb : ∀ pn E', PSs ((X.pinned pn).exc E') body (tb E')) (hh : ∀ v, PSs (X.mark v) (b0 :: suite) th)
    (hst : X.stack = X.env :: X.outer := by rfl) (hfr : X.env.frame = some X.env.locals := by rfl) (hdb : (x == ("__debug__" : Str)) = false := by decide) :
    PS X (.Try body [.ExceptHandler (some (.Name x np)) (some n) (b0 :: suite) hpos] [] [] pos) (tTry X.K X.N.length i CE tb th) := by
  refine ⟨?_⟩
  intro pins s σ H D I h
  refine wpAny_Try_except ?_
  refine wpAny_mono (hb (X.pn ++ pins) _ [] s σ H D (I.topin.wish _) h) (fun f s1 h1 => ?_) fun e s1 h1 => ?_
  · cases f with
    | next => obtain ⟨σ1, H1, I1, q⟩ := h1; exact wpAny_execs_nil ⟨σ1, H1, I1.unwish.unpin, q⟩
    | brk => obtain ⟨σ1, H1, I1, q⟩ := h1; exact ⟨σ1, H1, I1.unwish.unpin, q⟩
    | cont => obtain ⟨σ1, H1, I1, q⟩ := h1; exact ⟨σ1, H1, I1.unwish.unpin, q⟩
    | ret u => obtain ⟨v, σ1, H1, I1, r, q⟩ := h1; exact ⟨v, σ1, H1, I1.unwish.unpin, r, q⟩
  · obtain ⟨y, C0, d0, pins1, σ1, H1, rfl, I1, hy, tb1, C, d, ec, ed, mc, q⟩ := h1
    cases ec
    cases ed
    refine fly_note (X := X.pinned (X.pn ++ pins)) I1 hst hfr I1.ok.frames hy tb1 fun s2 I2 t2 => fly_set (to := none) I2 hy t2 fun s3 I3 t3 => ?_
    obtain ⟨oe, vs, ge, hcl, hdi, hda, hz⟩ := ExO.get I3.hok hy
    have J3 : Inv X pins σ1 H1 s3 := I3.unpin
    refine wpAny_handleBy_cons (codeAny_handlers_test ?_) (by intro z; cases z)
    refine ld_glob (X := X.mark (.ref y)) (J3.mark _) hg hm ?_ hdb
    refine exc_matches J3.kIn mc ge hcl ?_
    refine codeAny_handlers_suite_as ?_
    refine fly_set (X := (X.pinned (X.pn ++ pins))) (to := none) I3 hy t3 fun s4 I4 t4 => ?_
    have J4 : Inv X pins σ1 H1 s4 := I4.unpin
    refine store_ok (X := X.mark (.ref y)) (J4.mark _) hN hi (.inl hl) (v := .ref y) rfl (fun s5 I5 => ?_) (.inr hl)
    refine wpAny_mono (hh (.ref y) pins s5 _ H1 (behind D i) I5 (q y σ1 hy I1.len)) (fun f s6 h6 => ?_) fun _ _ z => z.elim
    have go : ∀ {σ6 : St} {H6 : Hp} {P : Flow → Shared → Prop}, Inv (X.mark (.ref y)) pins σ6 H6 s6 → (∀ s7, Inv X pins (σ6.set i none) H6 s7 → P f s7) → wpAny (model X.prog X.w) X.A (do bindName X.env n .none; unbindBehindTheSuite X.env n hpos) (fun _ s7 => P f s7) X.xe s6 :=
      fun {σ6 H6 P} I6 k => name_gone (Inv.unmark I.ok.hd I6) hN hi hl k
    cases f with
    | next => obtain ⟨σ6, H6, I6, q6⟩ := h6; exact go (P := SP X pins D) I6 fun s7 I7 => ⟨_, H6, I7, q6⟩
    | brk => obtain ⟨σ6, H6, I6, q6⟩ := h6; exact go (P := SP X pins D) I6 fun s7 I7 => ⟨_, H6, I7, q6⟩
    | cont => obtain ⟨σ6, H6, I6, q6⟩ := h6; exact go (P := SP X pins D) I6 fun s7 I7 => ⟨_, H6, I7, q6⟩
    | ret u => obtain ⟨v, σ6, H6, I6, r, q6⟩ := h6; exact go (P := SP X pins D) I6 fun s7 I7 => ⟨v, _, H6, I7, r, q6⟩
end
end L2

set_option Elab.async false
set_option linter.all false
set_option maxRecDepth 100000
namespace L2
open PySem PySem.Spec PyProof.Rows
noncomputable def EqD (K : PySem.W.Frag) (H : Hp) : Nat → V → V → Prop
  | 0, x, y => flatV x = true ∧ x = y
  | n + 1, x, y => (flatV x = true ∧ x = y) ∨ ∃ a b xs ys, x = .ref a ∧ y = .ref b ∧ ((SqL K H a xs ∧ SqL K H b ys) ∨ (SqT K H a xs ∧ SqT K H b ys)) ∧ Paired (EqD K H n) xs ys
theorem eqV_same : ∀ {x : V}, flatV x = true → eqV x x = true
  | .non, _ => rfl
  | .bl b, _ => beq_self_eq_true b
  | .int i, _ => beq_self_eq_true i
  | .str z, _ => beq_self_eq_true z
theorem Paired.get {α β : Type} {F : α → β → Prop} : ∀ {xs : List α} {ys : List β}, Paired F xs ys → ∀ (j : Nat) (x : α) (y : β), xs[j]? = some x → ys[j]? = some y → F x y
  | _, _, .nil, j, x, y, h, _ => by simp at h
  | _, _, .cons r t, 0, x, y, h, q => by simp at h q; subst h; subst q; exact r
  | _, _, .cons r t, j + 1, x, y, h, q => Paired.get t j x y (by simpa using h) (by simpa using q)
theorem Paired.len {α β : Type} {F : α → β → Prop} : ∀ {xs : List α} {ys : List β}, Paired F xs ys → xs.length = ys.length
  | _, _, .nil => rfl
  | _, _, .cons _ t => by simp [Paired.len t]
theorem Paired.imp {α β : Type} {F G : α → β → Prop} (h : ∀ x y, F x y → G x y) : ∀ {xs : List α} {ys : List β}, Paired F xs ys → Paired G xs ys
  | _, _, .nil => .nil
  | _, _, .cons r t => .cons (h _ _ r) (Paired.imp h t)
theorem all_true (n : Nat) : (List.range n).all (fun _ => true) = true := List.all_eq_true.mpr fun _ _ => rfl
section
variable {X : Cx} {pins : List (Addr × Obj)} {σ : St} {H : Hp} {s : Shared}
theorem vals_pair {K : PySem.W.Frag} {xs ys : List V} {us vs : List Value} {R : V → V → Prop} (p : Paired R xs ys) (r : Vals xs us) (q : Vals ys vs) (P : Value → Value → Prop) (h : ∀ x y u v, R x y → RelV x u → RelV y v → P u v) :
    us.toArray.size = vs.toArray.size ∧ ∀ j (h1 : j < us.toArray.size) (h2 : j < vs.toArray.size), P us.toArray[j] vs.toArray[j] := by
  refine ⟨?_, fun j h1 h2 => ?_⟩
  · have e1 := r.length; have e2 := q.length; have e3 := Paired.len p
    simp only [List.size_toArray]; (first | lia | omega)
  · have l1 : j < us.length := by simpa using h1
    have l2 : j < vs.length := by simpa using h2
    have e1 := r.length; have e2 := q.length
    have g1 : xs[j]? = some xs[j] := List.getElem?_eq_getElem (by (first | lia | omega))
    have g2 : ys[j]? = some ys[j] := List.getElem?_eq_getElem (by (first | lia | omega))
    simp only [List.getElem_toArray]
    exact h _ _ _ _ (Paired.get p j _ _ g1 g2) (Paired.get r j _ _ g1 (List.getElem?_eq_getElem l1)) (Paired.get q j _ _ g2 (List.getElem?_eq_getElem l2))
theorem eqD_at (I : Inv X pins σ H s) : ∀ (n : Nat) (x y : V) (u v : Value) (A : Around), EqD X.K H n x y → RelV x u → RelV y v → A.units + n ≤ cLine → SeqAt.EqAt A s u v true
  | 0, x, y, u, v, A, ⟨f, e⟩, ru, rv, _ => by subst e; rw [← eqV_same f]; exact eqAt_V ru rv f f
  | n + 1, x, y, u, v, A, .inl ⟨f, e⟩, ru, rv, _ => by subst e; rw [← eqV_same f]; exact eqAt_V ru rv f f
  | n + 1, x, y, u, v, A, .inr ⟨a, b, xs, ys, ex, ey, hs, p⟩, ru, rv, hu => by
    subst ex ey
    cases ru; cases rv
    by_cases hab : a = b
    · subst hab; exact SeqAt.EqAt.same _
    refine SeqAt.EqAt.of_refs hab ?_
    rcases hs with ⟨ha, hb⟩ | ⟨ha, hb⟩
    · obtain ⟨us, r, pa, _⟩ := I.list ha
      obtain ⟨vs, q, pb, _⟩ := I.list hb
      obtain ⟨sz, he⟩ := vals_pair (K := X.K) p r q (fun u v => SeqAt.EqAt A.in1 s u v true) fun x y u v e ru rv => eqD_at I n x y u v A.in1 e ru rv (by show A.units + 1 + n ≤ _; (first | lia | omega))
      have := SeqAt.RcAt.lists (e := fun _ => true) pa.isList pb.isList sz (by (first | lia | omega)) he
      rwa [all_true] at this
    · obtain ⟨us, r, pa, _⟩ := I.tuple ha
      obtain ⟨vs, q, pb, _⟩ := I.tuple hb
      obtain ⟨sz, he⟩ := vals_pair (K := X.K) p r q (fun u v => SeqAt.EqAt A.in1 s u v true) fun x y u v e ru rv => eqD_at I n x y u v A.in1 e ru rv (by show A.units + 1 + n ≤ _; (first | lia | omega))
      have := SeqAt.RcAt.tuples (e := fun _ => true) pa pb (by (first | lia | omega)) he
      rw [all_true, sz, beq_self_eq_true] at this
      exact this
noncomputable def rEqD (K : PySem.W.Frag) (k : Bool) : R2 := fun x y H Q => ∃ a b xs ys n, x = .ref a ∧ y = .ref b ∧ ((SqL K H a xs ∧ SqL K H b ys) ∨ (SqT K H a xs ∧ SqT K H b ys)) ∧ Paired (EqD K H n) xs ys ∧ n ≤ 100 ∧ Q (.bl k) H
theorem op_neD {k : Nat} (hr : Room k X.A) : OpR X (compareOp .NotEq) (rEqD X.K false) := by
  intro pins s σ H x y v u Q I rx ry h
  obtain ⟨a, b, xs, ys, n, rfl, rfl, hs, p, hn, q⟩ := h
  cases rx; cases ry
  have hu := hr.un
  rcases hs with ⟨ha, hb⟩ | ⟨ha, hb⟩
  · obtain ⟨us, r, pa, _⟩ := I.list ha
    obtain ⟨vs, q', pb, _⟩ := I.list hb
    obtain ⟨sz, he⟩ := vals_pair (K := X.K) p r q' (fun u v => SeqAt.EqAt X.A.in1 s u v true) fun x y u v e ru rv => eqD_at I n x y u v X.A.in1 e ru rv (by show X.A.units + 1 + n ≤ _; (first | lia | omega))
    have := SeqAt.RcNeAt.lists (e := fun _ => true) pa.isList pb.isList sz (by (first | lia | omega)) he
    rw [all_true] at this
    exact this _ _ _ _ ⟨.bl false, H, I, rfl, q⟩
  · obtain ⟨us, r, pa, _⟩ := I.tuple ha
    obtain ⟨vs, q', pb, _⟩ := I.tuple hb
    obtain ⟨sz, he⟩ := vals_pair (K := X.K) p r q' (fun u v => SeqAt.EqAt X.A.in1 s u v true) fun x y u v e ru rv => eqD_at I n x y u v X.A.in1 e ru rv (by show X.A.units + 1 + n ≤ _; (first | lia | omega))
    have := SeqAt.RcNeAt.tuples (e := fun _ => true) pa pb (by (first | lia | omega)) he
    rw [all_true, sz, beq_self_eq_true] at this
    exact this _ _ _ _ ⟨.bl false, H, I, rfl, q⟩
theorem EqD.ints {K : PySem.W.Frag} {H : Hp} : ∀ (ns : List Int), Paired (EqD K H 0) (ns.map V.int) (ns.map V.int)
  | [] => .nil
  | n :: r => .cons ⟨rfl, rfl⟩ (EqD.ints r)
noncomputable def CDivB (i j : Int) : Prop := 0 < j ∧ j.natAbs.log2 < 8000
theorem op_fdivB : OpR X (binaryOp .FloorDiv) (rI CDivB fun i j => .int (i / j)) := opI fun i j _ _ _ _ _ hc q => by
  rw [← Int.fdiv_eq_ediv_of_nonneg i (by have := hc.1; (first | lia | omega))] at q
  exact floordiv_int (by have := hc.1; (first | lia | omega)) q (.inl (PyProof.noPylong_of_log2 (by have := hc.2; (first | lia | omega))))
noncomputable def tCut (t : TS) : TS := fun D σ H => ∃ P : St → Hp → Prop, t { D with nx := P } σ H ∧ ∀ σ' H', P σ' H' → D.nx σ' H'
theorem ps_cut {st : Stmt} {t : TS} (h : PS X st t) : PS X st (tCut t) := by
  refine ⟨?_⟩
  intro pins s σ H D I hw
  obtain ⟨P, h1, h2⟩ := hw
  refine wpAny_mono (h pins s σ H _ I h1) (fun f s' q => ?_) fun _ _ z => z
  cases f with
  | next => obtain ⟨σ1, H1, I1, q⟩ := q; exact ⟨σ1, H1, I1, h2 _ _ q⟩
  | brk => exact q
  | cont => exact q
  | ret u => exact q
structure CalM (P : Program) (w : World) (K : PySem.W.Frag) (mg : Str → Option Value) (base : Heap) (CX : CXT) (k : Nat) (C : Addr) (m : Str) (ps : List Str) (sp : Sp) : Prop where
  ex : ∃ f fd, FnOk P w K mg base CX k f fd ps sp ∧ Cls K C ∧ Meth K C m f ∧ Binds K fd ps []
end
section
variable {X : Cx} {o e : Expr} {es : List Expr} {m : Str} {apos pos : Pos} {ta : TE} {t : TA} {E : XK} {C : Addr}
theorem pe_methC {CX : CXT} {k n : Nat} {ps : List Str} {sp : Sp} {pl : Sem Bool} (he : PE X o ta) (G : CalM X.prog X.w X.K X.mg X.base CX k C m ps sp) (hr : Room n X.A) (ha : PA X (e :: es) t) (hx : Passes CX X E) (hk : k ≤ n := by first | decide | (first | lia | omega))
    (hst : starEach (e :: es) X.env = (false, eval e X.env) :: starEach es X.env := by rfl) (hpl : (backTo pos (starEach es X.env)).any (·.1) = false := by rfl)
    (ht : eval (.Call (.Attribute o m apos) (e :: es) [] pos) X.env = (do
      let ov ← eval o X.env
      standAt apos.atName
      let (f, first) ← holding [ov] (getMethod ov m pl)
      callWith pos f first (backTo pos (starEach (e :: es) X.env)) (backToKw pos (keywordEach [] X.env))) := by rfl) :
    PE X (.Call (.Attribute o m apos) (e :: es) [] pos) (tMeth C m sp [] E ta t) := by
  obtain ⟨f, fd, F, c, hm, hb⟩ := G.ex
  exact pe_meth he c hm F (hr.mono hk) hb .nil hx ha hst hpl ht
theorem pe_methC0 {CX : CXT} {k n : Nat} {ps : List Str} {sp : Sp} {pl : Sem Bool} (he : PE X o ta) (G : CalM X.prog X.w X.K X.mg X.base CX k C m ps sp) (hr : Room n X.A) (hx : Passes CX X E) (hk : k ≤ n := by first | decide | (first | lia | omega))
    (ht : eval (.Call (.Attribute o m apos) [] [] pos) X.env = (do
      let ov ← eval o X.env
      standAt apos.atName
      let (f, first) ← holding [ov] (getMethod ov m pl)
      callWith pos f first (backTo pos (starEach [] X.env)) (backToKw pos (keywordEach [] X.env))) := by rfl) :
    PE X (.Call (.Attribute o m apos) [] [] pos) (tMeth C m sp [] E ta tNil) := by
  obtain ⟨f, fd, F, c, hm, hb⟩ := G.ex
  exact pe_meth0 he c hm F (hr.mono hk) hb .nil hx ht
theorem pe_fldXK {f : Str} {te : TE} (K : PySem.W.Frag) (hK : X.K = K) (he : PE X e te) (hb : attributeBase e f X.env (eval e X.env) = eval e X.env := by rfl) : PE X (.Attribute e f pos) (tFldX K te f) := by
  subst hK
  exact pe_fldX he hb
structure CalK (P : Program) (w : World) (K : PySem.W.Frag) (mg : Str → Option Value) (base : Heap) (CX : CXT) (k : Nat) (x : Str) (C : Addr) (ps : List Str) (sp : Sp) : Prop where
  ex : ∃ f fd, Mk K C f ∧ FnOk P w K mg base CX k f fd ps sp ∧ mg x = some (.ref C) ∧ Binds K fd ps []
theorem pe_makeC {x : Str} {p : Pos} {CX : CXT} {k n : Nat} {ps : List Str} {sp : Sp} (G : CalK X.prog X.w X.K X.mg X.base CX k x C ps sp) (hr : Room n X.A) (hg : Gl X x) (ha : PA X (e :: es) t) (hx : Passes CX X E) (hk : k + 1 ≤ n := by first | decide | (first | lia | omega))
    (hdb : (x == ("__debug__" : Str)) = false := by decide) (he : starEach (e :: es) X.env = (false, eval e X.env) :: starEach es X.env := by rfl) (hpl : (backTo pos (starEach es X.env)).any (·.1) = false := by rfl) :
    PE X (.Call (.Name x p) (e :: es) [] pos) (tMake C sp [] E t) := by
  obtain ⟨f, fd, M, F, hm, hb⟩ := G.ex
  exact pe_make M F (hr.mono hk) hg hm hb .nil hx ha hdb he hpl
structure CalX (P : Program) (w : World) (K : PySem.W.Frag) (mg : Str → Option Value) (base : Heap) (k : Nat) (x : Str) (C : Addr) (ps : List Str) (sp : Sp) : Prop where
  ex : ∃ f fd, ExMk K C f ∧ FnOk P w K mg base (CXE P w) k f fd ps sp ∧ mg x = some (.ref C) ∧ Binds K fd ps []
theorem ps_raiseC {x : Str} {np cpos : Pos} {k n : Nat} {ps : List Str} {sp : Sp} (G : CalX X.prog X.w X.K X.mg X.base k x C ps sp) (hr : Room n X.A) (hg : Gl (X.exc E) x) (ha : PA (X.exc E) (e :: es) t) (hc : X.calm = true := by rfl) (hk : k + 1 ≤ n := by first | decide | (first | lia | omega))
    (hdb : (x == ("__debug__" : Str)) = false := by decide) (he : starEach (e :: es) X.env = (false, eval e X.env) :: starEach es X.env := by rfl) (hpl : (backTo cpos (starEach es X.env)).any (·.1) = false := by rfl) :
    PS (X.exc E) (.Raise (some (.Call (.Name x np) (e :: es) [] cpos)) none pos) (tRaise C sp E t) := by
  obtain ⟨f, fd, M, F, hm, hb⟩ := G.ex
  exact ps_raise M F (hr.mono hk) hg hm hb ha hc hdb he hpl
end
end L2

set_option Elab.async false
set_option linter.all false
set_option maxRecDepth 100000
namespace L2
open PySem
noncomputable abbrev Bad := Nat × Str
noncomputable abbrev Hds := List (Int × Int)
inductive Nd where
  | mk (kind : Int) (place : Nat) (own : List Int) (parts : List Nd)
noncomputable def takeM (ns : List Int) (p : Nat) : Except Bad Int := match ns[p]? with
  | some n => .ok n
  | none => .error (p, "end")
noncomputable def withinM (ns : List Int) (p : Nat) (lo hi : Int) : Except Bad Int := match ns[p]? with
  | some n => if n < lo ∨ hi < n then .error (p, "range") else .ok n
  | none => .error (p, "end")
noncomputable def headsM (ns : List Int) : Nat → Int → Nat → Except Bad Hds
  | 0, _, _ => .ok []
  | n + 1, most, p => match withinM ns p 0 most with
    | .error b => .error b
    | .ok a => match withinM ns (p + 1) a 12 with
      | .error b => .error b
      | .ok c => match headsM ns n 4 (p + 2) with
        | .error b => .error b
        | .ok r => .ok ((a, c) :: r)
noncomputable def headsAllM (ns : List Int) : Except Bad Hds := match withinM ns 0 1 16 with
  | .error b => .error b
  | .ok n => headsM ns n.toNat 0 1
noncomputable def oneM (r : Except Bad Int) : Except Bad (List Int) := match r with
  | .ok n => .ok [n]
  | .error b => .error b
noncomputable def ownM (ns : List Int) (heads : Hds) (boxes k : Int) (p : Nat) : Except Bad (List Int) :=
  if k = 0 then oneM (takeM ns p) else if k = 1 ∨ k = 2 then oneM (withinM ns p 0 (boxes - 1)) else if k = 3 then oneM (withinM ns p 1 12) else if k = 4 then oneM (withinM ns p 2 12) else if k = 6 then oneM (withinM ns p 0 ((heads.length : Int) - 1)) else .ok []
noncomputable def partsN : List Int := [1, 2, 2, 2, 2, 2, 2, 2, 2, 2, 3, 1, 0]
noncomputable def dueM (heads : Hds) (k : Int) (own : List Int) : Int :=
  if k = 0 ∨ k = 1 then 0 else if k = 2 then 1 else if k = 3 then own.headD 0 else if k = 4 then 1 + own.headD 0 else if k = 5 then 2 else if k = 6 then (heads.getD (own.headD 0).toNat (0, 0)).1 else partsN.getD (k - 7).toNat 0
noncomputable def partsM (f : Nat → Except Bad (Nd × Nat)) : Nat → Nat → Except Bad (List Nd × Nat)
  | 0, p => .ok ([], p)
  | n + 1, p => match f p with
    | .error b => .error b
    | .ok a => match partsM f n a.2 with
      | .error b => .error b
      | .ok r => .ok (a.1 :: r.1, r.2)
noncomputable def nodeM (ns : List Int) (heads : Hds) (boxes : Int) : Nat → Nat → Except Bad (Nd × Nat)
  | 0, p => .error (p, "deep")
  | d + 1, p => match withinM ns p 0 19 with
    | .error b => .error b
    | .ok k => match ownM ns heads boxes k (p + 1) with
      | .error b => .error b
      | .ok own => match partsM (nodeM ns heads boxes d) (dueM heads k own).toNat (p + 1 + own.length) with
        | .error b => .error b
        | .ok r => .ok (.mk k p own r.1, r.2)
noncomputable def bodiesM (ns : List Int) (heads : Hds) : Hds → Nat → Except Bad (List Nd × Nat)
  | [], p => .ok ([], p)
  | h :: r, p => match nodeM ns heads h.2 10 p with
    | .error b => .error b
    | .ok a => match bodiesM ns heads r a.2 with
      | .error b => .error b
      | .ok z => .ok (a.1 :: z.1, z.2)
noncomputable def functionsM (ns : List Int) : Except Bad (Hds × List Nd) := match headsAllM ns with
  | .error b => .error b
  | .ok hs => match bodiesM ns hs hs (1 + 2 * hs.length) with
    | .error b => .error b
    | .ok r => if r.2 < ns.length then .error (r.2, "over") else .ok (hs, r.1)
noncomputable def NodeAt (H : Hp) : Nat → V → Nd → Prop
  | 0, _, _ => False
  | d + 1, v, .mk k p own ps => ∃ t o q vs, v = .ref t ∧ H t = some (.tup [.int k, .int p, .ref o, .ref q]) ∧ H o = some (.tup (own.map V.int)) ∧ H q = some (.tup vs) ∧ Paired (NodeAt H d) vs ps
noncomputable def FnAt (H : Hp) (v : V) (f : (Int × Int) × Nd) : Prop := ∃ t b, v = .ref t ∧ H t = some (.tup [.int f.1.1, .int f.1.2, b]) ∧ NodeAt H 10 b f.2
noncomputable def FnsAt (H : Hp) (l : Addr) (r : Hds × List Nd) : Prop := ∃ rs, H l = some (.lst rs) ∧ r.1.length = r.2.length ∧ Paired (FnAt H) rs (r.1.zip r.2)
noncomputable def HeadAt (H : Hp) (v : V) (h : Int × Int) : Prop := ∃ t, v = .ref t ∧ H t = some (.tup [.int h.1, .int h.2])
noncomputable def HeadsAt (H : Hp) (hd : Addr) (hs : Hds) : Prop := ∃ rs, H hd = some (.lst rs) ∧ Paired (HeadAt H) rs hs
noncomputable def LookO (CL dx a : Addr) (p : Nat) : HO := .ins CL dx [("numbers", .ref a), ("place", .int p)]
noncomputable def Tups (H H' : Hp) : Prop := ∀ b xs, H b = some (.tup xs) → H' b = some (.tup xs)
theorem Tups.same {H H' : Hp} (h : Same H H') : Tups H H' := fun _ _ e => h _ _ e
theorem Tups.keep {lk CL dx a : Addr} {p : Nat} {H H' : Hp} (e : H lk = some (LookO CL dx a p)) (k : Keep lk H H') : Tups H H' := fun b xs q => k b _ (fun z => by rw [z, e] at q; cases q) q
theorem Tups.keepL {l : Addr} {ys : List V} {H H' : Hp} (e : H l = some (.lst ys)) (k : Keep l H H') : Tups H H' := fun b xs q => k b _ (fun z => by rw [z, e] at q; cases q) q
theorem NodeAt.tups {H H' : Hp} (h : Tups H H') : ∀ {d : Nat} {v : V} {n : Nd}, NodeAt H d v n → NodeAt H' d v n
  | 0, _, _, z => z.elim
  | d + 1, v, .mk k p own ps, ⟨t, o, q, vs, e, h1, h2, h3, r⟩ => ⟨t, o, q, vs, e, h _ _ h1, h _ _ h2, h _ _ h3, Paired.imp (fun _ _ z => NodeAt.tups h z) r⟩
theorem HeadAt.tups {H H' : Hp} (h : Tups H H') {v : V} {n : Int × Int} : HeadAt H v n → HeadAt H' v n := fun ⟨t, e, q⟩ => ⟨t, e, h _ _ q⟩
theorem FnAt.tups {H H' : Hp} (h : Tups H H') {v : V} {n : (Int × Int) × Nd} : FnAt H v n → FnAt H' v n := fun ⟨t, b, e, q, z⟩ => ⟨t, b, e, h _ _ q, z.tups h⟩
theorem HeadsAt.keep {lk CL dx a hd : Addr} {p : Nat} {H H' : Hp} {hs : Hds} (e : H lk = some (LookO CL dx a p)) (k : Keep lk H H') (h : HeadsAt H hd hs) : HeadsAt H' hd hs := by
  obtain ⟨rs, q, r⟩ := h
  exact ⟨rs, k hd _ (fun z => by rw [z, e] at q; cases q) q, Paired.imp (fun _ _ z => z.tups (.keep e k)) r⟩
noncomputable def Tells {α : Type} (r : Except Bad α) (ok : α → Prop) (bad : Nat → Str → Prop) : Prop := (∀ a, r = .ok a → ok a) ∧ ∀ p w, r = .error (p, w) → bad p w
noncomputable def Fails (CN lk : Addr) (H : Hp) (E : XK) (p : Nat) (w : Str) : Prop := ∀ d H', Keep lk H H' → H' d = some (XdO d [("place", .int p), ("word", .str w)]) → E (.ref CN) (some d) H'
theorem Fails.keep {CN lk : Addr} {H H1 : Hp} {E : XK} {p : Nat} {w : Str} (f : Fails CN lk H E p w) (k : Keep lk H H1) : Fails CN lk H1 E p w := fun d H' k' e => f d H' (k.trans k') e
noncomputable def Looks (CL : Addr) (H : Hp) (lk dx a : Addr) (p : Nat) (ns : List Int) : Prop := H lk = some (LookO CL dx a p) ∧ H a = some (.lst (ns.map V.int))
theorem Looks.go {CL lk dx a : Addr} {p p' : Nat} {ns : List Int} {H H' : Hp} (l : Looks CL H lk dx a p ns) (k : Keep lk H H') (e : H' lk = some (LookO CL dx a p')) : Looks CL H' lk dx a p' ns :=
  ⟨e, k a _ (fun z => by have := l.1; rw [← z, l.2] at this; cases this) l.2⟩
noncomputable def spInitX (C : Addr) : Sp := fun vs H Q _ => ∃ x y z, vs = [.ref x, y, z] ∧ H x = some (ExN x C none) ∧
  ∀ d H', d ≠ x → H d = none → (∀ b o, b ≠ x → H b = some o → H' b = some o) → H' x = some (ExN x C (some d)) → H' d = some (XdO d [("place", y), ("word", z)]) → Q .non H'
noncomputable def spInitL (CL : Addr) : Sp := fun vs H Q _ => ∃ x dx a, vs = [.ref x, .ref a] ∧ H x = some (.ins CL dx []) ∧ ∀ H', Keep x H H' → H' x = some (LookO CL dx a 0) → Q .non H'
noncomputable def spWhole : Sp := fun vs H Q _ => ∃ i : Int, vs = [.int i] ∧ Q (.bl true) H
noncomputable def spTk (CL CN : Addr) : Sp := fun vs H Q E => ∃ lk dx a p ns, vs = [.ref lk] ∧ Looks CL H lk dx a p ns ∧ Tells (takeM ns p) (fun n => Q (.int n) (upd H lk (LookO CL dx a (p + 1)))) (Fails CN lk H E)
noncomputable def spWithin (CL CN : Addr) : Sp := fun vs H Q E => ∃ lk dx a p ns lo hi, vs = [.ref lk, .int lo, .int hi] ∧ Looks CL H lk dx a p ns ∧ Tells (withinM ns p lo hi) (fun n => Q (.int n) (upd H lk (LookO CL dx a (p + 1)))) (Fails CN lk H E)
noncomputable def spHeads (CL CN : Addr) : Sp := fun vs H Q E => ∃ lk dx a ns, vs = [.ref lk] ∧ Looks CL H lk dx a 0 ns ∧
  Tells (headsAllM ns) (fun hs => ∀ hd H', Keep lk H H' → H' lk = some (LookO CL dx a (1 + 2 * hs.length)) → HeadsAt H' hd hs → Q (.ref hd) H') (Fails CN lk H E)
noncomputable def spOwn (CL CN : Addr) : Sp := fun vs H Q E => ∃ lk dx a p ns hd hs boxes k, vs = [.ref lk, .int k, .ref hd, .int boxes] ∧ Looks CL H lk dx a p ns ∧ HeadsAt H hd hs ∧
  Tells (ownM ns hs boxes k p) (fun own => ∀ t H', Keep lk H H' → H' lk = some (LookO CL dx a (p + own.length)) → H' t = some (.tup (own.map V.int)) → Q (.ref t) H') (Fails CN lk H E)
noncomputable def OwnOk (heads : Hds) (k : Int) (own : List Int) : Prop := 0 ≤ k ∧ k ≤ 19 ∧ (k = 3 ∨ k = 4 ∨ k = 6 → ∃ n, own = [n] ∧ 0 ≤ n ∧ (k = 6 → n < heads.length) ∧ (k ≠ 6 → n ≤ 12))
noncomputable def HdsOk (hs : Hds) : Prop := ∀ h ∈ hs, 0 ≤ h.1 ∧ h.1 ≤ 4
noncomputable def spDue : Sp := fun vs H Q _ => ∃ k t own hd hs, vs = [.int k, .ref t, .ref hd] ∧ H t = some (.tup (own.map V.int)) ∧ HeadsAt H hd hs ∧ OwnOk hs k own ∧ Q (.int (dueM hs k own)) H
noncomputable def spNode (CL CN : Addr) (d : Nat) : Sp := fun vs H Q E => ∃ lk dx a p ns hd hs boxes, vs = [.ref lk, .ref hd, .int boxes, .int (11 - (d : Int))] ∧ Looks CL H lk dx a p ns ∧ HeadsAt H hd hs ∧ HdsOk hs ∧
  Tells (nodeM ns hs boxes d p) (fun r => ∀ v H', Keep lk H H' → H' lk = some (LookO CL dx a r.2) → NodeAt H' d v r.1 → Q v H') (Fails CN lk H E)
noncomputable def spFns (CN : Addr) : Sp := fun vs H Q E => ∃ a ns, vs = [.ref a] ∧ H a = some (.lst (ns.map V.int)) ∧
  Tells (functionsM ns) (fun r => ∀ l H', Same H H' → H l = none → FnsAt H' l r → Q (.ref l) H') (fun p w => ∀ d H', Same H H' → H' d = some (XdO d [("place", .int p), ("word", .str w)]) → E (.ref CN) (some d) H')
noncomputable def spWrong : Sp := fun vs H Q _ => ∃ a ns, vs = [.ref a] ∧ H a = some (.lst (ns.map V.int)) ∧
  Tells (functionsM ns) (fun _ => ∀ H', Same H H' → Q .non H') (fun p w => ∀ t H', Same H H' → H' t = some (.tup [.int (p : Nat), .str w]) → Q (.ref t) H')
theorem withinM_ok {ns : List Int} {p : Nat} {lo hi n : Int} (h : withinM ns p lo hi = .ok n) : ns[p]? = some n ∧ lo ≤ n ∧ n ≤ hi := by
  unfold withinM at h
  cases e : ns[p]? with
  | none => rw [e] at h; cases h
  | some m =>
    rw [e] at h
    simp only at h
    by_cases c : m < lo ∨ hi < m
    · rw [if_pos c] at h; cases h
    · rw [if_neg c] at h; cases h
      exact ⟨rfl, by (first | lia | omega), by (first | lia | omega)⟩
theorem oneM_ok {r : Except Bad Int} {own : List Int} (h : oneM r = .ok own) : ∃ n, r = .ok n ∧ own = [n] := by
  unfold oneM at h
  cases r with
  | error b => cases h
  | ok n => cases h; exact ⟨n, rfl, rfl⟩
theorem own_ok {ns : List Int} {hs : Hds} {boxes k : Int} {p : Nat} {own : List Int} (h0 : 0 ≤ k) (h1 : k ≤ 19) (h : ownM ns hs boxes k p = .ok own) : OwnOk hs k own := by
  refine ⟨h0, h1, fun hk => ?_⟩
  unfold ownM at h
  rcases hk with rfl | rfl | rfl
  · rw [if_neg (by decide), if_neg (by decide), if_pos rfl] at h
    obtain ⟨n, e, rfl⟩ := oneM_ok h
    obtain ⟨_, a, b⟩ := withinM_ok e
    exact ⟨n, rfl, by (first | lia | omega), fun z => by (first | lia | omega), fun _ => b⟩
  · rw [if_neg (by decide), if_neg (by decide), if_neg (by decide), if_pos rfl] at h
    obtain ⟨n, e, rfl⟩ := oneM_ok h
    obtain ⟨_, a, b⟩ := withinM_ok e
    exact ⟨n, rfl, by (first | lia | omega), fun z => by (first | lia | omega), fun _ => b⟩
  · rw [if_neg (by decide), if_neg (by decide), if_neg (by decide), if_neg (by decide), if_pos rfl] at h
    obtain ⟨n, e, rfl⟩ := oneM_ok h
    obtain ⟨_, a, b⟩ := withinM_ok e
    exact ⟨n, rfl, by (first | lia | omega), fun _ => by (first | lia | omega), fun z => absurd rfl z⟩
theorem partsN_ok : ∀ k : Nat, 0 ≤ partsN.getD k 0 ∧ partsN.getD k 0 ≤ 3 := by
  intro k
  by_cases h : k < 13
  · have : ∀ k : Fin 13, 0 ≤ partsN.getD k.1 0 ∧ partsN.getD k.1 0 ≤ 3 := by decide
    exact this ⟨k, h⟩
  · have : partsN[k]? = none := List.getElem?_eq_none (by show 13 ≤ k; (first | lia | omega))
    rw [List.getD_eq_getElem?_getD, this]; decide
theorem due_ok {hs : Hds} {k : Int} {own : List Int} (o : OwnOk hs k own) (hh : HdsOk hs) : 0 ≤ dueM hs k own ∧ dueM hs k own ≤ 13 := by
  obtain ⟨h0, h1, h2⟩ := o
  unfold dueM
  by_cases c1 : k = 0 ∨ k = 1
  · rw [if_pos c1]; decide
  rw [if_neg c1]
  by_cases c2 : k = 2
  · rw [if_pos c2]; decide
  rw [if_neg c2]
  by_cases c3 : k = 3
  · rw [if_pos c3]
    obtain ⟨n, rfl, a, _, b⟩ := h2 (.inl c3)
    have := b (by (first | lia | omega))
    show 0 ≤ n ∧ n ≤ 13
    (first | lia | omega)
  rw [if_neg c3]
  by_cases c4 : k = 4
  · rw [if_pos c4]
    obtain ⟨n, rfl, a, _, b⟩ := h2 (.inr (.inl c4))
    have := b (by (first | lia | omega))
    show 0 ≤ 1 + n ∧ 1 + n ≤ 13
    (first | lia | omega)
  rw [if_neg c4]
  by_cases c5 : k = 5
  · rw [if_pos c5]; decide
  rw [if_neg c5]
  by_cases c6 : k = 6
  · rw [if_pos c6]
    obtain ⟨n, rfl, a, b, _⟩ := h2 (.inr (.inr c6))
    have hn := b c6
    show 0 ≤ (hs.getD n.toNat (0, 0)).1 ∧ (hs.getD n.toNat (0, 0)).1 ≤ 13
    have hl : n.toNat < hs.length := by (first | lia | omega)
    rw [List.getD_eq_getElem?_getD, List.getElem?_eq_getElem hl]
    have := hh _ (List.getElem_mem hl)
    simp only [Option.getD_some]
    (first | lia | omega)
  rw [if_neg c6]
  have := partsN_ok (k - 7).toNat
  (first | lia | omega)
theorem headsM_ok {ns : List Int} : ∀ {n : Nat} {most : Int} {p : Nat} {hs : Hds}, most ≤ 4 → headsM ns n most p = .ok hs → HdsOk hs ∧ hs.length = n
  | 0, _, _, _, _, h => by cases h; exact ⟨fun _ z => (nomatch z), rfl⟩
  | n + 1, most, p, hs, hm, h => by
    unfold headsM at h
    cases e1 : withinM ns p 0 most with
    | error b => rw [e1] at h; cases h
    | ok a =>
      rw [e1] at h; simp only at h
      cases e2 : withinM ns (p + 1) a 12 with
      | error b => rw [e2] at h; cases h
      | ok c =>
        rw [e2] at h; simp only at h
        cases e3 : headsM ns n 4 (p + 2) with
        | error b => rw [e3] at h; cases h
        | ok r =>
          rw [e3] at h; cases h
          obtain ⟨q, l⟩ := headsM_ok (Int.le_refl _) e3
          obtain ⟨_, a0, a1⟩ := withinM_ok e1
          exact ⟨fun z hz => by
            rcases List.mem_cons.mp hz with rfl | hz
            · exact ⟨a0, by show a ≤ 4; (first | lia | omega)⟩
            · exact q z hz, by simp [l]⟩
theorem headsAllM_ok {ns : List Int} {hs : Hds} (h : headsAllM ns = .ok hs) : HdsOk hs ∧ ns[0]? = some (hs.length : Int) ∧ 1 ≤ hs.length ∧ hs.length ≤ 16 ∧ headsM ns hs.length 0 1 = .ok hs := by
  unfold headsAllM at h
  cases e1 : withinM ns 0 1 16 with
  | error b => rw [e1] at h; cases h
  | ok n =>
    rw [e1] at h; simp only at h
    obtain ⟨q, l⟩ := headsM_ok (by decide) h
    obtain ⟨e, a, b⟩ := withinM_ok e1
    rw [l]
    refine ⟨q, ?_, by (first | lia | omega), by (first | lia | omega), h⟩
    rw [e]; congr 1; (first | lia | omega)
noncomputable def joinM {α : Type} (done : List α) (r : Except Bad (List α)) : Except Bad (List α) := match r with
  | .ok r => .ok (done ++ r)
  | .error b => .error b
theorem joinM_nil {α : Type} (r : Except Bad (List α)) : joinM [] r = r := by cases r <;> rfl
noncomputable def joinP {α : Type} (done : List α) (r : Except Bad (List α × Nat)) : Except Bad (List α × Nat) := match r with
  | .ok r => .ok (done ++ r.1, r.2)
  | .error b => .error b
theorem joinP_nil {α : Type} (r : Except Bad (List α × Nat)) : joinP [] r = r := by cases r <;> rfl
theorem Keep.fresh {lk hd : Addr} {H H' : Hp} {o : HO} (k : Keep lk H H') (h : H hd = none) : Keep lk H (L2.upd H' hd o) := fun b u nb e => by rw [upd_ne (ne_of_none e h)]; exact k b u nb e
theorem Tups.upd {b : Addr} {ys : List V} {H : Hp} {o : HO} (h : H b = some (.lst ys)) : Tups H (L2.upd H b o) := fun c xs e => by rw [upd_ne (fun z => by rw [z, h] at e; cases e)]; exact e
theorem Tups.trans {H H1 H2 : Hp} (a : Tups H H1) (b : Tups H1 H2) : Tups H H2 := fun c xs e => b c xs (a c xs e)
theorem Tups.new {b : Addr} {H : Hp} {o : HO} (h : H b = none) : Tups H (L2.upd H b o) := .same (same_new h o)
theorem raised {C lk : Addr} {H H1 : Hp} {E E' : XK} {p : Nat} {w : Str} (f : Fails C lk H E p w) (k : Keep lk H H1) : ∀ x, H1 x = none →
    spInitX C [.ref x, .int (p : Int), .str w] (upd H1 x (ExN x C none)) (fun v H2 => v = .non ∧ ∃ d, H2 x = some (ExN x C (some d)) ∧ E (.ref C) (some d) (upd H2 x (ExO x C (some d)))) E' := by
  intro x hx
  refine ⟨x, _, _, rfl, upd_same, fun d H' dx hd kp ex ed => ⟨rfl, d, ex, f d _ (fun b o nb e => ?_) ?_⟩⟩
  · have e1 := k b o nb e
    have nx : b ≠ x := ne_of_none e1 hx
    rw [upd_ne nx]
    exact kp b o nx (by rw [upd_ne nx]; exact e1)
  · rw [upd_ne dx]; exact ed
end L2

set_option Elab.async false
set_option linter.all false
set_option maxRecDepth 100000
namespace L2
open PySem
noncomputable def Sub (ns : List Int) : Nat → List Int → Prop
  | _, [] => True
  | p, z :: zs => ns[p]? = some z ∧ Sub ns (p + 1) zs
theorem Sub.append {ns : List Int} : ∀ {xs ys : List Int} {p : Nat}, Sub ns p (xs ++ ys) → Sub ns p xs ∧ Sub ns (p + xs.length) ys
  | [], _, _, h => ⟨trivial, h⟩
  | x :: xs, ys, p, h => by
    have q := Sub.append h.2
    refine ⟨⟨h.1, q.1⟩, ?_⟩
    rw [show p + (x :: xs).length = p + 1 + xs.length by simp; (first | lia | omega)]
    exact q.2
theorem Sub.behind : ∀ (zs pre : List Int), Sub (pre ++ zs) pre.length zs
  | [], _ => trivial
  | z :: zs, pre => by
    refine ⟨by simp, ?_⟩
    have := Sub.behind zs (pre ++ [z])
    simpa using this
theorem Sub.self (ns : List Int) : Sub ns 0 ns := Sub.behind ns []
noncomputable def OwnFit (hs : Hds) (boxes k : Int) (own : List Int) : Prop :=
  (k = 0 ∧ ∃ n, own = [n]) ∨ ((k = 1 ∨ k = 2) ∧ ∃ n, own = [n] ∧ 0 ≤ n ∧ n ≤ boxes - 1) ∨ (k = 3 ∧ ∃ n, own = [n] ∧ 1 ≤ n ∧ n ≤ 12) ∨ (k = 4 ∧ ∃ n, own = [n] ∧ 2 ≤ n ∧ n ≤ 12) ∨ (k = 6 ∧ ∃ n, own = [n] ∧ 0 ≤ n ∧ n ≤ (hs.length : Int) - 1) ∨ ((k = 5 ∨ 7 ≤ k) ∧ own = [])
theorem withinM_at {ns : List Int} {p : Nat} {lo hi n : Int} (h : ns[p]? = some n) (h0 : lo ≤ n) (h1 : n ≤ hi) : withinM ns p lo hi = .ok n := by
  unfold withinM
  rw [h]
  exact if_neg (by (first | lia | omega))
theorem own_fit {ns : List Int} {hs : Hds} {boxes k : Int} {own : List Int} {p : Nat} (f : OwnFit hs boxes k own) (s : Sub ns p own) : ownM ns hs boxes k p = .ok own := by
  unfold ownM
  rcases f with ⟨rfl, n, rfl⟩ | ⟨hk, n, rfl, a, b⟩ | ⟨rfl, n, rfl, a, b⟩ | ⟨rfl, n, rfl, a, b⟩ | ⟨rfl, n, rfl, a, b⟩ | ⟨hk, rfl⟩
  · rw [if_pos rfl]; unfold takeM; rw [s.1]; rfl
  · rw [if_neg (by (first | lia | omega)), if_pos hk, withinM_at s.1 a b]; rfl
  · rw [if_neg (by decide), if_neg (by decide), if_pos rfl, withinM_at s.1 a b]; rfl
  · rw [if_neg (by decide), if_neg (by decide), if_neg (by decide), if_pos rfl, withinM_at s.1 a b]; rfl
  · rw [if_neg (by decide), if_neg (by decide), if_neg (by decide), if_neg (by decide), if_pos rfl, withinM_at s.1 a b]; rfl
  · rw [if_neg (by (first | lia | omega)), if_neg (by (first | lia | omega)), if_neg (by (first | lia | omega)), if_neg (by (first | lia | omega)), if_neg (by (first | lia | omega))]
noncomputable def PN (hs : Hds) (boxes : Int) (d : Nat) (zs : List Int) : Prop := ∀ ns p, Sub ns p zs → ∃ nd, nodeM ns hs boxes d p = .ok (nd, p + zs.length)
noncomputable def PP (hs : Hds) (boxes : Int) (d n : Nat) (zs : List Int) : Prop := ∀ ns p, Sub ns p zs → ∃ nds, partsM (nodeM ns hs boxes d) n p = .ok (nds, p + zs.length)
theorem partsM_snoc {f : Nat → Except Bad (Nd × Nat)} : ∀ {n p q z : Nat} {r : List Nd} {a : Nd}, partsM f n p = .ok (r, q) → f q = .ok (a, z) → partsM f (n + 1) p = .ok (r ++ [a], z)
  | 0, p, q, z, r, a, h, e => by
    cases h
    unfold partsM
    rw [e]; rfl
  | n + 1, p, q, z, r, a, h, e => by
    unfold partsM at h ⊢
    cases e1 : f p with
    | error b => rw [e1] at h; cases h
    | ok x =>
      rw [e1] at h; simp only at h ⊢
      cases e2 : partsM f n x.2 with
      | error b => rw [e2] at h; cases h
      | ok y =>
        rw [e2] at h; cases h
        have := partsM_snoc (show partsM f n x.2 = .ok (y.1, y.2) from e2) e
        rw [this]; rfl
theorem PP.zero {hs : Hds} {boxes : Int} {d : Nat} : PP hs boxes d 0 [] := fun ns p _ => ⟨[], rfl⟩
theorem PP.snoc {hs : Hds} {boxes : Int} {d n : Nat} {xs ys : List Int} (a : PP hs boxes d n xs) (b : PN hs boxes d ys) : PP hs boxes d (n + 1) (xs ++ ys) := fun ns p s => by
  obtain ⟨s1, s2⟩ := Sub.append s
  obtain ⟨r, e1⟩ := a ns p s1
  obtain ⟨x, e2⟩ := b ns _ s2
  refine ⟨r ++ [x], ?_⟩
  rw [partsM_snoc e1 e2, List.length_append, Nat.add_assoc]
theorem PN.of {hs : Hds} {boxes k : Int} {d : Nat} {own zs : List Int} (h0 : 0 ≤ k) (h1 : k ≤ 19) (f : OwnFit hs boxes k own) (h : PP hs boxes d (dueM hs k own).toNat zs) : PN hs boxes (d + 1) (k :: own ++ zs) := fun ns p s => by
  obtain ⟨s1, s2⟩ := Sub.append (xs := k :: own) s
  obtain ⟨nds, e⟩ := h ns _ s2
  refine ⟨.mk k p own nds, ?_⟩
  unfold nodeM
  rw [withinM_at s1.1 h0 h1]; simp only
  rw [own_fit f s1.2]; simp only
  rw [show p + 1 + own.length = p + (k :: own).length by simp; (first | lia | omega), e]
  simp only
  rw [List.length_append, Nat.add_assoc]
noncomputable def Leaf (boxes : Int) (zs : List Int) : Prop := (∃ x, zs = [1, x] ∧ 0 ≤ x ∧ x < boxes) ∨ zs = [19] ∨ ∃ n, zs = [0, n]
theorem Leaf.len {boxes : Int} {zs : List Int} (l : Leaf boxes zs) : zs.length ≤ 2 := by
  rcases l with ⟨x, rfl, _⟩ | rfl | ⟨n, rfl⟩ <;> simp
theorem Leaf.pn {hs : Hds} {boxes : Int} {zs : List Int} (l : Leaf boxes zs) (d : Nat) : PN hs boxes (d + 1) zs := by
  rcases l with ⟨x, rfl, a, b⟩ | rfl | ⟨n, rfl⟩
  · exact PN.of (own := [x]) (zs := []) (by decide) (by decide) (.inr (.inl ⟨.inl rfl, x, rfl, a, by (first | lia | omega)⟩)) PP.zero
  · exact PN.of (own := []) (zs := []) (by decide) (by decide) (.inr (.inr (.inr (.inr (.inr ⟨.inr (by decide), rfl⟩))))) PP.zero
  · exact PN.of (own := [n]) (zs := []) (by decide) (by decide) (.inl ⟨rfl, n, rfl⟩) PP.zero
structure HdsGood (hs : Hds) : Prop where
  lo : 1 ≤ hs.length
  hi : hs.length ≤ 16
  all : ∀ (i : Nat) (h : Int × Int), hs[i]? = some h → 0 ≤ h.1 ∧ h.1 ≤ 4 ∧ h.1 ≤ h.2 ∧ h.2 ≤ 12 ∧ (i = 0 → h.1 = 0)
noncomputable def flat : Hds → List Int
  | [] => []
  | h :: r => h.1 :: h.2 :: flat r
theorem flat_len : ∀ hs : Hds, (flat hs).length = 2 * hs.length
  | [] => rfl
  | h :: r => by simp [flat, flat_len r]; (first | lia | omega)
theorem flat_append : ∀ (xs ys : Hds), flat (xs ++ ys) = flat xs ++ flat ys
  | [], _ => rfl
  | h :: r, ys => by simp [flat, flat_append r ys]
theorem headsM_flat {ns : List Int} : ∀ {hs : Hds} {most : Int} {p : Nat}, (∀ (i : Nat) (h : Int × Int), hs[i]? = some h → 0 ≤ h.1 ∧ h.1 ≤ 4 ∧ h.1 ≤ h.2 ∧ h.2 ≤ 12 ∧ (i = 0 → h.1 ≤ most)) → Sub ns p (flat hs) → headsM ns hs.length most p = .ok hs
  | [], _, _, _, _ => rfl
  | h :: r, most, p, a, s => by
    obtain ⟨a0, a1, a2, a3, a4⟩ := a 0 h rfl
    unfold headsM
    show (match withinM ns p 0 most with | .error b => _ | .ok a => _) = _
    rw [withinM_at s.1 a0 (a4 rfl)]; simp only
    rw [withinM_at s.2.1 a2 a3]; simp only
    rw [headsM_flat (most := 4) (fun i x e => by have := a (i + 1) x (by simpa using e); (first | lia | omega)) s.2.2]
theorem HdsGood.heads {ns : List Int} {hs : Hds} {p : Nat} (g : HdsGood hs) (s : Sub ns p (flat hs)) : headsM ns hs.length 0 p = .ok hs := headsM_flat (fun i h e => by have := g.all i h e; (first | lia | omega)) s
noncomputable def PB (hs todo : Hds) (zs : List Int) : Prop := ∀ ns p, Sub ns p zs → ∃ nds, nds.length = todo.length ∧ bodiesM ns hs todo p = .ok (nds, p + zs.length)
theorem bodiesM_snoc {ns : List Int} {hs : Hds} : ∀ {todo : Hds} {h : Int × Int} {p q z : Nat} {r : List Nd} {a : Nd}, bodiesM ns hs todo p = .ok (r, q) → nodeM ns hs h.2 10 q = .ok (a, z) → bodiesM ns hs (todo ++ [h]) p = .ok (r ++ [a], z)
  | [], h, p, q, z, r, a, e, f => by
    cases e
    show (match nodeM ns hs h.2 10 p with | .error b => _ | .ok a => _) = _
    rw [f]; rfl
  | x :: todo, h, p, q, z, r, a, e, f => by
    unfold bodiesM at e
    show (match nodeM ns hs x.2 10 p with | .error b => _ | .ok a => _) = _
    cases e1 : nodeM ns hs x.2 10 p with
    | error b => rw [e1] at e; cases e
    | ok y =>
      rw [e1] at e; simp only at e ⊢
      cases e2 : bodiesM ns hs todo y.2 with
      | error b => rw [e2] at e; cases e
      | ok u =>
        rw [e2] at e; cases e
        have := bodiesM_snoc (show bodiesM ns hs todo y.2 = .ok (u.1, u.2) from e2) f
        show (match bodiesM ns hs (todo ++ [h]) y.2 with | .error b => _ | .ok a => _) = _
        rw [this]; rfl
theorem PB.zero {hs : Hds} : PB hs [] [] := fun ns p _ => ⟨[], rfl, rfl⟩
theorem PB.snoc {hs todo : Hds} {h : Int × Int} {xs ys : List Int} (a : PB hs todo xs) (b : PN hs h.2 10 ys) : PB hs (todo ++ [h]) (xs ++ ys) := fun ns p s => by
  obtain ⟨s1, s2⟩ := Sub.append s
  obtain ⟨r, l, e1⟩ := a ns p s1
  obtain ⟨x, e2⟩ := b ns _ s2
  refine ⟨r ++ [x], ?_, ?_⟩
  · simp [l]
  · rw [bodiesM_snoc e1 e2, List.length_append, Nat.add_assoc]
theorem sheet_of_parts {hs : Hds} {zs : List Int} (g : HdsGood hs) (b : PB hs hs zs) : ∃ nds, functionsM ((hs.length : Int) :: flat hs ++ zs) = .ok (hs, nds) := by
  have s := Sub.self ((hs.length : Int) :: flat hs ++ zs)
  obtain ⟨s1, s2⟩ := Sub.append (xs := (hs.length : Int) :: flat hs) s
  have l : 0 + ((hs.length : Int) :: flat hs).length = 1 + 2 * hs.length := by simp [flat_len]; (first | lia | omega)
  rw [l] at s2
  obtain ⟨nds, _, e⟩ := b _ _ s2
  refine ⟨nds, ?_⟩
  have g1 := g.lo
  have g2 := g.hi
  have eh : headsAllM ((hs.length : Int) :: flat hs ++ zs) = .ok hs := by
    unfold headsAllM
    rw [withinM_at s1.1 (by (first | lia | omega)) (by (first | lia | omega))]
    simp only
    rw [Int.toNat_natCast]
    exact g.heads s1.2
  unfold functionsM
  rw [eh]; simp only
  rw [e]
  exact if_neg (by simp [flat_len]; (first | lia | omega))
noncomputable def SheetOk (ns : List Int) : Prop := ns.length ≤ 100000 ∧ ∃ r, functionsM ns = .ok r
theorem HeadsAt.ne {K : PySem.W.Frag} {H : Hp} {hd st : Addr} {hs : Hds} (h : HeadsAt H hd hs) (D : Draw K H st) : hd ≠ st := fun z => by
  obtain ⟨a, ns, k, c, e, _⟩ := D
  obtain ⟨rs, e', pr⟩ := h
  rw [z, e] at e'
  cases e'
  cases pr with
  | cons _ t =>
    cases t with
    | cons h _ => obtain ⟨_, q, _⟩ := h; cases q
noncomputable def tableN : List Int := [0, 0, 0, 0, 0, 2, 0, 1, 2, 2, 2, 2, 2, 2, 2, 2, 2, 3, 1, 0]
theorem due_any {hs hs' : Hds} {k : Int} {own own' : List Int} (n3 : k ≠ 3) (n4 : k ≠ 4) (n6 : k ≠ 6) : dueM hs k own = dueM hs' k own' := by
  unfold dueM
  rw [if_neg n3, if_neg n4, if_neg n6, if_neg n3, if_neg n4, if_neg n6]
theorem tabN_all : ∀ n : Fin 20, atI (tableN.map V.int) (n.1 : Int) = some (.int (tableN.getD n.1 0)) ∧ 0 ≤ tableN.getD n.1 0 ∧ tableN.getD n.1 0 ≤ 13 ∧ (n.1 < 5 ∨ n.1 = 6 ∨ tableN.getD n.1 0 = dueM [] (n.1 : Int) []) := by decide +kernel
theorem head_table {hs : Hds} {boxes k : Int} (h0 : 0 ≤ k) (h1 : k < 20) (n3 : k ≠ 3) (n4 : k ≠ 4) (n6 : k ≠ 6) : ∃ v : Int, atI (tableN.map V.int) k = some (.int v) ∧ 0 ≤ v ∧ v ≤ 13 ∧
    (k < 3 ∧ ([] : List Int) = [] ∨ OwnFit hs boxes k [] ∧ (k < 3 → ([] : List Int) ≠ []) ∧ v = dueM hs k []) := by
  obtain ⟨n, rfl⟩ : ∃ n : Nat, k = n := ⟨k.toNat, by (first | lia | omega)⟩
  obtain ⟨e, l, m, o⟩ := tabN_all ⟨n, by (first | lia | omega)⟩
  refine ⟨_, e, l, m, ?_⟩
  by_cases c : (n : Int) < 3
  · exact .inl ⟨c, rfl⟩
  · refine .inr ⟨.inr (.inr (.inr (.inr (.inr ⟨by (first | lia | omega), rfl⟩)))), fun z => absurd z c, ?_⟩
    have o' : tableN.getD n 0 = dueM [] (n : Int) [] := o.resolve_left (by show ¬ n < 5; (first | lia | omega)) |>.resolve_left (by show ¬ n = 6; (first | lia | omega))
    exact o'.trans (due_any n3 n4 n6)
noncomputable def spTakeB (K : PySem.W.Frag) : Sp := fun vs H Q _ => ∃ (st : Addr) (many : Int), vs = [.ref st, .int many] ∧ 0 < many ∧ many < 2 ^ 256 ∧ Draw K H st ∧ ∀ (r : Int) (H' : Hp), 0 ≤ r → r < many → Drawn K st H H' → Q (.int r) H'
theorem divB {j : Int} (h0 : 0 < j) (h1 : j < 2 ^ 256) : CDivB i j := by
  refine ⟨h0, ?_⟩
  have : j.natAbs.log2 < 256 := (Nat.log2_lt (by (first | lia | omega))).mpr (by (first | lia | omega))
  (first | lia | omega)
noncomputable def spHeadsL (K : PySem.W.Frag) : Sp := fun vs H Q _ => ∃ st, vs = [.ref st] ∧ Draw K H st ∧ ∀ hd H' hs, Drawn K st H H' → HeadsAt H' hd hs → HdsGood hs → Q (.ref hd) H'
noncomputable def spNumber (K : PySem.W.Frag) : Sp := fun vs H Q _ => ∃ st, vs = [.ref st] ∧ Draw K H st ∧ ∀ (n : Int) H', Drawn K st H H' → Q (.int n) H'
noncomputable def spLeaf (K : PySem.W.Frag) : Sp := fun vs H Q _ => ∃ st boxes, vs = [.ref st, .int boxes] ∧ boxes ≤ 12 ∧ Draw K H st ∧ ∀ l zs H', Drawn K st H H' → H l = none → H' l = some (.lst (zs.map V.int)) → Leaf boxes zs → Q (.ref l) H'
noncomputable def spHead (K : PySem.W.Frag) : Sp := fun vs H Q _ => ∃ st hd hs boxes, vs = [.ref st, .ref hd, .int boxes] ∧ boxes ≤ 12 ∧ Draw K H st ∧ HeadsAt H hd hs ∧ HdsGood hs ∧
  ∀ t l k own many H', Drawn K st H H' → H l = none → H' t = some (.tup [.ref l, .int many]) → H' l = some (.lst (((k :: own : List Int)).map V.int)) → own.length ≤ 1 → 0 ≤ k → k ≤ 19 → (k < 3 ∧ own = [] ∨ OwnFit hs boxes k own ∧ (k < 3 → own ≠ []) ∧ many = dueM hs k own) → 0 ≤ many → many ≤ 13 → Q (.ref t) H'
theorem Drawn.free {K : PySem.W.Frag} {st p : Addr} {H H' : Hp} (d : Drawn K st H H') (h : H' p = none) : H p = none := by
  cases e : H p with
  | none => rfl
  | some o =>
    by_cases z : p = st
    · obtain ⟨a, ns, k, c, e', _⟩ := d.draw
      rw [z, e'] at h; cases h
    · rw [d.keep p o z e] at h; cases h
noncomputable def Keep2 (st rm : Addr) (H H' : Hp) : Prop := ∀ b o, b ≠ st → b ≠ rm → H b = some o → H' b = some o
theorem Keep2.trans {st rm : Addr} {H H1 H2 : Hp} (a : Keep2 st rm H H1) (b : Keep2 st rm H1 H2) : Keep2 st rm H H2 := fun c o n m e => b c o n m (a c o n m e)
theorem Keep2.one {st rm : Addr} {H H1 : Hp} (a : Keep st H H1) : Keep2 st rm H H1 := fun c o n _ e => a c o n e
theorem Keep2.two {st rm : Addr} {H : Hp} {o : HO} : Keep2 st rm H (L2.upd H rm o) := fun c u _ m e => by rw [upd_ne m]; exact e
theorem Keep2.same {st rm : Addr} {H H1 : Hp} (a : Same H H1) : Keep2 st rm H H1 := fun c o _ _ e => a c o e
theorem Keep2.free {st rm p : Addr} {H H' : Hp} {o1 o2 : HO} (k : Keep2 st rm H H') (h1 : H' st = some o1) (h2 : H' rm = some o2) (h : H' p = none) : H p = none := by
  cases e : H p with
  | none => rfl
  | some o =>
    by_cases z : p = st
    · rw [z, h1] at h; cases h
    · by_cases z2 : p = rm
      · rw [z2, h2] at h; cases h
      · rw [k p o z z2 e] at h; cases h
theorem HeadsAt.keep2 {st rm hd : Addr} {xs ys : List V} {H H' : Hp} {hs : Hds} (n1 : hd ≠ st) (n2 : hd ≠ rm) (e1 : H st = some (.lst xs)) (e2 : H rm = some (.lst ys)) (k : Keep2 st rm H H') (h : HeadsAt H hd hs) : HeadsAt H' hd hs := by
  obtain ⟨rs, q, r⟩ := h
  refine ⟨rs, k hd _ n1 n2 q, Paired.imp (fun _ _ z => z.tups fun b zs e => k b _ ?_ ?_ e) r⟩
  · intro z; rw [z, e1] at e; cases e
  · intro z; rw [z, e2] at e; cases e
noncomputable def spNodeL (K : PySem.W.Frag) (d : Nat) : Sp := fun vs H Q _ => ∃ st hd hs boxes rm r, vs = [.ref st, .ref hd, .int boxes, .int (11 - (d : Int)), .ref rm] ∧ 1 ≤ d ∧ d ≤ 10 ∧ boxes ≤ 12 ∧ Draw K H st ∧ HeadsAt H hd hs ∧ HdsGood hs ∧ H rm = some (.lst [.int (r : Nat)]) ∧ r ≤ 1000 ∧ rm ≠ hd ∧
  ∀ l zs (r' : Nat) H', Keep2 st rm H H' → Draw K H' st → H' rm = some (.lst [.int r']) → r' ≤ r → zs.length + 2 * r' ≤ 2 + 2 * r → H' l = some (.lst (zs.map V.int)) → H l = none → PN hs boxes d zs → Q (.ref l) H'
noncomputable def spSheet (K : PySem.W.Frag) : Sp := fun vs H Q _ => ∃ st most, vs = [.ref st, .int most] ∧ 0 < most ∧ most ≤ 1000 ∧ Draw K H st ∧ ∀ l ns H', Drawn K st H H' → H' l = some (.lst (ns.map V.int)) → SheetOk ns → Q (.ref l) H'
noncomputable def CW (n : Nat) (Pv : Nat → St → Hp → Prop) (i m : Nat) (σ : St) (H : Hp) : Prop := i ≤ n ∧ m = n - i ∧ Pv i σ H
theorem CW.next {n : Nat} {Pv : Nat → St → Hp → Prop} {i : Nat} {σ : St} {H : Hp} (hi : i < n) (h : Pv (i + 1) σ H) : ∃ m', m' < n - i ∧ CW n Pv (i + 1) m' σ H := ⟨n - (i + 1), by (first | lia | omega), by (first | lia | omega), rfl, h⟩
theorem takeM_ok {ns : List Int} {p : Nat} {n : Int} (h : takeM ns p = .ok n) : ns[p]? = some n := by
  unfold takeM at h
  cases e : ns[p]? with
  | none => rw [e] at h; cases h
  | some m => rw [e] at h; cases h; rfl
theorem own_at {ns : List Int} {hs : Hds} {boxes k : Int} {p : Nat} {own : List Int} (h0 : 0 ≤ k) (h : ownM ns hs boxes k p = .ok own) :
    ((k < 5 ∨ k = 6) ∧ ∃ n, own = [n] ∧ ns[p]? = some n) ∨ (¬ (k < 5 ∨ k = 6) ∧ own = []) := by
  unfold ownM at h
  by_cases c0 : k = 0
  · rw [if_pos c0] at h; obtain ⟨n, e, rfl⟩ := oneM_ok h; exact .inl ⟨by (first | lia | omega), n, rfl, takeM_ok e⟩
  rw [if_neg c0] at h
  by_cases c1 : k = 1 ∨ k = 2
  · rw [if_pos c1] at h; obtain ⟨n, e, rfl⟩ := oneM_ok h; exact .inl ⟨by (first | lia | omega), n, rfl, (withinM_ok e).1⟩
  rw [if_neg c1] at h
  by_cases c3 : k = 3
  · rw [if_pos c3] at h; obtain ⟨n, e, rfl⟩ := oneM_ok h; exact .inl ⟨by (first | lia | omega), n, rfl, (withinM_ok e).1⟩
  rw [if_neg c3] at h
  by_cases c4 : k = 4
  · rw [if_pos c4] at h; obtain ⟨n, e, rfl⟩ := oneM_ok h; exact .inl ⟨by (first | lia | omega), n, rfl, (withinM_ok e).1⟩
  rw [if_neg c4] at h
  by_cases c6 : k = 6
  · rw [if_pos c6] at h; obtain ⟨n, e, rfl⟩ := oneM_ok h; exact .inl ⟨by (first | lia | omega), n, rfl, (withinM_ok e).1⟩
  rw [if_neg c6] at h
  cases h
  exact .inr ⟨by (first | lia | omega), rfl⟩
theorem headsM_at {ns : List Int} : ∀ {n : Nat} {most : Int} {p : Nat} {hs : Hds}, headsM ns n most p = .ok hs → ∀ (i : Nat) (h : Int × Int), hs[i]? = some h → ns[p + 2 * i]? = some h.1 ∧ ns[p + 2 * i + 1]? = some h.2
  | 0, _, _, _, e, i, h, q => by cases e; simp at q
  | n + 1, most, p, hs, e, i, h, q => by
    unfold headsM at e
    cases e1 : withinM ns p 0 most with
    | error b => rw [e1] at e; cases e
    | ok a =>
      rw [e1] at e; simp only at e
      cases e2 : withinM ns (p + 1) a 12 with
      | error b => rw [e2] at e; cases e
      | ok c =>
        rw [e2] at e; simp only at e
        cases e3 : headsM ns n 4 (p + 2) with
        | error b => rw [e3] at e; cases e
        | ok r =>
          rw [e3] at e; cases e
          cases i with
          | zero => cases q; exact ⟨(withinM_ok e1).1, (withinM_ok e2).1⟩
          | succ i =>
            have := headsM_at e3 i h (by simpa using q)
            rw [show p + 2 * (i + 1) = p + 2 + 2 * i by (first | lia | omega)]
            exact this
theorem node_ok {ns : List Int} {hs : Hds} {boxes : Int} {d p z : Nat} {nd : Nd} (h : nodeM ns hs boxes (d + 1) p = .ok (nd, z)) :
    ∃ k own ps, nd = .mk k p own ps ∧ 0 ≤ k ∧ k ≤ 19 ∧ ns[p]? = some k ∧ ownM ns hs boxes k (p + 1) = .ok own ∧ partsM (nodeM ns hs boxes d) (dueM hs k own).toNat (p + 1 + own.length) = .ok (ps, z) := by
  unfold nodeM at h
  cases e1 : withinM ns p 0 19 with
  | error b => rw [e1] at h; cases h
  | ok k =>
    rw [e1] at h; simp only at h
    cases e2 : ownM ns hs boxes k (p + 1) with
    | error b => rw [e2] at h; cases h
    | ok own =>
      rw [e2] at h; simp only at h
      cases e3 : partsM (nodeM ns hs boxes d) (dueM hs k own).toNat (p + 1 + own.length) with
      | error b => rw [e3] at h; cases h
      | ok r =>
        rw [e3] at h; cases h
        obtain ⟨a, b, c⟩ := withinM_ok e1
        exact ⟨k, own, r.1, rfl, b, c, a, e2, e3⟩
theorem parts_ok {f : Nat → Except Bad (Nd × Nat)} : ∀ {n p z : Nat} {ps : List Nd}, partsM f n p = .ok (ps, z) → ps.length = n
  | 0, _, _, _, h => by cases h; rfl
  | n + 1, p, z, ps, h => by
    unfold partsM at h
    cases e1 : f p with
    | error b => rw [e1] at h; cases h
    | ok a =>
      rw [e1] at h; simp only at h
      cases e2 : partsM f n a.2 with
      | error b => rw [e2] at h; cases h
      | ok r => rw [e2] at h; cases h; simp [parts_ok (show partsM f n a.2 = .ok (r.1, r.2) from e2)]
theorem parts_cons {f : Nat → Except Bad (Nd × Nat)} {n p z : Nat} {a : Nd} {ps : List Nd} (h : partsM f (n + 1) p = .ok (a :: ps, z)) : ∃ q, f p = .ok (a, q) ∧ partsM f n q = .ok (ps, z) := by
  unfold partsM at h
  cases e1 : f p with
  | error b => rw [e1] at h; cases h
  | ok a =>
    rw [e1] at h; simp only at h
    cases e2 : partsM f n a.2 with
    | error b => rw [e2] at h; cases h
    | ok r => rw [e2] at h; cases h; exact ⟨a.2, rfl, e2⟩
theorem parts_nil {f : Nat → Except Bad (Nd × Nat)} {n p z : Nat} (h : partsM f n p = .ok ([], z)) : n = 0 ∧ z = p := by
  cases n with
  | zero => cases h; exact ⟨rfl, rfl⟩
  | succ n => have := parts_ok h; simp at this
theorem at_lt {ns : List Int} {p : Nat} {n : Int} (h : ns[p]? = some n) : p < ns.length := (List.getElem?_eq_some_iff.mp h).1
theorem parts_le {f : Nat → Except Bad (Nd × Nat)} {L : Nat} (hf : ∀ p nd z, f p = .ok (nd, z) → p < z ∧ z ≤ L) : ∀ {n p z : Nat} {ps : List Nd}, p ≤ L → partsM f n p = .ok (ps, z) → p ≤ z ∧ z ≤ L
  | 0, _, _, _, hp, h => by cases h; exact ⟨Nat.le_refl _, hp⟩
  | n + 1, p, z, ps, hp, h => by
    cases ps with
    | nil => exact absurd (parts_nil h).1 (by (first | lia | omega))
    | cons a ps =>
      obtain ⟨q, e1, e2⟩ := parts_cons h
      have := hf _ _ _ e1
      have := parts_le hf (by (first | lia | omega)) e2
      (first | lia | omega)
theorem node_le {ns : List Int} {hs : Hds} {boxes : Int} : ∀ {d p z : Nat} {nd : Nd}, nodeM ns hs boxes d p = .ok (nd, z) → p < z ∧ z ≤ ns.length
  | 0, _, _, _, h => by cases h
  | d + 1, p, z, nd, h => by
    obtain ⟨k, own, ps, rfl, k0, k1, ek, eo, ep⟩ := node_ok h
    have h1 := at_lt ek
    have h2 : p + 1 + own.length ≤ ns.length := by
      rcases own_at k0 eo with ⟨_, n, rfl, en⟩ | ⟨_, rfl⟩
      · have := at_lt en; simp; (first | lia | omega)
      · simp; (first | lia | omega)
    have := parts_le (fun p nd z e => node_le (d := d) e) h2 ep
    (first | lia | omega)
theorem bodies_le {ns : List Int} {hs : Hds} : ∀ {todo : Hds} {p z : Nat} {nds : List Nd}, p ≤ ns.length → bodiesM ns hs todo p = .ok (nds, z) → z ≤ ns.length ∧ nds.length = todo.length
  | [], _, _, _, hp, h => by cases h; exact ⟨hp, rfl⟩
  | x :: todo, p, z, nds, hp, h => by
    unfold bodiesM at h
    cases e1 : nodeM ns hs x.2 10 p with
    | error b => rw [e1] at h; cases h
    | ok y =>
      rw [e1] at h; simp only at h
      cases e2 : bodiesM ns hs todo y.2 with
      | error b => rw [e2] at h; cases h
      | ok u =>
        rw [e2] at h; cases h
        have := bodies_le (node_le (show nodeM ns hs x.2 10 p = .ok (y.1, y.2) from e1)).2 (show bodiesM ns hs todo y.2 = .ok (u.1, u.2) from e2)
        exact ⟨this.1, by simp [this.2]⟩
theorem heads_le {ns : List Int} {hs : Hds} (h : headsAllM ns = .ok hs) : 1 + 2 * hs.length ≤ ns.length := by
  obtain ⟨_, _, l1, _, e⟩ := headsAllM_ok h
  have q : hs[hs.length - 1]? = some hs[hs.length - 1] := List.getElem?_eq_getElem (by (first | lia | omega))
  have := at_lt (headsM_at e _ _ q).2
  (first | lia | omega)
theorem fns_ok {ns : List Int} {r : Hds × List Nd} (h : functionsM ns = .ok r) : headsAllM ns = .ok r.1 ∧ bodiesM ns r.1 r.1 (1 + 2 * r.1.length) = .ok (r.2, ns.length) ∧ r.2.length = r.1.length := by
  unfold functionsM at h
  cases e1 : headsAllM ns with
  | error b => rw [e1] at h; cases h
  | ok hs =>
    rw [e1] at h; simp only at h
    cases e2 : bodiesM ns hs hs (1 + 2 * hs.length) with
    | error b => rw [e2] at h; cases h
    | ok z =>
      rw [e2] at h; simp only at h
      have le := bodies_le (heads_le e1) (show bodiesM ns hs hs (1 + 2 * hs.length) = .ok (z.1, z.2) from e2)
      by_cases c : z.2 < ns.length
      · rw [if_pos c] at h; cases h
      · rw [if_neg c] at h
        cases h
        refine ⟨rfl, ?_, le.2⟩
        show bodiesM ns hs hs (1 + 2 * hs.length) = _
        have : ns.length = z.2 := by (first | lia | omega)
        rw [e2, this]
noncomputable def tableM : List Int := [0, 0, 1, 0, 0, 2, 0, 1, 2, 2, 2, 2, 2, 2, 2, 2, 2, 3, 1, 0]
theorem tabM_all : ∀ n : Fin 20, n.1 = 3 ∨ n.1 = 4 ∨ n.1 = 6 ∨ atI (tableM.map V.int) (n.1 : Int) = some (.int (dueM [] (n.1 : Int) [])) := by decide +kernel
theorem many_table {hs : Hds} {k : Int} {own : List Int} (h0 : 0 ≤ k) (h1 : k ≤ 19) (n3 : k ≠ 3) (n4 : k ≠ 4) (n6 : k ≠ 6) : atI (tableM.map V.int) k = some (.int (dueM hs k own)) := by
  obtain ⟨n, rfl⟩ : ∃ n : Nat, k = n := ⟨k.toNat, by (first | lia | omega)⟩
  have e := ((tabM_all ⟨n, by (first | lia | omega)⟩).resolve_left (by show ¬ n = 3; (first | lia | omega))).resolve_left (by show ¬ n = 4; (first | lia | omega)) |>.resolve_left (by show ¬ n = 6; (first | lia | omega))
  exact e.trans (congrArg (fun v => some (V.int v)) (due_any n3 n4 n6))
theorem atI_ns {ns : List Int} {p : Nat} {n : Int} (h : ns[p]? = some n) : atI (ns.map V.int) (p : Int) = some (.int n) := atI_nat (by rw [List.getElem?_map, h]; rfl)
theorem bodies_cons {ns : List Int} {hs todo : Hds} {h : Int × Int} {p z : Nat} {nds : List Nd} (e : bodiesM ns hs (h :: todo) p = .ok (nds, z)) : ∃ nd r q, nds = nd :: r ∧ nodeM ns hs h.2 10 p = .ok (nd, q) ∧ bodiesM ns hs todo q = .ok (r, z) := by
  unfold bodiesM at e
  cases e1 : nodeM ns hs h.2 10 p with
  | error b => rw [e1] at e; cases e
  | ok y =>
    rw [e1] at e; simp only at e
    cases e2 : bodiesM ns hs todo y.2 with
    | error b => rw [e2] at e; cases e
    | ok u => rw [e2] at e; cases e; exact ⟨y.1, u.1, y.2, rfl, rfl, e2⟩
end L2

set_option Elab.async false
set_option linter.all false
set_option maxRecDepth 100000
namespace L2
open PySem PySem.Spec PyProof.Rows PySem.W
theorem ns_ok {K : Frag} {N : Addr} {c : Value} {d : Option Addr} {es : Array DictEntry} {n : Nat} {sl : Array (Option Value)} (h : K.lookup N = some ⟨c, d, .dict es n, sl⟩) (q : (es.toList.all fun e => match e.key with | .str _ _ => true | _ => false) = true) : nsOkIn K N = true := by
  unfold nsOkIn
  rw [h]
  rw [Array.all_toList] at q
  exact q
theorem exc_tail {K : Frag} {CE nsC : Addr} {c : Value} {dd : Option Addr} {cd : ClassData} {sl : Array (Option Value)} (h : K.lookup CE = some ⟨c, dd, .cls cd, sl⟩) (hn : cd.ns = nsC) (ok : nsOkIn K nsC = true) (ni : nsIn K nsC "__init__" = some none) (h' : Heap) (X : K.In h') : OwnTail h' bmValue (.ref CE :: bmValue) := by
  subst hn
  exact .own (X _ _ h) (.of_isNs (isNs_of_in X ok)) (nsMap_none_of_in X ok ni) .base
theorem exc_cd {K : Frag} {C CE N : Addr} {nm q : Str} {bs : List Value} {sn : List Str} {sub : List Value} {ab : Bool} {col : Option Bool} {dd : Option Addr} {k0 k1 k2 k3 k5 : Option Value} {newId : String} (h : K.lookup C = some (excClassObj nm q C N bs (.ref CE :: bmValue) true sn sub ab col dd k0 k1 k2 k3 k5 newId)) :
    ∃ cd, clsIn K C = some cd ∧ cd.hasDict = true ∧ ∀ self, refuseLoop self "__setattr__" cd.mro = pure () := by
  refine ⟨_, by unfold clsIn; rw [h], rfl, fun self => ?_⟩
  show refuseLoop self "__setattr__" (.ref C :: .ref CE :: bmValue) = _
  rw [refuseLoop_ref, refuseLoop_ref]
  exact F.store_ValueError.passes self
theorem fn_false {P : Program} {w : World} {K : Frag} {mg : Str → Option Value} {base : Heap} {CX : CXT} {k : Nat} {f : Addr} {fd : FuncData} {ps : List Str} : FnOk P w K mg base CX k f fd ps (fun _ _ _ _ => False) :=
  ⟨fun _ _ _ _ z => z.elim, fun _ _ _ _ _ _ _ _ _ _ _ _ _ z => z.elim⟩
theorem cxOf_K {CX : CXT} {P : Program} {w : World} {K : PySem.W.Frag} {mg : Str → Option Value} {base : Heap} {N : List Str} {qual : Str} {scope : Scope} {f : Addr} {cd : Value} {A : Around} {outer : List Env} {s : Shared} {H : Hp} {E : XK} :
    (cxOf CX P w K mg base N qual scope f cd A outer s H E).K = K := rfl
noncomputable def sAt (l : List Stmt) (k : Nat) : Stmt := l.getD k (.Pass ⟨0, 0, 0, 0⟩)
noncomputable def inBody : Stmt → List Stmt
  | .For _ _ b _ _ => b
  | .While _ b _ _ => b
  | .If _ b _ _ => b
  | _ => []
noncomputable def inElse : Stmt → List Stmt
  | .If _ _ e _ => e
  | _ => []
end L2

set_option Elab.async false
set_option linter.all false
set_option maxRecDepth 100000
namespace L2
open PySem PySem.Spec PyProof.Rows
namespace Rv
theorem owner : Manifest.owners.lookup (String.ofList ['d', 'e', 's', 'r', 'e', 'v', 'e', 'r'].reverse) = some Manifest.sig_reversed := by kernel_rfl
theorem slot_next : Slot "reversed" "__next__" "reversed.__next__" :=
  .of (owner := "reversed") (n := "__next__") (by rw [typeLookup_type, builtinLookup_eq_fast]; kernel_rfl) (by decide +kernel) (by decide +kernel) (by decide +kernel)
    (by first | exact .inl (by decide +kernel) | exact .inr (by decide +kernel)) (by rw [isSubtype_type]; kernel_rfl)
theorem entry_next : entryFor table "reversed.__next__" = some Builtin.«reversed.__next__» := entryFor_of_tree (by kernel_rfl)
theorem args_next (a : Value) : argsOk "reversed.__next__" ⟨[a], []⟩ := by
  unfold argsOk; rw [signature?_of (id := "reversed.__next__") (n := ['_', '_', 't', 'x', 'e', 'n', '_', '_']) (o := ['d', 'e', 's', 'r', 'e', 'v', 'e', 'r']) (by kernel_rfl) owner]; kernel_rfl
theorem slot_iter : Slot "reversed" "__iter__" "reversed.__iter__" :=
  .of (owner := "reversed") (n := "__iter__") (by rw [typeLookup_type, builtinLookup_eq_fast]; kernel_rfl) (by decide +kernel) (by decide +kernel) (by decide +kernel)
    (by first | exact .inl (by decide +kernel) | exact .inr (by decide +kernel)) (by rw [isSubtype_type]; kernel_rfl)
theorem args_iter (a : Value) : argsOk "reversed.__iter__" ⟨[a], []⟩ := by
  unfold argsOk; rw [signature?_of (id := "reversed.__iter__") (n := ['_', '_', 'r', 'e', 't', 'i', '_', '_']) (o := ['d', 'e', 's', 'r', 'e', 'v', 'e', 'r']) (by kernel_rfl) owner]; kernel_rfl
theorem entry_iter : entryFor table "reversed.__iter__" = some Builtin.«dict_keyiterator.__iter__» :=
  entryFor_alias (id' := "dict_keyiterator.__iter__") (by kernel_rfl) (by first | rfl | decide +kernel | (unfold String.splitOn; simp +decide [String.splitOnAux])) (by decide +kernel) (by kernel_rfl)
theorem slot_init : Slot "reversed" "__init__" "object.__init__" :=
  .of (owner := "object") (n := "__init__") (by rw [typeLookup_type, builtinLookup_eq_fast]; kernel_rfl) (by decide +kernel) (by decide +kernel) (by decide +kernel)
    (by first | exact .inl (by decide +kernel) | exact .inr (by decide +kernel)) (by rw [isSubtype_type]; kernel_rfl)
theorem called : TypeCalled "reversed" "reversed.__new__" "object.__init__" :=
  ⟨by decide +kernel, by decide +kernel, ⟨_, _, F.mro_reversed⟩, F.made_reversed, by decide +kernel, by rw [isSubtype_type]; kernel_rfl, slot_init⟩
theorem tuple_no_rev : typeLookup (.type "tuple") "__reversed__" = pure none := by rw [typeLookup_type, builtinLookup_eq_fast]; kernel_rfl
theorem tuple_no_dict : isSubtype (.type "tuple") (.type "dict") = pure false := by rw [isSubtype_type]; kernel_rfl
end Rv
end L2

set_option Elab.async false
set_option linter.all false
set_option maxRecDepth 100000
namespace L2
open PySem PySem.Spec PyProof.Rows
section
variable {prog : Program} {w : World} {A : Around} {E : Value → Shared → Prop} {s : Shared}
noncomputable def revT (l : Addr) (i : Int) : Obj := { cls := .type "reversed", data := .fields #[.ref l, rawInt i] }
noncomputable def IsRevT (h : Heap) (a l : Addr) (i : Int) : Prop := ∃ o, h.get? a = some o ∧ o.cls = .type "reversed" ∧ o.data = .fields #[.ref l, rawInt i]
theorem IsRevT.typeIs {a l : Addr} {i : Int} (x : IsRevT s.heap a l i) : s.TypeIs (.ref a) "reversed" := let ⟨o, ho, hc, _⟩ := x; ⟨o, ho, hc⟩
theorem IsRevT.at {h h' : Heap} {a l : Addr} {i : Int} (x : IsRevT h a l i) (e : ∀ o, h.get? a = some o → h'.get? a = some o) : IsRevT h' a l i := let ⟨o, ho, r⟩ := x; ⟨o, e _ ho, r⟩
theorem code_revT {l : Addr} {items : Array Value} {Q₁ : Value → Shared → Prop} (hl : s.heap.IsTuple l items) (hfit : (items.size : Int) < 2 ^ 63)
    (h : ∀ tk, Q₁ (.ref s.heap.objs.size) { s with heap := s.heap.push (revT l ((items.size : Int) - 1)), toks := tk }) :
    codeAny (model prog w) A (.call (.builtin "reversed.__new__") ⟨[.type "reversed", .ref l], []⟩) (wants Q₁ E) s := by
  have hT : s.TypeIs (.ref l) "tuple" := by obtain ⟨o, ho, hc, _⟩ := hl; exact ⟨o, ho, hc⟩
  refine codeAny_of_tree ?_
  show wpAny _ A.in1 (do checkBuiltinCall "reversed.__new__" ⟨[.type "reversed", .ref l], []⟩; again (.builtin "reversed.__new__" ⟨[.type "reversed", .ref l], []⟩)) _ _ s
  refine wpAny_bind (wpAny_of_eq (F.newCall_reversed_1 _) (wpAny_pure ⟨plainId_quiet F.plain_reversed_new _, codeAny_builtin F.entry_reversed_new ?_⟩))
  rw [Around.under_plainId F.plain_reversed_new _]
  unfold Builtin.«reversed.__new__»
  refine wpAny_bind (wpAny_of_eq (newClass_reversed _) ?_)
  try dsimp only
  refine wpAny_bind (wpAny_of_eq (a := ()) (by first | rfl | kernel_rfl) ?_)
  refine wpAny_bind (wpAny_of_eq (a := ()) (by first | rfl | kernel_rfl) ?_)
  try dsimp only
  refine wpAny_bind (wpAny_specialOf hT Rv.tuple_no_rev ?_)
  try dsimp only
  refine wpAny_bind ?_
  show wpAny _ _ (isInstance (.ref l) (.type "dict") >>= _) _ _ s
  refine wpAny_bind (wpAny_isInstance hT Rv.tuple_no_dict ?_)
  try dsimp only
  show wpAny _ _ (specialOf (.ref l) "__getitem__" >>= _) _ _ s
  refine wpAny_bind (wpAny_specialOf hT F.slot_tuple_getitem.lookup ?_)
  try dsimp only
  show wpAny _ _ (if (["tuple.__getitem__", "str.__getitem__", "bytes.__getitem__", "bytearray.__getitem__", "memoryview.__getitem__", "numpy.ndarray.__getitem__", "sqlite3.Row.__getitem__"].contains "tuple.__getitem__") = true then _ else _) _ _ s
  rw [if_pos (by decide)]
  refine wpAny_pure ?_
  try dsimp only
  rw [if_neg (show ¬ ((!true) = true) from Bool.false_ne_true)]
  refine wpAny_bind (len_tuple hl hfit ?_)
  refine wpAny_bind (wpAny_of_eq (a := some (items.size : Int)) rfl ?_)
  try dsimp only
  refine wpAny_bind ?_
  show wpAny _ _ (newObj (.type "reversed") (.fields #[.ref l, rawInt ((items.size : Int) - 1)])) _ _ _
  refine wpAny_newObj_type ?_ (by size_fits)
  exact wpAny_pure (h _)
theorem call_revT {l : Addr} {items : Array Value} {Q : Value → Shared → Prop} (hl : s.heap.IsTuple l items) (hfit : (items.size : Int) < 2 ^ 63)
    (h : ∀ tk, Q (.ref s.heap.objs.size) { s with heap := s.heap.push (revT l ((items.size : Int) - 1)), toks := tk }) : wpAny (model prog w) A (call (.type "reversed") [.ref l]) Q E s := by
  refine callType_codes (Q₁ := fun obj s₁ => obj = .ref s.heap.objs.size ∧ ∃ tk, s₁ = { s with heap := s.heap.push (revT l ((items.size : Int) - 1)), toks := tk }) Rv.called (F.typeCall_reversed_1 _) F.entry_object_init (code_revT hl hfit fun tk => ⟨rfl, tk, rfl⟩) ?_
  rintro obj s₁ ⟨rfl, tk, rfl⟩
  have hT : Shared.TypeIs { s with heap := s.heap.push (revT l ((items.size : Int) - 1)), toks := tk } (.ref s.heap.objs.size) "reversed" := ⟨_, Heap.get?_push_size _ rfl, rfl⟩
  exact ⟨hT, F.args_object_init_2 _ _, object_init_meets Rv.called.init.lookup Rv.called.made (by decide) prog w A.in1 _ _ ⟨hT, rfl, h tk⟩⟩
theorem next_revT_item {it l : Addr} {i : Nat} {items : Array Value} {x : Value} {Q : Option Value → Shared → Prop} (hit : IsRevT s.heap it l (i : Int)) (hl : s.heap.IsTuple l items) (hx : items[i]? = some x) (hfit : (items.size : Int) < 2 ^ 63)
    (hQ : ∀ h' tk, IsRevT h' it l ((i : Int) - 1) → Heap.SameBut it s.heap h' → Q (some x) { s with heap := h', toks := tk }) : wpAny (model prog w) A (pyNext (.ref it)) Q E s := by
  obtain ⟨o, ho, hc, hd⟩ := id hit
  have hT : s.TypeIs (.ref l) "tuple" := by obtain ⟨o, ho, hc, _⟩ := hl; exact ⟨o, ho, hc⟩
  have hi : i < items.size := (Array.getElem?_eq_some_iff.mp hx).1
  unfold pyNext
  refine wpAny_bind (wpAny_attempt (wpAny_callSpecial?_slot (name := Str.ofString "__next__") hit.typeIs Rv.slot_next
    (wpAny_call_entry Rv.slot_next hit.typeIs Rv.entry_next ?_ (Rv.args_next _))))
  unfold Builtin.«reversed.__next__»
  refine wpAny_bind (wpAny_of_eq (a := (Value.ref it, [])) rfl ?_)
  try dsimp only
  refine wpAny_bind (wpAny_field ho hd (x := .ref l) rfl ?_)
  refine wpAny_bind (wpAny_field ho hd (x := rawInt (i : Int)) rfl ?_)
  show wpAny _ _ (if (i : Int) < 0 then _ else _) _ _ s
  rw [if_neg (by (first | lia | omega))]
  show wpAny _ _ (specialOf (.ref l) "__getitem__" >>= _) _ _ s
  refine wpAny_bind (wpAny_specialOf hT F.slot_tuple_getitem.lookup ?_)
  try dsimp only
  rw [if_neg (show ¬ ((some (Value.builtin "tuple.__getitem__")).isNone = true) from Bool.false_ne_true)]
  refine wpAny_bind (wpAny_mkInt ?_)
  refine wpAny_bind (wpAny_attempt (getItem_tuple (j := i) hl (by (first | lia | omega)) (by (first | lia | omega)) ?_ hx ?_))
  · unfold seqIndex?
    have e : ¬ ((i : Int) < 0) := by (first | lia | omega)
    simp only [if_neg e]
    simp [hi]
  try dsimp only
  refine wpAny_bind (wpAny_field ho hd (x := rawInt (i : Int)) rfl ?_)
  show wpAny _ _ (setField (.ref it) 1 (rawInt ((i : Int) - 1)) >>= _) _ _ _
  refine wpAny_bind (wpAny_setField ho hd (by simp) (wpAny_pure ⟨x, rfl, wpAny_pure (hQ _ _ ?_ (Heap.SameBut.update ..))⟩))
  exact ⟨_, Heap.get?_update_self _ ho (Obj.isFreed_of_fields (Obj.data_mapFields hd _)), (Obj.cls_mapFields ..).trans hc, by
    rw [Obj.data_mapFields hd]; simp⟩
theorem next_revT_end {it l : Addr} {Q : Option Value → Shared → Prop} (hh : A.handled = none) (hit : IsRevT s.heap it l (-1))
    (hQ : ∀ h', Heap.ExtBut it s.heap h' → Q none { s with heap := h' }) : wpAny (model prog w) A (pyNext (.ref it)) Q E s := by
  obtain ⟨o, ho, hc, hd⟩ := id hit
  unfold pyNext
  refine wpAny_bind (wpAny_attempt (wpAny_callSpecial?_slot (name := Str.ofString "__next__") hit.typeIs Rv.slot_next
    (wpAny_call_entry Rv.slot_next hit.typeIs Rv.entry_next ?_ (Rv.args_next _))))
  unfold Builtin.«reversed.__next__»
  refine wpAny_bind (wpAny_of_eq (a := (Value.ref it, [])) rfl ?_)
  try dsimp only
  refine wpAny_bind (wpAny_field ho hd (x := .ref l) rfl ?_)
  refine wpAny_bind (wpAny_field ho hd (x := rawInt (-1)) rfl ?_)
  show wpAny _ _ (if (-1 : Int) < 0 then _ else _) _ _ s
  rw [if_pos (by decide)]
  refine wpAny_bind (wpAny_rule ?_)
  refine wpAny_bind ?_
  show wpAny _ _ (setField (.ref it) 1 (rawInt (-1)) >>= _) _ _ s
  refine wpAny_bind (wpAny_setField ho hd (by simp) ?_)
  have hd3 := Obj.data_mapFields hd (·.setIfInBounds 1 (rawInt (-1)))
  have gx3 := Heap.get?_update_self (Obj.mapFields (·.setIfInBounds 1 (rawInt (-1)))) ho (Obj.isFreed_of_fields hd3)
  refine wpAny_setField gx3 hd3 (by simp) ?_
  refine wpAny_bind ?_
  show wpAny _ _ (newExc (.type "StopIteration") [] >>= _) _ _ _
  refine wpAny_bind ?_
  simp only [newExc, newTuple]
  refine wpAny_bind (wpAny_newObj_type ?_ (by size_fits))
  refine wpAny_bind (m := firstArgMember _ _) (wpAny_of_eq (a := Value.none) (by first | rfl | (simp only [firstArgMember]; rfl)) ?_)
  refine wpAny_newObj_type ?_ (by size_fits)
  simp only [raiseNew]
  refine wpAny_bind (wpAny_handled ?_)
  first | rw [show A.in1.handled = none from hh] | rw [hh]
  refine wpAny_bind (wpAny_pure (wpAny_throw ?_))
  refine wpAny_bind (wpAny_isInstance (T := "StopIteration") (b := true) ⟨_, Heap.get?_push_size _ rfl, rfl⟩ isSubtype_stop ?_)
  refine wpAny_pure (hQ _ (fun b ob hb e => Heap.get?_push_of_some _ (Heap.get?_push_of_some _ ?_)))
  rw [Heap.get?_update_other _ _ (Ne.symm hb), Heap.get?_update_other _ _ (Ne.symm hb)]
  exact e
theorem iter_revT {it l : Addr} {i : Int} {Q : Value → Shared → Prop} (hit : IsRevT s.heap it l i) (h : Q (.ref it) s) : wpAny (model prog w) A (pyIter (.ref it)) Q E s := by
  refine wpAny_pyIter_slot hit.typeIs Rv.slot_iter (wpAny_call_entry Rv.slot_iter hit.typeIs Rv.entry_iter ?_ (Rv.args_iter _))
  show wpAny _ _ (ret (.ref it)) _ _ s
  exact wpAny_pure ⟨_, rfl, "reversed", _, hit.typeIs, Rv.slot_next.lookup, h⟩
end
noncomputable def Itv (K : PySem.W.Frag) (a : Addr) (n : Nat) : It :=
  ⟨fun i H => ∃ xs x, SqT K H a xs ∧ xs.length = n ∧ xs.reverse[i]? = some x, fun i H x H' => H' = H ∧ ∀ xs, SqT K H a xs → xs.reverse[i]? = some x, fun i H => (∃ xs, SqT K H a xs ∧ xs.length = n) ∧ n ≤ i⟩
theorem turn_rev {P : Program} {w : World} {K : PySem.W.Frag} {tg : Expr} (a it : Addr) (n : Nat) : Turn P w K tg (Itv K a n) [it] it (fun i h => i ≤ n ∧ IsRevT h it a ((n : Int) - 1 - (i : Int))) where
  mem := by simp
  obj := fun i h st b hb => by
    have e : b = it := by simpa using hb
    subst e
    obtain ⟨_, o, e, c, d⟩ := st
    exact ⟨o, e, fun v z => by rw [d] at z; cases z⟩
  keep := fun i h h' st k => ⟨st.1, st.2.at fun o e => k it (by simp) o e⟩
  item := by
    intro X hP hw hK hc i pins s σ H E I hf st hg
    subst hP hw hK
    obtain ⟨xs, x, hq, hn, hx⟩ := hg
    obtain ⟨its, rv, p, hz⟩ := I.tuple hq
    have hi : i < xs.length := by
      have := (List.getElem?_eq_some_iff.mp hx).1
      simpa using this
    have hx' : xs[n - 1 - i]? = some x := by
      rw [List.getElem?_reverse hi, hn] at hx
      exact hx
    obtain ⟨u, hu, ru⟩ := rv.get hx'
    obtain ⟨f0, f1, f2, f3, f4, f5⟩ := hf it (by simp)
    have e1 : (n : Int) - 1 - (i : Int) = ((n - 1 - i : Nat) : Int) := by (first | lia | omega)
    have hl := rv.length
    have h63 := line63
    refine next_revT_item (i := n - 1 - i) (by rw [← e1]; exact st.2) (show s.heap.IsTuple a its.toArray from p) (x := u) (by simpa using hu) (by simp only [List.size_toArray]; (first | lia | omega)) fun h' tk st' sb => ?_
    have I1 : Inv X pins σ H { s with heap := h', toks := tk } := I.turned (t' := tk) (fun b o hb e => (sb.2 b hb).trans e) f0 f1 f3 f4 f5
    obtain ⟨o, e, c, d⟩ := id st'
    have e2 : ((n - 1 - i : Nat) : Int) - 1 = (n : Int) - 1 - ((i + 1 : Nat) : Int) := by (first | lia | omega)
    rw [e2] at st'
    exact ⟨u, rfl, go_of (s := { s with heap := h', toks := tk }) e c d (by decide) ⟨x, H, I1, ru, ⟨rfl, fun ys hy => by rw [I.tuple_inj hy hq]; exact hx⟩, ⟨by (first | lia | omega), st'⟩, fun b hb => (hf b hb).1⟩⟩
  done := by
    intro X hP hw hK hc i pins s σ H E I hf st hg
    subst hP hw hK
    obtain ⟨f0, f1, f2, f3, f4, f5⟩ := hf it (by simp)
    have hi : i = n := by have := st.1; have := hg.2; (first | lia | omega)
    have e1 : (n : Int) - 1 - (i : Int) = -1 := by (first | lia | omega)
    have st2 := st.2
    rw [e1] at st2
    exact next_revT_end (I.ok.hd hc) st2 fun h' eb => ⟨rfl, I.turned (t' := s.toks) (fun b o hb e => eb b o hb e) f0 f1 f3 f4 f5⟩
  self := fun _ _ _ _ _ st h => iter_revT st.2 h
noncomputable def iRev (K : PySem.W.Frag) (ta : TA) : TI := fun σ H R => ta σ H fun vs H1 => ∃ a xs, vs = [.ref a] ∧ SqT K H1 a xs ∧ R (Itv K a xs.length) H1
theorem pi_rev {X : Cx} {tg a : Expr} {ta : TA} {p pos : Pos} (hg : Gl X "reversed") (hm : X.mg "reversed" = none) (ha : PA X [a] ta) (hs : starEach [a] X.env = [(false, eval a X.env)] := by rfl) : PI X tg (.Call (.Name "reversed" p) [a] [] pos) (iRev X.K ta) := by
  refine ⟨?_⟩
  intro pins s σ H R I h
  refine Call_ (ld_blt I hg hm bt_reversed (PyProof.Rows.callWith_type1 (thn (ha pos pins s σ H _ I h) fun us s1 ⟨vs, H1, I1, r1, q1⟩ => ?_) hs rfl))
  obtain ⟨b, xs, e, hq, q⟩ := q1
  subst e
  cases r1 with
  | cons r rr =>
    cases rr
    cases r
    obtain ⟨its, rv, pl, hz⟩ := I1.tuple hq
    have hl := rv.length
    have h63 := line63
    refine call_revT (show s1.heap.IsTuple b its.toArray from pl) (by simp only [List.size_toArray]; (first | lia | omega)) fun tk => ?_
    have I2 : Inv X pins σ H1 { s1 with heap := s1.heap.push (revT b (((its.toArray).size : Int) - 1)), toks := tk } := I1.kept fun b o e => Heap.get?_push_of_some _ e
    have st : IsRevT (s1.heap.push (revT b (((its.toArray).size : Int) - 1))) s1.heap.objs.size b ((xs.length : Int) - 1 - ((0 : Nat) : Int)) := ⟨_, Heap.get?_push_size _ rfl, rfl, by rw [List.size_toArray, hl]; simp [revT]⟩
    refine iter_revT (s := { s1 with heap := s1.heap.push (revT b (((its.toArray).size : Int) - 1)), toks := tk }) st ?_
    refine ⟨s1.heap.objs.size, [s1.heap.objs.size], _, _, H1, rfl, I2, turn_rev b _ xs.length, ⟨Nat.zero_le _, st⟩, fun c hc => ?_, q⟩
    have e : c = s1.heap.objs.size := by simpa using hc
    subst e
    exact I1.fpOk (Nat.le_refl _) (I1.hok.fresh (Nat.le_refl _))
theorem for_rev {K : PySem.W.Frag} {a : Addr} {xs : List V} {g : TG} {tb : TS} {D : Ends} {σ : St} {H : Hp} (Pv : Nat → St → Hp → Prop) (h0 : Pv 0 σ H) (hl : ∀ i σ H, i ≤ xs.length → Pv i σ H → SqT K H a xs)
    (hs : ∀ i x σ H, xs.reverse[i]? = some x → Pv i σ H → g x σ H fun σ2 H2 => tb { D with nx := Pv (i + 1), ct := Pv (i + 1), bk := D.nx } σ2 H2) (hd : ∀ σ H, Pv xs.length σ H → D.nx σ H) :
    ∃ W : Nat → Nat → St → Hp → Prop, (∃ m, W 0 m σ H) ∧ ∀ i m σ H, W i m σ H →
      ((Itv K a xs.length).stop i H ∧ D.nx σ H) ∨ ((Itv K a xs.length).go i H ∧ ∃ N : St → Hp → Prop, (∀ σ' H', N σ' H' → ∃ m', m' < m ∧ W (i + 1) m' σ' H') ∧ ∀ x H', (Itv K a xs.length).yld i H x H' → g x σ H' fun σ2 H2 => tb { D with nx := N, ct := N, bk := D.nx } σ2 H2) := by
  refine ⟨fun i m σ H => m = xs.length - i ∧ i ≤ xs.length ∧ Pv i σ H, ⟨xs.length, by simp, Nat.zero_le _, h0⟩, ?_⟩
  rintro i m σ H ⟨rfl, hi, p⟩
  have q := hl i σ H hi p
  by_cases hlt : i < xs.length
  · refine .inr ⟨⟨xs, xs.reverse[i]'(by simpa using hlt), q, rfl, by simp [hlt]⟩, Pv (i + 1), fun σ' H' p' => ⟨xs.length - (i + 1), by (first | lia | omega), rfl, hlt, p'⟩, fun x H' y => ?_⟩
    obtain ⟨e, y⟩ := y
    subst e
    exact hs i x σ _ (y xs q) p
  · have e : i = xs.length := by (first | lia | omega)
    subst e
    exact .inl ⟨⟨⟨xs, q, rfl⟩, Nat.le_refl _⟩, hd σ H p⟩
end L2

set_option Elab.async false
set_option linter.all false
set_option maxRecDepth 100000
namespace L2
open PySem
mutual
noncomputable def pre : Nd → List Nd
  | .mk k p own ps => .mk k p own ps :: preL ps
noncomputable def preL : List Nd → List Nd
  | [] => []
  | a :: r => pre a ++ preL r
end
theorem preL_append : ∀ (xs ys : List Nd), preL (xs ++ ys) = preL xs ++ preL ys
  | [], ys => by simp [preL]
  | a :: r, ys => by simp [preL, preL_append r ys]
theorem pre_pos : ∀ n : Nd, 1 ≤ (pre n).length
  | .mk k p own ps => by simp [pre]
theorem preL_len : ∀ xs : List Nd, xs.length ≤ (preL xs).length
  | [] => by simp [preL]
  | a :: r => by
    have := pre_pos a
    have := preL_len r
    simp [preL]; (first | lia | omega)
theorem preL_rev_len : ∀ xs : List Nd, (preL xs.reverse).length = (preL xs).length
  | [] => rfl
  | a :: r => by simp [preL, preL_append, preL_rev_len r]; (first | lia | omega)
theorem NodeAt.more {H : Hp} : ∀ {d : Nat} {v : V} {n : Nd}, NodeAt H d v n → NodeAt H (d + 1) v n
  | 0, _, _, z => z.elim
  | d + 1, v, .mk k p own ps, ⟨t, o, q, vs, e, h1, h2, h3, r⟩ => ⟨t, o, q, vs, e, h1, h2, h3, Paired.imp (fun _ _ z => NodeAt.more z) r⟩
theorem parts_count {f : Nat → Except Bad (Nd × Nat)} (hf : ∀ p nd z, f p = .ok (nd, z) → p + (pre nd).length ≤ z) : ∀ {n p z : Nat} {ps : List Nd}, partsM f n p = .ok (ps, z) → p + (preL ps).length ≤ z
  | 0, _, _, _, h => by cases h; simp [preL]
  | n + 1, p, z, ps, h => by
    cases ps with
    | nil => exact absurd (parts_nil h).1 (by (first | lia | omega))
    | cons a ps =>
      obtain ⟨q, e1, e2⟩ := parts_cons h
      have := hf _ _ _ e1
      have := parts_count hf e2
      simp [preL]; (first | lia | omega)
theorem node_count {ns : List Int} {hs : Hds} {boxes : Int} : ∀ {d p z : Nat} {nd : Nd}, nodeM ns hs boxes d p = .ok (nd, z) → p + (pre nd).length ≤ z
  | 0, _, _, _, h => by cases h
  | d + 1, p, z, nd, h => by
    obtain ⟨k, own, ps, rfl, k0, k1, ek, eo, ep⟩ := node_ok h
    have := parts_count (fun p nd z e => node_count (d := d) e) ep
    simp [pre]; (first | lia | omega)
theorem bodies_count {ns : List Int} {hs : Hds} : ∀ {todo : Hds} {p z : Nat} {nds : List Nd}, bodiesM ns hs todo p = .ok (nds, z) → p + (preL nds).length ≤ z
  | [], _, _, _, h => by cases h; simp [preL]
  | x :: todo, p, z, nds, h => by
    obtain ⟨nd, r, q, rfl, e1, e2⟩ := bodies_cons h
    have := node_count e1
    have := bodies_count e2
    simp [preL]; (first | lia | omega)
theorem fns_count {ns : List Int} {r : Hds × List Nd} (h : functionsM ns = .ok r) : (preL r.2).length ≤ ns.length := by
  have := bodies_count (fns_ok h).2.1
  (first | lia | omega)
noncomputable def spNodesIn : Sp := fun vs H Q _ => ∃ v nd, vs = [v] ∧ NodeAt H 10 v nd ∧ (pre nd).length ≤ 1000000 ∧ ∀ l us H', Same H H' → H l = none → H' l = some (.lst us) → Paired (NodeAt H' 10) us (pre nd) → Q (.ref l) H'
noncomputable def spNodes (CN : Addr) : Sp := fun vs H Q E => ∃ a ns, vs = [.ref a] ∧ H a = some (.lst (ns.map V.int)) ∧ ns.length ≤ 1000000 ∧
  Tells (functionsM ns) (fun r => ∀ l us H', Same H H' → H l = none → H' l = some (.lst us) → Paired (NodeAt H' 10) us (preL r.2) → Q (.ref l) H') (fun p w => ∀ d H', Same H H' → H' d = some (XdO d [("place", .int p), ("word", .str w)]) → E (.ref CN) (some d) H')
theorem Paired.append {α β : Type} {F : α → β → Prop} : ∀ {xs zs : List α} {ys ws : List β}, Paired F xs ys → Paired F zs ws → Paired F (xs ++ zs) (ys ++ ws)
  | _, _, _, _, .nil, q => q
  | _, _, _, _, .cons r t, q => .cons r (Paired.append t q)
theorem Paired.rev {α β : Type} {F : α → β → Prop} : ∀ {xs : List α} {ys : List β}, Paired F xs ys → Paired F xs.reverse ys.reverse
  | _, _, .nil => .nil
  | _, _, .cons r t => by
    rw [List.reverse_cons, List.reverse_cons]
    exact Paired.append (Paired.rev t) (.cons r .nil)
theorem Paired.unsnoc {α β : Type} {F : α → β → Prop} : ∀ {xs : List α} {x : α} {ys : List β}, Paired F (xs ++ [x]) ys → ∃ ys' y, ys = ys' ++ [y] ∧ Paired F xs ys' ∧ F x y
  | [], x, _, .cons r .nil => ⟨[], _, rfl, .nil, r⟩
  | a :: xs, x, _, .cons r t => by
    obtain ⟨ys', y, rfl, p, f⟩ := Paired.unsnoc t
    exact ⟨_ :: ys', y, rfl, .cons r p, f⟩
theorem Same.fresh {H H' : Hp} {p : Addr} {o : HO} (s : Same H H') (h : H p = none) : Same H (upd H' p o) := fun b u e => by rw [upd_ne (ne_of_none e h)]; exact s b u e
section
open PySem.Spec PyProof.Rows
variable {X : Cx} {e : Expr} {st : Option Expr} {te : TE} {ts : TO} {p2 pos : Pos}
noncomputable def tRevL (K : PySem.W.Frag) (te : TE) (ts : TO) : TE := fun σ H Q => te σ H fun x H1 => ts σ H1 fun k H2 => k = some (-1) ∧ ∃ a xs, x = .ref a ∧ SqL K H2 a xs ∧ ∀ p, H2 p = none → Q (.ref p) (upd H2 p (.lst xs.reverse))
noncomputable def rNeNil (K : PySem.W.Frag) : R2 := fun x y H Q => ∃ a b xs, x = .ref a ∧ y = .ref b ∧ SqL K H a xs ∧ SqL K H b [] ∧ Q (.bl (!xs.isEmpty)) H
theorem op_neNil {k : Nat} (hr : Room k X.A) : OpR X (compareOp .NotEq) (rNeNil X.K) := by
  intro pins s σ H x y v u Q I rx ry h
  obtain ⟨a, b, xs, rfl, rfl, ha, hb, q⟩ := h
  cases rx; cases ry
  have hu := hr.un
  obtain ⟨us, r, pa, _⟩ := I.list ha
  obtain ⟨vs, q', pb, _⟩ := I.list hb
  cases q'
  cases xs with
  | nil =>
    cases r
    have := SeqAt.RcNeAt.lists (A := X.A) (s := s) (e := fun _ => true) pa.isList pb.isList rfl (by (first | lia | omega)) (fun j h1 h2 => absurd h1 (by simp))
    exact this _ _ _ _ ⟨.bl false, H, I, rfl, q⟩
  | cons z zs =>
    cases r with
    | cons r1 r2 =>
      have := SeqAt.RcNeAt.lists_lengths (A := X.A) (s := s) pa.isList pb.isList (by simp) (by (first | lia | omega))
      exact this _ _ _ _ ⟨.bl true, H, I, rfl, q⟩
end
noncomputable def Cov (ns : List Int) : Nat → List Nd → Nat → Prop
  | p, [], z => p = z
  | p, .mk k q own _ :: r, z => q = p ∧ ns[p]? = some k ∧ Sub ns (p + 1) own ∧ Cov ns (p + 1 + own.length) r z
end L2

set_option Elab.async false
set_option linter.all false
set_option maxRecDepth 100000
namespace L2
open PySem
noncomputable def stackM (ns : List Int) (hs : Hds) : List (Nat × Int) → Nat → Except Bad Nat
  | [], p => .ok p
  | x :: r, p => match nodeM ns hs x.2 x.1 p with
    | .error b => .error b
    | .ok a => stackM ns hs r a.2
theorem stack_parts {ns : List Int} {hs : Hds} {d : Nat} {b : Int} {r : List (Nat × Int)} : ∀ (n p : Nat), stackM ns hs (List.replicate n (d, b) ++ r) p = match partsM (nodeM ns hs b d) n p with
    | .error e => .error e
    | .ok x => stackM ns hs r x.2
  | 0, p => rfl
  | n + 1, p => by
    rw [List.replicate_succ, List.cons_append]
    conv => lhs; unfold stackM
    conv => rhs; unfold partsM
    simp only
    cases nodeM ns hs b d p with
    | error e => rfl
    | ok a =>
      simp only
      rw [stack_parts n a.2]
      cases partsM (nodeM ns hs b d) n a.2 with
      | error e => rfl
      | ok x => rfl
theorem stack_deep {ns : List Int} {hs : Hds} {b : Int} {r : List (Nat × Int)} {p : Nat} : stackM ns hs ((0, b) :: r) p = .error (p, "deep") := rfl
theorem stack_kind {ns : List Int} {hs : Hds} {d : Nat} {b : Int} {r : List (Nat × Int)} {p : Nat} {e : Bad} (h : withinM ns p 0 19 = .error e) : stackM ns hs ((d + 1, b) :: r) p = .error e := by
  unfold stackM nodeM
  simp only
  rw [h]
theorem stack_own {ns : List Int} {hs : Hds} {d : Nat} {b k : Int} {r : List (Nat × Int)} {p : Nat} {e : Bad} (h : withinM ns p 0 19 = .ok k) (h2 : ownM ns hs b k (p + 1) = .error e) : stackM ns hs ((d + 1, b) :: r) p = .error e := by
  unfold stackM nodeM
  simp only
  rw [h]; simp only
  rw [h2]
theorem stack_step {ns : List Int} {hs : Hds} {d : Nat} {b k : Int} {r : List (Nat × Int)} {p : Nat} {own : List Int} (h : withinM ns p 0 19 = .ok k) (h2 : ownM ns hs b k (p + 1) = .ok own) :
    stackM ns hs ((d + 1, b) :: r) p = stackM ns hs (List.replicate (dueM hs k own).toNat (d, b) ++ r) (p + 1 + own.length) := by
  rw [stack_parts]
  conv => lhs; unfold stackM nodeM
  simp only
  rw [h]; simp only
  rw [h2]; simp only
  cases partsM (nodeM ns hs b d) (dueM hs k own).toNat (p + 1 + own.length) with
  | error e => rfl
  | ok x => rfl
theorem stack_bodies {ns : List Int} {hs : Hds} : ∀ (todo : Hds) (p : Nat), stackM ns hs (todo.map fun h => (10, h.2)) p = match bodiesM ns hs todo p with
    | .error e => .error e
    | .ok x => .ok x.2
  | [], p => rfl
  | h :: r, p => by
    rw [List.map_cons]
    unfold stackM bodiesM
    simp only
    cases nodeM ns hs h.2 10 p with
    | error e => rfl
    | ok a =>
      simp only
      rw [stack_bodies r a.2]
      cases bodiesM ns hs r a.2 with
      | error e => rfl
      | ok x => rfl
noncomputable def wrongM (ns : List Int) : Option Bad := match functionsM ns with
  | .error b => some b
  | .ok _ => none
theorem wrong_heads {ns : List Int} {b : Bad} (h : headsAllM ns = .error b) : wrongM ns = some b := by
  unfold wrongM functionsM
  rw [h]
theorem wrong_bad {ns : List Int} {hs : Hds} {b : Bad} (h : headsAllM ns = .ok hs) (h2 : stackM ns hs (hs.map fun h => (10, h.2)) (1 + 2 * hs.length) = .error b) : wrongM ns = some b := by
  rw [stack_bodies] at h2
  unfold wrongM functionsM
  rw [h]; simp only
  cases e : bodiesM ns hs hs (1 + 2 * hs.length) with
  | error c => rw [e] at h2; cases h2; rfl
  | ok x => rw [e] at h2; cases h2
theorem wrong_end {ns : List Int} {hs : Hds} {z : Nat} (h : headsAllM ns = .ok hs) (h2 : stackM ns hs (hs.map fun h => (10, h.2)) (1 + 2 * hs.length) = .ok z) : wrongM ns = if z < ns.length then some (z, ("over" : Str)) else none := by
  rw [stack_bodies] at h2
  unfold wrongM functionsM
  rw [h]; simp only
  cases e : bodiesM ns hs hs (1 + 2 * hs.length) with
  | error c => rw [e] at h2; cases h2
  | ok x =>
    rw [e] at h2; cases h2
    simp only
    by_cases c : x.2 < ns.length
    · rw [if_pos c, if_pos c]
    · rw [if_neg c, if_neg c]
noncomputable def Lim (hs : Hds) (boxes k lo hi : Int) : Prop := (k = 1 ∨ k = 2) ∧ lo = 0 ∧ hi = boxes - 1 ∨ (k = 3 ∨ k = 4) ∧ lo = k - 2 ∧ hi = 12 ∨ ¬ (k = 1 ∨ k = 2 ∨ k = 3 ∨ k = 4) ∧ lo = 0 ∧ hi = (hs.length : Int) - 1
theorem own_lim {ns : List Int} {hs : Hds} {boxes k lo hi : Int} {p : Nat} (hk : k = 1 ∨ k = 2 ∨ k = 3 ∨ k = 4 ∨ k = 6) (h : Lim hs boxes k lo hi) : ownM ns hs boxes k p = oneM (withinM ns p lo hi) := by
  unfold Lim at h
  rcases hk with e | e | e | e | e <;> subst e
  · have : lo = 0 ∧ hi = boxes - 1 := by (first | lia | omega)
    rw [this.1, this.2]; rfl
  · have : lo = 0 ∧ hi = boxes - 1 := by (first | lia | omega)
    rw [this.1, this.2]; rfl
  · have : lo = 1 ∧ hi = 12 := by (first | lia | omega)
    rw [this.1, this.2]; rfl
  · have : lo = 2 ∧ hi = 12 := by (first | lia | omega)
    rw [this.1, this.2]; rfl
  · have : lo = 0 ∧ hi = (hs.length : Int) - 1 := by (first | lia | omega)
    rw [this.1, this.2]; rfl
theorem own_none {ns : List Int} {hs : Hds} {boxes k : Int} {p : Nat} (hk : ¬ (k = 0 ∨ k = 1 ∨ k = 2 ∨ k = 3 ∨ k = 4 ∨ k = 6)) : ownM ns hs boxes k p = .ok [] := by
  unfold ownM
  rw [if_neg (by (first | lia | omega)), if_neg (by (first | lia | omega)), if_neg (by (first | lia | omega)), if_neg (by (first | lia | omega)), if_neg (by (first | lia | omega))]
theorem one_end {ns : List Int} {hs : Hds} {boxes k : Int} {p : Nat} (hk : k = 0 ∨ k = 1 ∨ k = 2 ∨ k = 3 ∨ k = 4 ∨ k = 6) (h : ns.length ≤ p) : ownM ns hs boxes k p = .error (p, "end") := by
  have n : ns[p]? = none := List.getElem?_eq_none h
  unfold ownM takeM withinM
  rw [n]
  rcases hk with e | e | e | e | e | e <;> subst e <;> rfl
theorem flat_rep {α : Type} (x : α) : ∀ n : Nat, (List.replicate n [x]).flatten = List.replicate n x
  | 0 => rfl
  | n + 1 => by rw [List.replicate_succ, List.flatten_cons, flat_rep x n]; rfl
theorem paired_rep {α β : Type} {F : α → β → Prop} {x : α} {y : β} (h : F x y) : ∀ n : Nat, Paired F (List.replicate n x) (List.replicate n y)
  | 0 => .nil
  | n + 1 => .cons h (paired_rep h n)
theorem paired_app {α β : Type} {F : α → β → Prop} : ∀ {xs : List α} {ys : List β} {us : List α} {vs : List β}, Paired F xs ys → Paired F us vs → Paired F (xs ++ us) (ys ++ vs)
  | _, _, _, _, .nil, q => q
  | _, _, _, _, .cons r t, q => .cons r (paired_app t q)
end L2

set_option Elab.async false
set_option linter.all false
set_option maxRecDepth 100000
namespace L2
open PySem PySem.Spec PyProof.Rows
theorem rangeSize_down (a b : Int) : Builtin.Range.rangeSize a b (-1) = (((a - b).toNat : Nat) : Int) := by
  unfold Builtin.Range.rangeSize
  rw [if_neg (by decide)]
  by_cases c : a > b
  · rw [if_pos c]
    have : (- (-1 : Int)) = 1 := by decide
    rw [this, Int.ediv_one]
    (first | lia | omega)
  · rw [if_neg c]; (first | lia | omega)
theorem small_down {a b : Int} (ha : -(2 ^ 62) ≤ a) (ha' : a < 2 ^ 62) (hb : -(2 ^ 62) ≤ b) (hb' : b < 2 ^ 62) : Builtin.Range.small a b (-1) = true := by
  unfold Builtin.Range.small
  rw [rangeSize_down]
  simp only [Builtin.Range.rangeFitsLong, Bool.and_eq_true, Bool.or_eq_true, decide_eq_true_eq, beq_iff_eq, show ¬ ((-1 : Int) > 0) by decide, if_false]
  (first | lia | omega)
noncomputable def Itd (lo : Int) (n : Nat) : It := ⟨fun i _ => i < n, fun i H x H' => H' = H ∧ x = .int (lo - i), fun i _ => n ≤ i⟩
theorem turn_down {P : Program} {w : World} {K : PySem.W.Frag} {tg : Expr} (it : Addr) (lo : Int) (n : Nat) : Turn P w K tg (Itd lo n) [it] it (fun i h => IsRangeIter h it (lo + (i : Nat) * (-1)) ((n : Int) - (i : Nat)) (-1)) where
  mem := by simp
  obj := fun i h st b hb => by
    have e : b = it := by simpa using hb
    subst e
    exact ⟨_, st, fun v z => by
      have z' : Data.fields _ = Data.cell v := z
      cases z'⟩
  keep := fun i h h' st k => k it (by simp) _ st
  item := by
    intro X hP hw hK hc i pins s σ H E I hf st hg
    subst hP hw hK
    obtain ⟨f0, f1, f2, f3, f4, f5⟩ := hf it (by simp)
    have W := Walks.range (prog := X.prog) (w := X.w) (I.ok.hd hc) it lo (-1) n
    refine W.item i s _ _ hg st fun v h' tk hv st' kk => ?_
    obtain ⟨t, rfl⟩ := hv
    have I1 : Inv X pins σ H { s with heap := h', toks := tk } := I.turned (fun b o hb e => kk b o (by simpa using hb) e) f0 f1 f3 f4 f5
    refine ⟨_, rfl, go_of (s := { s with heap := h', toks := tk }) (n := "range_iterator") st' rfl rfl (by decide) ⟨.int (lo - i), H, I1, ⟨t, ?_⟩, ⟨rfl, rfl⟩, st', fun b hb => (hf b hb).1⟩⟩
    rw [show lo + (i : Int) * (-1) = lo - (i : Int) by (first | lia | omega)]
  done := by
    intro X hP hw hK hc i pins s σ H E I hf st hg
    subst hP hw hK
    obtain ⟨f0, f1, f2, f3, f4, f5⟩ := hf it (by simp)
    exact wpAny_pyNext_range_end (I.ok.hd hc) st (by have : n ≤ i := hg; (first | lia | omega)) fun h' eb => ⟨rfl, I.turned (t' := s.toks) (fun b o hb e => eb b o hb e) f0 f1 f3 f4 f5⟩
  self := fun _ _ _ _ _ st h => wpAny_pyIter_rangeiter st h
noncomputable def iDown (ta : TA) : TI := fun σ H R => ta σ H fun vs H1 => ∃ i j : Int, vs = [.int i, .int j, .int (-1)] ∧ (-(2 ^ 62) ≤ i ∧ i < 2 ^ 62 ∧ -(2 ^ 62) ≤ j ∧ j < 2 ^ 62) ∧ R (Itd i (i - j).toNat) H1
theorem pi_down {X : Cx} {tg a b c : Expr} {ta : TA} {p pos : Pos} (hg : Gl X "range") (hm : X.mg "range" = none) (ha : PA X [a, b, c] ta) (hs : starEach [a, b, c] X.env = (false, eval a X.env) :: starEach [b, c] X.env := by rfl) (hpl : (backTo pos (starEach [b, c] X.env)).any (·.1) = false := by rfl) :
    PI X tg (.Call (.Name "range" p) [a, b, c] [] pos) (iDown ta) := by
  refine ⟨?_⟩
  intro pins s σ H R I h
  refine Call_ (ld_blt I hg hm boot_range (PyProof.Rows.callWith_type1 (thn (ha pos pins s σ H _ I h) fun us s1 ⟨vs, H1, I1, r1, q1⟩ => ?_) hs hpl))
  obtain ⟨i, j, e, ⟨q1, q2, q3, q4⟩, q⟩ := q1
  subst e
  cases r1 with
  | cons r rr =>
    cases rr with
    | cons r' rr =>
      cases rr with
      | cons r'' rr =>
        cases rr
        obtain ⟨t, rfl⟩ := r
        obtain ⟨t', rfl⟩ := r'
        obtain ⟨t'', rfl⟩ := r''
        refine call_range_3 (by decide) ?_ (.inl (PyProof.noPylong_small (by decide)))
        refine wpAny_pyIter_range (IsRange.new ..) (small_down q1 q2 q3 q4) ?_
        have I2 : Inv X pins σ H1 { s1 with heap := s1.heap.push { cls := .type "range", data := .fields #[.int i t, .int j t', .int (-1) t''] }, toks := s1.toks } := I1.kept fun b o e => Heap.get?_push_of_some _ e
        refine ⟨_, [_], _, _, H1, rfl, I2.kept (t' := s1.toks) fun b o e => Heap.get?_push_of_some _ e, turn_down _ i (i - j).toNat, ?_, fun b hb => ?_, q⟩
        · have e1 : i + ((0 : Nat) : Int) * (-1) = i := by simp
          have e2 : (((i - j).toNat : Nat) : Int) - ((0 : Nat) : Int) = Builtin.Range.rangeSize i j (-1) := by rw [rangeSize_down]; simp
          show IsRangeIter _ _ (i + ((0 : Nat) : Int) * (-1)) ((((i - j).toNat : Nat) : Int) - ((0 : Nat) : Int)) (-1)
          rw [e1, e2]
          exact Heap.get?_push_size _ rfl
        · have e := List.mem_singleton.mp hb
          subst e
          exact I2.fpOk (Nat.le_refl _) (I2.hok.fresh (Nat.le_refl _))
theorem comp_down {lo : Int} {n : Nat} {g : TG} {tt : TT} {te : TE} {R : Hp → Prop} {p : Addr} {σ0 : St} {H0 : Hp} (Pv : Nat → St → Hp → Prop) (h0 : Pv 0 σ0 H0)
    (hs : ∀ i σ H, i < n → Pv i σ H → g (.int (lo - (i : Nat))) σ H fun σ3 H3 => tt σ3 H3 fun b H4 =>
      if b = true then te σ3 H4 fun v H5 => ∃ ys, H5 p = some (.lst ys) ∧ ys.length < sizeLine ∧ ∃ m', m' < n - i ∧ CW n Pv (i + 1) m' σ3 (upd H5 p (.lst (ys ++ [v])))
      else ∃ m', m' < n - i ∧ CW n Pv (i + 1) m' σ3 H4)
    (hd : ∀ σ H, Pv n σ H → R H) : CompGo (Itd lo n) p σ0 H0 g tt te R := by
  refine ⟨CW n Pv, ⟨_, Nat.zero_le _, rfl, h0⟩, fun i m σ' H' w => ?_⟩
  obtain ⟨hi, rfl, hp⟩ := w
  by_cases hlt : i < n
  · refine .inr ⟨hlt, fun x H2 y => ?_⟩
    obtain ⟨e, y⟩ := y
    subst e y
    exact hs i σ' _ hlt hp
  · have e : i = n := by (first | lia | omega)
    subst e
    exact .inl ⟨Nat.le_refl _, hd σ' H' hp⟩
end L2

set_option Elab.async false
set_option linter.all false
set_option maxRecDepth 100000
namespace L2
open PySem PySem.Spec PyProof.Rows

section
variable {κ : Type} [DecidableEq κ]
noncomputable def valV (kvs : List (κ × V)) (k : κ) : Option V := (kvs.find? fun kv => decide (kv.1 = k)).map (·.2)
noncomputable def putK (kvs : List (κ × V)) (k : κ) (v : V) : List (κ × V) :=
  if (kvs.any fun kv => decide (kv.1 = k)) = true then kvs.map (fun kv => if kv.1 = k then (kv.1, v) else kv) else kvs ++ [(k, v)]
noncomputable def dropK (kvs : List (κ × V)) (k : κ) : List (κ × V) := kvs.filter fun kv => decide (kv.1 ≠ k)

end


noncomputable abbrev KT (H : Hp) : List (List Key × V) → List (List Key × Addr × Value) → Prop := Paired fun p q => p.1 = q.1 ∧ H q.2.1 = some (.tup (p.1.map kV)) ∧ RelV p.2 q.2.2
section
variable {P : Program} {w : World} {H : Hp} {h : Heap} {a : Addr}
end

noncomputable def DGet (H : Hp) (a : Addr) (y : V) (r : Option V) : Prop :=
  (∃ kvs k, Rd H a (.dK kvs) ∧ y = kV k ∧ r = valV kvs k) ∨ ∃ kvs k b, Rd H a (.dT kvs) ∧ y = .ref b ∧ H b = some (.tup (k.map kV)) ∧ r = valV kvs k
noncomputable def DPut (H : Hp) (a : Addr) (y v : V) (H' : Hp) : Prop :=
  (∃ kvs k, H a = some (.dK kvs) ∧ y = kV k ∧ kvs.length < sizeLine ∧ H' = upd H a (.dK (putK kvs k v))) ∨
  ∃ kvs k b, H a = some (.dT kvs) ∧ y = .ref b ∧ H b = some (.tup (k.map kV)) ∧ kvs.length < sizeLine ∧ H' = upd H a (.dT (putK kvs k v))
section
variable {X : Cx} {pins : List (Addr × Obj)} {σ : St} {H : Hp} {s : Shared} {a : Addr} {y v : V} {u r : Value} {o : Option V} {A : Around} {E : Value → Shared → Prop}

end

section
variable {X : Cx} {pins : List (Addr × Obj)} {σ : St} {H : Hp} {s : Shared} {a : Addr} {kvs : List (Key × V)} {k : Key} {u : Value} {A : Around} {E : Value → Shared → Prop}
end


noncomputable def NoSl (i : Expr) : Prop := ∀ ov iv, subscripted i false ov iv = operate [ov, iv] (getItem ov iv)
noncomputable def tDGet (td ty : TE) : TE := fun σ H Q => td σ H fun x H1 => ty σ H1 fun y H2 => ∃ a v, x = .ref a ∧ DGet H2 a y (some v) ∧ Q v H2
noncomputable def tDIn (ty td : TE) : TE := fun σ H Q => ty σ H fun y H1 => td σ H1 fun x H2 => ∃ a o, x = .ref a ∧ DGet H2 a y o ∧ Q (.bl o.isSome) H2
noncomputable def tDNotIn (ty td : TE) : TE := fun σ H Q => ty σ H fun y H1 => td σ H1 fun x H2 => ∃ a o, x = .ref a ∧ DGet H2 a y o ∧ Q (.bl (!o.isSome)) H2
noncomputable def sDPut (td ty tv : TE) : TS := fun D σ H => tv σ H fun v H1 => td σ H1 fun x H2 => ty σ H2 fun y H3 => ∃ a H4, x = .ref a ∧ DPut H3 a y v H4 ∧ D.nx σ H4
noncomputable def sDAug (td ty tv : TE) (rd : V → V → Hp → VK → Prop) : TS := fun D σ H => td σ H fun x H1 => ty σ H1 fun y H2 => ∃ a v, x = .ref a ∧ DGet H2 a y (some v) ∧
  tv σ H2 fun y2 H3 => rd v y2 H3 fun z H4 => ∃ H5, DPut H4 a y z H5 ∧ D.nx σ H5
noncomputable def sDDel (td ty : TE) : TS := fun D σ H => td σ H fun x H1 => ty σ H1 fun y H2 => ∃ a kvs k, x = .ref a ∧ H2 a = some (.dK kvs) ∧ y = kV k ∧ (valV kvs k).isSome = true ∧ D.nx σ (upd H2 a (.dK (dropK kvs k)))

section
variable {X : Cx} {o i e value : Expr} {pos pos' tpos : Pos} {td ty tv : TE}
end


noncomputable def tDNewK : TE := fun _ H Q => ∀ p, H p = none → Q (.ref p) (upd H p (.dK []))
noncomputable def tDNewT : TE := fun _ H Q => ∀ p, H p = none → Q (.ref p) (upd H p (.dT []))
section
variable {X : Cx} {pos : Pos}
end

noncomputable def tPairs : List (TE × TE) → St → Hp → (List (V × V) → Hp → Prop) → Prop
  | [], _, H, Q => Q [] H
  | (tk, tv) :: r, σ, H, Q => tk σ H fun x H1 => tv σ H1 fun y H2 => tPairs r σ H2 fun ps H3 => Q ((x, y) :: ps) H3
noncomputable abbrev VV : List (V × V) → List (Value × Value) → Prop := Paired fun p q => RelV p.1 q.1 ∧ RelV p.2 q.2
noncomputable def PPs (X : Cx) (pos : Pos) (keys : List (Option Expr)) (values : List Expr) (trs : List (TE × TE)) : Prop :=
  ∀ (pins : List (Addr × Obj)) (s : Shared) (σ : St) (H : Hp) (Q : List (V × V) → Hp → Prop), Inv X pins σ H s → tPairs trs σ H Q →
    wpAny (model X.prog X.w) X.A (evalPairs (pairTrees keys values X.env pos)) (fun vs s' => ∃ ps H', Inv X pins σ H' s' ∧ VV ps vs ∧ Q ps H') X.xe s
noncomputable def mergeK (kvs more : List (Key × V)) : List (Key × V) := more.foldl (fun acc kv => putK acc kv.1 kv.2) kvs
noncomputable def tDisp (trs : List (TE × TE)) : TE := fun σ H Q => ∀ p, H p = none → tPairs trs σ (upd H p (.dK [])) fun ps H2 => H2 p = some (.dK []) ∧ ∃ kvs : List (Key × V), ps = kvs.map (fun kv => (kV kv.1, kv.2)) ∧ kvs.length ≤ 15 ∧ Q (.ref p) (upd H2 p (.dK (mergeK [] kvs)))
structure M1 (X : Cx) (o : Expr) (m : Str) (apos : Pos) (e : Expr) (cpos : Pos) : Prop where
  base : attributeBase o m X.env (eval o X.env) = eval o X.env
  few : ((backTo cpos (starEach [e] X.env)).all (fun x => !x.1) && (backToKw cpos (keywordEach [] X.env)).all (fun x => x.1.isSome)
    && decide (([e] : List Expr).length + ([] : List Keyword).length + (if ([] : List Keyword).isEmpty then 0 else 1) < 30)) = true
  line : (apos.endLine == cpos.line) = true
  trees : backTo cpos (starEach [e] X.env) = [(false, eval e X.env)]
structure M2 (X : Cx) (o : Expr) (m : Str) (apos : Pos) (e f : Expr) (cpos : Pos) : Prop where
  base : attributeBase o m X.env (eval o X.env) = eval o X.env
  few : ((backTo cpos (starEach [e, f] X.env)).all (fun x => !x.1) && (backToKw cpos (keywordEach [] X.env)).all (fun x => x.1.isSome)
    && decide (([e, f] : List Expr).length + ([] : List Keyword).length + (if ([] : List Keyword).isEmpty then 0 else 1) < 30)) = true
  line : (apos.endLine == cpos.line) = true
  trees : backTo cpos (starEach [e, f] X.env) = [(false, eval e X.env), (false, eval f X.env)]

noncomputable def IsD (H : Hp) (a : Addr) : Prop := (∃ kvs, Rd H a (.dK kvs)) ∨ ∃ kvs, Rd H a (.dT kvs)
section
variable {X : Cx} {pins : List (Addr × Obj)} {σ : St} {H : Hp} {s : Shared} {a : Addr} {y d : V} {u r : Value} {o : Option V} {A : Around} {E : Value → Shared → Prop}
end

noncomputable def tDGet1 (td ty : TE) : TE := fun σ H Q => td σ H fun x H1 => ∃ a, x = .ref a ∧ IsD H1 a ∧ ty σ H1 fun y H2 => ∃ o, DGet H2 a y o ∧ Q (o.getD .non) H2
noncomputable def tDGet2 (td ty tx : TE) : TE := fun σ H Q => td σ H fun x H1 => ∃ a, x = .ref a ∧ IsD H1 a ∧ ty σ H1 fun y H2 => tx σ H2 fun z H3 => ∃ o, DGet H3 a y o ∧ Q (o.getD z) H3
noncomputable def tDPop1 (td ty : TE) : TE := fun σ H Q => td σ H fun x H1 => ∃ a, x = .ref a ∧ IsD H1 a ∧ ty σ H1 fun y H2 => ∃ kvs k v, H2 a = some (.dK kvs) ∧ y = kV k ∧ valV kvs k = some v ∧ Q v (upd H2 a (.dK (dropK kvs k)))
noncomputable def tDPop2 (td ty tx : TE) : TE := fun σ H Q => td σ H fun x H1 => ∃ a, x = .ref a ∧ IsD H1 a ∧ ty σ H1 fun y H2 => tx σ H2 fun z H3 => ∃ kvs k, H3 a = some (.dK kvs) ∧ y = kV k ∧
  (∀ v, valV kvs k = some v → Q v (upd H3 a (.dK (dropK kvs k)))) ∧ (valV kvs k = none → Q z H3)
section
variable {X : Cx} {o e f : Expr} {apos cpos : Pos} {td ty tx : TE}
end

section
variable {X : Cx} {pins : List (Addr × Obj)} {σ : St} {H : Hp} {s : Shared} {a : Addr} {kvs : List (Key × V)} {A : Around} {E : Value → Shared → Prop}
end


section
variable {X : Cx} {pins : List (Addr × Obj)} {σ : St} {H : Hp} {s : Shared} {a : Addr} {y : V} {u : Value} {A : Around} {E : Value → Shared → Prop}
end
end L2
namespace L2
open PySem PySem.Spec PyProof.Rows
section
variable {X : Cx}
end
end L2

set_option Elab.async false
set_option linter.all false
set_option maxRecDepth 100000
namespace L2
open PySem PySem.Spec PyProof.Rows
section
variable {X : Cx}
noncomputable def CMulB (i j : Int) : Prop := i.natAbs < 2 ^ 2000 ∧ j.natAbs < 2 ^ 2000
noncomputable def CDivZ (i j : Int) : Prop := j ≠ 0 ∧ j.natAbs < 2 ^ 2000
end
noncomputable abbrev stD (a : Addr) (k c : Int) : List (Key × V) := [(.inr "script", .ref a), (.inr "at", .int k), (.inr "left", .int c)]
noncomputable def DrawD (K : PySem.W.Frag) (H : Hp) (st : Addr) : Prop := ∃ a ns k c, H st = some (.dK (stD a k c)) ∧ Scr K H a ns ∧ ns.length ≤ 63 ∧ 0 ≤ k ∧ 0 ≤ c
structure DrawnD (K : PySem.W.Frag) (st : Addr) (H H' : Hp) : Prop where
  draw : DrawD K H' st
  keep : Keep st H H'
noncomputable def spBegin (K : PySem.W.Frag) : Sp := fun vs H Q _ => ∃ (a : Addr) (ns : List Int), vs = [.ref a] ∧ Scr K H a ns ∧ ns.length ≤ 63 ∧ ∀ st H', H st = none → Same H H' → DrawD K H' st → Q (.ref st) H'
noncomputable def spTakeD (K : PySem.W.Frag) : Sp := fun vs H Q _ => ∃ (st : Addr) (many : Int), vs = [.ref st, .int many] ∧ 0 < many ∧ many < 1073741824 ∧ DrawD K H st ∧ ∀ (r : Int) (H' : Hp), 0 ≤ r → r < many → DrawnD K st H H' → Q (.int r) H'
noncomputable def spIntD (K : PySem.W.Frag) (B : Int → Prop) : Sp := fun vs H Q _ => ∃ (st : Addr), vs = [.ref st] ∧ DrawD K H st ∧ ∀ (r : Int) (H' : Hp), B r → DrawnD K st H H' → Q (.int r) H'
theorem inV_ints (k : Int) : ∀ ns : List Int, inV (.int k) (ns.map V.int) = decide (k ∈ ns)
  | [] => rfl
  | n :: r => by
    have ih := inV_ints k r
    unfold inV at ih ⊢
    rw [List.map_cons, List.any_cons, ih]
    by_cases h : n = k
    · subst h; simp [eqV]
    · have h2 : ¬ k = n := fun z => h z.symm
      simp [eqV, h, h2]
theorem vt {a b : Int} (c : decide (V.int a = V.int b) = true) : a = b := by
  have := of_decide_eq_true c
  injection this
theorem vf {a b : Int} (c : ¬ decide (V.int a = V.int b) = true) : a ≠ b := fun e => c (decide_eq_true (by rw [e]))
theorem df {c : Prop} [Decidable c] (h : ¬ decide c = true) : ¬ c := of_decide_eq_false (Bool.eq_false_iff.mpr h)
theorem atI_mem {ns : List Int} {k : Int} (h0 : 0 ≤ k) (h : k < (ns.length : Int)) : ∃ v : Int, v ∈ ns ∧ atI (ns.map V.int) k = some (.int v) := by
  have hk : k.toNat < ns.length := by (first | lia | omega)
  have q : atI (ns.map V.int) ((k.toNat : Nat) : Int) = some (.int ns[k.toNat]) := atI_nat (by rw [List.getElem?_map, List.getElem?_eq_getElem hk] <;> rfl)
  rw [show ((k.toNat : Nat) : Int) = k by (first | lia | omega)] at q
  exact ⟨_, List.getElem_mem hk, q⟩
end L2

set_option Elab.async false
set_option linter.all false
set_option maxRecDepth 100000
namespace L2
open PySem
theorem cutV_ints (zs : List Int) (lo hi : Option Int) : ∃ ys : List Int, cutV (zs.map V.int) lo hi = ys.map V.int ∧ ys.length ≤ zs.length := by
  unfold cutV
  refine ⟨(zs.drop (HT.sIx (zs.map V.int).length 0 lo)).take (HT.sIx (zs.map V.int).length (zs.map V.int).length hi - HT.sIx (zs.map V.int).length 0 lo), by rw [List.map_take, List.map_drop], ?_⟩
  rw [List.length_take, List.length_drop]
  (first | lia | omega)
theorem rep_ints (n : Nat) (zs : List Int) : (List.replicate n (zs.map V.int)).flatten = ((List.replicate n zs).flatten).map V.int := by
  induction n with
  | zero => rfl
  | succ n ih => rw [List.replicate_succ, List.flatten_cons, ih, List.replicate_succ, List.flatten_cons, List.map_append]
theorem rep_len (n : Nat) (zs : List Int) : ((List.replicate n zs).flatten).length = n * zs.length := by
  induction n with
  | zero => simp
  | succ n ih => rw [List.replicate_succ, List.flatten_cons, List.length_append, ih, Nat.succ_mul]; (first | lia | omega)
section
variable {K : PySem.W.Frag} {st : Addr} {σ : St}
noncomputable def II (K : PySem.W.Frag) (st : Addr) (t : TE) (σ : St) (lo hi : Int) : Prop := ∀ (H : Hp) (Q : VK), Draw K H st → (∀ i H', Drawn K st H H' → lo ≤ i → i ≤ hi → Q (.int i) H') → t σ H Q
noncomputable def AI (K : PySem.W.Frag) (st : Addr) (t : TA) (σ : St) (n : Nat) (lo hi : Int) : Prop := ∀ (H : Hp) (Q : List V → Hp → Prop), Draw K H st → (∀ (xs : List Int) H', Drawn K st H H' → xs.length = n → (∀ x ∈ xs, lo ≤ x ∧ x ≤ hi) → Q (xs.map V.int) H') → t σ H Q
noncomputable def LI (K : PySem.W.Frag) (st : Addr) (t : TE) (σ : St) (n : Nat) : Prop := ∀ (H : Hp) (Q : VK), Draw K H st → (∀ l (zs : List Int) H', Drawn K st H H' → H l = none → H' l = some (.lst (zs.map V.int)) → zs.length ≤ n → Q (.ref l) H') → t σ H Q
theorem II.c (i : Int) : II K st (tC (.int i)) σ i i := fun H Q d h => h i H d.refl (Int.le_refl _) (Int.le_refl _)
theorem II.v {j : Nat} {i : Int} (e : σ[j]? = some (some (.int i))) : II K st (tVar j) σ i i := fun H Q d h => ⟨_, e, h i H d.refl (Int.le_refl _) (Int.le_refl _)⟩
theorem II.add {a b : TE} {lo hi lo' hi' : Int} (ha : II K st a σ lo hi) (hb : II K st b σ lo' hi') : II K st (tOp (rI0 fun i j => .int (i + j)) a b) σ (lo + lo') (hi + hi') := fun H Q d q =>
  ha H _ d fun i H1 d1 x y => hb H1 _ d1.draw fun j H2 d2 z u => ⟨i, j, rfl, rfl, q _ H2 (d1.trans d2) (by (first | lia | omega)) (by (first | lia | omega))⟩
theorem II.sub {a b : TE} {lo hi lo' hi' : Int} (ha : II K st a σ lo hi) (hb : II K st b σ lo' hi') : II K st (tOp (rI0 fun i j => .int (i - j)) a b) σ (lo - hi') (hi - lo') := fun H Q d q =>
  ha H _ d fun i H1 d1 x y => hb H1 _ d1.draw fun j H2 d2 z u => ⟨i, j, rfl, rfl, q _ H2 (d1.trans d2) (by (first | lia | omega)) (by (first | lia | omega))⟩
theorem II.pow {b e : Int} (c : CPow b e) : II K st (tOp (rI CPow fun i j => .int (i ^ j.toNat)) (tC (.int b)) (tC (.int e))) σ (b ^ e.toNat) (b ^ e.toNat) := fun H Q d q => ⟨b, e, rfl, rfl, c, q _ H d.refl (Int.le_refl _) (Int.le_refl _)⟩
theorem II.take {j : Nat} {t : TE} {lo hi : Int} (e : σ[j]? = some (some (.ref st))) (h : II K st t σ lo hi) (h0 : 0 < lo) (h1 : hi < 2 ^ 256) : II K st (tCall (spTakeB K) [] E0 (tCons (tVar j) (tCons t tNil))) σ 0 (hi - 1) := fun H Q d q =>
  ⟨_, e, h H _ d fun i H1 d1 x y => ⟨st, i, rfl, by (first | lia | omega), by (first | lia | omega), d1.draw, fun r H2 r0 r1 d2 => q r H2 (d1.trans d2) r0 (by (first | lia | omega))⟩⟩
theorem AI.nil {lo hi : Int} : AI K st tNil σ 0 lo hi := fun H Q d q => q [] H d.refl rfl (fun x hx => nomatch hx)
theorem AI.cons {t : TE} {ta : TA} {n : Nat} {a b lo hi : Int} (h : II K st t σ a b) (ha : AI K st ta σ n lo hi) (x : lo ≤ a) (y : b ≤ hi) : AI K st (tCons t ta) σ (n + 1) lo hi := fun H Q d q =>
  h H _ d fun i H1 d1 u v => ha H1 _ d1.draw fun xs H2 d2 l bs => q (i :: xs) H2 (d1.trans d2) (by rw [List.length_cons, l]) fun z hz => by
    rcases List.mem_cons.mp hz with e | e
    · rw [e]; exact ⟨by (first | lia | omega), by (first | lia | omega)⟩
    · exact bs z e
theorem AI.consts (xs : List Int) {n : Nat} {lo hi : Int} (hl : xs.length = n) (h : ∀ x ∈ xs, lo ≤ x ∧ x ≤ hi) : AI K st (fun _ H Q => Q (xs.map V.int) H) σ n lo hi := fun H Q d q => q xs H d.refl hl h
theorem LI.lst {ta : TA} {n : Nat} {lo hi : Int} (h : AI K st ta σ n lo hi) (hn : n ≤ 1000) : LI K st (tLst ta) σ n := fun H Q d q =>
  h H _ d fun xs H1 d1 l _ => ⟨by rw [List.length_map, l]; exact small hn, fun p hp => q p xs _ (d1.trans (d1.draw.new hp _)) (d1.free hp) upd_same (by (first | lia | omega))⟩
theorem Drawn.neN {H : Hp} {l : Addr} (D : Draw K H st) (h : H l = none) : l ≠ st := Ne.symm (D.ne h)
theorem LI.cat {a b : TE} {n m : Nat} (ha : LI K st a σ n) (hb : LI K st b σ m) (hs : n + m ≤ 10000000) : LI K st (tOp rCat a b) σ (n + m) := fun H Q D q =>
  ha H _ D fun l zs H1 d1 f1 e1 l1 => hb H1 _ d1.draw fun r ys H2 d2 f2 e2 l2 => ⟨l, r, zs.map V.int, ys.map V.int, rfl, rfl, d2.keep l _ (Drawn.neN D f1) e1, e2, (by rw [List.length_map, List.length_map, sizeLine_eq]; (first | lia | omega)), fun p hp =>
    q p (zs ++ ys) _ ((d1.trans d2).trans (d2.draw.new hp _)) ((d1.trans d2).free hp) (by rw [upd_same, List.map_append]) (by rw [List.length_append]; (first | lia | omega))⟩
theorem LI.rep {a t : TE} {n m : Nat} {lo hi : Int} (ha : LI K st a σ n) (ht : II K st t σ lo hi) (hl : -1000 ≤ lo) (hh : hi ≤ (m : Nat)) (hm : m ≤ 1000) (hn : n ≤ 1000) : LI K st (tOp rRep a t) σ (n * m) := fun H Q D q =>
  ha H _ D fun l zs H1 d1 f1 e1 l1 => ht H1 _ d1.draw fun i H2 d2 x y => by
    have h1 : i.toNat ≤ m := by (first | lia | omega)
    have h2 : i.toNat * zs.length ≤ n * m := by rw [Nat.mul_comm n m]; exact Nat.mul_le_mul h1 l1
    have h3 : n * m ≤ 1000 * 1000 := Nat.mul_le_mul hn hm
    have h4 : (zs.map V.int).length * i.toNat ≤ sizeLine := by rw [List.length_map, Nat.mul_comm, sizeLine_eq]; (first | lia | omega)
    have h5 : i ≤ 1000 := by (first | lia | omega)
    have h6 : -1000 ≤ i := by (first | lia | omega)
    refine ⟨l, i, zs.map V.int, rfl, rfl, d2.keep l _ (Drawn.neN D f1) e1, ?_, ?_, h4, fun p hp => ?_⟩
    · exact Int.le_trans (by decide) h6
    · exact Int.lt_of_le_of_lt h5 (by decide)
    · rw [rep_ints]
      exact q p _ _ ((d1.trans d2).trans (d2.draw.new hp _)) ((d1.trans d2).free hp) upd_same (by rw [rep_len]; exact h2)
theorem LI.cut {a : TE} {tl th : TO} {n : Nat} (ha : LI K st a σ n) (hl : ∀ (H : Hp) (Q : Option Int → Hp → Prop), Draw K H st → (∀ i H', Drawn K st H H' → Q i H') → tl σ H Q) (hh : ∀ (H : Hp) (Q : Option Int → Hp → Prop), Draw K H st → (∀ i H', Drawn K st H H' → Q i H') → th σ H Q) :
    LI K st (tSl (rSlL K) a tl th) σ n := fun H Q D q =>
  ha H _ D fun l zs H1 d1 f1 e1 l1 => hl H1 _ d1.draw fun i H2 d2 => hh H2 _ d2.draw fun j H3 d3 => by
    obtain ⟨ys, ey, ly⟩ := cutV_ints zs i j
    refine ⟨l, zs.map V.int, rfl, .of ((d2.trans d3).keep l _ (Drawn.neN D f1) e1), fun p hp => ?_⟩
    rw [ey]
    exact q p ys _ (((d1.trans d2).trans d3).trans (d3.draw.new hp _)) (((d1.trans d2).trans d3).free hp) upd_same (by (first | lia | omega))
theorem PI.no (H : Hp) (Q : Option Int → Hp → Prop) (D : Draw K H st) (q : ∀ i H', Drawn K st H H' → Q i H') : tNoPart σ H Q := q none H D.refl
theorem PI.some {t : TE} {lo hi : Int} (h : II K st t σ lo hi) (H : Hp) (Q : Option Int → Hp → Prop) (D : Draw K H st) (q : ∀ i H', Drawn K st H H' → Q i H') : tPart t σ H Q := h H _ D fun i H1 d1 _ _ => ⟨i, rfl, q _ H1 d1⟩
theorem II.at {ta : TA} {t : TE} {n : Nat} {lo hi a b : Int} (h : AI K st ta σ n lo hi) (hn : n ≤ 1000) (ht : II K st t σ a b) (h0 : 0 ≤ a) (h1 : b < n) : II K st (tOp (rIxL K) (tLst ta) t) σ lo hi := fun H Q D q =>
  h H _ D fun xs H1 d1 l bs => ⟨by rw [List.length_map, l]; exact small hn, fun p hp => by
    have d2 := d1.draw.new hp (.lst (xs.map V.int))
    refine ht _ _ d2.draw fun i H3 d3 x y => ?_
    obtain ⟨v, hm, hv⟩ := atI_mem (ns := xs) (k := i) (by (first | lia | omega)) (by (first | lia | omega))
    exact ⟨p, xs.map V.int, i, .int v, rfl, rfl, .of (d3.keep p _ (Drawn.neN d1.draw hp) upd_same), hv, q v H3 ((d1.trans d2).trans d3) (bs v hm).1 (bs v hm).2⟩⟩
end
theorem Drawn.over {K : PySem.W.Frag} {st fl : Addr} {H H' : Hp} {xs ys : List V} (d : Drawn K st H H') (D : Draw K H st) (hf : H fl = none) (h : H' fl = some (.lst xs)) : Drawn K st H (upd H' fl (.lst ys)) :=
  ⟨d.draw.put h (Ne.symm (D.ne hf)), fun b o n e => by
    have z : b ≠ fl := fun z => by rw [z, hf] at e; cases e
    rw [upd_ne z]; exact d.keep b o n e⟩
noncomputable def Sm (H : Hp) (v : V) : Prop := ∃ l zs, v = .ref l ∧ H l = some (.lst (zs.map V.int)) ∧ (zs : List Int).length ≤ 3
theorem Sm.more {H : Hp} {xs : List V} {l : Addr} (h : ∀ x ∈ xs, Sm H x) (hl : H l = none) (zs : List Int) (hz : zs.length ≤ 3) : ∀ x ∈ xs ++ [.ref l], Sm (upd H l (.lst (zs.map V.int))) x := by
  intro x hx
  rcases List.mem_append.mp hx with z | z
  · obtain ⟨r, ys, e, q, s⟩ := h x z
    exact ⟨r, ys, e, same_new hl _ _ _ q, s⟩
  · exact ⟨l, zs, List.mem_singleton.mp z, upd_same, hz⟩
theorem Sm.same {H H' : Hp} {xs : List V} (h : ∀ x ∈ xs, Sm H x) (s : Same H H') : ∀ x ∈ xs, Sm H' x := fun x hx => by
  obtain ⟨r, ys, e, q, z⟩ := h x hx
  exact ⟨r, ys, e, s _ _ q, z⟩
theorem Draw.neI {K : PySem.W.Frag} {H : Hp} {st l : Addr} {zs : List Int} (D : Draw K H st) (h : H l = some (.lst (zs.map V.int))) : l ≠ st := by
  obtain ⟨a, ns, k, c, e, _⟩ := D
  intro z
  rw [z, e] at h
  injection h with h
  injection h with h
  cases zs with
  | nil => cases h
  | cons y r => rw [List.map_cons] at h; injection h with h _; cases h
theorem Sm.drawn {K : PySem.W.Frag} {st : Addr} {H H' : Hp} {xs : List V} (h : ∀ x ∈ xs, Sm H x) (D : Draw K H st) (d : Drawn K st H H') : ∀ x ∈ xs, Sm H' x := fun x hx => by
  obtain ⟨r, ys, e, q, z⟩ := h x hx
  exact ⟨r, ys, e, d.keep _ _ (D.neI q) q, z⟩
theorem atI_memV {xs : List V} {k : Int} (h0 : 0 ≤ k) (h : k < (xs.length : Int)) : ∃ v, v ∈ xs ∧ atI xs k = some v := by
  have hk : k.toNat < xs.length := by (first | lia | omega)
  have q : atI xs ((k.toNat : Nat) : Int) = some xs[k.toNat] := atI_nat (List.getElem?_eq_getElem hk)
  rw [show ((k.toNat : Nat) : Int) = k by (first | lia | omega)] at q
  exact ⟨_, List.getElem_mem hk, q⟩
end L2

set_option Elab.async false
set_option linter.all false
set_option maxRecDepth 100000
namespace L2
open PySem PySem.W PySem.Spec PySem.Calls PyProof.Rows
section
variable {prog : Program} {w : World} {A : Around} {E : Value → Shared → Prop} {K : Frag} {C : Addr} {s : Shared} {x : Addr} {ox od : Obj}
theorem exc_class {Q : Option Value → Shared → Prop} (X : K.In s.heap) (I : InstAt s.heap x ox C (some od)) (Ec : ExCls K C) (ha : findIn K (.ref C) "__class__" = some (some (.builtin "object.__class__")))
    (hn : specialIn K (.builtin "object.__class__") "__get__" = some (some (.builtin "getset_descriptor.__get__"))) (htk : takesIn K (.builtin "object.__class__") = some true)
    (hq : Q (some (.ref C)) { s with toks := s.toks + 1 }) : wpAny (model prog w) A (getAttr? (.ref x) "__class__") Q E s := by
  have hf : findObj K C (some od) "__class__" = some (.bind (.builtin "getset_descriptor.__get__") (.builtin "object.__class__")) := findObj_data (by obtain ⟨cd, hc, _⟩ := Ec.cd; rw [hc]; rfl) ha hn htk
  obtain ⟨h, g, d, t, os⟩ := s
  have L0 := I.type (M := model prog w)
  have L1 := looks_findIn (M := model prog w) X Ec.ga
  have L2' := looks_findIn (M := model prog w) X Ec.noHook
  have L3 := looks_find (M := model prog w) X I hf
  have Lb : PySem.W.Looks (model prog w) h (isInstance (.ref x) (.type "BaseException")) true := L0.andThen (looks_mroIn X Ec.base)
  have f3 := F.excAttr_ValueError.ga.bind (.ref x)
  have hk : builtinKind "BaseException.__getattribute__" = some .slot := by decide +kernel
  have hsplit : splitId "BaseException.__getattribute__" = some ("BaseException", "__getattribute__") := by decide +kernel
  unfold getAttr? getAttrBy? getAttrBy
  refine wpAny_bind (wpAny_mkText (wpAny_bind (wpAny_attempt (wpAny_holding (wpAny_bind (L0.at (wpAny_bind (L1.at ?_))))))))
  show wpAny _ _ (getAttrByItsOwn _ _ _ _ _ _) _ _ _
  unfold getAttrByItsOwn
  refine wpAny_bind (L2'.at (wpAny_bind (wpAny_attempt (wpAny_holding ?_))))
  unfold callGetattribute
  have hx0 : (false && onTheHeap (Value.builtin "BaseException.__getattribute__")) = false := rfl
  rw [hx0]
  unfold boundAndCalled
  show wpAny _ _ (bindSpecial _ _ >>= _) _ _ _
  rw [f3]
  refine wpAny_bind (wpAny_pure (wpAny_call (codeAny_call_builtin F.excAttr_ValueError.ga.plain F.entry_bexc_ga (@check_slot (model prog w) _ _ _ "BaseException.__getattribute__" "BaseException" "__getattribute__" (.ref x) [.str "__class__" t] [] _ hk hsplit Lb (F.args_bexc_ga _ _) ?_))))
  refine wpAny_bind (wpAny_pure (wpAny_bind (wpAny_pure (wpAny_bind (L0.at (wpAny_bind (L3.at ?_)))))))
  show wpAny _ _ (Builtin.ObjectAttr.bindTo (Value.builtin "getset_descriptor.__get__") (Value.builtin "object.__class__") (Value.ref x) (Value.ref C)) _ _ _
  show wpAny _ _ (holding [Value.builtin "object.__class__"] (call (Value.builtin "getset_descriptor.__get__") [Value.builtin "object.__class__", Value.ref x, Value.ref C]) >>= ret) _ _ _
  refine wpAny_bind (wpAny_holding (wpAny_call (class_get X I Ec.obj ?_)))
  refine wpAny_pure ?_
  show wpAny _ _ (handedOut (Value.ref C)) _ _ _
  rw [handedOut_of (v := Value.ref C) rfl]
  exact wpAny_pure (wpAny_pure hq)
theorem kitx_exc (Ec : ExCls K C) (ha : findIn K (.ref C) "__class__" = some (some (.builtin "object.__class__")))
    (hn : specialIn K (.builtin "object.__class__") "__get__" = some (some (.builtin "getset_descriptor.__get__"))) (htk : takesIn K (.builtin "object.__class__") = some true) : KitX K (.ref x) (.ref C) (fun h => InstAt h x ox C (some od)) where
  ty := fun _ _ _ I => I.type
  it := fun _ _ X _ => by
    obtain ⟨cdD, hcD, _⟩ := Ec.cd
    unfold clsIn at hcD
    split at hcD
    · rename_i c' d' cd' sl' ho
      intro A' Q' E' s' k q
      unfold isType loadHead
      exact wpAny_bind (wpAny_loadPart (k _ _ (X _ _ ho)) (wpAny_pure q))
    · cases hcD
  ne := fun h tp dd its n sl X htp => by
    obtain ⟨cdD, hcD, _⟩ := Ec.cd
    refine Bool.eq_false_iff.mpr fun q => ?_
    have e : C = tp := Value.ref.inj (beq_iff_eq.mp q)
    subst e
    unfold clsIn at hcD
    split at hcD
    · rename_i c' d' cd' sl' ho
      have z := (X _ _ ho).symm.trans htp
      cases z
    · cases hcD
  ca := fun X I k => exc_class X I Ec ha hn htk k
end
structure IsCls (K : Frag) (C : Addr) : Prop where
  ha : findIn K (.ref C) "__class__" = some (some (.builtin "object.__class__"))
  hn : specialIn K (.builtin "object.__class__") "__get__" = some (some (.builtin "getset_descriptor.__get__"))
  htk : takesIn K (.builtin "object.__class__") = some true
noncomputable def rIsX (K : Frag) : List V → Hp → VK → Prop := fun xs H Q => ∃ x C dx fs b, H x = some (ExO x C (some dx)) ∧ H dx = some (XdO dx fs) ∧ ExCls K C ∧ IsCls K C ∧
  ((∃ n, xs = [.ref x, .ty n] ∧ kitOne K (.ref C) (.type n) = some b) ∨ ∃ D, xs = [.ref x, .ref D] ∧ kitOne K (.ref C) (.ref D) = some b) ∧ Q (.bl b) H
theorem call_isX {X : Cx} : CallR X (.builtin "isinstance") (rIsX X.K) := by
  intro pins s σ H xs us Q I r h
  obtain ⟨x, C, dx, fs, b, hx, hd, Ec, Ic, hxs, q⟩ := h
  obtain ⟨ox, vs, ge, hcl, hdi, hda, _⟩ := ExO.get I.hok hx
  obtain ⟨mA, n, _, _⟩ := XdO.get I.hok hd
  obtain ⟨od, hod, hl⟩ := lookIn_ns n
  have J : InstAt s.heap x ox C (some od) := ⟨ge, hcl, by unfold notCls; rw [hda], by rw [hdi]; exact hod⟩
  rcases hxs with ⟨n, rfl, e⟩ | ⟨D, rfl, e⟩
  · obtain ⟨u, w', rfl, ru, rw'⟩ := vals2 r
    cases ru; cases rw'
    exact kia_one (kitx_exc Ec Ic.ha Ic.hn Ic.htk) I.kIn J e (fun z => nomatch z) fun tk => ⟨.bl b, H, I.tok tk, rfl, q⟩
  · obtain ⟨u, w', rfl, ru, rw'⟩ := vals2 r
    cases ru; cases rw'
    exact kia_one (kitx_exc Ec Ic.ha Ic.hn Ic.htk) I.kIn J e (fun z => nomatch z) fun tk => ⟨.bl b, H, I.tok tk, rfl, q⟩
noncomputable def rNeF (K : Frag) : R2 := fun x y H Q => rEqD K false x y H Q ∨ (scal x y = true ∧ x = y ∧ Q (.bl false) H)
theorem op_neF {X : Cx} {k : Nat} (hr : Room k X.A) : OpR X (compareOp .NotEq) (rNeF X.K) := by
  intro pins s σ H x y v u Q I rx ry h
  rcases h with h | ⟨f, rfl, q⟩
  · exact op_neD hr pins s σ H x y v u Q I rx ry h
  · refine op_ne pins s σ H x x v u Q I rx ry ⟨f, ?_⟩
    rw [decide_eq_true (rfl : x = x)]
    exact q
theorem kit_ref {K : Frag} {C D : Addr} {b : Bool} (h : subIn K (.ref C) (.ref D) = some b) (ty : typeIn K (.ref D) = some (.type "type")) (cl : (clsIn K D).isSome = true) (self : subIn K (.ref C) (.ref C) = some true) : kitOne K (.ref C) (.ref D) = some b := by
  unfold kitOne
  by_cases e : (Value.ref C == Value.ref D) = true
  · rw [if_pos e]
    have e2 : C = D := Value.ref.inj (beq_iff_eq.mp e)
    subst e2
    rw [self] at h
    exact h
  · rw [if_neg e]
    unfold kitCls
    simp only [cl, ty, beq_self_eq_true, Bool.and_self, if_true]
    exact h
end L2





set_option Elab.async false
set_option linter.all false
set_option maxRecDepth 100000
namespace OcL
open PySem L2
noncomputable def top (i : Nat) : Stmt := PySem.Challenge.pw_ownchain_k03_where_it_is_none.main.body.getD i (.Pass ⟨0, 0, 0, 0⟩)
noncomputable abbrev s_NoSheet___init__ : Stmt := inClass (top 2) 0
theorem sc_NoSheet___init__ : FnScope ["self", "place", "word"] ["self", "place", "word"] (defScope s_NoSheet___init__) := ⟨rfl, rfl, rfl, by decide +kernel, rfl, by decide +kernel, by decide +kernel⟩
noncomputable abbrev s_NoText___init__ : Stmt := inClass (top 3) 0
noncomputable abbrev s_parts_of : Stmt := top 18
theorem sc_parts_of : FnScope ["kind"] ["kind"] (defScope s_parts_of) := ⟨rfl, rfl, rfl, by decide +kernel, rfl, by decide +kernel, by decide +kernel⟩
noncomputable abbrev s_is_whole : Stmt := top 27
theorem sc_is_whole : FnScope ["thing"] ["thing"] (defScope s_is_whole) := ⟨rfl, rfl, rfl, by decide +kernel, rfl, by decide +kernel, by decide +kernel⟩
noncomputable abbrev s_Look___init__ : Stmt := inClass (top 28) 0
theorem sc_Look___init__ : FnScope ["self", "numbers"] ["self", "numbers"] (defScope s_Look___init__) := ⟨rfl, rfl, rfl, by decide +kernel, rfl, by decide +kernel, by decide +kernel⟩
noncomputable abbrev s_Look_take : Stmt := inClass (top 28) 1
theorem sc_Look_take : FnScope ["self", "number"] ["self"] (defScope s_Look_take) := ⟨rfl, rfl, rfl, by decide +kernel, rfl, by decide +kernel, by decide +kernel⟩
noncomputable abbrev s_Look_take_within : Stmt := inClass (top 28) 2
theorem sc_Look_take_within : FnScope ["self", "least", "most", "place", "number"] ["self", "least", "most"] (defScope s_Look_take_within) := ⟨rfl, rfl, rfl, by decide +kernel, rfl, by decide +kernel, by decide +kernel⟩
noncomputable abbrev s_take_heads : Stmt := top 29
theorem sc_take_heads : FnScope ["look", "heads", "most_params", "function", "params"] ["look"] (defScope s_take_heads) := ⟨rfl, rfl, rfl, by decide +kernel, rfl, by decide +kernel, by decide +kernel⟩
noncomputable abbrev s_take_own : Stmt := top 30
theorem sc_take_own : FnScope ["look", "kind", "heads", "boxes"] ["look", "kind", "heads", "boxes"] (defScope s_take_own) := ⟨rfl, rfl, rfl, by decide +kernel, rfl, by decide +kernel, by decide +kernel⟩
noncomputable abbrev s_parts_due : Stmt := top 31
theorem sc_parts_due : FnScope ["kind", "numbers", "heads"] ["kind", "numbers", "heads"] (defScope s_parts_due) := ⟨rfl, rfl, rfl, by decide +kernel, rfl, by decide +kernel, by decide +kernel⟩
noncomputable abbrev s_take_node : Stmt := top 32
theorem sc_take_node : FnScope ["look", "heads", "boxes", "deep", "place", "kind", "numbers", "parts", "part"] ["look", "heads", "boxes", "deep"] (defScope s_take_node) := ⟨rfl, rfl, rfl, by decide +kernel, rfl, by decide +kernel, by decide +kernel⟩
noncomputable abbrev s_functions : Stmt := top 33
theorem sc_functions : FnScope ["sheet", "look", "heads", "told", "params", "boxes"] ["sheet"] (defScope s_functions) := ⟨rfl, rfl, rfl, by decide +kernel, rfl, by decide +kernel, by decide +kernel⟩
noncomputable abbrev s_wrong : Stmt := top 34
theorem sc_wrong : FnScope ["numbers", "e"] ["numbers"] (defScope s_wrong) := ⟨rfl, rfl, rfl, by decide +kernel, rfl, by decide +kernel, by decide +kernel⟩
noncomputable abbrev s_nodes_in : Stmt := top 35
theorem sc_nodes_in : FnScope ["body", "told", "waiting", "node", "part"] ["body"] (defScope s_nodes_in) := ⟨rfl, rfl, rfl, by decide +kernel, rfl, by decide +kernel, by decide +kernel⟩
noncomputable abbrev s_nodes : Stmt := top 36
theorem sc_nodes : FnScope ["sheet", "told", "params", "boxes", "body"] ["sheet"] (defScope s_nodes) := ⟨rfl, rfl, rfl, by decide +kernel, rfl, by decide +kernel, by decide +kernel⟩
noncomputable abbrev s__law_mixed : Stmt := top 38
theorem sc__law_mixed : FnScope ["_law_cell", "_law_k", "_law_one", "_law_two"] ["_law_cell", "_law_k"] (defScope s__law_mixed) := ⟨rfl, rfl, rfl, by decide +kernel, rfl, by decide +kernel, by decide +kernel⟩
noncomputable abbrev s__law_take : Stmt := top 39
theorem sc__law_take : FnScope ["_law_state", "_law_many", "_law_script", "_law_k", "_law_cell", "_law_found"] ["_law_state", "_law_many"] (defScope s__law_take) := ⟨rfl, rfl, rfl, by decide +kernel, rfl, by decide +kernel, by decide +kernel⟩
noncomputable abbrev s__law_heads : Stmt := top 40
theorem sc__law_heads : FnScope ["_law_state", "_law_many", "_law_heads_here", "_law_k", "_law_params"] ["_law_state"] (defScope s__law_heads) := ⟨rfl, rfl, rfl, by decide +kernel, rfl, by decide +kernel, by decide +kernel⟩
noncomputable abbrev s__law_number : Stmt := top 41
theorem sc__law_number : FnScope ["_law_state", "_law_way"] ["_law_state"] (defScope s__law_number) := ⟨rfl, rfl, rfl, by decide +kernel, rfl, by decide +kernel, by decide +kernel⟩
noncomputable abbrev s__law_leaf : Stmt := top 42
theorem sc__law_leaf : FnScope ["_law_state", "_law_boxes", "_law_way"] ["_law_state", "_law_boxes"] (defScope s__law_leaf) := ⟨rfl, rfl, rfl, by decide +kernel, rfl, by decide +kernel, by decide +kernel⟩
noncomputable abbrev s__law_head : Stmt := top 43
theorem sc__law_head : FnScope ["_law_state", "_law_heads_here", "_law_boxes", "_law_kind", "_law_many", "_law_function"] ["_law_state", "_law_heads_here", "_law_boxes"] (defScope s__law_head) := ⟨rfl, rfl, rfl, by decide +kernel, rfl, by decide +kernel, by decide +kernel⟩
noncomputable abbrev s__law_node : Stmt := top 44
theorem sc__law_node : FnScope ["_law_state", "_law_heads_here", "_law_boxes", "_law_deep", "_law_room", "_law_found", "_law_many", "_law_part"] ["_law_state", "_law_heads_here", "_law_boxes", "_law_deep", "_law_room"] (defScope s__law_node) := ⟨rfl, rfl, rfl, by decide +kernel, rfl, by decide +kernel, by decide +kernel⟩
noncomputable abbrev s__law_sheet : Stmt := top 45
theorem sc__law_sheet : FnScope ["_law_state", "_law_most", "_law_heads_here", "_law_found", "_law_params", "_law_boxes"] ["_law_state", "_law_most"] (defScope s__law_sheet) := ⟨rfl, rfl, rfl, by decide +kernel, rfl, by decide +kernel, by decide +kernel⟩
noncomputable abbrev s__law_own : Stmt := top 46
theorem sc__law_own : FnScope ["_law_sheet_here", "_law_at", "_law_boxes", "_law_kind"] ["_law_sheet_here", "_law_at", "_law_boxes"] (defScope s__law_own) := ⟨rfl, rfl, rfl, by decide +kernel, rfl, by decide +kernel, by decide +kernel⟩
noncomputable abbrev s__law_parts : Stmt := top 47
theorem sc__law_parts : FnScope ["_law_sheet_here", "_law_at", "_law_kind"] ["_law_sheet_here", "_law_at"] (defScope s__law_parts) := ⟨rfl, rfl, rfl, by decide +kernel, rfl, by decide +kernel, by decide +kernel⟩
noncomputable abbrev s__law_head_wrong : Stmt := top 48
theorem sc__law_head_wrong : FnScope ["_law_sheet_here", "_law_at"] ["_law_sheet_here"] (defScope s__law_head_wrong) := ⟨rfl, rfl, rfl, by decide +kernel, rfl, by decide +kernel, by decide +kernel⟩
noncomputable abbrev s__law_wrong : Stmt := top 49
theorem sc__law_wrong : FnScope ["_law_sheet_here", "_law_found", "_law_wait", "_law_at", "_law_deep", "_law_boxes", "_law_own_here", "_law_low", "_law_high"] ["_law_sheet_here"] (defScope s__law_wrong) := ⟨rfl, rfl, rfl, by decide +kernel, rfl, by decide +kernel, by decide +kernel⟩
noncomputable abbrev s__law_bent : Stmt := top 50
theorem sc__law_bent : FnScope ["_law_state", "_law_sheet_here", "_law_found", "_law_turn", "_law_at", "_law_number_here", "_law_way", "_law_some"] ["_law_state", "_law_sheet_here"] (defScope s__law_bent) := ⟨rfl, rfl, rfl, by decide +kernel, rfl, by decide +kernel, by decide +kernel⟩
noncomputable abbrev s__law_heard : Stmt := top 51
theorem sc__law_heard : FnScope ["_law_way", "_law_sheet_here", "_law_caught", "_law_found", "e", "_law_others"] ["_law_way", "_law_sheet_here"] (defScope s__law_heard) := ⟨rfl, rfl, rfl, by decide +kernel, rfl, by decide +kernel, by decide +kernel⟩
noncomputable abbrev s__law_edge : Stmt := top 52
theorem sc__law_edge : FnScope ["_law_state", "_law_way", "_law_more", "_law_many", "_law_boxes"] ["_law_state"] (defScope s__law_edge) := ⟨rfl, rfl, rfl, by decide +kernel, rfl, by decide +kernel, by decide +kernel⟩
noncomputable abbrev s_law : Stmt := top 53
theorem sc_law : FnScope ["_law_script", "_law_state", "_law_first", "_law_turn", "_law_sheet_here", "_law_due", "_law_handed", "_law_found"] ["_law_script"] (defScope s_law) := ⟨rfl, rfl, rfl, by decide +kernel, rfl, by decide +kernel, by decide +kernel⟩
structure Txt (K : PySem.W.Frag) (mg : Str → Option Value) (aP CL CN : Addr) : Prop where
  n_len : mg "len" = none
  n_abs : mg "abs" = none
  n_range : mg "range" = none
  n_isinstance : mg "isinstance" = none
  n_int : mg "int" = none
  n_bool : mg "bool" = none
  n_list : mg "list" = none
  n_tuple : mg "tuple" = none
  m_NUMBER : GInt mg "NUMBER" 0
  m_GET : GInt mg "GET" 1
  m_SET : GInt mg "SET" 2
  m_ALL : GInt mg "ALL" 3
  m_PICK : GInt mg "PICK" 4
  m_LOOP : GInt mg "LOOP" 5
  m_CALL : GInt mg "CALL" 6
  m_FAIL : GInt mg "FAIL" 7
  m_NEW : GInt mg "NEW" 19
  m_MOST_FUNCTIONS : GInt mg "MOST_FUNCTIONS" 16
  m_MOST_PARAMS : GInt mg "MOST_PARAMS" 4
  m_MOST_BOXES : GInt mg "MOST_BOXES" 12
  m_MOST_DEEP : GInt mg "MOST_DEEP" 10
  m_MOST_MANY : GInt mg "MOST_MANY" 12
  m_LEAST_ALL : GInt mg "LEAST_ALL" 1
  m_LEAST_PICK : GInt mg "LEAST_PICK" 2
  m_PARTS : mg "PARTS" = some (.ref aP)
  m_NoSheet : mg "NoSheet" = some (.ref CN)
  parts : ∀ H, SqT K H aP (partsN.map V.int)
  kint : PySem.W.kitOne K (.type "int") (.type "int") = some true
  kbool : PySem.W.kitOne K (.type "int") (.type "bool") = some false
  klist : PySem.W.kitOne K (.type "list") (.type "list") = some true
  ktup : PySem.W.kitOne K (.type "tuple") (.type "tuple") = some true
  look : Cls K CL
  lnum : NoAttr K CL "numbers"
  lplace : NoAttr K CL "place"
  exc : ExCls K CN
  xplace : NoAttr K CN "place"
  xword : NoAttr K CN "word"
  mch : Mch K CN CN

section
variable {P : Program} {w : World} {K : PySem.W.Frag} {mg : Str → Option Value} {base : Heap} {f : Addr} {fd : FuncData} {aP CL CN : Addr}
set_option maxHeartbeats 4000000

theorem ok_initX (T : Txt K mg aP CL CN) (F : Fun K "__init__" "NoSheet.__init__" s_NoSheet___init__ f fd) : FnOk P w K mg base (CXE P w) 1 f fd ["self", "place", "word"] (spInitX CN) := by
  refine F.okN sc_NoSheet___init__ (fun vs H Q E h => ?_) (fun cdv A outer s H vs Q E hr h => ?_)
  · obtain ⟨x, y, z, rfl, _⟩ := h
    rfl
  obtain ⟨x, y, z, rfl, hx, q⟩ := h
  refine ⟨_, (pss_cons (ps_fldX (pv 0) (pv 1))
      (pss_one (ps_fldX (pv 0) (pv 2)))), ?_⟩
  try dsimp only [Cx.nox, Cx.exc, Cx.wish, cxOf_K]
  refine ⟨_, rfl, _, rfl, x, CN, none, rfl, hx, T.exc, T.xplace, .inl ⟨rfl, fun d hd => ?_⟩⟩
  have nd : d ≠ x := fun e => by rw [e, hx] at hd; cases hd
  refine ⟨_, rfl, _, rfl, x, CN, some d, rfl, upd_same, T.exc, T.xword, .inr ⟨d, [("place", y)], rfl, by rw [upd_ne nd]; exact upd_same, (show 1 < 1000 by decide), ?_⟩⟩
  refine q d _ nd hd (fun b o nb e => ?_) ?_ upd_same
  · rw [upd_ne (ne_of_none e hd), upd_ne nb, upd_ne (ne_of_none e hd)]; exact e
  · rw [upd_ne (Ne.symm nd)]; exact upd_same
theorem ok_initL (T : Txt K mg aP CL CN) (F : Fun K "__init__" "Look.__init__" s_Look___init__ f fd) : FnOk P w K mg base (CXE P w) 1 f fd ["self", "numbers"] (spInitL CL) := by
  refine F.okN sc_Look___init__ (fun vs H Q E h => ?_) (fun cdv A outer s H vs Q E hr h => ?_)
  · obtain ⟨x, dx, a, rfl, _⟩ := h
    rfl
  obtain ⟨x, dx, a, rfl, hx, q⟩ := h
  refine ⟨_, (pss_cons (ps_fld (pv 0) (pv 1) rfl)
      (pss_one (ps_fld (pv 0) pe_int rfl))), ?_⟩
  try dsimp only [Cx.nox, Cx.exc, Cx.wish, cxOf_K]
  refine ⟨_, rfl, _, rfl, x, CL, dx, _, rfl, hx, T.look, T.lnum, (show 0 < 1000 by decide), ?_⟩
  refine ⟨_, rfl, x, CL, dx, _, rfl, upd_same, T.look, T.lplace, (show 1 < 1000 by decide), ?_⟩
  refine q _ (fun b o nb e => ?_) upd_same
  rw [upd_ne nb, upd_ne nb]; exact e
theorem ok_whole (T : Txt K mg aP CL CN) (F : Fun K "is_whole" "is_whole" s_is_whole f fd) : FnOk P w K mg base (CXE P w) 1 f fd ["thing"] spWhole := by
  refine F.okN sc_is_whole (fun vs H Q E h => ?_) (fun cdv A outer s H vs Q E hr h => ?_)
  · obtain ⟨i, rfl, _⟩ := h
    rfl
  obtain ⟨i, rfl, q⟩ := h
  refine ⟨_, (pss_one (ps_ret (pe_and (pe_callB call_isi rfl T.n_isinstance bt_isinstance (pa_cons (pv 0) (pa_cons (pe_bltn (v := .ty "int") rfl T.n_int bt_int rfl) pa_nil))) (pe_one (pe_not (pe_callB call_isi rfl T.n_isinstance bt_isinstance (pa_cons (pv 0) (pa_cons (pe_bltn (v := .ty "bool") rfl T.n_bool bt_bool rfl) pa_nil)))))))), ?_⟩
  try dsimp only [Cx.nox, Cx.exc, Cx.wish, cxOf_K]
  refine ⟨_, rfl, .inl ⟨_, _, _, true, rfl, .int i, T.kint, _, rfl, iteT ?_⟩⟩
  exact ⟨_, rfl, .inl ⟨_, _, _, false, rfl, .int i, T.kbool, _, rfl, q⟩⟩
noncomputable def LookP (p : Nat) (a : Addr) : List (Str × V) := [("numbers", .ref a), ("place", .int p)]
theorem ok_tk (T : Txt K mg aP CL CN) (F : Fun K "take" "Look.take" s_Look_take f fd) (Cis_whole : Cal P w K mg base (CXE P w) 1 "is_whole" ["thing"] spWhole) (CNoSheet : CalX P w K mg base 1 "NoSheet" CN ["self", "place", "word"] (spInitX CN)) :
    FnOk P w K mg base (CXE P w) 3 f fd ["self"] (spTk CL CN) := by
  refine F.okX sc_Look_take (fun vs H Q E h => ?_) (fun cdv A outer s H vs Q E hr h => ?_)
  · obtain ⟨lk, dx, a, p, ns, rfl, _⟩ := h
    rfl
  obtain ⟨lk, dx, a, p, ns, rfl, ⟨hl, ha⟩, t1, t2⟩ := h
  refine ⟨_, (pss_cons (ps_if (pt_cmpR op_ge (pe_fld (pv 0) rfl) (pe_callB call_len_seq rfl T.n_len bt_len (pa_cons (pe_fld (pv 0) rfl) pa_nil)) (nomark _)) (pss_one (ps_raiseC CNoSheet hr rfl (pa_cons (pe_fld (pv 0) rfl) (pa_cons pe_str pa_nil)))) pss_nil)
      (pss_cons (ps_set (i := 1) sc_Look_take.nd rfl (Or.inl rfl) (pe_ix ix_list (pe_fld (pv 0) rfl) (pe_fld (pv 0) rfl) (fun _ _ => rfl)))
      (pss_cons (ps_if (pt_not (pt_val (pe_callC Cis_whole hr rfl (pa_cons (pv 1) pa_nil) passX))) (pss_one (ps_raiseC CNoSheet hr rfl (pa_cons (pe_fld (pv 0) rfl) (pa_cons pe_str pa_nil)))) pss_nil)
      (pss_cons (ps_fldaug (pv 0) pe_int in_add)
      (pss_one (ps_ret (pv 1))))))), ?_⟩
  try dsimp only [Cx.nox, Cx.exc, Cx.wish, cxOf_K]
  refine ⟨_, rfl, lk, CL, dx, _, _, rfl, hl, T.look, T.lplace, rfl, _, rfl, lk, CL, dx, _, _, rfl, hl, T.look, T.lnum, rfl, a, _, rfl, .inl (.of ha), _, _, rfl, rfl, _, rfl, ?_⟩
  have hz : (ns.map V.int).length = ns.length := List.length_map ..
  refine ite2 (fun c => ?_) (fun c => ?_)
  · have c' := of_decide_eq_true c
    have e : takeM ns p = .error (p, "end") := by
      unfold takeM
      rw [List.getElem?_eq_none (by (first | lia | omega))]
    exact ⟨_, rfl, lk, CL, dx, _, _, rfl, hl, T.look, T.lplace, rfl, small (show 2 ≤ 1000 by decide), raised (t2 _ _ e) (Keep.refl _ _)⟩
  · have hp : p < ns.length := by
      refine Nat.lt_of_not_le fun z => c (decide_eq_true ?_)
      (first | lia | omega)
    have ep : ns[p]? = some ns[p] := List.getElem?_eq_getElem hp
    generalize ns[p] = n at ep
    have at_ : atI (ns.map V.int) (p : Int) = some (.int n) := atI_nat (by rw [List.getElem?_map, ep]; rfl)
    have e : takeM ns p = .ok n := by unfold takeM; rw [ep]
    refine ⟨_, rfl, lk, CL, dx, _, _, rfl, hl, T.look, T.lnum, rfl, _, rfl, lk, CL, dx, _, _, rfl, hl, T.look, T.lplace, rfl, a, _, _, _, rfl, rfl, .of ha, at_, ?_⟩
    refine ⟨_, rfl, n, rfl, _, rfl, iteF ?_⟩
    refine ⟨_, rfl, lk, CL, dx, _, _, rfl, hl, T.look, T.lplace, rfl, _, _, rfl, rfl, dx, _, hl, (show 2 < 1000 by decide), ?_⟩
    exact ⟨_, rfl, t1 n e⟩
theorem ok_within (T : Txt K mg aP CL CN) (F : Fun K "take_within" "Look.take_within" s_Look_take_within f fd) (Mtake : CalM P w K mg base (CXE P w) 3 CL "take" ["self"] (spTk CL CN)) (CNoSheet : CalX P w K mg base 1 "NoSheet" CN ["self", "place", "word"] (spInitX CN)) :
    FnOk P w K mg base (CXE P w) 4 f fd ["self", "least", "most"] (spWithin CL CN) := by
  refine F.okX sc_Look_take_within (fun vs H Q E h => ?_) (fun cdv A outer s H vs Q E hr h => ?_)
  · obtain ⟨lk, dx, a, p, ns, lo, hi, rfl, _⟩ := h
    rfl
  obtain ⟨lk, dx, a, p, ns, lo, hi, rfl, ⟨hl, ha⟩, t1, t2⟩ := h
  refine ⟨_, (pss_cons (ps_set (i := 3) sc_Look_take_within.nd rfl (Or.inl rfl) (pe_fld (pv 0) rfl))
      (pss_cons (ps_set (i := 4) sc_Look_take_within.nd rfl (Or.inl rfl) (pe_methC0 (pv 0) Mtake hr passX))
      (pss_cons (ps_if (PW.pt (pw_or (pt_cmpR op_lt (pv 4) (pv 1) (nomark _)) (pw_or1 (pt_cmpR op_gt (pv 4) (pv 2) (nomark _))))) (pss_one (ps_raiseC CNoSheet hr rfl (pa_cons (pv 3) (pa_cons pe_str pa_nil)))) pss_nil)
      (pss_one (ps_ret (pv 4)))))), ?_⟩
  try dsimp only [Cx.nox, Cx.exc, Cx.wish, cxOf_K]
  refine ⟨_, rfl, lk, CL, dx, _, _, rfl, hl, T.look, T.lplace, rfl, ?_⟩
  refine ⟨_, rfl, lk, dx, _, rfl, hl, rfl, lk, dx, a, p, ns, rfl, ⟨hl, ha⟩, fun n e => ?_, fun pl wd e => ?_⟩
  · have ep : ns[p]? = some n := by
      unfold takeM at e
      cases q : ns[p]? with
      | none => rw [q] at e; cases e
      | some m => rw [q] at e; cases e; rfl
    have bad : n < lo ∨ hi < n → withinM ns p lo hi = .error (p, "range") := fun c => by unfold withinM; rw [ep]; exact if_pos c
    have k1 : Keep lk H (upd H lk (LookO CL dx a (p + 1))) := Keep.upd
    refine ⟨_, rfl, _, rfl, _, _, rfl, rfl, _, rfl, ite2 (fun c => ?_) (fun c => ?_)⟩
    · exact iteT ⟨_, rfl, small (show 2 ≤ 1000 by decide), raised (t2 _ _ (bad (.inl (of_decide_eq_true c)))) k1⟩
    · refine ⟨_, rfl, _, rfl, _, _, rfl, rfl, _, rfl, ite2 (fun c2 => ?_) (fun c2 => ?_)⟩
      · exact ⟨_, rfl, small (show 2 ≤ 1000 by decide), raised (t2 _ _ (bad (.inr (of_decide_eq_true c2)))) k1⟩
      · refine ⟨_, rfl, t1 n ?_⟩
        unfold withinM; rw [ep]
        exact if_neg (fun z => z.elim (fun z => c (decide_eq_true z)) fun z => c2 (decide_eq_true z))
  · refine t2 pl wd ?_
    unfold takeM at e
    unfold withinM
    cases q : ns[p]? with
    | none => rw [q] at e; exact e
    | some m => rw [q] at e; cases e
noncomputable def InvHeads (lk hd dx a : Addr) (H : Hp) (ns : List Int) (n : Int) (i : Nat) (σ' : St) (H' : Hp) : Prop := ∃ (done : Hds) (rs : List V) (most : Int) (v3 v4 : Option V), σ' = [some (.ref lk), some (.ref hd), some (.int most), v3, v4] ∧ most ≤ 4 ∧ done.length = i ∧ Keep lk H H' ∧
      H' lk = some (LookO CL dx a (1 + 2 * i)) ∧ H' hd = some (.lst rs) ∧ Paired (HeadAt H') rs done ∧ headsM ns n.toNat 0 1 = joinM done (headsM ns (n.toNat - i) most (1 + 2 * i))
theorem ok_heads (T : Txt K mg aP CL CN) (F : Fun K "take_heads" "take_heads" s_take_heads f fd) (Mtake_within : CalM P w K mg base (CXE P w) 4 CL "take_within" ["self", "least", "most"] (spWithin CL CN)) :
    FnOk P w K mg base (CXE P w) 5 f fd ["look"] (spHeads CL CN) := by
  refine F.okX sc_take_heads (fun vs H Q E h => ?_) (fun cdv A outer s H vs Q E hr h => ?_)
  · obtain ⟨lk, dx, a, ns, rfl, _⟩ := h
    rfl
  obtain ⟨lk, dx, a, ns, rfl, ⟨hl, ha⟩, t1, t2⟩ := h
  refine ⟨_, (pss_cons (ps_set (i := 1) sc_take_heads.nd rfl (Or.inl rfl) (pe_lst pa_nil))
      (pss_cons (ps_set (i := 2) sc_take_heads.nd rfl (Or.inl rfl) pe_int)
      (pss_cons (ps_for (own_fly rfl rfl) rfl (pi_range1 rfl T.n_range (pa_cons (pe_methC (pv 0) Mtake_within hr (pa_cons pe_int (pa_cons (pe_gint rfl T.m_MOST_FUNCTIONS) pa_nil)) passX) pa_nil)) (pg_name (i := 3) sc_take_heads.nd rfl (Or.inl rfl)) (pss_cons (ps_set (i := 4) sc_take_heads.nd rfl (Or.inl rfl) (pe_methC (pv 0) Mtake_within hr (pa_cons pe_int (pa_cons (pv 2) pa_nil)) passX))
      (pss_cons (ps_expr (pe_bm PySem.F.plainAttrs_list PySem.F.slot_list_append PySem.F.type_list_append mt_append (pv 1) (pa_cons (pe_tup (pa_cons (pv 4) (pa_cons (pe_methC (pv 0) Mtake_within hr (pa_cons (pv 4) (pa_cons (pe_gint rfl T.m_MOST_BOXES) pa_nil)) passX) pa_nil))) pa_nil)))
      (pss_one (ps_set (i := 2) sc_take_heads.nd rfl (Or.inl rfl) (pe_gint rfl T.m_MOST_PARAMS))))))
      (pss_one (ps_ret (pv 1)))))), ?_⟩
  try dsimp only [Cx.nox, Cx.exc, Cx.wish, cxOf_K]
  refine ⟨small (show 0 ≤ 1000 by decide), fun hd hhd => ?_⟩
  have nlh : lk ≠ hd := ne_of_none hl hhd
  have k1 : Keep lk H (upd H hd (.lst [])) := Keep.new _ hhd
  have l1 : Looks CL (upd H hd (.lst [])) lk dx a 0 ns := Looks.go ⟨hl, ha⟩ k1 (by rw [upd_ne nlh]; exact hl)
  refine ⟨_, rfl, lk, dx, _, rfl, l1.1, rfl, lk, dx, a, 0, ns, 1, 16, rfl, l1, fun n e => ?_, fun p wd e => ?_⟩
  · obtain ⟨_, n1, n16⟩ := withinM_ok e
    have eh : headsAllM ns = headsM ns n.toNat 0 1 := by unfold headsAllM; rw [e]
    refine ⟨n, rfl, by (first | lia | omega), by (first | lia | omega), for_range (lo := 0) (n := n.toNat) (InvHeads (CL := CL) lk hd dx a H ns n) ⟨[], [], 0, _, _, rfl, by decide, rfl, k1.trans Keep.upd, upd_same, ?_, .nil, (joinM_nil _).symm⟩ ?_ ?_⟩
    · rw [upd_ne (Ne.symm nlh)]; exact upd_same
    · rintro i σ' H' hi ⟨done, rs, most, v3, v4, rfl, hm, hn, kp, el, eh', pr, eq⟩
      obtain ⟨m, em⟩ : ∃ m, n.toNat - i = m + 1 := ⟨n.toNat - i - 1, by (first | lia | omega)⟩
      have L1 : Looks CL H' lk dx a (1 + 2 * i) ns := Looks.go ⟨hl, ha⟩ kp el
      refine ⟨_, rfl, lk, dx, _, rfl, el, rfl, _, rfl, lk, dx, a, _, ns, 0, most, rfl, L1, fun x ex => ?_, fun p wd ex => ?_⟩
      · have L2' : Looks CL (upd H' lk (LookO CL dx a (1 + 2 * i + 1))) lk dx a (1 + 2 * i + 1) ns := L1.go Keep.upd upd_same
        have eh2 : (upd H' lk (LookO CL dx a (1 + 2 * i + 1))) hd = some (.lst rs) := by rw [upd_ne (Ne.symm nlh)]; exact eh'
        refine ⟨_, rfl, .inl ⟨rfl, _, .of eh2⟩, _, rfl, _, rfl, lk, dx, _, rfl, upd_same, rfl, _, rfl, lk, dx, a, _, ns, x, 12, rfl, L2', fun y ey => ?_, fun p wd ey => ?_⟩
        · refine ⟨small (show 2 ≤ 1000 by decide), fun q hq => ?_⟩
          generalize hH2 : upd (upd H' lk (LookO CL dx a (1 + 2 * i + 1))) lk (LookO CL dx a (1 + 2 * i + 1 + 1)) = H2 at hq
          have k2 : Keep lk H' H2 := by rw [← hH2]; exact Keep.trans Keep.upd Keep.upd
          have e2 : H2 lk = some (LookO CL dx a (1 + 2 * i + 1 + 1)) := by rw [← hH2]; exact upd_same
          have h2 : H2 hd = some (.lst rs) := k2 hd _ (Ne.symm nlh) eh'
          have nq : hd ≠ q := ne_of_none h2 hq
          have ql : lk ≠ q := ne_of_none e2 hq
          have h3 : upd H2 q (.tup [.int x, .int y]) hd = some (.lst rs) := by rw [upd_ne nq]; exact h2
          have len : rs.length ≤ 16 := by have := Paired.len pr; (first | lia | omega)
          refine ⟨hd, rs, _, rfl, rfl, h3, small1000 (by (first | lia | omega)), ?_⟩
          have tp : Tups H' (upd (upd H2 q (.tup [.int x, .int y])) hd (.lst (rs ++ [.ref q]))) := .trans (.keep el k2) (.trans (.new hq) (.upd h3))
          refine ⟨done ++ [(x, y)], _, 4, _, _, rfl, by decide, by simp [hn], (kp.trans (k2.trans (Keep.new _ hq))).fresh hhd, ?_, upd_same, Paired.snoc (Paired.imp (fun _ _ z => z.tups tp) pr) ⟨q, rfl, ?_⟩, ?_⟩
          · rw [upd_ne nlh, upd_ne ql]; exact e2
          · rw [upd_ne (Ne.symm nq)]; exact upd_same
          · rw [eq, em, show n.toNat - (i + 1) = m by (first | lia | omega), show 1 + 2 * (i + 1) = 1 + 2 * i + 2 by (first | lia | omega)]
            conv => lhs; unfold headsM
            rw [ex]; simp only; rw [ey]; simp only
            cases headsM ns m 4 (1 + 2 * i + 2) with
            | error b => rfl
            | ok r => show Except.ok _ = Except.ok _; rw [List.append_assoc]; rfl
        · refine (t2 p wd ?_).keep (kp.trans Keep.upd)
          rw [eh, eq, em]
          unfold headsM
          rw [ex]; simp only; rw [ey]; rfl
      · refine (t2 p wd ?_).keep kp
        rw [eh, eq, em]
        unfold headsM
        rw [ex]; rfl
    · rintro σ' H' ⟨done, rs, most, v3, v4, rfl, hm, hn, kp, el, eh', pr, eq⟩
      refine ⟨_, rfl, t1 done ?_ hd H' kp (by rw [hn]; exact el) ⟨rs, eh', pr⟩⟩
      rw [eh, eq, Nat.sub_self]
      show Except.ok (done ++ []) = _
      rw [List.append_nil]
  · exact (t2 p wd (by unfold headsAllM; rw [e])).keep k1
theorem vt {i j : Int} (c : decide (V.int i = V.int j) = true) : i = j := by
  have := of_decide_eq_true c
  injection this
theorem vf {i j : Int} (c : ¬ decide (V.int i = V.int j) = true) : i ≠ j := fun z => c (decide_eq_true (congrArg V.int z))
theorem ok_own (T : Txt K mg aP CL CN) (F : Fun K "take_own" "take_own" s_take_own f fd) (Mtake : CalM P w K mg base (CXE P w) 3 CL "take" ["self"] (spTk CL CN)) (Mtake_within : CalM P w K mg base (CXE P w) 4 CL "take_within" ["self", "least", "most"] (spWithin CL CN)) :
    FnOk P w K mg base (CXE P w) 5 f fd ["look", "kind", "heads", "boxes"] (spOwn CL CN) := by
  refine F.okX sc_take_own (fun vs H Q E h => ?_) (fun cdv A outer s H vs Q E hr h => ?_)
  · obtain ⟨lk, dx, a, p, ns, hd, hs, boxes, k, rfl, _⟩ := h
    rfl
  obtain ⟨lk, dx, a, p, ns, hd, hs, boxes, k, rfl, L1, hh, t1, t2⟩ := h
  refine ⟨_, (pss_cons (ps_if (pt_cmpR op_eq (pv 1) (pe_gint rfl T.m_NUMBER) (nomark _)) (pss_one (ps_ret (pe_tup (pa_cons (pe_methC0 (pv 0) Mtake hr passX) pa_nil)))) pss_nil)
      (pss_cons (ps_if (PW.pt (pw_or (pt_cmpR op_eq (pv 1) (pe_gint rfl T.m_GET) (nomark _)) (pw_or1 (pt_cmpR op_eq (pv 1) (pe_gint rfl T.m_SET) (nomark _))))) (pss_one (ps_ret (pe_tup (pa_cons (pe_methC (pv 0) Mtake_within hr (pa_cons pe_int (pa_cons (pe_op op_sub (pv 3) pe_int) pa_nil)) passX) pa_nil)))) pss_nil)
      (pss_cons (ps_if (pt_cmpR op_eq (pv 1) (pe_gint rfl T.m_ALL) (nomark _)) (pss_one (ps_ret (pe_tup (pa_cons (pe_methC (pv 0) Mtake_within hr (pa_cons (pe_gint rfl T.m_LEAST_ALL) (pa_cons (pe_gint rfl T.m_MOST_MANY) pa_nil)) passX) pa_nil)))) pss_nil)
      (pss_cons (ps_if (pt_cmpR op_eq (pv 1) (pe_gint rfl T.m_PICK) (nomark _)) (pss_one (ps_ret (pe_tup (pa_cons (pe_methC (pv 0) Mtake_within hr (pa_cons (pe_gint rfl T.m_LEAST_PICK) (pa_cons (pe_gint rfl T.m_MOST_MANY) pa_nil)) passX) pa_nil)))) pss_nil)
      (pss_cons (ps_if (pt_cmpR op_eq (pv 1) (pe_gint rfl T.m_CALL) (nomark _)) (pss_one (ps_ret (pe_tup (pa_cons (pe_methC (pv 0) Mtake_within hr (pa_cons pe_int (pa_cons (pe_op op_sub (pe_callB call_len_seq rfl T.n_len bt_len (pa_cons (pv 2) pa_nil)) pe_int) pa_nil)) passX) pa_nil)))) pss_nil)
      (pss_one (ps_ret (pe_tup pa_nil)))))))), ?_⟩
  try dsimp only [Cx.nox, Cx.exc, Cx.wish, cxOf_K]
  have hl := L1.1
  have fin : ∀ n, ownM ns hs boxes k p = .ok [n] → 1 ≤ sizeLine ∧ ∀ t, upd H lk (LookO CL dx a (p + 1)) t = none → Q (.ref t) (upd (upd H lk (LookO CL dx a (p + 1))) t (.tup [.int n])) := fun n e => by
    refine ⟨small (by decide), fun t ht => t1 [n] e t _ (Keep.trans Keep.upd (Keep.new _ ht)) ?_ upd_same⟩
    rw [upd_ne (ne_of_none (upd_same (H := H) (a := lk) (o := LookO CL dx a (p + 1))) ht)]
    exact upd_same
  refine ⟨_, rfl, rfl, _, rfl, ite2 (fun c => ?_) (fun c0 => ?_)⟩
  · have o : ownM ns hs boxes k p = oneM (takeM ns p) := if_pos (vt c)
    exact ⟨_, rfl, lk, dx, _, rfl, hl, rfl, lk, dx, a, p, ns, rfl, L1, fun n e => fin n (by rw [o, e]; rfl), fun pl wd e => t2 _ _ (by rw [o, e]; rfl)⟩
  have n0 := vf c0
  have one : ∀ lo hi, (∀ r, withinM ns p lo hi = r → ownM ns hs boxes k p = oneM r) → Looks CL H lk dx a p ns ∧ Tells (withinM ns p lo hi) (fun n => 1 ≤ sizeLine ∧ ∀ t, upd H lk (LookO CL dx a (p + 1)) t = none → Q (.ref t) (upd (upd H lk (LookO CL dx a (p + 1))) t (.tup [.int n]))) (Fails CN lk H E) :=
    fun lo hi o => ⟨L1, fun n e => fin n (o _ e), fun pl wd e => t2 _ _ (o _ e)⟩
  have br12 : k = 1 ∨ k = 2 → ∀ r, withinM ns p 0 (boxes - 1) = r → ownM ns hs boxes k p = oneM r := fun z r e => by unfold ownM; rw [if_neg n0, if_pos z, e]
  refine ⟨_, rfl, rfl, _, rfl, ite2 (fun c => iteT ?_) (fun c1 => ?_)⟩
  · exact ⟨_, rfl, lk, dx, _, rfl, hl, rfl, _, rfl, _, _, rfl, rfl, lk, dx, a, p, ns, 0, boxes - 1, rfl, one _ _ (br12 (.inl (vt c)))⟩
  refine ⟨_, rfl, rfl, _, rfl, ite2 (fun c => ?_) (fun c2 => ?_)⟩
  · exact ⟨_, rfl, lk, dx, _, rfl, hl, rfl, _, rfl, _, _, rfl, rfl, lk, dx, a, p, ns, 0, boxes - 1, rfl, one _ _ (br12 (.inr (vt c)))⟩
  have n12 : ¬ (k = 1 ∨ k = 2) := fun z => z.elim (vf c1) (vf c2)
  refine ⟨_, rfl, rfl, _, rfl, ite2 (fun c => ?_) (fun c3 => ?_)⟩
  · exact ⟨_, rfl, lk, dx, _, rfl, hl, rfl, lk, dx, a, p, ns, 1, 12, rfl, one _ _ fun r e => by unfold ownM; rw [if_neg n0, if_neg n12, if_pos (vt c), e]⟩
  refine ⟨_, rfl, rfl, _, rfl, ite2 (fun c => ?_) (fun c4 => ?_)⟩
  · exact ⟨_, rfl, lk, dx, _, rfl, hl, rfl, lk, dx, a, p, ns, 2, 12, rfl, one _ _ fun r e => by unfold ownM; rw [if_neg n0, if_neg n12, if_neg (vf c3), if_pos (vt c), e]⟩
  refine ⟨_, rfl, rfl, _, rfl, ite2 (fun c => ?_) (fun c6 => ?_)⟩
  · obtain ⟨rs, eh, pr⟩ := id hh
    have ln : rs.length = hs.length := Paired.len pr
    exact ⟨_, rfl, lk, dx, _, rfl, hl, rfl, _, rfl, hd, _, rfl, .inl (.of eh), _, _, rfl, rfl, lk, dx, a, p, ns, 0, _, rfl, one _ _ fun r e => by unfold ownM; rw [if_neg n0, if_neg n12, if_neg (vf c3), if_neg (vf c4), if_pos (vt c), ← ln, e]⟩
  · refine ⟨small (show 0 ≤ 1000 by decide), fun t ht => t1 [] ?_ t _ (Keep.new _ ht) ?_ upd_same⟩
    · unfold ownM; rw [if_neg n0, if_neg n12, if_neg (vf c3), if_neg (vf c4), if_neg (vf c6)]
    · rw [upd_ne (ne_of_none hl ht)]; exact hl
noncomputable def spParts : Sp := fun vs H Q _ => ∃ (k : Nat) (v : Int), vs = [.int (7 + (k : Int))] ∧ partsN[k]? = some v ∧ Q (.int v) H
theorem ok_parts (T : Txt K mg aP CL CN) (F : Fun K "parts_of" "parts_of" s_parts_of f fd) : FnOk P w K mg base (CXE P w) 1 f fd ["kind"] spParts := by
  refine F.okN sc_parts_of (fun vs H Q E h => ?_) (fun cdv A outer s H vs Q E hr h => ?_)
  · obtain ⟨k, v, rfl, _⟩ := h
    rfl
  obtain ⟨k, v, rfl, hk, q⟩ := h
  refine ⟨_, (pss_one (ps_ret (pe_ix ix_tup (pe_gref rfl T.m_PARTS) (pe_op op_sub (pv 0) (pe_gint rfl T.m_FAIL)) (fun _ _ => rfl)))), ?_⟩
  try dsimp only [Cx.nox, Cx.exc, Cx.wish, cxOf_K]
  refine ⟨_, rfl, _, _, rfl, rfl, aP, _, _, _, rfl, rfl, T.parts _, ?_, q⟩
  rw [show (7 : Int) + (k : Int) - 7 = (k : Int) by (first | lia | omega)]
  exact atI_nat (by rw [List.getElem?_map, hk]; rfl)
theorem ok_due (T : Txt K mg aP CL CN) (F : Fun K "parts_due" "parts_due" s_parts_due f fd) (Cparts_of : Cal P w K mg base (CXE P w) 1 "parts_of" ["kind"] spParts) :
    FnOk P w K mg base (CXE P w) 2 f fd ["kind", "numbers", "heads"] spDue := by
  refine F.okN sc_parts_due (fun vs H Q E h => ?_) (fun cdv A outer s H vs Q E hr h => ?_)
  · obtain ⟨k, t, own, hd, hs, rfl, _⟩ := h
    rfl
  obtain ⟨k, t, own, hd, hs, rfl, ht, ⟨rs, eh, pr⟩, ⟨h0, h1, hk⟩, q⟩ := h
  refine ⟨_, (pss_cons (ps_if (PW.pt (pw_or (pt_cmpR op_eq (pv 0) (pe_gint rfl T.m_NUMBER) (nomark _)) (pw_or1 (pt_cmpR op_eq (pv 0) (pe_gint rfl T.m_GET) (nomark _))))) (pss_one (ps_ret pe_int)) pss_nil)
      (pss_cons (ps_if (pt_cmpR op_eq (pv 0) (pe_gint rfl T.m_SET) (nomark _)) (pss_one (ps_ret pe_int)) pss_nil)
      (pss_cons (ps_if (pt_cmpR op_eq (pv 0) (pe_gint rfl T.m_ALL) (nomark _)) (pss_one (ps_ret (pe_ix ix_tup (pv 1) pe_int (fun _ _ => rfl)))) pss_nil)
      (pss_cons (ps_if (pt_cmpR op_eq (pv 0) (pe_gint rfl T.m_PICK) (nomark _)) (pss_one (ps_ret (pe_op op_add pe_int (pe_ix ix_tup (pv 1) pe_int (fun _ _ => rfl))))) pss_nil)
      (pss_cons (ps_if (pt_cmpR op_eq (pv 0) (pe_gint rfl T.m_LOOP) (nomark _)) (pss_one (ps_ret pe_int)) pss_nil)
      (pss_cons (ps_if (pt_cmpR op_eq (pv 0) (pe_gint rfl T.m_CALL) (nomark _)) (pss_one (ps_ret (pe_ix ix_tup (pe_ix ix_list (pv 2) (pe_ix ix_tup (pv 1) pe_int (fun _ _ => rfl)) (fun _ _ => rfl)) pe_int (fun _ _ => rfl)))) pss_nil)
      (pss_one (ps_ret (pe_callC Cparts_of hr rfl (pa_cons (pv 0) pa_nil) passN))))))))), ?_⟩
  try dsimp only [Cx.nox, Cx.exc, Cx.wish, cxOf_K]
  have due0 : k = 0 ∨ k = 1 → dueM hs k own = 0 := fun z => if_pos z
  refine ⟨_, rfl, rfl, _, rfl, ite2 (fun c => iteT ?_) (fun c0 => ?_)⟩
  · rw [due0 (.inl (vt c))] at q; exact q
  refine ⟨_, rfl, rfl, _, rfl, ite2 (fun c => ?_) (fun c1 => ?_)⟩
  · rw [due0 (.inr (vt c))] at q; exact q
  have n01 : ¬ (k = 0 ∨ k = 1) := fun z => z.elim (vf c0) (vf c1)
  unfold dueM at q
  rw [if_neg n01] at q
  refine ⟨_, rfl, rfl, _, rfl, ite2 (fun c => ?_) (fun c2 => ?_)⟩
  · rw [if_pos (vt c)] at q; exact q
  rw [if_neg (vf c2)] at q
  refine ⟨_, rfl, rfl, _, rfl, ite2 (fun c => ?_) (fun c3 => ?_)⟩
  · rw [if_pos (vt c)] at q
    obtain ⟨n, rfl, _⟩ := hk (.inl (vt c))
    exact ⟨_, rfl, t, _, _, _, rfl, rfl, .of ht, rfl, q⟩
  rw [if_neg (vf c3)] at q
  refine ⟨_, rfl, rfl, _, rfl, ite2 (fun c => ?_) (fun c4 => ?_)⟩
  · rw [if_pos (vt c)] at q
    obtain ⟨n, rfl, _⟩ := hk (.inr (.inl (vt c)))
    exact ⟨_, rfl, t, _, _, _, rfl, rfl, .of ht, rfl, _, _, rfl, rfl, q⟩
  rw [if_neg (vf c4)] at q
  refine ⟨_, rfl, rfl, _, rfl, ite2 (fun c => ?_) (fun c5 => ?_)⟩
  · rw [if_pos (vt c)] at q; exact q
  rw [if_neg (vf c5)] at q
  refine ⟨_, rfl, rfl, _, rfl, ite2 (fun c => ?_) (fun c6 => ?_)⟩
  · rw [if_pos (vt c)] at q
    obtain ⟨n, rfl, n0, n1, _⟩ := hk (.inr (.inr (vt c)))
    have hn : n.toNat < hs.length := by have := n1 (vt c); (first | lia | omega)
    have ln : rs.length = hs.length := Paired.len pr
    have e1 : hs[n.toNat]? = some hs[n.toNat] := List.getElem?_eq_getElem hn
    have e2 : rs[n.toNat]? = some rs[n.toNat] := List.getElem?_eq_getElem (by (first | lia | omega))
    obtain ⟨tt, er, et⟩ := Paired.get pr _ _ _ e2 e1
    have av : atI rs n = some (.ref tt) := by
      have := atI_nat (xs := rs) e2
      rw [show ((n.toNat : Nat) : Int) = n by (first | lia | omega), er] at this
      exact this
    refine ⟨_, rfl, _, rfl, t, _, _, _, rfl, rfl, .of ht, rfl, hd, rs, n, _, rfl, rfl, .of eh, av, tt, _, _, _, rfl, rfl, .of et, rfl, ?_⟩
    have : (hs.getD ([n].headD 0).toNat (0, 0)).1 = hs[n.toNat].1 := by
      show (hs.getD n.toNat (0, 0)).1 = _
      rw [List.getD_eq_getElem?_getD, e1]; rfl
    rw [this] at q
    exact q
  · rw [if_neg (vf c6)] at q
    have n0 := vf c0; have n1 := vf c1; have n2 := vf c2; have n3 := vf c3; have n4 := vf c4; have n5 := vf c5; have n6 := vf c6
    have hk7 : (k - 7).toNat < 13 := by (first | lia | omega)
    have e1 : partsN[(k - 7).toNat]? = some (partsN.getD (k - 7).toNat 0) := by
      rw [List.getD_eq_getElem?_getD, List.getElem?_eq_getElem (by exact hk7)]; rfl
    exact ⟨_, rfl, (k - 7).toNat, _, (by rw [show (7 : Int) + ((k - 7).toNat : Int) = k by (first | lia | omega)]; rfl), e1, q⟩
noncomputable def spPrev (CL CN : Addr) : Nat → Sp
  | 0 => fun _ _ _ _ => False
  | d + 1 => spNode CL CN d
noncomputable def InvNode (lk hd dx a t ps : Addr) (boxes k N : Int) (d p : Nat) (own : List Int) (H : Hp) (ns : List Int) (hs : Hds) (i : Nat) (σ' : St) (H' : Hp) : Prop := ∃ (done : List Nd) (vs : List V) (p' : Nat) (v8 : Option V), σ' = [some (.ref lk), some (.ref hd), some (.int boxes), some (.int (11 - ((d + 1 : Nat) : Int))), some (.int (p : Int)), some (.int k), some (.ref t), some (.ref ps), v8] ∧ done.length = i ∧ Keep lk H H' ∧
      H' lk = some (LookO CL dx a p') ∧ H' t = some (.tup (own.map V.int)) ∧ H' ps = some (.lst vs) ∧ Paired (NodeAt H' d) vs done ∧ partsM (nodeM ns hs boxes d) N.toNat (p + 1 + own.length) = joinP done (partsM (nodeM ns hs boxes d) (N.toNat - i) p')
theorem ok_node (d : Nat) (hd10 : d ≤ 10) (T : Txt K mg aP CL CN) (F : Fun K "take_node" "take_node" s_take_node f fd) (CNoSheet : CalX P w K mg base 1 "NoSheet" CN ["self", "place", "word"] (spInitX CN)) (Mtake_within : CalM P w K mg base (CXE P w) 4 CL "take_within" ["self", "least", "most"] (spWithin CL CN))
    (Ctake_own : Cal P w K mg base (CXE P w) 5 "take_own" ["look", "kind", "heads", "boxes"] (spOwn CL CN)) (Cparts_due : Cal P w K mg base (CXE P w) 2 "parts_due" ["kind", "numbers", "heads"] spDue)
    (Ctake_node : Cal P w K mg base (CXE P w) (5 + d) "take_node" ["look", "heads", "boxes", "deep"] (spPrev CL CN d)) : FnOk P w K mg base (CXE P w) (5 + d + 1) f fd ["look", "heads", "boxes", "deep"] (spNode CL CN d) := by
  refine F.okX sc_take_node (fun vs H Q E h => ?_) (fun cdv A outer s H vs Q E hr h => ?_)
  · obtain ⟨lk, dx, a, p, ns, hd, hs, boxes, rfl, _⟩ := h
    rfl
  obtain ⟨lk, dx, a, p, ns, hd, hs, boxes, rfl, L1, hh, ho, t1, t2⟩ := h
  refine ⟨_, (pss_cons (ps_set (i := 4) sc_take_node.nd rfl (Or.inl rfl) (pe_fld (pv 0) rfl))
      (pss_cons (ps_if (pt_cmpR op_gt (pv 3) (pe_gint rfl T.m_MOST_DEEP) (nomark _)) (pss_one (ps_raiseC CNoSheet hr rfl (pa_cons (pv 4) (pa_cons pe_str pa_nil)))) pss_nil)
      (pss_cons (ps_set (i := 5) sc_take_node.nd rfl (Or.inl rfl) (pe_methC (pv 0) Mtake_within hr (pa_cons (pe_gint rfl T.m_NUMBER) (pa_cons (pe_gint rfl T.m_NEW) pa_nil)) passX))
      (pss_cons (ps_set (i := 6) sc_take_node.nd rfl (Or.inl rfl) (pe_callC Ctake_own hr rfl (pa_cons (pv 0) (pa_cons (pv 5) (pa_cons (pv 1) (pa_cons (pv 2) pa_nil)))) passX))
      (pss_cons (ps_set (i := 7) sc_take_node.nd rfl (Or.inl rfl) (pe_lst pa_nil))
      (pss_cons (ps_for (own_fly rfl rfl) rfl (pi_range1 rfl T.n_range (pa_cons (pe_callC Cparts_due hr rfl (pa_cons (pv 5) (pa_cons (pv 6) (pa_cons (pv 1) pa_nil))) passX) pa_nil)) (pg_name (i := 8) sc_take_node.nd rfl (Or.inl rfl)) (pss_one (ps_expr (pe_bm PySem.F.plainAttrs_list PySem.F.slot_list_append PySem.F.type_list_append mt_append (pv 7) (pa_cons (pe_callC Ctake_node hr rfl (pa_cons (pv 0) (pa_cons (pv 1) (pa_cons (pv 2) (pa_cons (pe_op op_add (pv 3) pe_int) pa_nil)))) passX) pa_nil)))))
      (pss_one (ps_ret (pe_tup (pa_cons (pv 5) (pa_cons (pv 4) (pa_cons (pv 6) (pa_cons (pe_callTy call_tuple_of rfl T.n_tuple bt_tuple (pa_cons (pv 7) pa_nil)) pa_nil))))))))))))), ?_⟩
  try dsimp only [Cx.nox, Cx.exc, Cx.wish, cxOf_K]
  have hl := L1.1
  refine ⟨_, rfl, lk, CL, dx, _, _, rfl, hl, T.look, T.lplace, rfl, ?_⟩
  refine ⟨_, rfl, _, _, rfl, rfl, _, rfl, ite2 (fun c => ?_) (fun c => ?_)⟩
  · have d0 : d = 0 := by have := of_decide_eq_true c; (first | lia | omega)
    subst d0
    exact ⟨_, rfl, small (show 2 ≤ 1000 by decide), raised (t2 p "deep" rfl) (Keep.refl _ _)⟩
  cases d with
  | zero => exact absurd (decide_eq_true (by decide)) c
  | succ d =>
  refine ⟨_, rfl, lk, dx, _, rfl, hl, rfl, lk, dx, a, p, ns, 0, 19, rfl, L1, fun k ek => ?_, fun pl wd ek => t2 pl wd (by unfold nodeM; rw [ek])⟩
  obtain ⟨_, k0, k19⟩ := withinM_ok ek
  have ka : Keep lk H (upd H lk (LookO CL dx a (p + 1))) := Keep.upd
  have La := L1.go ka upd_same
  refine ⟨_, rfl, _, rfl, _, rfl, _, rfl, lk, dx, a, p + 1, ns, hd, hs, boxes, k, rfl, La, hh.keep hl ka, fun own eo t H2 k2 el2 et2 => ?_, fun pl wd eo => ?_⟩
  rotate_left
  · exact (t2 pl wd (by unfold nodeM; rw [ek]; simp only; rw [eo])).keep ka
  have oo := own_ok k0 k19 eo
  have kb := ka.trans k2
  refine ⟨small (show 0 ≤ 1000 by decide), fun ps hps => ?_⟩
  have g3 := same_new hps (.lst [])
  have nps : lk ≠ ps := ne_of_none el2 hps
  have ntp : t ≠ ps := ne_of_none et2 hps
  have kc : Keep lk H (upd H2 ps (.lst [])) := kb.trans (Keep.same g3)
  have elc := g3 _ _ el2
  obtain ⟨j0, j13⟩ := due_ok oo ho
  generalize hN : dueM hs k own = N at j0 j13
  have nHp : H ps = none := by
    cases e : H ps with
    | none => rfl
    | some o => rw [kb ps o (Ne.symm nps) e] at hps; cases hps
  refine ⟨_, rfl, _, rfl, _, rfl, k, t, own, hd, hs, rfl, g3 _ _ et2, hh.keep hl kc, oo, N, by rw [hN], by (first | lia | omega), by (first | lia | omega), ?_⟩
  have en : nodeM ns hs boxes (d + 1) p = match partsM (nodeM ns hs boxes d) N.toNat (p + 1 + own.length) with
      | .error b => .error b
      | .ok r => .ok (.mk k p own r.1, r.2) := by
    conv => lhs; unfold nodeM
    rw [ek]; simp only; rw [eo]; simp only; rw [hN] <;> rfl
  refine for_range (lo := 0) (n := N.toNat) (InvNode (CL := CL) lk hd dx a t ps boxes k N d p own H ns hs)
      ⟨[], [], _, _, rfl, rfl, kc, elc, g3 _ _ et2, upd_same, .nil, (joinP_nil _).symm⟩ ?_ ?_
  · rintro i σ' H' hi ⟨done, vs, p', v8, rfl, hn, kp, el, et, ep, pr, eq⟩
    obtain ⟨m, em⟩ : ∃ m, N.toNat - i = m + 1 := ⟨N.toNat - i - 1, by (first | lia | omega)⟩
    have L2' : Looks CL H' lk dx a p' ns := L1.go kp el
    have ed : (11 - ((d + 1 : Nat) : Int)) + 1 = 11 - (d : Int) := by (first | lia | omega)
    refine ⟨_, rfl, .inl ⟨rfl, _, .of ep⟩, _, rfl, _, rfl, _, rfl, _, rfl, _, _, rfl, rfl, lk, dx, a, p', ns, hd, hs, boxes, congrArg (fun z => [V.ref lk, V.ref hd, V.int boxes, V.int z]) ed, L2', hh.keep hl kp, ho, fun r er v H3 k3 el3 nv => ?_, fun pl wd er => ?_⟩
    · have ep3 : H3 ps = some (.lst vs) := k3 ps _ (Ne.symm nps) ep
      have len : vs.length ≤ 13 := by have := Paired.len pr; (first | lia | omega)
      refine ⟨ps, vs, _, rfl, rfl, ep3, small1000 (by (first | lia | omega)), ?_⟩
      have tp : Tups H' (upd H3 ps (.lst (vs ++ [v]))) := .trans (.keep el k3) (.upd ep3)
      have ntl : t ≠ lk := fun z => by rw [z, el] at et; cases et
      refine ⟨done ++ [r.1], _, r.2, _, rfl, by simp [hn], (kp.trans k3).fresh nHp, ?_, ?_, upd_same, Paired.snoc (Paired.imp (fun _ _ z => z.tups tp) pr) (nv.tups (.upd ep3)), ?_⟩
      · rw [upd_ne nps]; exact el3
      · rw [upd_ne ntp]; exact k3 t _ ntl et
      · rw [eq, em, show N.toNat - (i + 1) = m by (first | lia | omega)]
        conv => lhs; unfold partsM
        rw [er]; simp only
        cases partsM (nodeM ns hs boxes d) m r.2 with
        | error b => rfl
        | ok r => show Except.ok _ = Except.ok _; rw [List.append_assoc]; rfl
    · refine (t2 pl wd ?_).keep kp
      rw [en, eq, em]
      conv => lhs; unfold partsM
      rw [er]; rfl
  · rintro σ' H' ⟨done, vs, p', v8, rfl, hn, kp, el, et, ep, pr, eq⟩
    rw [Nat.sub_self] at eq
    have eq' : partsM (nodeM ns hs boxes d) N.toNat (p + 1 + own.length) = .ok (done, p') := by rw [eq]; show Except.ok (done ++ [], p') = _; rw [List.append_nil]
    refine ⟨_, rfl, _, rfl, _, rfl, _, rfl, ps, vs, rfl, .inl ⟨.of ep, fun q hq => ?_⟩⟩
    refine ⟨small (show 4 ≤ 1000 by decide), fun u hu => ?_⟩
    have s1 := same_new hq (.tup vs)
    have s2 := same_new hu (.tup [.int k, .int (p : Int), .ref t, .ref q])
    refine t1 (.mk k p own done, p') (by rw [en, eq']) (.ref u) _ (kp.trans (Keep.same (s1.trans s2))) (s2 _ _ (s1 _ _ el)) ?_
    exact ⟨u, t, q, vs, rfl, upd_same, s2 _ _ (s1 _ _ et), s2 _ _ upd_same, Paired.imp (fun _ _ z => z.tups (.same (s1.trans s2))) pr⟩
theorem ok_nodes (T : Txt K mg aP CL CN) (F : Fun K "take_node" "take_node" s_take_node f fd) (CNoSheet : CalX P w K mg base 1 "NoSheet" CN ["self", "place", "word"] (spInitX CN)) (Mtake_within : CalM P w K mg base (CXE P w) 4 CL "take_within" ["self", "least", "most"] (spWithin CL CN))
    (Ctake_own : Cal P w K mg base (CXE P w) 5 "take_own" ["look", "kind", "heads", "boxes"] (spOwn CL CN)) (Cparts_due : Cal P w K mg base (CXE P w) 2 "parts_due" ["kind", "numbers", "heads"] spDue)
    (hm : mg "take_node" = some (.ref f)) (hk : PySem.W.keepIn K (.ref f) = true) (hb : Binds K fd ["look", "heads", "boxes", "deep"] []) : ∀ d, d ≤ 10 → FnOk P w K mg base (CXE P w) (5 + d + 1) f fd ["look", "heads", "boxes", "deep"] (spNode CL CN d) := by
  intro d
  induction d with
  | zero => exact fun h => ok_node 0 h T F CNoSheet Mtake_within Ctake_own Cparts_due ⟨⟨_, _, fn_false, hm, hk, hb⟩⟩
  | succ d ih => exact fun h => ok_node (d + 1) h T F CNoSheet Mtake_within Ctake_own Cparts_due ⟨⟨_, _, ih (by (first | lia | omega)), hm, hk, hb⟩⟩
noncomputable def InvFns (a lk hd tl dx : Addr) (rs : List V) (hs : Hds) (ns : List Int) (H1 : Hp) (i : Nat) (σ' : St) (H' : Hp) : Prop := ∃ (done : List Nd) (vs : List V) (p' : Nat) (v4 v5 : Option V), σ' = [some (.ref a), some (.ref lk), some (.ref hd), some (.ref tl), v4, v5] ∧ i ≤ rs.length ∧ done.length = i ∧ Keep lk H1 H' ∧ H' lk = some (LookO CL dx a p') ∧
      H' hd = some (.lst rs) ∧ Paired (HeadAt H') rs hs ∧ H' tl = some (.lst vs) ∧ Paired (FnAt H') vs ((hs.take i).zip done) ∧ bodiesM ns hs hs (1 + 2 * hs.length) = joinP done (bodiesM ns hs (hs.drop i) p')
theorem ok_fns (T : Txt K mg aP CL CN) (F : Fun K "functions" "functions" s_functions f fd) (CNoSheet : CalX P w K mg base 1 "NoSheet" CN ["self", "place", "word"] (spInitX CN)) (CLook : CalK P w K mg base (CXE P w) 1 "Look" CL ["self", "numbers"] (spInitL CL))
    (Ctake_heads : Cal P w K mg base (CXE P w) 5 "take_heads" ["look"] (spHeads CL CN)) (Ctake_node : Cal P w K mg base (CXE P w) 16 "take_node" ["look", "heads", "boxes", "deep"] (spNode CL CN 10)) :
    FnOk P w K mg base (CXE P w) 17 f fd ["sheet"] (spFns CN) := by
  refine F.okX sc_functions (fun vs H Q E h => ?_) (fun cdv A outer s H vs Q E hr h => ?_)
  · obtain ⟨a, ns, rfl, _⟩ := h
    rfl
  obtain ⟨a, ns, rfl, ha, t1, t2⟩ := h
  refine ⟨_, (pss_cons (ps_set (i := 1) sc_functions.nd rfl (Or.inl rfl) (pe_makeC CLook hr rfl (pa_cons (pv 0) pa_nil) passX))
      (pss_cons (ps_set (i := 2) sc_functions.nd rfl (Or.inl rfl) (pe_callC Ctake_heads hr rfl (pa_cons (pv 1) pa_nil) passX))
      (pss_cons (ps_set (i := 3) sc_functions.nd rfl (Or.inl rfl) (pe_lst pa_nil))
      (pss_cons (ps_for (own_fly rfl rfl) rfl (pi_list (pv 2)) (pg_tup rfl (pgs_cons (pg_name (i := 4) sc_functions.nd rfl (Or.inl rfl)) (pgs_cons (pg_name (i := 5) sc_functions.nd rfl (Or.inl rfl)) pgs_nil))) (pss_one (ps_expr (pe_bm PySem.F.plainAttrs_list PySem.F.slot_list_append PySem.F.type_list_append mt_append (pv 3) (pa_cons (pe_tup (pa_cons (pv 4) (pa_cons (pv 5) (pa_cons (pe_callC Ctake_node hr rfl (pa_cons (pv 1) (pa_cons (pv 2) (pa_cons (pv 5) (pa_cons pe_int pa_nil)))) passX) pa_nil)))) pa_nil)))))
      (pss_cons (ps_if (pt_cmpR op_lt (pe_fld (pv 1) rfl) (pe_callB call_len_seq rfl T.n_len bt_len (pa_cons (pv 0) pa_nil)) (nomark _)) (pss_one (ps_raiseC CNoSheet hr rfl (pa_cons (pe_fld (pv 1) rfl) (pa_cons pe_str pa_nil)))) pss_nil)
      (pss_one (ps_ret (pv 3)))))))), ?_⟩
  try dsimp only [Cx.nox, Cx.exc, Cx.wish, cxOf_K]
  refine ⟨_, rfl, fun lk dx hlk hdx ndx => ⟨lk, dx, a, rfl, upd_same, fun H1 k1 el1 => ⟨rfl, ?_⟩⟩⟩
  -- the look is new: what is kept but for it is the same
  have nla : a ≠ lk := ne_of_none ha hlk
  have same0 : ∀ {H' : Hp}, Keep lk (upd (upd H dx (.own lk)) lk (.ins CL dx [])) H' → Same H H' := fun {H'} k b o e => by
    refine k b o (ne_of_none e hlk) ?_
    rw [upd_ne (ne_of_none e hlk), upd_ne (ne_of_none e hdx)]; exact e
  have L1 : Looks CL H1 lk dx a 0 ns := ⟨el1, same0 k1 _ _ ha⟩
  have bad : ∀ {H' : Hp} {p : Nat} {wd : Str}, Keep lk H1 H' → functionsM ns = .error (p, wd) → Fails CN lk H' E p wd := fun {H' p wd} k e d H'' k' ed => t2 p wd e d H'' (same0 (k1.trans (k.trans k'))) ed
  refine ⟨_, rfl, lk, dx, a, ns, rfl, L1, fun hs eh hd H2 k2 el2 hh => ?_, fun p wd e => bad (Keep.refl _ _) (by unfold functionsM; rw [e])⟩
  obtain ⟨ho, _, l1, l16, _⟩ := headsAllM_ok eh
  refine ⟨small (show 0 ≤ 1000 by decide), fun tl htl => ?_⟩
  have g3 := same_new htl (.lst [])
  have nlt : lk ≠ tl := ne_of_none el2 htl
  have kc : Keep lk H1 (upd H2 tl (.lst [])) := k2.trans (Keep.same g3)
  obtain ⟨rs, ehd, pr⟩ := id hh
  have nht : hd ≠ tl := ne_of_none ehd htl
  have nhl : hd ≠ lk := fun z => by rw [z, el2] at ehd; cases ehd
  have lr : rs.length = hs.length := Paired.len pr
  have ef : functionsM ns = match bodiesM ns hs hs (1 + 2 * hs.length) with
      | .error b => .error b
      | .ok r => if r.2 < ns.length then .error (r.2, "over") else .ok (hs, r.1) := by unfold functionsM; rw [eh] <;> rfl
  have nHt : H1 tl = none := by
    cases e : H1 tl with
    | none => rfl
    | some o => rw [k2 tl o (Ne.symm nlt) e] at htl; cases htl
  have nH0 : H tl = none := (same0 k1).free nHt
  refine ⟨_, rfl, hd, rfl, ⟨rs, .of (g3 _ _ ehd)⟩, for_list (xs := rs) (InvFns (CL := CL) a lk hd tl dx rs hs ns H1)
      ⟨[], [], _, _, _, rfl, Nat.zero_le _, rfl, kc, g3 _ _ el2, g3 _ _ ehd, Paired.imp (fun _ _ z => z.tups (.same g3)) pr, upd_same, .nil, (joinP_nil _).symm⟩ ?_ ?_ ?_⟩
  · rintro i σ' H' _ ⟨done, vs, p', v4, v5, rfl, hi, hn, kp, el, eh', pr', et, pf, eq⟩
    exact .of eh'
  · rintro i x σ' H' hx ⟨done, vs, p', v4, v5, rfl, _, hn, kp, el, eh', pr', et, pf, eq⟩
    have hi : i < rs.length := (List.getElem?_eq_some_iff.mp hx).1
    have e1 : hs[i]? = some hs[i] := List.getElem?_eq_getElem (by (first | lia | omega))
    generalize hs[i] = hx1 at e1
    obtain ⟨u, rfl, eu⟩ := Paired.get pr' i _ _ hx e1
    have dr : hs.drop i = hx1 :: hs.drop (i + 1) := by
      have := List.drop_eq_getElem_cons (l := hs) (i := i) (by (first | lia | omega))
      rw [this]; congr 1
      exact Option.some.inj ((List.getElem?_eq_getElem (by (first | lia | omega))).symm.trans e1)
    have tk : hs.take (i + 1) = hs.take i ++ [hx1] := by rw [List.take_add_one, e1]; rfl
    refine ⟨u, _, rfl, .of eu, rfl, _, _, rfl, _, _, rfl, rfl, ?_⟩
    have L2' : Looks CL H' lk dx a p' ns := L1.go kp el
    refine ⟨_, rfl, .inl ⟨rfl, _, .of et⟩, _, rfl, _, rfl, _, rfl, _, rfl, _, rfl, lk, dx, a, p', ns, hd, hs, hx1.2, rfl, L2', ⟨rs, eh', pr'⟩, ho, fun r er v H3 k3 el3 nv => ?_, fun pl wd er => ?_⟩
    · refine ⟨small (show 3 ≤ 1000 by decide), fun q hq => ?_⟩
      have s1 := same_new hq (.tup [.int hx1.1, .int hx1.2, v])
      have et3 := s1 _ _ (k3 tl _ (Ne.symm nlt) et)
      have len : vs.length ≤ 16 := by
        have := Paired.len pf
        rw [List.length_zip, List.length_take] at this
        (first | lia | omega)
      refine ⟨tl, vs, _, rfl, rfl, et3, small1000 (by (first | lia | omega)), ?_⟩
      have tq : Tups H3 (upd (upd H3 q (.tup [.int hx1.1, .int hx1.2, v])) tl (.lst (vs ++ [.ref q]))) := .trans (.same s1) (.upd et3)
      have tp := Tups.trans (.keep el k3) tq
      have ntq : tl ≠ q := ne_of_none (k3 tl _ (Ne.symm nlt) et) hq
      have nql : lk ≠ q := ne_of_none el3 hq
      refine ⟨done ++ [r.1], _, r.2, _, _, rfl, hi, by simp [hn], (kp.trans (k3.trans (Keep.same s1))).fresh nHt, ?_, ?_, Paired.imp (fun _ _ z => z.tups tp) pr', upd_same, ?_, ?_⟩
      · rw [upd_ne nlt]; exact s1 _ _ el3
      · rw [upd_ne nht]; exact s1 _ _ (k3 hd _ nhl eh')
      · rw [tk, List.zip_append (by rw [List.length_take]; (first | lia | omega))]
        exact Paired.snoc (Paired.imp (fun _ _ z => z.tups tp) pf) ⟨q, v, rfl, by rw [upd_ne (Ne.symm ntq)]; exact upd_same, nv.tups tq⟩
      · rw [eq, dr]
        conv => lhs; unfold bodiesM
        rw [er]; simp only
        cases bodiesM ns hs (hs.drop (i + 1)) r.2 with
        | error b => rfl
        | ok r => show Except.ok _ = Except.ok _; rw [List.append_assoc]; rfl
    · refine bad kp ?_
      rw [ef, eq, dr]
      conv => lhs; unfold bodiesM
      rw [er]; rfl
  · rintro σ' H' ⟨done, vs, p', v4, v5, rfl, _, hn, kp, el, eh', pr', et, pf, eq⟩
    rw [lr, List.drop_length] at eq
    have eq' : bodiesM ns hs hs (1 + 2 * hs.length) = .ok (done, p') := by rw [eq]; show Except.ok (done ++ [], p') = _; rw [List.append_nil]
    have ea : H' a = some (.lst (ns.map V.int)) := kp a _ nla L1.2
    have hz : (ns.map V.int).length = ns.length := List.length_map ..
    refine ⟨_, rfl, lk, CL, dx, _, _, rfl, el, T.look, T.lplace, rfl, _, rfl, a, _, rfl, .inl (.of ea), _, _, rfl, rfl, _, rfl, ite2 (fun c => ?_) (fun c => ?_)⟩
    · have c' : p' < ns.length := by have := of_decide_eq_true c; (first | lia | omega)
      refine ⟨_, rfl, lk, CL, dx, _, _, rfl, el, T.look, T.lplace, rfl, small (show 2 ≤ 1000 by decide), raised (bad (p := p') (wd := "over") kp ?_) (Keep.refl _ _)⟩
      rw [ef, eq']; exact if_pos c'
    · refine ⟨_, rfl, t1 (hs, done) ?_ tl H' (same0 (k1.trans kp)) nH0 ⟨vs, et, by show hs.length = done.length; (first | lia | omega), ?_⟩⟩
      · rw [ef, eq']
        exact if_neg fun z => c (decide_eq_true (by (first | lia | omega)))
      · rw [lr, List.take_length] at pf; exact pf

theorem ok_wrong (T : Txt K mg aP CL CN) (F : Fun K "wrong" "wrong" s_wrong f fd) (Cfunctions : Cal P w K mg base (CXE P w) 17 "functions" ["sheet"] (spFns CN)) :
    FnOk P w K mg base (CXE P w) 18 f fd ["numbers"] spWrong := by
  refine F.okN sc_wrong (fun vs H Q E h => ?_) (fun cdv A outer s H vs Q E hr h => ?_)
  · obtain ⟨a, ns, rfl, _⟩ := h
    rfl
  obtain ⟨a, ns, rfl, ha, t1, t2⟩ := h
  refine ⟨_, (pss_cons (ps_try (i := 1) sc_wrong.nd rfl rfl rfl T.m_NoSheet (fun _ _ => (pss_one (ps_expr (pe_callC Cfunctions hr rfl (pa_cons (pv 0) pa_nil) passX)))) (fun _ => (pss_one (ps_ret (pe_tup (pa_cons (pe_fldXK K rfl (pv 1)) (pa_cons (pe_fldXK K rfl (pv 1)) pa_nil)))))))
      (pss_one (ps_ret pe_non))), ?_⟩
  try dsimp only [Cx.nox, Cx.exc, Cx.wish, cxOf_K]
  refine ⟨_, rfl, a, ns, rfl, ha, fun r er l H1 s1 _ _ => t1 r er H1 s1, fun p wd er d H1 s1 ed => ⟨CN, d, rfl, rfl, T.mch, fun x σ1 ex hn => ?_⟩⟩
  match σ1, hn with
  | [y0, y1], _ =>
    refine ⟨_, rfl, x, CN, d, _, _, rfl, ex, ed, T.exc, T.xplace, rfl, _, rfl, x, CN, d, _, _, rfl, ex, ed, T.exc, T.xword, rfl, small (show 2 ≤ 1000 by decide), fun t ht => ?_⟩
    exact t2 p wd er t _ (s1.trans (same_new ht _)) upd_same

theorem ok_mixed (F : Fun K "_law_mixed" "_law_mixed" s__law_mixed f fd) : FnOk P w K mg base (CXE P w) 1 f fd ["_law_cell", "_law_k"] spMixed := by
  refine F.okN sc__law_mixed (fun vs H Q E h => ?_) (fun cdv A outer s H vs Q E hr h => ?_)
  · obtain ⟨c, k, rfl, _⟩ := h
    rfl
  obtain ⟨c, k, rfl, q⟩ := h
  refine ⟨_, (pss_cons (ps_set (i := 2) sc__law_mixed.nd rfl (Or.inl rfl) (pe_op op_mod (pe_op op_mul (pe_op op_add (pe_op op_add (pe_op op_mod (pv 0) pe_int) (pe_op op_mul pe_int (pv 1))) pe_int) pe_int) pe_int))
      (pss_cons (ps_set (i := 3) sc__law_mixed.nd rfl (Or.inl rfl) (pe_op op_mod (pe_op op_add (pe_op op_add (pe_op op_mul (pv 2) (pv 2)) (pe_op op_mul pe_int (pv 2))) (pe_op op_mul pe_int (pv 1))) pe_int))
      (pss_one (ps_ret (pe_op op_fdivB (pe_op op_mod (pe_op op_mul (pv 3) (pe_op op_add (pv 3) pe_int)) pe_int) pe_int))))), ?_⟩
  try dsimp only [Cx.nox, Cx.exc, Cx.wish, cxOf_K]
  have p1 : (0 : Int) < 2147483587 := by decide
  have p2 : (0 : Int) < 2147483647 := by decide
  have p3 : (0 : Int) < 2147483563 := by decide
  have p4 : (0 : Int) < 1073741783 := by decide
  refine ⟨_, rfl, _, _, rfl, rfl, p1, _, rfl, _, _, rfl, rfl, .inl ⟨by decide, by decide⟩, _, _, rfl, rfl, _, _, rfl, rfl, _, _, rfl, rfl, .inr ⟨by decide, by decide⟩, _, _, rfl, rfl, p2, ?_⟩
  generalize (c % 2147483587 + 30011 * k + 4711) * 39373 = A1
  have a1 := Int.emod_nonneg A1 (show (2147483647 : Int) ≠ 0 by decide)
  have a2 := Int.emod_lt_of_pos A1 p2
  generalize A1 % 2147483647 = A2 at *
  refine ⟨_, rfl, _, rfl, _, _, rfl, rfl, .inl ⟨by (first | lia | omega), by (first | lia | omega)⟩, _, rfl, _, _, rfl, rfl, .inl ⟨by decide, by decide⟩, _, _, rfl, rfl, _, rfl, _, _, rfl, rfl, .inl ⟨by decide, by decide⟩, _, _, rfl, rfl, _, _, rfl, rfl, p3, ?_⟩
  generalize A2 * A2 + 40014 * A2 + 7 * k = A3
  have a3 := Int.emod_nonneg A3 (show (2147483563 : Int) ≠ 0 by decide)
  have a4 := Int.emod_lt_of_pos A3 p3
  generalize A3 % 2147483563 = A4 at *
  refine ⟨_, rfl, _, rfl, _, _, rfl, rfl, _, _, rfl, rfl, .inl ⟨by (first | lia | omega), by (first | lia | omega)⟩, _, _, rfl, rfl, p4, _, _, rfl, rfl, ⟨by decide, by decide⟩, ?_⟩
  exact q _ (Int.ediv_nonneg (Int.emod_nonneg _ (by decide)) (by decide))
theorem ok_take (T : Txt K mg aP CL CN) (F : Fun K "_law_take" "_law_take" s__law_take f fd) (C_law_mixed : Cal P w K mg base (CXE P w) 1 "_law_mixed" ["_law_cell", "_law_k"] spMixed) : FnOk P w K mg base (CXE P w) 2 f fd ["_law_state", "_law_many"] (spTakeB K) := by
  refine F.okN sc__law_take (fun vs H Q E h => ?_) (fun cdv A outer s H vs Q E hr h => ?_)
  · obtain ⟨st, m, rfl, _⟩ := h
    rfl
  obtain ⟨st, m, rfl, hm0, hm1, D, q⟩ := h
  refine ⟨_, (pss_cons (ps_if (pt_cmpR op_eq (pe_ix ix_list (pv 0) pe_int (fun _ _ => rfl)) pe_int (nomark _)) (pss_cons (ps_set (i := 2) sc__law_take.nd rfl (Or.inl rfl) (pe_ix ix_list (pv 0) pe_int (fun _ _ => rfl)))
      (pss_cons (ps_set (i := 3) sc__law_take.nd rfl (Or.inl rfl) (pe_ix ix_list (pv 0) pe_int (fun _ _ => rfl)))
      (pss_cons (ps_asg (pe_op op_add (pv 3) pe_int) (pg_sub (pv 0) pe_int set_list))
      (pss_cons (ps_set (i := 4) sc__law_take.nd rfl (Or.inl rfl) pe_int)
      (pss_cons (ps_if (pt_cmpR op_lt (pv 3) (pe_callB call_len_seq rfl T.n_len bt_len (pa_cons (pv 2) pa_nil)) (nomark _)) (pss_one (ps_set (i := 4) sc__law_take.nd rfl (Or.inl rfl) (pe_ix ix_list (pv 2) (pv 3) (fun _ _ => rfl)))) (pss_one (ps_if (pt_cmpR op_gt (pe_callB call_len_seq rfl T.n_len bt_len (pa_cons (pv 2) pa_nil)) pe_int (nomark _)) (pss_one (ps_set (i := 4) sc__law_take.nd rfl (Or.inl rfl) (pe_op op_mod (pe_ix ix_list (pv 2) (pe_op op_mod (pv 3) (pe_callB call_len_seq rfl T.n_len bt_len (pa_cons (pv 2) pa_nil))) (fun _ _ => rfl)) (pe_op op_pow pe_int pe_int)))) pss_nil)))
      (pss_cons (ps_if (pt_cmpR op_lt (pe_callB call_abs rfl T.n_abs bt_abs (pa_cons (pv 4) pa_nil)) (pe_op op_pow pe_int pe_int) (nomark _)) (pss_one (ps_ret (pe_op op_mod (pe_callC C_law_mixed hr rfl (pa_cons (pv 4) (pa_cons (pv 3) pa_nil)) passN) (pv 1)))) pss_nil)
      (pss_one (ps_asg (pe_callB call_abs rfl T.n_abs bt_abs (pa_cons (pv 4) pa_nil)) (pg_sub (pv 0) pe_int set_list))))))))) pss_nil)
      (pss_cons (ps_set (i := 5) sc__law_take.nd rfl (Or.inl rfl) (pe_op op_mod (pe_ix ix_list (pv 0) pe_int (fun _ _ => rfl)) (pv 1)))
      (pss_cons (ps_asg (pe_op op_fdivB (pe_ix ix_list (pv 0) pe_int (fun _ _ => rfl)) (pv 1)) (pg_sub (pv 0) pe_int set_list))
      (pss_one (ps_ret (pv 5)))))), ?_⟩
  try dsimp only [Cx.nox, Cx.exc, Cx.wish, cxOf_K]
  obtain ⟨a, ns, k, c, hst, hs, hl, hk, hc⟩ := D
  refine ⟨_, rfl, st, _, _, _, rfl, rfl, SqL.of hst, rfl, rfl, _, rfl, ?_⟩
  -- the last rows: what is left of the great cell
  have last : ∀ (H2 : Hp) (c2 : Int) (k2 : Int) (σ : St), H2 st = some (.lst [.ref a, .int k2, .int c2]) → Keep st H H2 → 0 ≤ k2 → 0 ≤ c2 → σ[0]? = some (some (.ref st)) → σ[1]? = some (some (.int m)) → 5 < σ.length →
      (tSeq (tAsg (tOp (rI (fun x j => 0 < j) fun i j => V.int (i % j)) (tOp (rIxL K) (tVar 0) (tC (V.int 2))) (tVar 1)) (gName 5))
        (tSeq (tAsg (tOp (rI CDivB fun i j => V.int (i / j)) (tOp (rIxL K) (tVar 0) (tC (V.int 2))) (tVar 1)) (gSub (tVar 0) (tC (V.int 2)) rSetL)) (tRet (tVar 5)))) { nx := fun _ H' => Q V.non H', rt := Q } σ H2 := by
    intro H2 c2 k2 σ e2 kp hk2 hc2 s0 s1 sl
    refine ⟨_, s0, st, _, _, _, rfl, rfl, SqL.of e2, rfl, _, s1, _, _, rfl, rfl, hm0, ?_⟩
    refine ⟨_, (List.getElem?_set_ne (by decide)).trans s0, st, _, _, _, rfl, rfl, SqL.of e2, rfl, _, (List.getElem?_set_ne (by decide)).trans s1, _, _, rfl, rfl, divB hm0 hm1, ?_⟩
    refine ⟨_, (List.getElem?_set_ne (by decide)).trans s0, st, _, _, _, rfl, rfl, e2, rfl, ?_⟩
    refine ⟨_, List.getElem?_set_self sl, ?_⟩
    refine q _ _ (Int.emod_nonneg _ (by (first | lia | omega))) (Int.emod_lt_of_pos _ hm0) ⟨⟨a, ns, k2, c2 / m, upd_same, (hs.keep hst kp).keep e2 Keep.upd, hl, hk2, Int.ediv_nonneg hc2 (by (first | lia | omega))⟩, kp.trans Keep.upd⟩
  refine ite2 (fun c0 => ?_) (fun c0 => ?_)
  · refine ⟨_, rfl, st, _, _, _, rfl, rfl, SqL.of hst, rfl, ?_⟩
    refine ⟨_, rfl, st, _, _, _, rfl, rfl, SqL.of hst, rfl, ?_⟩
    refine ⟨_, rfl, _, _, rfl, rfl, _, rfl, st, _, _, _, rfl, rfl, hst, rfl, ?_⟩
    have h1 : upd H st (.lst [.ref a, .int (k + 1), .int c]) st = some (.lst [.ref a, .int (k + 1), .int c]) := upd_same
    have k1 : Keep st H (upd H st (.lst [.ref a, .int (k + 1), .int c])) := Keep.upd
    have s1 : Scr K (upd H st (.lst [.ref a, .int (k + 1), .int c])) a ns := hs.keep hst k1
    have c1 : c = 0 := by
      have := of_decide_eq_true c0
      injection this
    -- behind the cell: x any int
    have after : ∀ (x : Int), (tSeq (tIfS (tTest (tOp (rI0 fun i j => V.bl (decide (i < j))) (tCB (fun xs H Q => ∃ i, xs = [V.int i] ∧ Q (V.int (if i < 0 then -i else i)) H) (tCons (tVar 4) tNil)) (tOp (rI CPow fun i j => V.int (i ^ j.toNat)) (tC (V.int 10)) (tC (V.int 18)))))
        (tRet (tOp (rI (fun x j => 0 < j) fun i j => V.int (i % j)) (tCall spMixed [] E0 (tCons (tVar 4) (tCons (tVar 3) tNil))) (tVar 1))) tNext)
        (tAsg (tCB (fun xs H Q => ∃ i, xs = [V.int i] ∧ Q (V.int (if i < 0 then -i else i)) H) (tCons (tVar 4) tNil)) (gSub (tVar 0) (tC (V.int 2)) rSetL)))
        { nx := tSeq (tAsg (tOp (rI (fun x j => 0 < j) fun i j => V.int (i % j)) (tOp (rIxL K) (tVar 0) (tC (V.int 2))) (tVar 1)) (gName 5))
            (tSeq (tAsg (tOp (rI CDivB fun i j => V.int (i / j)) (tOp (rIxL K) (tVar 0) (tC (V.int 2))) (tVar 1)) (gSub (tVar 0) (tC (V.int 2)) rSetL)) (tRet (tVar 5))) { nx := fun _ H' => Q V.non H', rt := Q }, rt := Q }
        [some (.ref st), some (.int m), some (.ref a), some (.int k), some (.int x), none] (upd H st (.lst [.ref a, .int (k + 1), .int c])) := by
      intro x
      refine ⟨_, rfl, _, rfl, _, _, rfl, rfl, ⟨by decide, by decide, by decide⟩, _, _, rfl, rfl, _, rfl, ?_⟩
      refine ite2 (fun _ => ?_) (fun _ => ?_)
      · refine ⟨_, rfl, _, rfl, _, _, rfl, fun r hr0 => ⟨_, rfl, _, _, rfl, rfl, hm0, ?_⟩⟩
        exact q _ _ (Int.emod_nonneg _ (by (first | lia | omega))) (Int.emod_lt_of_pos _ hm0) ⟨⟨a, ns, k + 1, c, h1, s1, hl, by (first | lia | omega), hc⟩, k1⟩
      · refine ⟨_, rfl, _, rfl, _, rfl, st, _, _, _, rfl, rfl, h1, rfl, ?_⟩
        refine last _ (if x < 0 then -x else x) (k + 1) _ upd_same (k1.trans Keep.upd) (by (first | lia | omega)) (by split <;> (first | lia | omega)) rfl rfl (by show 5 < 6; decide)
    have hlen : ((ns.map V.int).length : Int) = ns.length := by rw [List.length_map]
    refine ⟨_, rfl, _, rfl, a, _, rfl, .inl s1.sq, _, _, rfl, rfl, _, rfl, ?_⟩
    refine ite2 (fun ck => ?_) (fun ck => ?_)
    · have ck' := of_decide_eq_true ck
      rw [hlen] at ck'
      obtain ⟨v, hv⟩ := atI_int (ns := ns) hk ck'
      exact ⟨_, rfl, _, rfl, a, _, _, _, rfl, rfl, s1.sq, hv, after v⟩
    · refine ⟨_, rfl, a, _, rfl, .inl s1.sq, _, _, rfl, rfl, _, rfl, ?_⟩
      refine ite2 (fun cl => ?_) (fun cl => after 0)
      have cl' := of_decide_eq_true cl
      obtain ⟨v, hv⟩ := atI_int (ns := ns) (k := k % ((ns.map V.int).length : Int)) (Int.emod_nonneg _ (by (first | lia | omega))) (by rw [← hlen]; exact Int.emod_lt_of_pos _ cl')
      exact ⟨_, rfl, _, rfl, _, rfl, a, _, rfl, .inl s1.sq, _, _, rfl, rfl, cl', a, _, _, _, rfl, rfl, s1.sq, hv, _, _, rfl, rfl, ⟨by decide, by decide, by decide⟩, _, _, rfl, rfl, (show (0 : Int) < 10 ^ 17 by decide), after _⟩
  · exact last H c k _ hst (Keep.refl _ _) hk hc rfl rfl (by show 5 < 6; decide)

noncomputable def InvLHeads (st hd : Addr) (m : Int) (H : Hp) (i : Nat) (σ' : St) (H' : Hp) : Prop := ∃ (hs : Hds) (rs : List V) (v3 v4 : Option V), σ' = [some (.ref st), some (.int m), some (.ref hd), v3, v4] ∧ hs.length = i ∧ Drawn K st H H' ∧ H' hd = some (.lst rs) ∧ Paired (HeadAt H') rs hs ∧
      ∀ (i : Nat) (h : Int × Int), hs[i]? = some h → 0 ≤ h.1 ∧ h.1 ≤ 4 ∧ h.1 ≤ h.2 ∧ h.2 ≤ 12 ∧ (i = 0 → h.1 = 0)
theorem ok_lheads (T : Txt K mg aP CL CN) (F : Fun K "_law_heads" "_law_heads" s__law_heads f fd) (C_law_take : Cal P w K mg base (CXE P w) 2 "_law_take" ["_law_state", "_law_many"] (spTakeB K)) : FnOk P w K mg base (CXE P w) 3 f fd ["_law_state"] (spHeadsL K) := by
  refine F.okN sc__law_heads (fun vs H Q E h => ?_) (fun cdv A outer s H vs Q E hr h => ?_)
  · obtain ⟨st, rfl, _⟩ := h
    rfl
  obtain ⟨st, rfl, D, q⟩ := h
  refine ⟨_, (pss_cons (ps_set (i := 1) sc__law_heads.nd rfl (Or.inl rfl) (pe_op op_add pe_int (pe_callC C_law_take hr rfl (pa_cons (pv 0) (pa_cons pe_int pa_nil)) passN)))
      (pss_cons (ps_cut (ps_if (pt_cmpR op_eq (pe_callC C_law_take hr rfl (pa_cons (pv 0) (pa_cons pe_int pa_nil)) passN) pe_int (nomark _)) (pss_one (ps_set (i := 1) sc__law_heads.nd rfl (Or.inl rfl) (pe_op op_add pe_int (pe_callC C_law_take hr rfl (pa_cons (pv 0) (pa_cons pe_int pa_nil)) passN)))) pss_nil))
      (pss_cons (ps_set (i := 2) sc__law_heads.nd rfl (Or.inl rfl) (pe_lst pa_nil))
      (pss_cons (ps_for PassesOwn.never rfl (pi_range1 rfl T.n_range (pa_cons (pv 1) pa_nil)) (pg_name (i := 3) sc__law_heads.nd rfl (Or.inl rfl)) (pss_cons (ps_set (i := 4) sc__law_heads.nd rfl (Or.inl rfl) (pe_op op_mul (pe_callC C_law_take hr rfl (pa_cons (pv 0) (pa_cons pe_int pa_nil)) passN) (pe_callTy call_int1 rfl T.n_int bt_int (pa_cons (pe_cmpR op_gt (pv 3) pe_int (nomark _)) pa_nil))))
      (pss_one (ps_expr (pe_bm PySem.F.plainAttrs_list PySem.F.slot_list_append PySem.F.type_list_append mt_append (pv 2) (pa_cons (pe_tup (pa_cons (pv 4) (pa_cons (pe_op op_add (pv 4) (pe_callC C_law_take hr rfl (pa_cons (pv 0) (pa_cons (pe_ix ix_list (pe_lst (pa_cons (pe_op op_sub pe_int (pv 4)) (pa_cons pe_int pa_nil))) (pe_callC C_law_take hr rfl (pa_cons (pv 0) (pa_cons pe_int pa_nil)) passN) (fun _ _ => rfl)) pa_nil)) passN)) pa_nil))) pa_nil))))))
      (pss_one (ps_ret (pv 2))))))), ?_⟩
  try dsimp only [Cx.nox, Cx.exc, Cx.wish, cxOf_K]
  refine ⟨_, rfl, st, 4, rfl, by decide, by decide, D, fun r H1 r0 r1 d1 => ⟨_, _, rfl, rfl, ?_⟩⟩
  refine ⟨fun σ' H' => ∃ m : Int, 1 ≤ m ∧ m ≤ 16 ∧ Drawn K st H H' ∧ σ' = [some (.ref st), some (.int m), none, none, none], ?_, ?_⟩
  · refine ⟨_, rfl, st, 8, rfl, by decide, by decide, d1.draw, fun r2 H2 a2 b2 d2 => ⟨rfl, _, rfl, ite2 (fun _ => ?_) (fun _ => ?_)⟩⟩
    · exact ⟨_, rfl, st, 16, rfl, by decide, by decide, d2.draw, fun r3 H3 a3 b3 d3 => ⟨_, _, rfl, rfl, 1 + r3, by (first | lia | omega), by (first | lia | omega), d1.trans (d2.trans d3), rfl⟩⟩
    · exact ⟨1 + r, by (first | lia | omega), by (first | lia | omega), d1.trans d2, rfl⟩
  rintro σ' H' ⟨m, m1, m16, d3, rfl⟩
  refine ⟨small (show 0 ≤ 1000 by decide), fun hd hhd => ?_⟩
  have nsh := d3.draw.ne hhd
  have d4 := d3.trans (d3.draw.new hhd (.lst []))
  have nH : H hd = none := by
    cases e : H hd with
    | none => rfl
    | some o => rw [d3.keep hd o (Ne.symm nsh) e] at hhd; cases hhd
  refine ⟨_, rfl, _, rfl, by (first | lia | omega), by (first | lia | omega), for_range (lo := 0) (n := m.toNat) (InvLHeads (K := K) st hd m H) ⟨[], [], _, _, rfl, rfl, d4, upd_same, .nil, fun i h e => by simp at e⟩ ?_ ?_⟩
  · rintro i σ' H' hi ⟨hs, rs, v3, v4, rfl, hn, dd, eh, pr, al⟩
    refine ⟨_, rfl, st, 5, rfl, by decide, by decide, dd.draw, fun r5 H5 a5 b5 d5 => ?_⟩
    refine ⟨_, rfl, _, _, rfl, rfl, .inr ⟨_, rfl, _, _, rfl, rfl, .inl ⟨by (first | lia | omega), by (first | lia | omega)⟩, ?_⟩⟩
    obtain ⟨pa, hp⟩ : ∃ pa, r5 * (if decide (0 < (0 : Int) + (i : Int)) = true then 1 else 0) = pa := ⟨_, rfl⟩
    show gName 4 (V.int (r5 * (if decide (0 < (0 : Int) + (i : Int)) = true then 1 else 0))) _ _ _
    rw [hp]
    have p0 : 0 ≤ pa ∧ pa ≤ 4 ∧ (i = 0 → pa = 0) := by
      rw [← hp]
      by_cases c : 0 < i
      · rw [if_pos (decide_eq_true (by (first | lia | omega)))]; (first | lia | omega)
      · rw [if_neg (fun z => by have := of_decide_eq_true z; (first | lia | omega))]; (first | lia | omega)
    have eh5 := d5.keep hd _ (Ne.symm nsh) eh
    refine ⟨_, rfl, .inl ⟨rfl, _, .of eh5⟩, _, rfl, _, rfl, _, rfl, _, rfl, _, _, rfl, rfl, small (show 2 ≤ 1000 by decide), fun p6 hp6 => ?_⟩
    have d6 := d5.draw.new hp6 (.lst [.int (13 - pa), .int 4])
    have n6 := d5.draw.ne hp6
    refine ⟨_, rfl, st, 2, rfl, by decide, by decide, d6.draw, fun r7 H7 a7 b7 d7 => ?_⟩
    obtain ⟨many, am, m0, m13⟩ : ∃ many : Int, atI [V.int (13 - pa), V.int 4] r7 = some (.int many) ∧ 0 < many ∧ pa + many ≤ 13 := by
      rcases (show r7 = 0 ∨ r7 = 1 by (first | lia | omega)) with rfl | rfl
      · exact ⟨13 - pa, rfl, by (first | lia | omega), by (first | lia | omega)⟩
      · exact ⟨4, rfl, by (first | lia | omega), by (first | lia | omega)⟩
    refine ⟨p6, _, _, _, rfl, rfl, .of (d7.keep p6 _ (Ne.symm n6) upd_same), am, st, many, rfl, m0, by (first | lia | omega), d7.draw, fun r8 H8 a8 b8 d8 => ?_⟩
    refine ⟨_, _, rfl, rfl, small (show 2 ≤ 1000 by decide), fun t9 ht9 => ?_⟩
    have D8 := d5.trans (d6.trans (d7.trans d8))
    have d9 := d8.draw.new ht9 (.tup [.int pa, .int (pa + r8)])
    have D9 := D8.trans d9
    have eh9 := D9.keep hd _ (Ne.symm nsh) eh
    have len : rs.length ≤ 16 := by have := Paired.len pr; (first | lia | omega)
    refine ⟨hd, rs, _, rfl, rfl, eh9, small1000 (by (first | lia | omega)), ?_⟩
    have nt : hd ≠ t9 := ne_of_none (D8.keep hd _ (Ne.symm nsh) eh) ht9
    obtain ⟨a0, ns0, k0, c0, est, _⟩ := dd.draw
    have tp : Tups H' (upd (upd H8 t9 (.tup [.int pa, .int (pa + r8)])) hd (.lst (rs ++ [.ref t9]))) := .trans (.keepL est D9.keep) (.upd eh9)
    refine ⟨hs ++ [(pa, pa + r8)], _, _, _, rfl, by simp [hn], ⟨D9.draw.put eh9 (Ne.symm nsh), (dd.trans D9).keep.fresh nH⟩, upd_same, Paired.snoc (Paired.imp (fun _ _ z => z.tups tp) pr) ⟨t9, rfl, by rw [upd_ne (Ne.symm nt)]; exact upd_same⟩, ?_⟩
    intro j h e
    by_cases c : j < hs.length
    · rw [List.getElem?_append_left c] at e
      exact al j h e
    · rw [List.getElem?_append_right (by (first | lia | omega))] at e
      have : j - hs.length = 0 := by
        rcases Nat.eq_zero_or_pos (j - hs.length) with z | z
        · exact z
        · rw [List.getElem?_eq_none (by simp; (first | lia | omega))] at e; cases e
      rw [this] at e
      cases e
      show 0 ≤ pa ∧ pa ≤ 4 ∧ pa ≤ pa + r8 ∧ pa + r8 ≤ 12 ∧ (j = 0 → pa = 0)
      exact ⟨by (first | lia | omega), by (first | lia | omega), by (first | lia | omega), by (first | lia | omega), fun z => p0.2.2 (by (first | lia | omega))⟩
  · rintro σ' H' ⟨hs, rs, v3, v4, rfl, hn, dd, eh, pr, al⟩
    exact ⟨_, rfl, q hd H' hs dd ⟨rs, eh, pr⟩ ⟨by (first | lia | omega), by (first | lia | omega), al⟩⟩
theorem ok_number (T : Txt K mg aP CL CN) (F : Fun K "_law_number" "_law_number" s__law_number f fd) (C_law_take : Cal P w K mg base (CXE P w) 2 "_law_take" ["_law_state", "_law_many"] (spTakeB K)) : FnOk P w K mg base (CXE P w) 3 f fd ["_law_state"] (spNumber K) := by
  refine F.okN sc__law_number (fun vs H Q E h => ?_) (fun cdv A outer s H vs Q E hr h => ?_)
  · obtain ⟨st, rfl, _⟩ := h
    rfl
  obtain ⟨st, rfl, D, q⟩ := h
  refine ⟨_, (pss_cons (ps_set (i := 1) sc__law_number.nd rfl (Or.inl rfl) (pe_callC C_law_take hr rfl (pa_cons (pv 0) (pa_cons pe_int pa_nil)) passN))
      (pss_cons (ps_if (pt_cmpR op_lt (pv 1) pe_int (nomark _)) (pss_one (ps_ret (pe_op op_sub (pe_callC C_law_take hr rfl (pa_cons (pv 0) (pa_cons pe_int pa_nil)) passN) pe_int))) pss_nil)
      (pss_cons (ps_if (pt_cmpR op_eq (pv 1) pe_int (nomark _)) (pss_one (ps_ret (pe_op op_sub (pe_callC C_law_take hr rfl (pa_cons (pv 0) (pa_cons pe_int pa_nil)) passN) pe_int))) pss_nil)
      (pss_one (ps_ret (pe_op op_add (pe_op op_sub (pe_callC C_law_take hr rfl (pa_cons (pv 0) (pa_cons (pe_op op_sub (pe_op op_mul pe_int (pe_op op_pow pe_int pe_int)) pe_int) pa_nil)) passN) (pe_op op_pow pe_int pe_int)) pe_int)))))), ?_⟩
  try dsimp only [Cx.nox, Cx.exc, Cx.wish, cxOf_K]
  refine ⟨_, rfl, st, 6, rfl, by decide, by decide, D, fun r H1 r0 r1 d1 => ?_⟩
  refine ⟨_, rfl, _, _, rfl, rfl, _, rfl, ite2 (fun _ => ?_) (fun _ => ?_)⟩
  · exact ⟨_, rfl, st, 9, rfl, by decide, by decide, d1.draw, fun r2 H2 a2 b2 d2 => ⟨_, _, rfl, rfl, q _ _ (d1.trans d2)⟩⟩
  refine ⟨_, rfl, rfl, _, rfl, ite2 (fun _ => ?_) (fun _ => ?_)⟩
  · exact ⟨_, rfl, st, 400, rfl, by decide, by decide, d1.draw, fun r2 H2 a2 b2 d2 => ⟨_, _, rfl, rfl, q _ _ (d1.trans d2)⟩⟩
  · refine ⟨_, rfl, _, _, rfl, rfl, ⟨by decide, by decide, by decide⟩, _, _, rfl, rfl, .inl ⟨by decide, by decide⟩, _, _, rfl, rfl, st, _, rfl, by decide, by decide, d1.draw, fun r2 H2 a2 b2 d2 => ?_⟩
    exact ⟨_, _, rfl, rfl, ⟨by decide, by decide, by decide⟩, _, _, rfl, rfl, _, _, rfl, rfl, q _ _ (d1.trans d2)⟩
theorem ok_leaf (T : Txt K mg aP CL CN) (F : Fun K "_law_leaf" "_law_leaf" s__law_leaf f fd) (C_law_take : Cal P w K mg base (CXE P w) 2 "_law_take" ["_law_state", "_law_many"] (spTakeB K)) (C_law_number : Cal P w K mg base (CXE P w) 3 "_law_number" ["_law_state"] (spNumber K)) :
    FnOk P w K mg base (CXE P w) 4 f fd ["_law_state", "_law_boxes"] (spLeaf K) := by
  refine F.okN sc__law_leaf (fun vs H Q E h => ?_) (fun cdv A outer s H vs Q E hr h => ?_)
  · obtain ⟨st, boxes, rfl, _⟩ := h
    rfl
  obtain ⟨st, boxes, rfl, hb, D, q⟩ := h
  refine ⟨_, (pss_cons (ps_set (i := 2) sc__law_leaf.nd rfl (Or.inl rfl) (pe_callC C_law_take hr rfl (pa_cons (pv 0) (pa_cons pe_int pa_nil)) passN))
      (pss_cons (ps_if (PW.pt (pw_and (pt_cmpR op_lt (pv 2) pe_int (nomark _)) (pw_and1 (pt_cmpR op_gt (pv 1) pe_int (nomark _))))) (pss_one (ps_ret (pe_lst (pa_cons pe_int (pa_cons (pe_callC C_law_take hr rfl (pa_cons (pv 0) (pa_cons (pv 1) pa_nil)) passN) pa_nil))))) pss_nil)
      (pss_cons (ps_if (pt_cmpR op_eq (pv 2) pe_int (nomark _)) (pss_one (ps_ret (pe_lst (pa_cons pe_int pa_nil)))) pss_nil)
      (pss_one (ps_ret (pe_lst (pa_cons pe_int (pa_cons (pe_callC C_law_number hr rfl (pa_cons (pv 0) pa_nil) passN) pa_nil)))))))), ?_⟩
  try dsimp only [Cx.nox, Cx.exc, Cx.wish, cxOf_K]
  refine ⟨_, rfl, st, 5, rfl, by decide, by decide, D, fun r H1 r0 r1 d1 => ?_⟩
  have tail : ∀ (H2 : Hp), Drawn K st H H2 → ∀ (zs : List Int), Leaf boxes zs → zs.length ≤ sizeLine ∧ ∀ p, H2 p = none → Q (.ref p) (upd H2 p (.lst (zs.map V.int))) := fun H2 d2 zs lf =>
    ⟨small (by have := lf.len; (first | lia | omega)), fun p hp => q p zs _ (d2.trans (d2.draw.new hp _)) (d2.free hp) upd_same lf⟩
  have rest : ∀ (u : Prop), (u → False) → True := fun _ _ => trivial
  refine ⟨_, rfl, _, _, rfl, rfl, _, rfl, ite2 (fun _ => ?_) (fun _ => ?_)⟩
  · refine ⟨_, rfl, _, _, rfl, rfl, _, rfl, ite2 (fun c => ?_) (fun _ => ?_)⟩
    · have c' := of_decide_eq_true c
      exact ⟨_, rfl, _, rfl, st, boxes, rfl, c', by (first | lia | omega), d1.draw, fun x H2 a2 b2 d2 => tail H2 (d1.trans d2) [1, x] (.inl ⟨x, rfl, a2, b2⟩)⟩
    · refine ⟨_, rfl, rfl, _, rfl, ite2 (fun _ => ?_) (fun _ => ?_)⟩
      · exact tail H1 d1 [19] (.inr (.inl rfl))
      · exact ⟨_, rfl, st, rfl, d1.draw, fun n H2 d2 => tail H2 (d1.trans d2) [0, n] (.inr (.inr ⟨n, rfl⟩))⟩
  · refine iteF ?_
    refine ⟨_, rfl, rfl, _, rfl, ite2 (fun _ => ?_) (fun _ => ?_)⟩
    · exact tail H1 d1 [19] (.inr (.inl rfl))
    · exact ⟨_, rfl, st, rfl, d1.draw, fun n H2 d2 => tail H2 (d1.trans d2) [0, n] (.inr (.inr ⟨n, rfl⟩))⟩
theorem ok_lhead (T : Txt K mg aP CL CN) (F : Fun K "_law_head" "_law_head" s__law_head f fd) (C_law_take : Cal P w K mg base (CXE P w) 2 "_law_take" ["_law_state", "_law_many"] (spTakeB K)) :
    FnOk P w K mg base (CXE P w) 3 f fd ["_law_state", "_law_heads_here", "_law_boxes"] (spHead K) := by
  refine F.okN sc__law_head (fun vs H Q E h => ?_) (fun cdv A outer s H vs Q E hr h => ?_)
  · obtain ⟨st, hd, hs, boxes, rfl, _⟩ := h
    rfl
  obtain ⟨st, hd, hs, boxes, rfl, hb, D, hh, hg, q⟩ := h
  refine ⟨_, (pss_cons (ps_set (i := 3) sc__law_head.nd rfl (Or.inl rfl) (pe_callC C_law_take hr rfl (pa_cons (pv 0) (pa_cons pe_int pa_nil)) passN))
      (pss_cons (ps_cut (ps_if (PW.pt (pw_and (pt_cmpR op_eq (pv 3) pe_int (nomark _)) (pw_and1 (pt_cmpR op_gt (pv 2) pe_int (nomark _))))) (pss_one (ps_ret (pe_tup (pa_cons (pe_lst (pa_cons pe_int (pa_cons (pe_callC C_law_take hr rfl (pa_cons (pv 0) (pa_cons (pv 2) pa_nil)) passN) pa_nil))) (pa_cons pe_int pa_nil))))) pss_nil))
      (pss_cons (ps_if (pt_cmpR op_eq (pv 3) pe_int (nomark _)) (pss_cons (ps_set (i := 4) sc__law_head.nd rfl (Or.inl rfl) (pe_op op_add pe_int (pe_callC C_law_take hr rfl (pa_cons (pv 0) (pa_cons (pe_ix ix_list (pe_lst (pa_consts (.int (.int (.int (.int .nil)))))) (pe_callC C_law_take hr rfl (pa_cons (pv 0) (pa_cons pe_int pa_nil)) passN) (fun _ _ => rfl)) pa_nil)) passN)))
      (pss_one (ps_ret (pe_tup (pa_cons (pe_lst (pa_cons pe_int (pa_cons (pv 4) pa_nil))) (pa_cons (pv 4) pa_nil)))))) pss_nil)
      (pss_cons (ps_if (pt_cmpR op_eq (pv 3) pe_int (nomark _)) (pss_cons (ps_set (i := 4) sc__law_head.nd rfl (Or.inl rfl) (pe_op op_add pe_int (pe_callC C_law_take hr rfl (pa_cons (pv 0) (pa_cons (pe_ix ix_list (pe_lst (pa_consts (.int (.int (.int (.int .nil)))))) (pe_callC C_law_take hr rfl (pa_cons (pv 0) (pa_cons pe_int pa_nil)) passN) (fun _ _ => rfl)) pa_nil)) passN)))
      (pss_one (ps_ret (pe_tup (pa_cons (pe_lst (pa_cons pe_int (pa_cons (pv 4) pa_nil))) (pa_cons (pe_op op_add (pv 4) pe_int) pa_nil)))))) pss_nil)
      (pss_cons (ps_if (pt_cmpR op_eq (pv 3) pe_int (nomark _)) (pss_cons (ps_set (i := 5) sc__law_head.nd rfl (Or.inl rfl) (pe_callC C_law_take hr rfl (pa_cons (pv 0) (pa_cons (pe_callB call_len_seq rfl T.n_len bt_len (pa_cons (pv 1) pa_nil)) pa_nil)) passN))
      (pss_one (ps_ret (pe_tup (pa_cons (pe_lst (pa_cons pe_int (pa_cons (pv 5) pa_nil))) (pa_cons (pe_ix ix_tup (pe_ix ix_list (pv 1) (pv 5) (fun _ _ => rfl)) pe_int (fun _ _ => rfl)) pa_nil)))))) pss_nil)
      (pss_one (ps_ret (pe_tup (pa_cons (pe_lst (pa_cons (pv 3) pa_nil)) (pa_cons (pe_ix ix_list (pe_lst (pa_consts (.int (.int (.int (.int (.int (.int (.int (.int (.int (.int (.int (.int (.int (.int (.int (.int (.int (.int (.int (.int .nil)))))))))))))))))))))) (pv 3) (fun _ _ => rfl)) pa_nil)))))))))), ?_⟩
  try dsimp only [Cx.nox, Cx.exc, Cx.wish, cxOf_K]
  have fin : ∀ (H2 : Hp) (k : Int) (own : List Int) (many : Int) (l : Addr), Drawn K st H H2 → H l = none → H2 l = some (.lst ((k :: own).map V.int)) → own.length ≤ 1 → 0 ≤ k → k ≤ 19 → (k < 3 ∧ own = [] ∨ OwnFit hs boxes k own ∧ (k < 3 → own ≠ []) ∧ many = dueM hs k own) → 0 ≤ many → many ≤ 13 →
      2 ≤ sizeLine ∧ ∀ t, H2 t = none → Q (.ref t) (upd H2 t (.tup [.ref l, .int many])) := fun H2 k own many l d fr e lo k0 k1 c m0 m1 =>
    ⟨small (by decide), fun t ht => q t l k own many _ (d.trans (d.draw.new ht _)) fr upd_same (same_new ht _ _ _ e) lo k0 k1 c m0 m1⟩
  refine ⟨_, rfl, st, 20, rfl, by decide, by decide, D, fun k H1 k0 k1 d1 => ?_⟩
  refine ⟨fun σ' H' => σ' = [some (.ref st), some (.ref hd), some (.int boxes), some (.int k), none, none] ∧ H' = H1, ?_, ?_⟩
  · refine ⟨_, rfl, rfl, _, rfl, ite2 (fun c => ?_) (fun _ => iteF ⟨rfl, rfl⟩)⟩
    have k2 := vt c
    subst k2
    refine ⟨_, rfl, _, _, rfl, rfl, _, rfl, ite2 (fun c => ?_) (fun _ => ⟨rfl, rfl⟩)⟩
    have c' := of_decide_eq_true c
    refine ⟨_, rfl, _, rfl, st, boxes, rfl, c', by (first | lia | omega), d1.draw, fun x H2 a2 b2 d2 => ⟨small (show 2 ≤ 1000 by decide), fun l hl => ?_⟩⟩
    have d3 := d1.trans (d2.trans (d2.draw.new hl (.lst [.int 2, .int x])))
    exact fin _ 2 [x] 1 l d3 ((d1.trans d2).free hl) upd_same (by simp) (by decide) (by decide) (.inr ⟨.inr (.inl ⟨.inr rfl, x, rfl, a2, by (first | lia | omega)⟩), (fun _ => List.cons_ne_nil _ _), rfl⟩) (by decide) (by decide)
  rintro σ' H' ⟨rfl, rfl⟩
  refine ⟨_, rfl, rfl, _, rfl, ite2 (fun c => ?_) (fun c3 => ?_)⟩
  · have k3 := vt c
    subst k3
    refine ⟨_, rfl, small (show 4 ≤ 1000 by decide), fun p hp => ⟨_, rfl, st, 4, rfl, by decide, by decide, (d1.draw.new hp _).draw, fun r H2 a2 b2 d2 => ?_⟩⟩
    have dp := d1.trans ((d1.draw.new hp (.lst [.int 4, .int 4, .int 4, .int 12])).trans d2)
    obtain ⟨m, am, m0, m12⟩ : ∃ m : Int, atI [V.int 4, V.int 4, V.int 4, V.int 12] r = some (.int m) ∧ 0 < m ∧ m ≤ 12 := by
      rcases (show r = 0 ∨ r = 1 ∨ r = 2 ∨ r = 3 by (first | lia | omega)) with rfl | rfl | rfl | rfl
      all_goals exact ⟨_, rfl, by decide, by decide⟩
    refine ⟨p, _, _, _, rfl, rfl, .of (d2.keep p _ (Ne.symm (d1.draw.ne hp)) upd_same), am, st, m, rfl, m0, by (first | lia | omega), dp.draw, fun x H3 a3 b3 d3 => ⟨_, _, rfl, rfl, ?_⟩⟩
    refine ⟨_, rfl, small (show 2 ≤ 1000 by decide), fun l hl => ⟨_, rfl, ?_⟩⟩
    have d4 := (dp.trans d3).trans (d3.draw.new hl (.lst [.int 3, .int (1 + x)]))
    exact fin _ 3 [1 + x] (1 + x) l d4 ((dp.trans d3).free hl) upd_same (by simp) (by decide) (by decide) (.inr ⟨.inr (.inr (.inl ⟨rfl, 1 + x, rfl, by (first | lia | omega), by (first | lia | omega)⟩)), fun z => absurd z (by decide), rfl⟩) (by (first | lia | omega)) (by (first | lia | omega))
  refine ⟨_, rfl, rfl, _, rfl, ite2 (fun c => ?_) (fun c4 => ?_)⟩
  · have k4 := vt c
    subst k4
    refine ⟨_, rfl, small (show 4 ≤ 1000 by decide), fun p hp => ⟨_, rfl, st, 4, rfl, by decide, by decide, (d1.draw.new hp _).draw, fun r H2 a2 b2 d2 => ?_⟩⟩
    have dp := d1.trans ((d1.draw.new hp (.lst [.int 3, .int 3, .int 3, .int 11])).trans d2)
    obtain ⟨m, am, m0, m12⟩ : ∃ m : Int, atI [V.int 3, V.int 3, V.int 3, V.int 11] r = some (.int m) ∧ 0 < m ∧ m ≤ 11 := by
      rcases (show r = 0 ∨ r = 1 ∨ r = 2 ∨ r = 3 by (first | lia | omega)) with rfl | rfl | rfl | rfl
      all_goals exact ⟨_, rfl, by decide, by decide⟩
    refine ⟨p, _, _, _, rfl, rfl, .of (d2.keep p _ (Ne.symm (d1.draw.ne hp)) upd_same), am, st, m, rfl, m0, by (first | lia | omega), dp.draw, fun x H3 a3 b3 d3 => ⟨_, _, rfl, rfl, ?_⟩⟩
    refine ⟨_, rfl, small (show 2 ≤ 1000 by decide), fun l hl => ⟨_, rfl, _, _, rfl, rfl, ?_⟩⟩
    have d4 := (dp.trans d3).trans (d3.draw.new hl (.lst [.int 4, .int (2 + x)]))
    have du : (2 + x) + 1 = dueM hs 4 [2 + x] := by show _ = 1 + (2 + x); (first | lia | omega)
    exact fin _ 4 [2 + x] ((2 + x) + 1) l d4 ((dp.trans d3).free hl) upd_same (by simp) (by decide) (by decide) (.inr ⟨.inr (.inr (.inr (.inl ⟨rfl, 2 + x, rfl, by (first | lia | omega), by (first | lia | omega)⟩))), fun z => absurd z (by decide), du⟩) (by (first | lia | omega)) (by (first | lia | omega))
  refine ⟨_, rfl, rfl, _, rfl, ite2 (fun c => ?_) (fun c6 => ?_)⟩
  · have k6 := vt c
    subst k6
    obtain ⟨a0, ns0, kk0, cc0, est, _⟩ := id D
    obtain ⟨rs, eh, pr⟩ := id hh
    have nhs : hd ≠ st := hh.ne D
    have eh1 := d1.keep hd _ nhs eh
    have ln : rs.length = hs.length := Paired.len pr
    have g1 := hg.lo
    have g2 := hg.hi
    refine ⟨_, rfl, _, rfl, hd, _, rfl, .inl (.of eh1), st, _, rfl, by (first | lia | omega), by (first | lia | omega), d1.draw, fun x H2 a2 b2 d2 => ?_⟩
    have hx : x.toNat < hs.length := by (first | lia | omega)
    have e1 : hs[x.toNat]? = some hs[x.toNat] := List.getElem?_eq_getElem hx
    have e2 : rs[x.toNat]? = some rs[x.toNat] := List.getElem?_eq_getElem (by (first | lia | omega))
    obtain ⟨tt, er, et⟩ := Paired.get pr _ _ _ e2 e1
    have av : atI rs x = some (.ref tt) := by
      have := atI_nat (xs := rs) e2
      rw [show ((x.toNat : Nat) : Int) = x by (first | lia | omega), er] at this
      exact this
    refine ⟨_, rfl, small (show 2 ≤ 1000 by decide), fun l hl => ?_⟩
    have d3 := (d1.trans d2).trans (d2.draw.new hl (.lst [.int 6, .int x]))
    have et3 : upd H2 l (.lst [.int 6, .int x]) tt = some (.tup [.int hs[x.toNat].1, .int hs[x.toNat].2]) := d3.keep tt _ (fun z => by rw [z, est] at et; cases et) et
    refine ⟨_, rfl, _, rfl, hd, _, _, _, rfl, rfl, .of (d3.keep hd _ nhs eh), av, tt, _, _, _, rfl, rfl, .of et3, rfl, ?_⟩
    have b1 := hg.all _ _ e1
    have du : hs[x.toNat].1 = dueM hs 6 [x] := by
      show _ = (hs.getD x.toNat (0, 0)).1
      rw [List.getD_eq_getElem?_getD, e1]; rfl
    exact fin _ 6 [x] hs[x.toNat].1 l d3 ((d1.trans d2).free hl) upd_same (by simp) (by decide) (by decide) (.inr ⟨.inr (.inr (.inr (.inr (.inl ⟨rfl, x, rfl, a2, by (first | lia | omega)⟩)))), fun z => absurd z (by decide), du⟩) (by (first | lia | omega)) (by (first | lia | omega))
  · obtain ⟨v, ev, v0, v1, cv⟩ := head_table (hs := hs) (boxes := boxes) k0 k1 (vf c3) (vf c4) (vf c6)
    refine ⟨_, rfl, small (show 1 ≤ 1000 by decide), fun l hl => ⟨small (show 20 ≤ 1000 by decide), fun p hp => ⟨_, rfl, p, _, k, _, rfl, rfl, .of upd_same, ev, ?_⟩⟩⟩
    have d2 := d1.trans (d1.draw.new hl (.lst [.int k]))
    exact fin _ k [] v l (d2.trans (d2.draw.new hp _)) (d1.free hl) (same_new hp _ _ _ upd_same) (by decide) k0 (by (first | lia | omega)) cv v0 v1

noncomputable def spPrevL (K : PySem.W.Frag) : Nat → Sp
  | 0 => fun _ _ _ _ => False
  | d + 1 => spNodeL K d
noncomputable def InvLNode (st hd rm : Addr) (boxes k : Int) (d mn r : Nat) (hs : Hds) (own : List Int) (H : Hp) (i : Nat) (σ' : St) (H2 : Hp) : Prop := ∃ (zs : List Int) (lf : Addr) (r' : Nat) (v7 : Option V), σ' = [some (.ref st), some (.ref hd), some (.int boxes), some (.int (11 - ((d + 1 : Nat) : Int))), some (.ref rm), some (.ref lf), some (.int (mn : Int)), v7] ∧ Keep2 st rm H H2 ∧ Draw K H2 st ∧
      H2 rm = some (.lst [.int (r' : Nat)]) ∧ r' ≤ r - mn ∧ H2 lf = some (.lst ((k :: own ++ zs).map V.int)) ∧ H lf = none ∧ PP hs boxes d i zs ∧ zs.length + 2 * r' ≤ 2 * i + 2 * (r - mn)
theorem ok_lnode (d : Nat) (T : Txt K mg aP CL CN) (F : Fun K "_law_node" "_law_node" s__law_node f fd) (C_law_leaf : Cal P w K mg base (CXE P w) 4 "_law_leaf" ["_law_state", "_law_boxes"] (spLeaf K))
    (C_law_head : Cal P w K mg base (CXE P w) 3 "_law_head" ["_law_state", "_law_heads_here", "_law_boxes"] (spHead K)) (C_law_node : Cal P w K mg base (CXE P w) (4 + d) "_law_node" ["_law_state", "_law_heads_here", "_law_boxes", "_law_deep", "_law_room"] (spPrevL K d)) :
    FnOk P w K mg base (CXE P w) (4 + d + 1) f fd ["_law_state", "_law_heads_here", "_law_boxes", "_law_deep", "_law_room"] (spNodeL K d) := by
  refine F.okN sc__law_node (fun vs H Q E h => ?_) (fun cdv A outer s H vs Q E hr h => ?_)
  · obtain ⟨st, hd, hs, boxes, rm, r, rfl, _⟩ := h
    rfl
  obtain ⟨st, hd, hs, boxes, rm, r, rfl, h1, h10, hb, D, hh, hg, erm, hr1, nrh, q⟩ := h
  refine ⟨_, (pss_cons (ps_asg (pe_callC C_law_head hr rfl (pa_cons (pv 0) (pa_cons (pv 1) (pa_cons (pv 2) pa_nil))) passN) (pg_tup rfl (pgs_cons (pg_name (i := 5) sc__law_node.nd rfl (Or.inl rfl)) (pgs_cons (pg_name (i := 6) sc__law_node.nd rfl (Or.inl rfl)) pgs_nil))))
      (pss_cons (ps_cut (ps_if (PW.pt (pw_or (PW.pt (pw_and (pt_cmpR op_lt (pe_ix ix_list (pv 5) pe_int (fun _ _ => rfl)) pe_int (nomark _)) (pw_and1 (pt_cmpR op_lt (pe_callB call_len_seq rfl T.n_len bt_len (pa_cons (pv 5) pa_nil)) pe_int (nomark _))))) (pw_or (pt_cmpR op_gt (pv 6) (pe_ix ix_list (pv 4) pe_int (fun _ _ => rfl)) (nomark _)) (pw_or1 (PW.pt (pw_and (pt_cmpR op_gt (pv 6) pe_int (nomark _)) (pw_and1 (pt_cmpR op_gt (pv 3) pe_int (nomark _))))))))) (pss_one (ps_ret (pe_callC C_law_leaf hr rfl (pa_cons (pv 0) (pa_cons (pv 2) pa_nil)) passN))) pss_nil))
      (pss_cons (ps_asg (pe_op op_sub (pe_ix ix_list (pv 4) pe_int (fun _ _ => rfl)) (pv 6)) (pg_sub (pv 4) pe_int set_list))
      (pss_cons (ps_for PassesOwn.never rfl (pi_range1 rfl T.n_range (pa_cons (pv 6) pa_nil)) (pg_name (i := 7) sc__law_node.nd rfl (Or.inl rfl)) (pss_one (ps_set (i := 5) sc__law_node.nd rfl (Or.inl rfl) (pe_op op_cat (pv 5) (pe_callC C_law_node hr rfl (pa_cons (pv 0) (pa_cons (pv 1) (pa_cons (pv 2) (pa_cons (pe_op op_add (pv 3) pe_int) (pa_cons (pv 4) pa_nil))))) passN)))))
      (pss_one (ps_ret (pv 5))))))), ?_⟩
  try dsimp only [Cx.nox, Cx.exc, Cx.wish, cxOf_K]
  cases d with
  | zero => exact absurd h1 (by decide)
  | succ d =>
  have nhs := hh.ne D
  obtain ⟨a0, ns0, kk0, cc0, est, hscr⟩ := id D
  have nrs : rm ≠ st := fun z => by rw [z, est] at erm; cases erm
  refine ⟨_, rfl, _, rfl, _, rfl, st, hd, hs, boxes, rfl, hb, D, hh, hg, fun t l k own many H1 d1 fr et el lo k0 k1 c m0 m1 => ⟨t, _, rfl, .of et, rfl, _, _, rfl, _, _, rfl, rfl, ?_⟩⟩
  have erm1 := d1.keep rm _ nrs erm
  have lz : spLeaf K [.ref st, .int boxes] H1 Q E0 := ⟨st, boxes, rfl, hb, d1.draw, fun l zs H2 d2 fr2 e lf => q l zs r H2 (.one (d1.trans d2).keep) d2.draw (d2.keep rm _ nrs erm1) (Nat.le_refl _) (by have := lf.len; (first | lia | omega)) e (d1.free fr2) (lf.pn d)⟩
  refine ⟨fun σ' H' => σ' = [some (.ref st), some (.ref hd), some (.int boxes), some (.int (11 - ((d + 1 : Nat) : Int))), some (.ref rm), some (.ref l), some (.int many), none] ∧ H' = H1 ∧ ¬ (k < 3 ∧ own = []) ∧ many ≤ r ∧ (0 < many → 11 - ((d + 1 : Nat) : Int) ≤ 9), ?_, ?_⟩
  · have at0 : atI ((k :: own).map V.int) 0 = some (.int k) := atI_nat (xs := (k :: own).map V.int) (j := 0) rfl
    refine ⟨_, rfl, l, _, _, _, rfl, rfl, .of el, at0, _, _, rfl, rfl, _, rfl, ite2 (fun c1 => ?_) (fun c1 => iteF ?_)⟩
    · refine ⟨_, rfl, l, _, rfl, .inl (.of el), _, _, rfl, rfl, _, rfl, ite2 (fun c2 => ?_) (fun c2 => ?_)⟩
      · exact iteT ⟨_, rfl, _, rfl, lz⟩
      · have nk : ¬ (k < 3 ∧ own = []) := fun z => c2 (decide_eq_true (by rw [z.2]; exact (show (1 : Int) < 2 by decide)))
        refine ⟨_, rfl, _, rfl, rm, _, _, _, rfl, rfl, .of erm1, rfl, _, _, rfl, rfl, _, rfl, ite2 (fun c3 => ?_) (fun c3 => ?_)⟩
        · exact iteT ⟨_, rfl, _, rfl, lz⟩
        have n3 : many ≤ r := Int.not_lt.mp fun z => c3 (decide_eq_true z)
        refine ⟨_, rfl, _, _, rfl, rfl, _, rfl, ite2 (fun c4 => ?_) (fun c4 => ?_)⟩
        · refine ⟨_, rfl, _, _, rfl, rfl, _, rfl, ite2 (fun c5 => ?_) (fun c5 => ?_)⟩
          · exact ⟨_, rfl, _, rfl, lz⟩
          · exact ⟨rfl, rfl, nk, n3, fun _ => Int.not_lt.mp fun z => c5 (decide_eq_true z)⟩
        · exact iteF ⟨rfl, rfl, nk, n3, fun z => absurd (decide_eq_true z) c4⟩
    · have nk : ¬ (k < 3 ∧ own = []) := fun z => c1 (decide_eq_true z.1)
      refine ⟨_, rfl, _, rfl, rm, _, _, _, rfl, rfl, .of erm1, rfl, _, _, rfl, rfl, _, rfl, ite2 (fun c3 => ?_) (fun c3 => ?_)⟩
      · exact iteT ⟨_, rfl, _, rfl, lz⟩
      have n3 : many ≤ r := Int.not_lt.mp fun z => c3 (decide_eq_true z)
      refine ⟨_, rfl, _, _, rfl, rfl, _, rfl, ite2 (fun c4 => ?_) (fun c4 => ?_)⟩
      · refine ⟨_, rfl, _, _, rfl, rfl, _, rfl, ite2 (fun c5 => ?_) (fun c5 => ?_)⟩
        · exact ⟨_, rfl, _, rfl, lz⟩
        · exact ⟨rfl, rfl, nk, n3, fun _ => Int.not_lt.mp fun z => c5 (decide_eq_true z)⟩
      · exact iteF ⟨rfl, rfl, nk, n3, fun z => absurd (decide_eq_true z) c4⟩
  rintro σ' H' ⟨rfl, rfl, nk, hmr, hdeep⟩
  obtain ⟨fit, _, due⟩ : OwnFit hs boxes k own ∧ (k < 3 → own ≠ []) ∧ many = dueM hs k own := c.resolve_left nk
  obtain ⟨mn, rfl⟩ : ∃ mn : Nat, many = (mn : Int) := ⟨many.toNat, by (first | lia | omega)⟩
  refine ⟨_, rfl, rm, _, _, _, rfl, rfl, .of erm1, rfl, _, rfl, _, _, rfl, rfl, _, rfl, rm, _, _, _, rfl, rfl, erm1, rfl, ?_⟩
  have er2 : (r : Int) - (mn : Int) = ((r - mn : Nat) : Int) := by (first | lia | omega)
  have k2 : Keep2 st rm H (upd H' rm (.lst [.int ((r : Int) - (mn : Int))])) := (Keep2.one d1.keep).trans .two
  have D2 : Draw K (upd H' rm (.lst [.int ((r : Int) - (mn : Int))])) st := d1.draw.put erm1 nrs
  have nlr : l ≠ rm := fun z => by rw [z, erm] at fr; cases fr
  have nls : l ≠ st := fun z => by rw [z, est] at fr; cases fr
  refine ⟨_, rfl, _, rfl, by (first | lia | omega), by (first | lia | omega), for_range (lo := 0) (n := mn) (InvLNode (K := K) st hd rm boxes k d mn r hs own H) ⟨[], l, r - mn, _, rfl, k2, D2, by rw [← er2]; exact upd_same, Nat.le_refl _, by rw [upd_ne nlr, List.append_nil]; exact el, fr, .zero, by simp⟩ ?_ ?_⟩
  · rintro i σ' H2 hi ⟨zs, lf, r', v7, rfl, kp, D3, er3, hr', elf, frf, pp, hz⟩
    obtain ⟨d', rfl⟩ : ∃ d', d = d' + 1 := ⟨d - 1, by have := hdeep (by (first | lia | omega)); (first | lia | omega)⟩
    have ed : (11 - ((d' + 1 + 1 : Nat) : Int)) + 1 = 11 - ((d' + 1 : Nat) : Int) := by (first | lia | omega)
    have nfr : lf ≠ rm := fun z => by rw [z, erm] at frf; cases frf
    have nfs : lf ≠ st := fun z => by rw [z, est] at frf; cases frf
    refine ⟨_, rfl, _, rfl, _, rfl, _, rfl, _, rfl, _, _, rfl, rfl, _, rfl, st, hd, hs, boxes, rm, r', congrArg (fun z => [V.ref st, V.ref hd, V.int boxes, V.int z, V.ref rm]) ed, by (first | lia | omega), by (first | lia | omega), hb, D3, hh.keep2 nhs (Ne.symm nrh) est erm kp, hg, er3, by (first | lia | omega), nrh, fun l2 zs2 r2 H3 k3 D4 er4 hr4 len4 el4 fr4 pn => ?_⟩
    have ef4 := k3 lf _ nfs nfr elf
    have len : ((k :: own ++ zs).map V.int).length + (zs2.map V.int).length ≤ sizeLine := by
      rw [sizeLine_eq]; simp only [List.length_map, List.length_append, List.length_cons]; (first | lia | omega)
    refine ⟨lf, l2, _, _, rfl, rfl, ef4, el4, len, fun p hp => ?_⟩
    have s5 := same_new hp (.lst ((k :: own ++ zs).map V.int ++ zs2.map V.int))
    obtain ⟨_, _, _, _, est4, _⟩ := id D4
    refine ⟨zs ++ zs2, p, r2, _, rfl, kp.trans (k3.trans (.same s5)), D4.same s5, s5 _ _ er4, by (first | lia | omega), ?_, (kp.trans k3).free est4 er4 hp, PP.snoc pp pn, ?_⟩
    · rw [upd_same, ← List.map_append, List.append_assoc]
    · rw [List.length_append]; (first | lia | omega)
  · rintro σ' H2 ⟨zs, lf, r', v7, rfl, kp, D3, er3, hr', elf, frf, pp, hz⟩
    refine ⟨_, rfl, q lf (k :: own ++ zs) r' H2 kp D3 er3 (by (first | lia | omega)) ?_ elf frf (PN.of k0 k1 fit ?_)⟩
    · simp only [List.length_append, List.length_cons]; (first | lia | omega)
    · rw [← due, Int.toNat_natCast]; exact pp
theorem ok_lnodes (T : Txt K mg aP CL CN) (F : Fun K "_law_node" "_law_node" s__law_node f fd) (C_law_leaf : Cal P w K mg base (CXE P w) 4 "_law_leaf" ["_law_state", "_law_boxes"] (spLeaf K))
    (C_law_head : Cal P w K mg base (CXE P w) 3 "_law_head" ["_law_state", "_law_heads_here", "_law_boxes"] (spHead K)) (hm : mg "_law_node" = some (.ref f)) (hk : PySem.W.keepIn K (.ref f) = true) (hb : Binds K fd ["_law_state", "_law_heads_here", "_law_boxes", "_law_deep", "_law_room"] []) :
    ∀ d, FnOk P w K mg base (CXE P w) (4 + d + 1) f fd ["_law_state", "_law_heads_here", "_law_boxes", "_law_deep", "_law_room"] (spNodeL K d) := by
  intro d
  induction d with
  | zero => exact ok_lnode 0 T F C_law_leaf C_law_head ⟨⟨_, _, fn_false, hm, hk, hb⟩⟩
  | succ d ih => exact ok_lnode (d + 1) T F C_law_leaf C_law_head ⟨⟨_, _, ih, hm, hk, hb⟩⟩
noncomputable def InvLSheet (st hd fl : Addr) (most : Int) (rs : List V) (hs : Hds) (H : Hp) (i : Nat) (σ' : St) (H' : Hp) : Prop := ∃ (v4 v5 : Option V), σ' = [some (.ref st), some (.int most), some (.ref hd), some (.ref fl), v4, v5] ∧ i ≤ rs.length ∧ Drawn K st H H' ∧ H' hd = some (.lst rs) ∧ Paired (HeadAt H') rs hs ∧ H' fl = some (.lst (((hs.length : Int) :: flat (hs.take i)).map V.int))
noncomputable def InvLSheet2 (st hd fl : Addr) (most : Int) (rs : List V) (hs : Hds) (H : Hp) (i : Nat) (σ' : St) (H' : Hp) : Prop := ∃ (zs : List Int) (v4 v5 : Option V), σ' = [some (.ref st), some (.int most), some (.ref hd), some (.ref fl), v4, v5] ∧ i ≤ rs.length ∧ Drawn K st H H' ∧ H' hd = some (.lst rs) ∧ Paired (HeadAt H') rs hs ∧ H' fl = some (.lst (((hs.length : Int) :: flat hs ++ zs).map V.int)) ∧ PB hs (hs.take i) zs ∧ zs.length ≤ i * 2002
theorem ok_lsheet (T : Txt K mg aP CL CN) (F : Fun K "_law_sheet" "_law_sheet" s__law_sheet f fd) (C_law_take : Cal P w K mg base (CXE P w) 2 "_law_take" ["_law_state", "_law_many"] (spTakeB K)) (C_law_heads : Cal P w K mg base (CXE P w) 3 "_law_heads" ["_law_state"] (spHeadsL K))
    (C_law_node : Cal P w K mg base (CXE P w) 15 "_law_node" ["_law_state", "_law_heads_here", "_law_boxes", "_law_deep", "_law_room"] (spNodeL K 10)) : FnOk P w K mg base (CXE P w) 16 f fd ["_law_state", "_law_most"] (spSheet K) := by
  refine F.okN sc__law_sheet (fun vs H Q E h => ?_) (fun cdv A outer s H vs Q E hr h => ?_)
  · obtain ⟨st, most, rfl, _⟩ := h
    rfl
  obtain ⟨st, most, rfl, m0, m1, D, q⟩ := h
  refine ⟨_, (pss_cons (ps_set (i := 2) sc__law_sheet.nd rfl (Or.inl rfl) (pe_callC C_law_heads hr rfl (pa_cons (pv 0) pa_nil) passN))
      (pss_cons (ps_set (i := 3) sc__law_sheet.nd rfl (Or.inl rfl) (pe_lst (pa_cons (pe_callB call_len_seq rfl T.n_len bt_len (pa_cons (pv 2) pa_nil)) pa_nil)))
      (pss_cons (ps_for PassesOwn.never rfl (pi_list (pv 2)) (pg_tup rfl (pgs_cons (pg_name (i := 4) sc__law_sheet.nd rfl (Or.inl rfl)) (pgs_cons (pg_name (i := 5) sc__law_sheet.nd rfl (Or.inl rfl)) pgs_nil))) (pss_one (ps_expr (pe_bm PySem.F.plainAttrs_list PySem.F.slot_list_extend PySem.F.type_list_extend mt_extend (pv 3) (pa_cons (pe_lst (pa_cons (pv 4) (pa_cons (pv 5) pa_nil))) pa_nil)))))
      (pss_cons (ps_for PassesOwn.never rfl (pi_list (pv 2)) (pg_tup rfl (pgs_cons (pg_name (i := 4) sc__law_sheet.nd rfl (Or.inl rfl)) (pgs_cons (pg_name (i := 5) sc__law_sheet.nd rfl (Or.inl rfl)) pgs_nil))) (pss_one (ps_expr (pe_bm PySem.F.plainAttrs_list PySem.F.slot_list_extend PySem.F.type_list_extend mt_extend (pv 3) (pa_cons (pe_callC C_law_node hr rfl (pa_cons (pv 0) (pa_cons (pv 2) (pa_cons (pv 5) (pa_cons pe_int (pa_cons (pe_lst (pa_cons (pe_callC C_law_take hr rfl (pa_cons (pv 0) (pa_cons (pv 1) pa_nil)) passN) pa_nil)) pa_nil))))) passN) pa_nil)))))
      (pss_one (ps_ret (pv 3))))))), ?_⟩
  try dsimp only [Cx.nox, Cx.exc, Cx.wish, cxOf_K]
  refine ⟨_, rfl, st, rfl, D, fun hd H1 hs d1 hh hg => ?_⟩
  obtain ⟨rs, ehd, pr⟩ := id hh
  have lr : rs.length = hs.length := Paired.len pr
  have g1 := hg.lo
  have g2 := hg.hi
  have nhs := hh.ne d1.draw
  refine ⟨_, rfl, hd, _, rfl, .inl (.of ehd), small (show 1 ≤ 1000 by decide), fun fl hfl => ?_⟩
  have frf : H fl = none := d1.free hfl
  have nfs := d1.draw.ne hfl
  have nfh : hd ≠ fl := ne_of_none ehd hfl
  have s2 := same_new hfl (.lst [.int (rs.length : Int)])
  have upf : ∀ {H' : Hp} {ys : List V} {o : HO}, Drawn K st H H' → H' fl = some (.lst ys) → Paired (HeadAt H') rs hs → H' hd = some (.lst rs) → (∃ zs, o = .lst zs) → Drawn K st H (upd H' fl o) ∧ Paired (HeadAt (upd H' fl o)) rs hs ∧ upd H' fl o hd = some (.lst rs) := fun {H' ys o} d e p eh ⟨zs, z⟩ => by
    subst z
    exact ⟨⟨d.draw.put e (Ne.symm nfs), d.keep.fresh frf⟩, Paired.imp (fun _ _ z => z.tups (.upd e)) p, by rw [upd_ne nfh]; exact eh⟩
  refine ⟨_, rfl, hd, rfl, ⟨rs, .of (s2 _ _ ehd)⟩, for_list (xs := rs) (InvLSheet (K := K) st hd fl most rs hs H)
      ⟨_, _, rfl, Nat.zero_le _, d1.trans (d1.draw.new hfl _), s2 _ _ ehd, Paired.imp (fun _ _ z => z.tups (.same s2)) pr, by rw [upd_same, lr]; rfl⟩ ?_ ?_ ?_⟩
  · rintro i σ' H' _ ⟨v4, v5, rfl, _, _, eh, _⟩
    exact .of eh
  · rintro i x σ' H' hx ⟨v4, v5, rfl, _, dd, eh, pr', ef⟩
    have hi : i < rs.length := (List.getElem?_eq_some_iff.mp hx).1
    have e1 : hs[i]? = some hs[i] := List.getElem?_eq_getElem (by (first | lia | omega))
    generalize hs[i] = hx1 at e1
    obtain ⟨u, rfl, eu⟩ := Paired.get pr' i _ _ hx e1
    have tk : hs.take (i + 1) = hs.take i ++ [hx1] := by rw [List.take_add_one, e1]; rfl
    refine ⟨u, _, rfl, .of eu, rfl, _, _, rfl, _, _, rfl, rfl, ?_⟩
    refine ⟨_, rfl, .inl ⟨rfl, _, .of ef⟩, _, rfl, _, rfl, small (show 2 ≤ 1000 by decide), fun p hp => ?_⟩
    have s3 := same_new hp (.lst [.int hx1.1, .int hx1.2])
    refine ⟨fl, p, _, _, rfl, rfl, s3 _ _ ef, upd_same, ?_, ?_⟩
    · simp only [List.length_map, List.length_cons, flat_len, List.length_take, List.length_nil]; exact small (by (first | lia | omega))
    · obtain ⟨d5, p5, h5⟩ := upf (o := .lst ((((hs.length : Int) :: flat (hs.take i)).map V.int) ++ [.int hx1.1, .int hx1.2])) (dd.trans (dd.draw.new hp _)) (s3 _ _ ef) (Paired.imp (fun _ _ z => z.tups (.same s3)) pr') (s3 _ _ eh) ⟨_, rfl⟩
      refine ⟨_, _, rfl, hi, d5, h5, p5, ?_⟩
      rw [upd_same, tk, flat_append]
      simp [flat]
  · rintro σ' H2 ⟨v4, v5, rfl, _, dd, eh, pr', ef⟩
    rw [lr, List.take_length] at ef
    refine ⟨_, rfl, hd, rfl, ⟨rs, .of eh⟩, for_list (xs := rs) (InvLSheet2 (K := K) st hd fl most rs hs H)
        ⟨[], _, _, rfl, Nat.zero_le _, dd, eh, pr', by rw [List.append_nil]; exact ef, .zero, by simp⟩ ?_ ?_ ?_⟩
    · rintro i σ' H' _ ⟨zs, v4, v5, rfl, _, _, eh, _⟩
      exact .of eh
    · rintro i x σ' H' hx ⟨zs, v4, v5, rfl, _, dd, eh, pr', ef, pb, hz⟩
      have hi : i < rs.length := (List.getElem?_eq_some_iff.mp hx).1
      have e1 : hs[i]? = some hs[i] := List.getElem?_eq_getElem (by (first | lia | omega))
      generalize hs[i] = hx1 at e1
      obtain ⟨u, rfl, eu⟩ := Paired.get pr' i _ _ hx e1
      have tk : hs.take (i + 1) = hs.take i ++ [hx1] := by rw [List.take_add_one, e1]; rfl
      have hb := hg.all _ _ e1
      refine ⟨u, _, rfl, .of eu, rfl, _, _, rfl, _, _, rfl, rfl, ?_⟩
      refine ⟨_, rfl, .inl ⟨rfl, _, .of ef⟩, _, rfl, _, rfl, _, rfl, _, rfl, _, rfl, st, most, rfl, m0, by (first | lia | omega), dd.draw, fun r H3 r0 r1 d3 => ⟨small (show 1 ≤ 1000 by decide), fun rm hrm => ?_⟩⟩
      obtain ⟨rn, rfl⟩ : ∃ rn : Nat, r = (rn : Int) := ⟨r.toNat, by (first | lia | omega)⟩
      have s4 := same_new hrm (.lst [.int (rn : Int)])
      have D4 := d3.draw.same s4
      have h4 : HeadsAt (upd H3 rm (.lst [.int (rn : Int)])) hd hs := by
        refine ⟨rs, s4 _ _ (d3.keep hd _ nhs eh), Paired.imp (fun _ _ z => z.tups ?_) pr'⟩
        obtain ⟨_, _, _, _, est, _⟩ := dd.draw
        exact .trans (.keepL est d3.keep) (.same s4)
      have nrh : rm ≠ hd := fun z => by rw [z, d3.keep hd _ nhs eh] at hrm; cases hrm
      have ef3 := d3.keep fl _ (Ne.symm nfs) ef
      have nfr : fl ≠ rm := ne_of_none ef3 hrm
      refine ⟨st, hd, hs, hx1.2, rm, rn, rfl, by decide, by decide, by (first | lia | omega), D4, h4, hg, upd_same, by (first | lia | omega), nrh, fun l zs2 r' H5 k5 D5 er5 hr5 len5 el5 fr5 pn => ?_⟩
      have ef5 := k5 fl _ (Ne.symm nfs) nfr (s4 _ _ ef3)
      have frm : H rm = none := (dd.trans d3).free hrm
      have dH5 : Drawn K st H H5 := ⟨D5, fun b o nb e => k5 b o nb (fun z => by rw [z, frm] at e; cases e) (s4 _ _ ((dd.trans d3).keep b o nb e))⟩
      have tp5 : Tups H' H5 := by
        obtain ⟨_, _, _, _, est, _⟩ := dd.draw
        obtain ⟨_, _, _, _, est4, _⟩ := D4
        refine .trans (.keepL est d3.keep) (.trans (.same s4) fun b ys e => k5 b _ ?_ ?_ e)
        · intro z; rw [z, est4] at e; cases e
        · intro z; rw [z, upd_same] at e; cases e
      refine ⟨fl, l, _, _, rfl, rfl, ef5, el5, ?_, ?_⟩
      · rw [sizeLine_eq]; simp only [List.length_map, List.length_append, List.length_cons, flat_len]
        have : i * 2002 ≤ 16 * 2002 := Nat.mul_le_mul_right _ (by (first | lia | omega))
        (first | lia | omega)
      · obtain ⟨d6, p6, h6⟩ := upf (o := .lst ((((hs.length : Int) :: flat hs ++ zs).map V.int) ++ zs2.map V.int)) dH5 ef5 (Paired.imp (fun _ _ z => z.tups tp5) pr') (k5 hd _ nhs (Ne.symm nrh) (s4 _ _ (d3.keep hd _ nhs eh))) ⟨_, rfl⟩
        refine ⟨zs ++ zs2, _, _, rfl, hi, d6, h6, p6, ?_, by rw [tk]; exact PB.snoc pb pn, ?_⟩
        · rw [upd_same, ← List.map_append, List.append_assoc]
        · rw [List.length_append, Nat.succ_mul]; (first | lia | omega)
    · rintro σ' H3 ⟨zs, v4, v5, rfl, _, dd, eh, pr', ef, pb, hz⟩
      rw [lr, List.take_length] at pb
      obtain ⟨nds, ok⟩ := sheet_of_parts hg pb
      refine ⟨_, rfl, q fl _ H3 dd ef ⟨?_, _, ok⟩⟩
      simp only [List.length_append, List.length_cons, flat_len]
      have : rs.length * 2002 ≤ 16 * 2002 := Nat.mul_le_mul_right _ (by (first | lia | omega))
      (first | lia | omega)

noncomputable def InvNodesIn (v : V) (tl wl : Addr) (H : Hp) (nd : Nd) (m : Nat) (σ' : St) (H' : Hp) : Prop := ∃ (done st : List Nd) (us ws : List V) (v3 v4 : Option V), σ' = [some v, some (.ref tl), some (.ref wl), v3, v4] ∧ m = (preL st).length ∧ Same H H' ∧ H' tl = some (.lst us) ∧ H' wl = some (.lst ws) ∧ Paired (NodeAt H' 10) us done ∧ Paired (NodeAt H' 10) ws st ∧ done ++ preL st.reverse = pre nd
theorem ok_nodes_in (T : Txt K mg aP CL CN) (n_reversed : mg "reversed" = none) (F : Fun K "nodes_in" "nodes_in" s_nodes_in f fd) : FnOk P w K mg base (CXE P w) 1 f fd ["body"] spNodesIn := by
  refine F.okN sc_nodes_in (fun vs H Q E h => ?_) (fun cdv A outer s H vs Q E hr h => ?_)
  · obtain ⟨v, nd, rfl, _⟩ := h
    rfl
  obtain ⟨v, nd, rfl, hv, hc, q⟩ := h
  refine ⟨_, (pss_cons (ps_set (i := 1) sc_nodes_in.nd rfl (Or.inl rfl) (pe_lst pa_nil))
      (pss_cons (ps_set (i := 2) sc_nodes_in.nd rfl (Or.inl rfl) (pe_lst (pa_cons (pv 0) pa_nil)))
      (pss_cons (ps_while PassesOwn.never (pt_truth (pv 2) (fun _ => rfl)) (pss_cons (ps_set (i := 3) sc_nodes_in.nd rfl (Or.inl rfl) (pe_bm0 PySem.F.plainAttrs_list PySem.F.slot_list_pop PySem.F.type_list_pop mt_pop (pv 2)))
      (pss_cons (ps_expr (pe_bm PySem.F.plainAttrs_list PySem.F.slot_list_append PySem.F.type_list_append mt_append (pv 1) (pa_cons (pv 3) pa_nil)))
      (pss_one (ps_for PassesOwn.never rfl (pi_rev rfl n_reversed (pa_cons (pe_ix ix_tup (pv 3) pe_int (fun _ _ => rfl)) pa_nil)) (pg_name (i := 4) sc_nodes_in.nd rfl (Or.inl rfl)) (pss_one (ps_expr (pe_bm PySem.F.plainAttrs_list PySem.F.slot_list_append PySem.F.type_list_append mt_append (pv 2) (pa_cons (pv 4) pa_nil)))))))))
      (pss_one (ps_ret (pv 1)))))), ?_⟩
  try dsimp only [Cx.nox, Cx.exc, Cx.wish, cxOf_K]
  refine ⟨small (show 0 ≤ 1000 by decide), fun tl htl => ?_⟩
  have s1 := same_new htl (.lst [])
  refine ⟨_, rfl, small (show 1 ≤ 1000 by decide), fun wl hwl => ?_⟩
  have s2 := same_new hwl (.lst [v])
  have hwl0 : H wl = none := s1.free hwl
  have ntw : tl ≠ wl := ne_of_none upd_same hwl
  have sl : sizeLine = 16777216 := sizeLine_eq
  refine ⟨InvNodesIn v tl wl H nd,
    ⟨_, [], [nd], [], [v], _, _, rfl, rfl, s1.trans s2, s2 _ _ upd_same, upd_same, .nil, .cons (hv.tups (.same (s1.trans s2))) .nil, by simp [preL]⟩, ?_⟩
  rintro m σ' H' ⟨done, st, us, ws, v3, v4, rfl, rfl, g, et, ew, pu, pw, eq⟩
  refine ⟨_, rfl, !ws.isEmpty, .inl ⟨ws, .of ew, rfl⟩, ?_⟩
  rcases List.eq_nil_or_concat ws with rfl | ⟨ws', x, rfl⟩
  · cases pw
    refine iteF ⟨_, rfl, q tl us H' g htl et ?_⟩
    have : done = pre nd := by simpa [preL] using eq
    rw [← this]; exact pu
  rw [List.concat_eq_append] at *
  obtain ⟨st', n, rfl, pw', nx⟩ := Paired.unsnoc pw
  have ne : (!(ws' ++ [x]).isEmpty) = true := by simp
  rw [ne]
  refine iteT ⟨fun σ'' H'' => ∃ m', m' < (preL (st' ++ [n])).length ∧ ∃ (done st : List Nd) (us ws : List V) (v3 v4 : Option V), σ'' = [some v, some (.ref tl), some (.ref wl), v3, v4] ∧ m' = (preL st).length ∧ Same H H'' ∧ H'' tl = some (.lst us) ∧ H'' wl = some (.lst ws) ∧ Paired (NodeAt H'' 10) us done ∧ Paired (NodeAt H'' 10) ws st ∧ done ++ preL st.reverse = pre nd, fun _ _ z => z, ?_⟩
  cases n with
  | mk k p own ps =>
  obtain ⟨t, o, pq, vs, rfl, etn, eo, ep, pr⟩ := nx
  have eq2 : done ++ (.mk k p own ps :: (preL ps ++ preL st'.reverse)) = pre nd := by
    rw [← eq]; simp [preL, pre, preL_append]
  have tot : done.length + 1 + (preL ps).length + (preL st').length ≤ 1000000 := by
    have := congrArg List.length eq2
    rw [← preL_rev_len st']
    simp only [List.length_append, List.length_cons] at this
    (first | lia | omega)
  have lu : us.length = done.length := Paired.len pu
  have lw : ws'.length ≤ (preL st').length := by rw [Paired.len pw']; exact preL_len st'
  have lv : vs.length ≤ (preL ps).length := by rw [Paired.len pr]; exact preL_len ps
  refine ⟨_, rfl, .inl ⟨rfl, _, .of ew⟩, wl, _, .ref t, rfl, rfl, ew, by simp, ?_⟩
  have dl : (ws' ++ [V.ref t]).dropLast = ws' := by simp
  have et1 : upd H' wl (.lst (ws' ++ [V.ref t]).dropLast) tl = some (.lst us) := by rw [upd_ne ntw]; exact et
  refine ⟨_, rfl, .inl ⟨rfl, _, .of et1⟩, _, rfl, tl, us, _, rfl, rfl, et1, by (first | lia | omega), ?_⟩
  have tp2 : Tups H' (upd (upd H' wl (.lst (ws' ++ [V.ref t]).dropLast)) tl (.lst (us ++ [V.ref t]))) := .trans (.upd ew) (.upd et1)
  have g2 : Same H (upd (upd H' wl (.lst (ws' ++ [V.ref t]).dropLast)) tl (.lst (us ++ [V.ref t]))) := (g.fresh hwl0).fresh htl
  refine ⟨_, rfl, t, _, _, _, rfl, rfl, .of (tp2 _ _ etn), rfl, pq, vs, rfl, .of (tp2 _ _ ep), for_rev (xs := vs) (fun i σ'' H'' => ∃ v4, σ'' = [some v, some (.ref tl), some (.ref wl), some (.ref t), v4] ∧ Same H H'' ∧ H'' tl = some (.lst (us ++ [.ref t])) ∧ H'' wl = some (.lst (ws' ++ vs.reverse.take i)) ∧ Tups H' H'')
    ⟨_, rfl, g2, upd_same, by rw [upd_ne (Ne.symm ntw), upd_same, dl]; simp, tp2⟩ ?_ ?_ ?_⟩
  · rintro i σ'' H'' _ ⟨v4, rfl, _, _, _, tp⟩
    exact .of (tp _ _ ep)
  · rintro i x σ'' H'' hx ⟨v4, rfl, g3, et3, ew3, tp⟩
    have hi : i < vs.length := by have := (List.getElem?_eq_some_iff.mp hx).1; simpa using this
    refine ⟨_, rfl, .inl ⟨rfl, _, .of ew3⟩, _, rfl, wl, _, _, rfl, rfl, ew3, ?_, ?_⟩
    · simp only [List.length_append, List.length_take, List.length_reverse]; (first | lia | omega)
    · refine ⟨_, rfl, g3.fresh hwl0, by rw [upd_ne ntw]; exact et3, ?_, .trans tp (.upd ew3)⟩
      rw [upd_same, List.take_add_one, hx, List.append_assoc]; rfl
  · rintro σ'' H'' ⟨v4, rfl, g3, et3, ew3, tp⟩
    have tk : vs.reverse.take vs.length = vs.reverse := by rw [← List.length_reverse (as := vs), List.take_length]
    rw [tk] at ew3
    refine ⟨_, ?_, done ++ [.mk k p own ps], st' ++ ps.reverse, _, _, _, _, rfl, rfl, g3, et3, ew3, Paired.snoc (Paired.imp (fun _ _ z => z.tups tp) pu) (NodeAt.tups (d := 10) (n := .mk k p own ps) tp ⟨t, o, pq, vs, rfl, etn, eo, ep, pr⟩), Paired.append (Paired.imp (fun _ _ z => z.tups tp) pw') (Paired.imp (fun _ _ z => (NodeAt.tups tp z).more) (Paired.rev pr)), ?_⟩
    · simp only [preL_append, preL_rev_len, List.length_append, preL, pre, List.length_cons, List.length_nil]; (first | lia | omega)
    · rw [← eq2]; simp [preL_append]
noncomputable def InvNodesP (a tl l : Addr) (rs : List V) (nds : List Nd) (H H1 : Hp) (i : Nat) (σ' : St) (H' : Hp) : Prop := ∃ (us : List V) (v2 v3 v4 : Option V), σ' = [some (.ref a), some (.ref tl), v2, v3, v4] ∧ i ≤ rs.length ∧ Same H H' ∧ H' l = some (.lst rs) ∧ Tups H1 H' ∧ H' tl = some (.lst us) ∧ Paired (NodeAt H' 10) us (preL (nds.take i))
theorem ok_nodesP (T : Txt K mg aP CL CN) (F : Fun K "nodes" "nodes" s_nodes f fd) (Cfunctions : Cal P w K mg base (CXE P w) 17 "functions" ["sheet"] (spFns CN)) (Cnodes_in : Cal P w K mg base (CXE P w) 1 "nodes_in" ["body"] spNodesIn) :
    FnOk P w K mg base (CXE P w) 18 f fd ["sheet"] (spNodes CN) := by
  refine F.okX sc_nodes (fun vs H Q E h => ?_) (fun cdv A outer s H vs Q E hr h => ?_)
  · obtain ⟨a, ns, rfl, _⟩ := h
    rfl
  obtain ⟨a, ns, rfl, ha, hz, t1, t2⟩ := h
  refine ⟨_, (pss_cons (ps_set (i := 1) sc_nodes.nd rfl (Or.inl rfl) (pe_lst pa_nil))
      (pss_cons (ps_for (own_fly rfl rfl) rfl (pi_list (pe_callC Cfunctions hr rfl (pa_cons (pv 0) pa_nil) passX)) (pg_tup rfl (pgs_cons (pg_name (i := 2) sc_nodes.nd rfl (Or.inl rfl)) (pgs_cons (pg_name (i := 3) sc_nodes.nd rfl (Or.inl rfl)) (pgs_cons (pg_name (i := 4) sc_nodes.nd rfl (Or.inl rfl)) pgs_nil)))) (pss_one (ps_expr (pe_bm PySem.F.plainAttrs_list PySem.F.slot_list_extend PySem.F.type_list_extend mt_extend (pv 1) (pa_cons (pe_callC Cnodes_in hr rfl (pa_cons (pv 4) pa_nil) passX) pa_nil)))))
      (pss_one (ps_ret (pv 1))))), ?_⟩
  try dsimp only [Cx.nox, Cx.exc, Cx.wish, cxOf_K]
  refine ⟨small (show 0 ≤ 1000 by decide), fun tl htl => ?_⟩
  have s1 := same_new htl (.lst [])
  have sl : sizeLine = 16777216 := sizeLine_eq
  refine ⟨_, rfl, a, ns, rfl, s1 _ _ ha, fun r er l H1 s2 fr fa => ?_, fun p wd er d H' s2 ed => t2 p wd er d H' (s1.trans s2) ed⟩
  obtain ⟨rs, el, ln, pr⟩ := fa
  have cnt := fns_count er
  have ntl : l ≠ tl := fun z => by rw [z] at fr; rw [upd_same] at fr; cases fr
  obtain ⟨hs, nds⟩ := r
  simp only at ln pr cnt
  have lr : rs.length = nds.length := by have := Paired.len pr; rw [List.length_zip] at this; (first | lia | omega)
  refine ⟨l, rfl, ⟨rs, .of el⟩, for_list (xs := rs) (InvNodesP a tl l rs nds H H1)
    ⟨[], _, _, _, rfl, Nat.zero_le _, s1.trans s2, el, fun _ _ e => e, s2 _ _ upd_same, .nil⟩ ?_ ?_ ?_⟩
  · rintro i σ' H' _ ⟨us, v2, v3, v4, rfl, _, _, e, _⟩
    exact .of e
  · rintro i x σ' H' hx ⟨us, v2, v3, v4, rfl, _, g, el', tp, et, pu⟩
    have hi : i < rs.length := (List.getElem?_eq_some_iff.mp hx).1
    have e2 : nds[i]? = some nds[i] := List.getElem?_eq_getElem (by (first | lia | omega))
    have e1 : hs[i]? = some (hs[i]'(by (first | lia | omega))) := List.getElem?_eq_getElem (by (first | lia | omega))
    generalize nds[i] = ni at *
    generalize hs[i]'(by (first | lia | omega)) = hx1 at *
    obtain ⟨t, b, rfl, ett, nb⟩ := Paired.get pr i _ _ hx ((List.getElem?_zip_eq_some (z := (hx1, ni))).mpr ⟨e1, e2⟩)
    have tk : nds.take (i + 1) = nds.take i ++ [ni] := by rw [List.take_add_one, e2]; rfl
    have c1 : (preL (nds.take (i + 1))).length ≤ (preL nds).length := by
      conv => rhs; rw [← List.take_append_drop (i + 1) nds]
      rw [preL_append, List.length_append]; (first | lia | omega)
    rw [tk, preL_append, List.length_append] at c1
    simp only [preL, List.append_nil] at c1
    refine ⟨t, _, rfl, .of (tp _ _ ett), rfl, _, _, rfl, _, _, rfl, _, _, rfl, rfl, ?_⟩
    refine ⟨_, rfl, .inl ⟨rfl, _, .of et⟩, _, rfl, b, ni, rfl, nb.tups tp, by (first | lia | omega), fun l2 us2 H2 g2 fr2 el2 pu2 => ?_⟩
    have lu : us.length = (preL (nds.take i)).length := Paired.len pu
    have lu2 : us2.length = (pre ni).length := Paired.len pu2
    refine ⟨tl, l2, us, us2, rfl, rfl, g2 _ _ et, el2, by (first | lia | omega), ?_⟩
    have et2 := g2 _ _ et
    refine ⟨_, _, _, _, rfl, hi, (g.trans g2).fresh htl, by rw [upd_ne ntl]; exact g2 _ _ el', .trans tp (.trans (.same g2) (.upd et2)), upd_same, ?_⟩
    rw [tk, preL_append]
    simp only [preL, List.append_nil]
    exact Paired.append (Paired.imp (fun _ _ z => z.tups (.trans (.same g2) (.upd et2))) pu) (Paired.imp (fun _ _ z => z.tups (.upd et2)) pu2)
  · rintro σ' H' ⟨us, v2, v3, v4, rfl, _, g, el', tp, et, pu⟩
    rw [lr, List.take_length] at pu
    exact ⟨_, rfl, t1 (hs, nds) er tl us H' g htl et pu⟩

noncomputable def spLOwn : Sp := fun vs H Q _ => ∃ (l : Addr) (ns : List Int) (p : Nat) (k n boxes : Int), vs = [.ref l, .int (p : Nat), .int boxes] ∧ H l = some (.lst (ns.map V.int)) ∧ ns[p]? = some k ∧ ns[0]? = some n ∧
  ∀ t H' lo hi, Same H H' → H' t = some (.tup [.int lo, .int hi]) → ((k = 1 ∨ k = 2) ∧ lo = 0 ∧ hi = boxes - 1 ∨ (k = 3 ∨ k = 4) ∧ lo = k - 2 ∧ hi = 12 ∨ ¬ (k = 1 ∨ k = 2 ∨ k = 3 ∨ k = 4) ∧ lo = 0 ∧ hi = n - 1) → Q (.ref t) H'
theorem ok_lown (T : Txt K mg aP CL CN) (F : Fun K "_law_own" "_law_own" s__law_own f fd) : FnOk P w K mg base (CXE P w) 1 f fd ["_law_sheet_here", "_law_at", "_law_boxes"] spLOwn := by
  refine F.okN sc__law_own (fun vs H Q E h => ?_) (fun cdv A outer s H vs Q E hr h => ?_)
  · obtain ⟨l, ns, p, k, n, boxes, rfl, _⟩ := h
    rfl
  obtain ⟨l, ns, p, k, n, boxes, rfl, el, ek, e0, q⟩ := h
  refine ⟨_, (pss_cons (ps_set (i := 3) sc__law_own.nd rfl (Or.inl rfl) (pe_ix ix_list (pv 0) (pv 1) (fun _ _ => rfl)))
      (pss_cons (ps_if (pt_cmpR op_in_seq (pv 3) (pe_tup (pa_consts (.int (.int .nil)))) rfl) (pss_one (ps_ret (pe_tup (pa_cons pe_int (pa_cons (pe_op op_sub (pv 2) pe_int) pa_nil))))) pss_nil)
      (pss_cons (ps_if (pt_cmpR op_in_seq (pv 3) (pe_tup (pa_consts (.int (.int .nil)))) rfl) (pss_one (ps_ret (pe_tup (pa_cons (pe_op op_sub (pv 3) pe_int) (pa_cons pe_int pa_nil))))) pss_nil)
      (pss_one (ps_ret (pe_tup (pa_cons pe_int (pa_cons (pe_op op_sub (pe_ix ix_list (pv 0) pe_int (fun _ _ => rfl)) pe_int) pa_nil)))))))), ?_⟩
  try dsimp only [Cx.nox, Cx.exc, Cx.wish, cxOf_K]
  refine ⟨_, rfl, _, rfl, l, _, _, _, rfl, rfl, .of el, atI_ns ek, ?_⟩
  have inT : ∀ a b : Int, inV (.int k) [.int a, .int b] = decide (k = a ∨ k = b) := fun a b => by
    show (eqV (.int a) (.int k) || (eqV (.int b) (.int k) || false)) = _
    show ((a == k) || ((b == k) || false)) = _
    rw [Bool.or_false]
    by_cases c : a = k
    · subst c; simp
    · by_cases c2 : b = k
      · subst c2; simp
      · have : ¬ (k = a ∨ k = b) := by (first | lia | omega)
        simp [c, c2, this]
  refine ⟨_, rfl, small (show 2 ≤ 1000 by decide), fun u hu => ⟨u, _, rfl, .inr (.of upd_same), rfl, rfl, _, rfl, ?_⟩⟩
  rw [show (if false = true then !inV (V.int k) [V.int 1, V.int 2] else inV (V.int k) [V.int 1, V.int 2]) = decide (k = 1 ∨ k = 2) from inT 1 2]
  have s1 := same_new hu (.tup [.int 1, .int 2])
  refine ite2 (fun c => ?_) (fun c => ?_)
  · exact ⟨_, rfl, _, _, rfl, rfl, small (show 2 ≤ 1000 by decide), fun t ht => q t _ 0 (boxes - 1) (s1.trans (same_new ht _)) upd_same (.inl ⟨of_decide_eq_true c, rfl, rfl⟩)⟩
  have c1 : ¬ (k = 1 ∨ k = 2) := fun z => c (decide_eq_true z)
  refine ⟨_, rfl, small (show 2 ≤ 1000 by decide), fun u2 hu2 => ⟨u2, _, rfl, .inr (.of upd_same), rfl, rfl, _, rfl, ?_⟩⟩
  rw [show (if false = true then !inV (V.int k) [V.int 3, V.int 4] else inV (V.int k) [V.int 3, V.int 4]) = decide (k = 3 ∨ k = 4) from inT 3 4]
  have s2 := s1.trans (same_new hu2 (.tup [.int 3, .int 4]))
  refine ite2 (fun c => ?_) (fun c => ?_)
  · exact ⟨_, rfl, _, _, rfl, rfl, small (show 2 ≤ 1000 by decide), fun t ht => q t _ (k - 2) 12 (s2.trans (same_new ht _)) upd_same (.inr (.inl ⟨of_decide_eq_true c, rfl, rfl⟩))⟩
  have c2 : ¬ (k = 3 ∨ k = 4) := fun z => c (decide_eq_true z)
  exact ⟨_, rfl, l, _, _, _, rfl, rfl, .of (s2 _ _ el), atI_ns (p := 0) e0, _, _, rfl, rfl, small (show 2 ≤ 1000 by decide), fun t ht => q t _ 0 (n - 1) (s2.trans (same_new ht _)) upd_same (.inr (.inr ⟨by (first | lia | omega), rfl, rfl⟩))⟩
noncomputable def spLParts : Sp := fun vs H Q _ => ∃ l ns p k hs boxes own, vs = [.ref l, .int (p : Nat)] ∧ H l = some (.lst (ns.map V.int)) ∧ 0 ≤ k ∧ k ≤ 19 ∧ ns[p]? = some k ∧ ownM ns hs boxes k (p + 1) = .ok own ∧ headsAllM ns = .ok hs ∧
  ∀ H', Same H H' → Q (.int (dueM hs k own)) H'
theorem ok_lparts (T : Txt K mg aP CL CN) (F : Fun K "_law_parts" "_law_parts" s__law_parts f fd) : FnOk P w K mg base (CXE P w) 1 f fd ["_law_sheet_here", "_law_at"] spLParts := by
  refine F.okN sc__law_parts (fun vs H Q E h => ?_) (fun cdv A outer s H vs Q E hr h => ?_)
  · obtain ⟨l, ns, p, k, hs, boxes, own, rfl, _⟩ := h
    rfl
  obtain ⟨l, ns, p, k, hs, boxes, own, rfl, el, k0, k1, ek, eo, eh, q⟩ := h
  refine ⟨_, (pss_cons (ps_set (i := 2) sc__law_parts.nd rfl (Or.inl rfl) (pe_ix ix_list (pv 0) (pv 1) (fun _ _ => rfl)))
      (pss_cons (ps_if (pt_cmpR op_eq (pv 2) pe_int (nomark _)) (pss_one (ps_ret (pe_ix ix_list (pv 0) (pe_op op_add (pv 1) pe_int) (fun _ _ => rfl)))) pss_nil)
      (pss_cons (ps_if (pt_cmpR op_eq (pv 2) pe_int (nomark _)) (pss_one (ps_ret (pe_op op_add (pe_ix ix_list (pv 0) (pe_op op_add (pv 1) pe_int) (fun _ _ => rfl)) pe_int))) pss_nil)
      (pss_cons (ps_if (pt_cmpR op_eq (pv 2) pe_int (nomark _)) (pss_one (ps_ret (pe_ix ix_list (pv 0) (pe_op op_add pe_int (pe_op op_mul pe_int (pe_ix ix_list (pv 0) (pe_op op_add (pv 1) pe_int) (fun _ _ => rfl)))) (fun _ _ => rfl)))) pss_nil)
      (pss_one (ps_ret (pe_ix ix_list (pe_lst (pa_consts (.int (.int (.int (.int (.int (.int (.int (.int (.int (.int (.int (.int (.int (.int (.int (.int (.int (.int (.int (.int .nil)))))))))))))))))))))) (pv 2) (fun _ _ => rfl)))))))), ?_⟩
  try dsimp only [Cx.nox, Cx.exc, Cx.wish, cxOf_K]
  refine ⟨_, rfl, _, rfl, l, _, _, _, rfl, rfl, .of el, atI_ns ek, ?_⟩
  have ad : (p : Int) + 1 = ((p + 1 : Nat) : Int) := by (first | lia | omega)
  have own1 : k < 5 ∨ k = 6 → ∃ n, own = [n] ∧ ns[p + 1]? = some n := fun z => (own_at k0 eo).elim (·.2) (fun y => absurd z y.1)
  have at1 : ∀ n, ns[p + 1]? = some n → atI (ns.map V.int) ((p : Int) + 1) = some (.int n) := fun n e => by rw [ad]; exact atI_ns e
  refine ⟨_, rfl, rfl, _, rfl, ite2 (fun c => ?_) (fun c3 => ?_)⟩
  · have k3 := vt c
    subst k3
    obtain ⟨n, rfl, en⟩ := own1 (by decide)
    exact ⟨_, rfl, _, rfl, _, _, rfl, rfl, l, _, _, _, rfl, rfl, .of el, at1 n en, q _ (Same.refl _)⟩
  refine ⟨_, rfl, rfl, _, rfl, ite2 (fun c => ?_) (fun c4 => ?_)⟩
  · have k4 := vt c
    subst k4
    obtain ⟨n, rfl, en⟩ := own1 (by decide)
    refine ⟨_, rfl, _, rfl, _, _, rfl, rfl, l, _, _, _, rfl, rfl, .of el, at1 n en, _, _, rfl, rfl, ?_⟩
    have := q _ (Same.refl H)
    rw [show dueM hs 4 [n] = n + 1 by show 1 + n = n + 1; (first | lia | omega)] at this; exact this
  refine ⟨_, rfl, rfl, _, rfl, ite2 (fun c => ?_) (fun c6 => ?_)⟩
  · have k6 := vt c
    subst k6
    obtain ⟨n, rfl, en⟩ := own1 (by decide)
    obtain ⟨_, n0, nl⟩ : ns[p + 1]? = some n ∧ 0 ≤ n ∧ n ≤ (hs.length : Int) - 1 := by
      unfold ownM at eo
      rw [if_neg (by decide), if_neg (by decide), if_neg (by decide), if_neg (by decide), if_pos rfl] at eo
      obtain ⟨m, e, z⟩ := oneM_ok eo
      cases z
      exact withinM_ok e
    obtain ⟨_, _, _, _, hm⟩ := headsAllM_ok eh
    have hx : n.toNat < hs.length := by (first | lia | omega)
    have e1 : hs[n.toNat]? = some hs[n.toNat] := List.getElem?_eq_getElem hx
    have e2 := (headsM_at hm _ _ e1).1
    have e3 : (1 : Int) + 2 * n = ((1 + 2 * n.toNat : Nat) : Int) := by (first | lia | omega)
    have at2 : atI (ns.map V.int) ((1 : Int) + 2 * n) = some (.int hs[n.toNat].1) := by rw [e3]; exact atI_ns e2
    have du : dueM hs 6 [n] = hs[n.toNat].1 := by
      show (hs.getD n.toNat (0, 0)).1 = _
      rw [List.getD_eq_getElem?_getD, e1]; rfl
    refine ⟨_, rfl, _, rfl, _, rfl, _, _, rfl, rfl, l, _, _, _, rfl, rfl, .of el, at1 n en, _, _, rfl, rfl, .inl ⟨by decide, by decide⟩, _, _, rfl, rfl, l, _, _, _, rfl, rfl, .of el, at2, ?_⟩
    have := q _ (Same.refl H)
    rw [du] at this; exact this
  · have n3 := vf c3; have n4 := vf c4; have n6 := vf c6
    exact ⟨small (show 20 ≤ 1000 by decide), fun u hu => ⟨_, rfl, u, _, _, _, rfl, rfl, .of upd_same, many_table (hs := hs) (own := own) k0 k1 n3 n4 n6, q _ (same_new hu _)⟩⟩

noncomputable def spHW : Sp := fun vs H Q _ => ∃ (l : Addr) (ns : List Int), vs = [.ref l] ∧ H l = some (.lst (ns.map V.int)) ∧ Tells (headsAllM ns) (fun _ => ∀ H', Same H H' → Q .non H') (fun p w => ∀ t H', Same H H' → H' t = some (.tup [.int (p : Nat), .str w]) → Q (.ref t) H')
noncomputable def halfM (ns : List Int) (a : Int) (n p : Nat) : Except Bad Hds := match withinM ns (p + 1) a 12 with
  | .error b => .error b
  | .ok c => match headsM ns n 4 (p + 2) with
    | .error b => .error b
    | .ok r => .ok ((a, c) :: r)
theorem headsM_half {ns : List Int} {n p : Nat} {most a : Int} (h : withinM ns p 0 most = .ok a) : headsM ns (n + 1) most p = halfM ns a n p := by
  conv => lhs; unfold headsM
  rw [h]; rfl
theorem headsM_bad {ns : List Int} {n p : Nat} {most : Int} {b : Bad} (h : withinM ns p 0 most = .error b) : headsM ns (n + 1) most p = .error b := by
  conv => lhs; unfold headsM
  rw [h]
theorem within_end {ns : List Int} {p : Nat} {lo hi : Int} (h : ns.length ≤ p) : withinM ns p lo hi = .error (p, "end") := by
  unfold withinM; rw [List.getElem?_eq_none h]
theorem within_bad {ns : List Int} {p : Nat} {lo hi n : Int} (h : ns[p]? = some n) (c : n < lo ∨ hi < n) : withinM ns p lo hi = .error (p, "range") := by
  unfold withinM; rw [h]; exact if_pos c
noncomputable def HInv (ns : List Int) (n i : Nat) : Prop := ∃ (done : Hds) (j : Nat), j ≤ n ∧
  ((i = 2 * j ∧ headsM ns n 0 1 = joinM done (headsM ns (n - j) (if j = 0 then 0 else 4) (1 + 2 * j))) ∨
   (i = 2 * j + 1 ∧ j < n ∧ ∃ a, ns[1 + 2 * j]? = some a ∧ headsM ns n 0 1 = joinM done (halfM ns a (n - j - 1) (1 + 2 * j))))
theorem HInv.end_ {ns : List Int} {n i : Nat} (h : HInv ns n i) (hi : i < 2 * n) (hl : ns.length ≤ 1 + i) : headsM ns n 0 1 = .error (1 + i, "end") := by
  obtain ⟨done, j, hj, ⟨rfl, e⟩ | ⟨rfl, hj', a, ea, e⟩⟩ := h
  · obtain ⟨m, em⟩ : ∃ m, n - j = m + 1 := ⟨n - j - 1, by (first | lia | omega)⟩
    rw [e, em, headsM_bad (within_end (by (first | lia | omega)))]; rfl
  · rw [e]; unfold halfM; rw [within_end (by (first | lia | omega))]; rfl
theorem HInv.odd {ns : List Int} {n i : Nat} {x : Int} (h : HInv ns n i) (hi : i < 2 * n) (hx : ns[1 + i]? = some x) (ho : (1 + i) % 2 = 1) (c : x < 0 ∨ (if i = 0 then 0 else 4) < x) : headsM ns n 0 1 = .error (1 + i, "range") := by
  obtain ⟨done, j, hj, ⟨rfl, e⟩ | ⟨rfl, hj', a, ea, e⟩⟩ := h
  · obtain ⟨m, em⟩ : ∃ m, n - j = m + 1 := ⟨n - j - 1, by (first | lia | omega)⟩
    rw [e, em, headsM_bad (within_bad hx ?_)]; rfl
    by_cases z : j = 0
    · subst z; exact c
    · rw [if_neg z]; rw [if_neg (by (first | lia | omega))] at c; exact c
  · (first | lia | omega)
theorem HInv.even {ns : List Int} {n i : Nat} {a x : Int} (h : HInv ns n i) (hi : i < 2 * n) (ha : ns[i]? = some a) (hx : ns[1 + i]? = some x) (ho : (1 + i) % 2 = 0) (c : x < a ∨ 12 < x) : headsM ns n 0 1 = .error (1 + i, "range") := by
  obtain ⟨done, j, hj, ⟨rfl, e⟩ | ⟨rfl, hj', a', ea, e⟩⟩ := h
  · (first | lia | omega)
  · rw [show 2 * j + 1 = 1 + 2 * j by (first | lia | omega), ea] at ha
    cases ha
    rw [show 1 + (2 * j + 1) = 1 + 2 * j + 1 by (first | lia | omega)] at hx
    rw [e]; unfold halfM; rw [within_bad hx c, show 1 + (2 * j + 1) = 1 + 2 * j + 1 by (first | lia | omega)]; rfl
theorem HInv.next {ns : List Int} {n i : Nat} {x : Int} (h : HInv ns n i) (hi : i < 2 * n) (hx : ns[1 + i]? = some x) (co : (1 + i) % 2 = 1 → 0 ≤ x ∧ x ≤ (if i = 0 then 0 else 4)) (ce : (1 + i) % 2 = 0 → ∀ a, ns[i]? = some a → a ≤ x ∧ x ≤ 12) : HInv ns n (i + 1) := by
  obtain ⟨done, j, hj, ⟨rfl, e⟩ | ⟨rfl, hj', a, ea, e⟩⟩ := h
  · obtain ⟨m, em⟩ : ∃ m, n - j = m + 1 := ⟨n - j - 1, by (first | lia | omega)⟩
    refine ⟨done, j, hj, .inr ⟨rfl, by (first | lia | omega), x, hx, ?_⟩⟩
    have c := co (by (first | lia | omega))
    rw [e, em, headsM_half (a := x) (withinM_at hx c.1 ?_), show m + 1 - 1 = m by (first | lia | omega)]
    by_cases z : j = 0
    · subst z; exact c.2
    · rw [if_neg z]; have := c.2; rw [if_neg (by (first | lia | omega))] at this; exact this
  · have c := ce (by (first | lia | omega)) a (by rw [show 2 * j + 1 = 1 + 2 * j by (first | lia | omega)]; exact ea)
    refine ⟨done ++ [(a, x)], j + 1, by (first | lia | omega), .inl ⟨by (first | lia | omega), ?_⟩⟩
    rw [show 1 + (2 * j + 1) = 1 + 2 * j + 1 by (first | lia | omega)] at hx
    rw [e]; unfold halfM; rw [withinM_at hx c.1 c.2, if_neg (by (first | lia | omega)), show n - (j + 1) = n - j - 1 by (first | lia | omega), show 1 + 2 * (j + 1) = 1 + 2 * j + 2 by (first | lia | omega)]
    simp only
    cases headsM ns (n - j - 1) 4 (1 + 2 * j + 2) with
    | error b => rfl
    | ok r => show Except.ok _ = Except.ok _; rw [List.append_assoc]; rfl
theorem HInv.all {ns : List Int} {n : Nat} (h : HInv ns n (2 * n)) : ∃ hs, headsM ns n 0 1 = .ok hs := by
  obtain ⟨done, j, hj, ⟨ej, e⟩ | ⟨ej, hj', a, ea, e⟩⟩ := h
  · have : j = n := by (first | lia | omega)
    subst this
    rw [Nat.sub_self] at e
    exact ⟨_, e⟩
  · (first | lia | omega)
theorem ok_hw (T : Txt K mg aP CL CN) (F : Fun K "_law_head_wrong" "_law_head_wrong" s__law_head_wrong f fd) : FnOk P w K mg base (CXE P w) 1 f fd ["_law_sheet_here"] spHW := by
  refine F.okN sc__law_head_wrong (fun vs H Q E h => ?_) (fun cdv A outer s H vs Q E hr h => ?_)
  · obtain ⟨l, ns, rfl, _⟩ := h
    rfl
  obtain ⟨l, ns, rfl, el, t1, t2⟩ := h
  refine ⟨_, (pss_cons (ps_if (pt_cmpR op_eq (pe_callB call_len_seq rfl T.n_len bt_len (pa_cons (pv 0) pa_nil)) pe_int (nomark _)) (pss_one (ps_ret (pe_tup (pa_consts (.int (.str .nil)))))) pss_nil)
      (pss_cons (ps_if (pt_not (pt_chain op_le op_le pe_int (pe_ix ix_list (pv 0) pe_int (fun _ _ => rfl)) pe_int)) (pss_one (ps_ret (pe_tup (pa_consts (.int (.str .nil)))))) pss_nil)
      (pss_cons (ps_for PassesOwn.never rfl (pi_range2 rfl T.n_range (pa_cons pe_int (pa_cons (pe_op op_add pe_int (pe_op op_mul pe_int (pe_ix ix_list (pv 0) pe_int (fun _ _ => rfl)))) pa_nil))) (pg_name (i := 1) sc__law_head_wrong.nd rfl (Or.inl rfl)) (pss_cons (ps_if (pt_cmpR op_eq (pv 1) (pe_callB call_len_seq rfl T.n_len bt_len (pa_cons (pv 0) pa_nil)) (nomark _)) (pss_one (ps_ret (pe_tup (pa_cons (pv 1) (pa_cons pe_str pa_nil))))) pss_nil)
      (pss_cons (ps_cut (ps_if (PW.pt (pw_and (pt_cmpR op_eq (pe_op op_mod (pv 1) pe_int) pe_int (nomark _)) (pw_and1 (pt_not (pt_chain op_le op_le pe_int (pe_ix ix_list (pv 0) (pv 1) (fun _ _ => rfl)) (pe_op op_mul pe_int (pe_callTy call_int1 rfl T.n_int bt_int (pa_cons (pe_cmpR op_gt (pv 1) pe_int (nomark _)) pa_nil)))))))) (pss_one (ps_ret (pe_tup (pa_cons (pv 1) (pa_cons pe_str pa_nil))))) pss_nil))
      (pss_one (ps_if (PW.pt (pw_and (pt_cmpR op_eq (pe_op op_mod (pv 1) pe_int) pe_int (nomark _)) (pw_and1 (pt_not (pt_chain op_le op_le (pe_ix ix_list (pv 0) (pe_op op_sub (pv 1) pe_int) (fun _ _ => rfl)) (pe_ix ix_list (pv 0) (pv 1) (fun _ _ => rfl)) pe_int))))) (pss_one (ps_ret (pe_tup (pa_cons (pv 1) (pa_cons pe_str pa_nil))))) pss_nil)))))
      (pss_one (ps_ret pe_non))))), ?_⟩
  try dsimp only [Cx.nox, Cx.exc, Cx.wish, cxOf_K]
  have hz : (ns.map V.int).length = ns.length := List.length_map ..
  have tell : ∀ (H2 : Hp) (p : Nat) (wd : Str), Same H H2 → headsAllM ns = .error (p, wd) → 2 ≤ sizeLine ∧ ∀ t, H2 t = none → Q (.ref t) (upd H2 t (.tup [.int (p : Int), .str wd])) := fun H2 p wd g e => ⟨small (by decide), fun t ht => t2 p wd e t _ (g.trans (same_new ht _)) upd_same⟩
  refine ⟨_, rfl, l, _, rfl, .inl (.of el), rfl, _, rfl, ite2 (fun c => ?_) (fun c => ?_)⟩
  · have c' := vt c
    exact tell H 0 "end" (Same.refl _) (by unfold headsAllM; rw [within_end (by (first | lia | omega))])
  have c0 := vf c
  have e0 : ns[0]? = some (ns[0]'(by (first | lia | omega))) := List.getElem?_eq_getElem (by (first | lia | omega))
  generalize ns[0]'(by (first | lia | omega)) = x0 at e0
  have bad0 : x0 < 1 ∨ 16 < x0 → headsAllM ns = .error (0, "range") := fun z => by unfold headsAllM; rw [within_bad e0 z]
  refine ⟨_, rfl, l, _, _, _, rfl, rfl, .of el, atI_ns (p := 0) e0, _, _, rfl, rfl, _, rfl, ite2 (fun c1 => ?_) (fun c1 => ?_)⟩
  rotate_left
  · exact ⟨_, rfl, iteT (tell H 0 "range" (Same.refl _) (bad0 (by have : ¬ (1 ≤ x0) := fun z => c1 (decide_eq_true z); (first | lia | omega))))⟩
  have c1' := of_decide_eq_true c1
  refine ⟨_, _, rfl, rfl, _, rfl, ?_⟩
  by_cases c2 : x0 ≤ 16
  rotate_left
  · rw [decide_eq_false c2]
    exact iteT (tell H 0 "range" (Same.refl _) (bad0 (by (first | lia | omega))))
  rw [decide_eq_true c2]
  refine iteF ?_
  obtain ⟨n, rfl⟩ : ∃ n : Nat, x0 = (n : Int) := ⟨x0.toNat, by (first | lia | omega)⟩
  have eh : headsAllM ns = headsM ns n 0 1 := by unfold headsAllM; rw [withinM_at e0 (by (first | lia | omega)) c2]; rfl
  refine ⟨_, rfl, l, _, _, _, rfl, rfl, .of el, atI_ns (p := 0) e0, _, _, rfl, rfl, .inl ⟨by decide, by decide⟩, _, _, rfl, rfl, 1, _, rfl, ⟨by decide, by decide, by (first | lia | omega), by (first | lia | omega)⟩, ?_⟩
  have en : ((1 : Int) + 2 * (n : Int) - 1).toNat = 2 * n := by (first | lia | omega)
  rw [en]
  refine for_range (lo := 1) (n := 2 * n) (fun i σ' H' => H' = H ∧ (∃ v1, σ' = [some (.ref l), v1]) ∧ 1 + i ≤ ns.length ∧ HInv ns n i) ⟨rfl, ⟨_, rfl⟩, by (first | lia | omega), [], 0, by (first | lia | omega), .inl ⟨rfl, (joinM_nil _).symm⟩⟩ ?_ ?_
  · rintro i σ' H' hi ⟨rfl, ⟨v1, rfl⟩, hle, hv⟩
    have ea : (1 : Int) + (i : Int) = ((1 + i : Nat) : Int) := by (first | lia | omega)
    show gName 1 (V.int ((1 : Int) + ((i : Nat) : Int))) _ _ _
    rw [ea]
    refine ⟨_, rfl, _, rfl, l, _, rfl, .inl (.of el), rfl, _, rfl, ite2 (fun c => ?_) (fun c => ?_)⟩
    · have c' := vt c
      exact ⟨_, rfl, tell H' (1 + i) "end" (Same.refl _) (by rw [eh]; exact hv.end_ hi (by (first | lia | omega)))⟩
    have c' := vf c
    have hlt : 1 + i < ns.length := by (first | lia | omega)
    have ex : ns[1 + i]? = some ns[1 + i] := List.getElem?_eq_getElem hlt
    generalize ns[1 + i] = x at ex
    have atx := atI_ns ex
    refine ⟨fun σ' H2 => σ' = [some (.ref l), some (.int ((1 + i : Nat) : Int))] ∧ H2 = H' ∧ ((1 + i) % 2 = 1 → 0 ≤ x ∧ x ≤ (if i = 0 then 0 else 4)), ?_, ?_⟩
    · refine ⟨_, rfl, _, _, rfl, rfl, (show (0 : Int) < 2 by decide), rfl, _, rfl, ite2 (fun d => ?_) (fun d => iteF ⟨rfl, rfl, fun z => absurd (vf d) (by (first | lia | omega))⟩)⟩
      have d' := vt d
      have ho : (1 + i) % 2 = 1 := by (first | lia | omega)
      have mo : (4 : Int) * (if decide ((1 : Int) < ((1 + i : Nat) : Int)) = true then 1 else 0) = (if i = 0 then 0 else 4) := by
        by_cases z : i = 0
        · subst z; rfl
        · rw [if_neg z, if_pos (decide_eq_true (by (first | lia | omega)))]; rfl
      refine ⟨_, rfl, _, rfl, l, _, _, _, rfl, rfl, .of el, atx, _, _, rfl, rfl, _, rfl, ite2 (fun c1 => ?_) (fun c1 => ?_)⟩
      rotate_left
      · exact ⟨_, rfl, iteT ⟨_, rfl, tell H' (1 + i) "range" (Same.refl _) (by rw [eh]; exact hv.odd hi ex ho (.inl (Int.not_le.mp fun z => c1 (decide_eq_true z))))⟩⟩
      have c1' := of_decide_eq_true c1
      refine ⟨_, rfl, _, _, rfl, rfl, .inr ⟨_, rfl, _, _, rfl, rfl, .inl ⟨by decide, by decide⟩, _, _, rfl, rfl, _, rfl, ?_⟩⟩
      show if (!decide (x ≤ 4 * (if decide ((1 : Int) < ((1 + i : Nat) : Int)) = true then 1 else 0))) = true then _ else _
      rw [mo]
      by_cases c2 : x ≤ (if i = 0 then 0 else 4)
      · rw [decide_eq_true c2]
        exact iteF ⟨rfl, rfl, fun _ => ⟨c1', c2⟩⟩
      · rw [decide_eq_false c2]
        exact iteT ⟨_, rfl, tell H' (1 + i) "range" (Same.refl _) (by rw [eh]; exact hv.odd hi ex ho (.inr (Int.not_le.mp c2)))⟩
    · rintro σ' H2 ⟨rfl, rfl, co⟩
      refine ⟨_, rfl, _, _, rfl, rfl, (show (0 : Int) < 2 by decide), rfl, _, rfl, ite2 (fun d => ?_) (fun d => iteF ⟨rfl, ⟨_, rfl⟩, by (first | lia | omega), hv.next hi ex co fun z => absurd (vf d) (by (first | lia | omega))⟩)⟩
      have d' := vt d
      have ho : (1 + i) % 2 = 0 := by (first | lia | omega)
      have ey : ns[i]? = some ns[i] := List.getElem?_eq_getElem (by (first | lia | omega))
      generalize ns[i] = y at ey
      have am : ((1 + i : Nat) : Int) - 1 = (i : Int) := by (first | lia | omega)
      have aty : atI (ns.map V.int) (((1 + i : Nat) : Int) - 1) = some (.int y) := by rw [am]; exact atI_ns ey
      refine ⟨_, rfl, _, rfl, _, _, rfl, rfl, l, _, _, _, rfl, rfl, .of el, aty, _, rfl, _, rfl, l, _, _, _, rfl, rfl, .of el, atx, _, _, rfl, rfl, _, rfl, ite2 (fun c1 => ?_) (fun c1 => ?_)⟩
      rotate_left
      · exact ⟨_, rfl, iteT ⟨_, rfl, tell H2 (1 + i) "range" (Same.refl _) (by rw [eh]; exact hv.even hi ey ex ho (.inl (Int.not_le.mp fun z => c1 (decide_eq_true z))))⟩⟩
      have c1' := of_decide_eq_true c1
      refine ⟨_, _, rfl, rfl, _, rfl, ?_⟩
      by_cases c2 : x ≤ 12
      · rw [decide_eq_true c2]
        exact iteF ⟨rfl, ⟨_, rfl⟩, by (first | lia | omega), hv.next hi ex co fun _ a e => by rw [ey] at e; cases e; exact ⟨c1', c2⟩⟩
      · rw [decide_eq_false c2]
        exact iteT ⟨_, rfl, tell H2 (1 + i) "range" (Same.refl _) (by rw [eh]; exact hv.even hi ey ex ho (.inr (Int.not_le.mp c2)))⟩
  · rintro σ' H' ⟨rfl, _, _, hv⟩
    obtain ⟨hs, e⟩ := hv.all
    exact t1 hs (eh.trans e) _ (Same.refl _)

noncomputable def WAt (H : Hp) (v : V) (x : Nat × Int) : Prop := ∃ t, v = .ref t ∧ H t = some (.tup [.int (11 - (x.1 : Int)), .int x.2])
theorem Paired.unsnocR {α β : Type} {F : α → β → Prop} : ∀ {ys : List β} {y : β} {xs : List α}, Paired F xs (ys ++ [y]) → ∃ xs' x, xs = xs' ++ [x] ∧ Paired F xs' ys ∧ F x y
  | [], y, _, .cons r .nil => ⟨[], _, rfl, .nil, r⟩
  | a :: ys, y, _, .cons r t => by
    obtain ⟨xs', x, rfl, p, f⟩ := Paired.unsnocR t
    exact ⟨_ :: xs', x, rfl, .cons r p, f⟩
theorem WAt.tups {H H' : Hp} (h : Tups H H') {v : V} {x : Nat × Int} : WAt H v x → WAt H' v x := fun ⟨t, e, q⟩ => ⟨t, e, h _ _ q⟩
noncomputable def spLWrong : Sp := fun vs H Q _ => ∃ (l : Addr) (ns : List Int), vs = [.ref l] ∧ H l = some (.lst (ns.map V.int)) ∧ ns.length ≤ 1000000 ∧ (wrongM ns = none → ∀ H', Same H H' → Q .non H') ∧ ∀ p wd, wrongM ns = some (p, wd) → ∀ t H', Same H H' → H' t = some (.tup [.int (p : Nat), .str wd]) → Q (.ref t) H'
noncomputable def LWInv (H : Hp) (l : Addr) (ns : List Int) (hs : Hds) (S0 : List (Nat × Int)) (m : Nat) (σ' : St) (H' : Hp) : Prop := ∃ (at_ : Nat) (stk : List (Nat × Int)) (ws : List V) (wl : Addr) (v4 v5 v6 v7 v8 : Option V), σ' = [some (.ref l), some .non, some (.ref wl), some (.int (at_ : Int)), v4, v5, v6, v7, v8] ∧ m = ns.length - at_ ∧ Same H H' ∧ H' wl = some (.lst ws) ∧ H wl = none ∧ Paired (WAt H') ws stk.reverse ∧ at_ ≤ ns.length ∧
      stackM ns hs S0 (1 + 2 * hs.length) = stackM ns hs stk at_ ∧ (∀ x ∈ stk, x.1 ≤ 10) ∧ stk.length ≤ 16 + 13 * at_
noncomputable def LWNext (H : Hp) (l : Addr) (ns : List Int) (hs : Hds) (S0 : List (Nat × Int)) (k : Nat) (σ' : St) (H' : Hp) : Prop := ∃ m', m' < k ∧ LWInv H l ns hs S0 m' σ' H'
theorem ok_lwrong (T : Txt K mg aP CL CN) (F : Fun K "_law_wrong" "_law_wrong" s__law_wrong f fd) (C_law_head_wrong : Cal P w K mg base (CXE P w) 1 "_law_head_wrong" ["_law_sheet_here"] spHW) (C_law_own : Cal P w K mg base (CXE P w) 1 "_law_own" ["_law_sheet_here", "_law_at", "_law_boxes"] spLOwn)
    (C_law_parts : Cal P w K mg base (CXE P w) 1 "_law_parts" ["_law_sheet_here", "_law_at"] spLParts) : FnOk P w K mg base (CXE P w) 2 f fd ["_law_sheet_here"] spLWrong := by
  refine F.okN sc__law_wrong (fun vs H Q E h => ?_) (fun cdv A outer s H vs Q E hr h => ?_)
  · obtain ⟨l, ns, rfl, _⟩ := h
    rfl
  obtain ⟨l, ns, rfl, el, hz, t1, t2⟩ := h
  refine ⟨_, (pss_cons (ps_set (i := 1) sc__law_wrong.nd rfl (Or.inl rfl) (pe_callC C_law_head_wrong hr rfl (pa_cons (pv 0) pa_nil) passN))
      (pss_cons (ps_if (pt_cmpR op_notN (pv 1) pe_non (nomark _)) (pss_one (ps_ret (pv 1))) pss_nil)
      (pss_cons (ps_setcomp (i := 2) sc__law_wrong.nd rfl rfl  (own := ["_law_k"]) (ys := ["_law_sheet_here"]) rfl (pi_down rfl T.n_range (pa_cons (pe_ix ix_list (pv 0) pe_int (fun _ _ => rfl)) (pa_cons pe_int (pa_cons (pe_un un_neg pe_int) pa_nil)))) (compSc_of (sc := defScope s__law_wrong) rfl (by decide +kernel)) (.cons (j := 0) rfl .nil) (fun _ _ _ _ _ => (pg_name (i := 0) (show List.Nodup [("_law_k" : Str), ("_law_sheet_here" : Str)] from (by decide +kernel)) rfl (Or.inl rfl))) (fun _ _ _ _ _ => pts_nil) (fun _ _ _ _ _ => (pe_tup (pa_cons pe_int (pa_cons (pe_ix (ix_listK K rfl) (pv 1) (pe_op op_mul pe_int (pv 0)) (fun _ _ => rfl)) pa_nil)))))
      (pss_cons (ps_set (i := 3) sc__law_wrong.nd rfl (Or.inl rfl) (pe_op op_add pe_int (pe_op op_mul pe_int (pe_ix ix_list (pv 0) pe_int (fun _ _ => rfl)))))
      (pss_cons (ps_while PassesOwn.never (pt_cmpR (op_neNil hr) (pv 2) (pe_lst pa_nil) (nomark _)) (pss_cons (ps_asg (pe_bm0 PySem.F.plainAttrs_list PySem.F.slot_list_pop PySem.F.type_list_pop mt_pop (pv 2)) (pg_tup rfl (pgs_cons (pg_name (i := 4) sc__law_wrong.nd rfl (Or.inl rfl)) (pgs_cons (pg_name (i := 5) sc__law_wrong.nd rfl (Or.inl rfl)) pgs_nil))))
      (pss_cons (ps_if (pt_cmpR op_gt (pv 4) pe_int (nomark _)) (pss_one (ps_ret (pe_tup (pa_cons (pv 3) (pa_cons pe_str pa_nil))))) pss_nil)
      (pss_cons (ps_if (pt_cmpR op_eq (pv 3) (pe_callB call_len_seq rfl T.n_len bt_len (pa_cons (pv 0) pa_nil)) (nomark _)) (pss_one (ps_ret (pe_tup (pa_cons (pv 3) (pa_cons pe_str pa_nil))))) pss_nil)
      (pss_cons (ps_if (pt_not (pt_chain op_le op_le pe_int (pe_ix ix_list (pv 0) (pv 3) (fun _ _ => rfl)) pe_int)) (pss_one (ps_ret (pe_tup (pa_cons (pv 3) (pa_cons pe_str pa_nil))))) pss_nil)
      (pss_cons (ps_set (i := 6) sc__law_wrong.nd rfl (Or.inl rfl) (pe_callTy call_int1 rfl T.n_int bt_int (pa_cons (pe_cmpR op_in_seq (pe_ix ix_list (pv 0) (pv 3) (fun _ _ => rfl)) (pe_tup (pa_consts (.int (.int (.int (.int (.int (.int .nil)))))))) rfl) pa_nil)))
      (pss_cons (ps_cut (ps_if (PW.pt (pw_and (pt_cmpR op_eq (pv 6) pe_int (nomark _)) (pw_and1 (pt_cmpR op_eq (pe_op op_add (pv 3) pe_int) (pe_callB call_len_seq rfl T.n_len bt_len (pa_cons (pv 0) pa_nil)) (nomark _))))) (pss_one (ps_ret (pe_tup (pa_cons (pe_op op_add (pv 3) pe_int) (pa_cons pe_str pa_nil))))) pss_nil))
      (pss_cons (ps_cut (ps_if (PW.pt (pw_and (pt_cmpR op_eq (pv 6) pe_int (nomark _)) (pw_and1 (pt_cmpR op_gt (pe_ix ix_list (pv 0) (pv 3) (fun _ _ => rfl)) pe_int (nomark _))))) (pss_cons (ps_asg (pe_callC C_law_own hr rfl (pa_cons (pv 0) (pa_cons (pv 3) (pa_cons (pv 5) pa_nil))) passN) (pg_tup rfl (pgs_cons (pg_name (i := 7) sc__law_wrong.nd rfl (Or.inl rfl)) (pgs_cons (pg_name (i := 8) sc__law_wrong.nd rfl (Or.inl rfl)) pgs_nil))))
      (pss_one (ps_if (pt_not (pt_chain op_le op_le (pv 7) (pe_ix ix_list (pv 0) (pe_op op_add (pv 3) pe_int) (fun _ _ => rfl)) (pv 8))) (pss_one (ps_ret (pe_tup (pa_cons (pe_op op_add (pv 3) pe_int) (pa_cons pe_str pa_nil))))) pss_nil))) pss_nil))
      (pss_cons (ps_set (i := 2) sc__law_wrong.nd rfl (Or.inl rfl) (pe_op op_cat (pv 2) (pe_op op_rep (pe_lst (pa_cons (pe_tup (pa_cons (pe_op op_add (pv 4) pe_int) (pa_cons (pv 5) pa_nil))) pa_nil)) (pe_callC C_law_parts hr rfl (pa_cons (pv 0) (pa_cons (pv 3) pa_nil)) passN))))
      (pss_one (ps_set (i := 3) sc__law_wrong.nd rfl (Or.inl rfl) (pe_op op_add (pe_op op_add (pv 3) pe_int) (pv 6)))))))))))))
      (pss_cons (ps_if (pt_cmpR op_lt (pv 3) (pe_callB call_len_seq rfl T.n_len bt_len (pa_cons (pv 0) pa_nil)) (nomark _)) (pss_one (ps_ret (pe_tup (pa_cons (pv 3) (pa_cons pe_str pa_nil))))) pss_nil)
      (pss_one (ps_ret pe_non)))))))), ?_⟩
  try dsimp only [Cx.nox, Cx.exc, Cx.wish, cxOf_K]
  refine ⟨_, rfl, l, ns, rfl, el, fun hs eh H1 s1 => ?_, fun p wd eh t H1 s1 et => ?_⟩
  rotate_left
  · refine ⟨_, rfl, rfl, _, rfl, ?_⟩
    rw [show decide (V.ref t = V.non) = false from decide_eq_false (fun z => nomatch z)]
    exact iteT ⟨_, rfl, t2 p wd (wrong_heads eh) t H1 s1 et⟩
  obtain ⟨ho, e0, l1, l16, hm⟩ := headsAllM_ok eh
  have hle := heads_le eh
  refine ⟨_, rfl, rfl, _, rfl, iteNS rfl ?_⟩
  have at0 : atI (ns.map V.int) 0 = some (.int (hs.length : Int)) := atI_ns (p := 0) e0
  refine ⟨_, rfl, l, _, _, _, rfl, rfl, .of (s1 _ _ el), at0, _, rfl, (hs.length : Int), 0, rfl, ⟨by (first | lia | omega), by (first | lia | omega), by decide, by decide⟩, fun p1 hp1 => ?_⟩
  have s2 := same_new hp1 (.lst [])
  have g2 := s1.trans s2
  have fr1 : H p1 = none := s1.free hp1
  have sl : sizeLine = 16777216 := sizeLine_eq
  have nn : ((hs.length : Int) - 0).toNat = hs.length := by (first | lia | omega)
  rw [nn]
  refine comp_down (fun i σ' H' => ∃ ys v, σ' = [v, some (.ref l)] ∧ Same H H' ∧ H' p1 = some (.lst ys) ∧ i ≤ hs.length ∧ Paired (WAt H') ys ((hs.reverse.take i).map fun h => ((10 : Nat), h.2))) ⟨[], _, rfl, g2, upd_same, Nat.zero_le _, .nil⟩ ?_ ?_
  · rintro i σ' H' hi ⟨ys, v, rfl, g, ep, _, py⟩
    have e1 : hs.reverse[i]? = some (hs.reverse[i]'(by simpa using hi)) := List.getElem?_eq_getElem (by simpa using hi)
    generalize hs.reverse[i]'(by simpa using hi) = hx at e1
    have tk : hs.reverse.take (i + 1) = hs.reverse.take i ++ [hx] := by rw [List.take_add_one, e1]; rfl
    rw [List.getElem?_reverse hi] at e1
    have en := (headsM_at hm _ _ e1).2
    have ea : (2 : Int) * ((hs.length : Int) - (i : Int)) = ((1 + 2 * (hs.length - 1 - i) + 1 : Nat) : Int) := by (first | lia | omega)
    have atk : atI (ns.map V.int) ((2 : Int) * ((hs.length : Int) - (i : Int))) = some (.int hx.2) := by rw [ea]; exact atI_ns en
    have ly : ys.length ≤ 16 := by have := Paired.len py; rw [List.length_map, List.length_take] at this; (first | lia | omega)
    unfold gName
    refine tyes ?_
    refine ⟨_, rfl, _, rfl, _, _, rfl, rfl, .inl ⟨by decide, by decide⟩, l, _, _, _, rfl, rfl, .of (g _ _ el), atk, small (show 2 ≤ 1000 by decide), fun t ht => ?_⟩
    have s3 := same_new ht (.tup [.int 1, .int hx.2])
    refine ⟨ys, s3 _ _ ep, by (first | lia | omega), CW.next hi ⟨ys ++ [.ref t], _, rfl, (g.trans s3).fresh fr1, upd_same, hi, ?_⟩⟩
    have nt : p1 ≠ t := ne_of_none ep ht
    rw [tk, List.map_append]
    exact Paired.snoc (Paired.imp (fun _ _ z => z.tups (.trans (.same s3) (.upd (s3 _ _ ep)))) py) ⟨t, rfl, by rw [upd_ne (Ne.symm nt)]; exact upd_same⟩
  rintro σ' H3 ⟨ys, v, _, g3, ep3, _, py3⟩
  rw [show hs.reverse.take hs.length = hs.reverse by rw [← List.length_reverse (as := hs), List.take_length], List.map_reverse] at py3
  refine ⟨_, rfl, l, _, _, _, rfl, rfl, .of (g3 _ _ el), at0, _, _, rfl, rfl, .inl ⟨by decide, by decide⟩, _, _, rfl, rfl, ?_⟩
  have ad : (1 : Int) + 2 * (hs.length : Int) = ((1 + 2 * hs.length : Nat) : Int) := by (first | lia | omega)
  generalize hS : hs.map (fun h => ((10 : Nat), h.2)) = S0 at py3
  have lS : S0.length ≤ 16 := by rw [← hS, List.length_map]; exact l16
  have tell : ∀ (H2 : Hp) (p : Nat) (wd : Str), Same H H2 → stackM ns hs S0 (1 + 2 * hs.length) = .error (p, wd) → 2 ≤ sizeLine ∧ ∀ t, H2 t = none → Q (.ref t) (upd H2 t (.tup [.int (p : Int), .str wd])) := fun H2 p wd g e =>
    ⟨small (by decide), fun t ht => t2 p wd (wrong_bad eh (by rw [hS]; exact e)) t _ (g.trans (same_new ht _)) upd_same⟩
  refine ⟨LWInv H l ns hs S0,
    ⟨_, 1 + 2 * hs.length, S0, ys, p1, _, _, _, _, _, by rw [← ad]; rfl, rfl, g3, ep3, fr1, py3, hle, rfl, ?_, by (first | lia | omega)⟩, ?_⟩
  · intro x hx
    rw [← hS] at hx
    obtain ⟨h, _, rfl⟩ := List.mem_map.mp hx
    exact Nat.le_refl _
  rintro m σ' H4 ⟨at_, stk, ws, wl, v4, v5, v6, v7, v8, rfl, rfl, g4, ew4, frw, pw, hat, eq, h10, hst⟩
  refine ⟨_, rfl, small (show 0 ≤ 1000 by decide), fun e5 he5 => ?_⟩
  have s5 := same_new he5 (.lst [])
  refine ⟨wl, e5, ws, rfl, rfl, .of (s5 _ _ ew4), .of upd_same, _, rfl, ?_⟩
  have g5 := g4.trans s5
  have ew5 := s5 _ _ ew4
  have pw5 : Paired (WAt (upd H4 e5 (.lst []))) ws stk.reverse := Paired.imp (fun _ _ z => z.tups (.same s5)) pw
  generalize upd H4 e5 (.lst []) = H5 at g5 ew5 pw5
  cases stk with
  | nil =>
    cases pw
    refine iteF ?_
    have we := wrong_end eh (by rw [hS]; exact eq)
    have hzl : (ns.map V.int).length = ns.length := List.length_map ..
    refine ⟨_, rfl, _, rfl, l, _, rfl, .inl (.of (g5 _ _ el)), _, _, rfl, rfl, _, rfl, ite2 (fun c => ?_) (fun c => ?_)⟩
    · have c' := of_decide_eq_true c
      rw [if_pos (by (first | lia | omega))] at we
      exact ⟨_, rfl, small (show 2 ≤ 1000 by decide), fun t ht => t2 _ _ we t _ (g5.trans (same_new ht _)) upd_same⟩
    · rw [if_neg (fun z => c (decide_eq_true (by (first | lia | omega))))] at we
      exact t1 we H5 g5
  | cons top stk =>
    rw [List.reverse_cons] at pw5
    obtain ⟨ws', x, rfl, pw', wx⟩ := Paired.unsnocR pw5
    obtain ⟨d, b⟩ := top
    obtain ⟨t, rfl, ett⟩ := wx
    have ne : (!(ws' ++ [V.ref t]).isEmpty) = true := by simp
    rw [ne]
    refine iteT ⟨LWNext H l ns hs S0 (ns.length - at_), fun _ _ z => z, ?_⟩
    have dl : (ws' ++ [V.ref t]).dropLast = ws' := by simp
    have tp6 : Tups H5 (upd H5 wl (.lst (ws' ++ [V.ref t]).dropLast)) := .upd ew5
    refine ⟨_, rfl, .inl ⟨rfl, _, .of ew5⟩, wl, _, .ref t, rfl, rfl, ew5, by simp, t, _, rfl, .of (tp6 _ _ ett), rfl, _, _, rfl, _, _, rfl, rfl, ?_⟩
    have g6 : Same H (upd H5 wl (.lst (ws' ++ [V.ref t]).dropLast)) := g5.fresh frw
    have ew6 : upd H5 wl (.lst (ws' ++ [V.ref t]).dropLast) wl = some (.lst ws') := by rw [upd_same, dl]
    have pw6 : Paired (WAt (upd H5 wl (.lst (ws' ++ [V.ref t]).dropLast))) ws' stk.reverse := Paired.imp (fun _ _ z => z.tups tp6) pw'
    generalize upd H5 wl (.lst (ws' ++ [V.ref t]).dropLast) = H6 at g6 ew6 pw6
    have hzl : (ns.map V.int).length = ns.length := List.length_map ..
    have hd10 : d ≤ 10 := h10 (d, b) List.mem_cons_self
    refine ⟨_, rfl, _, _, rfl, rfl, _, rfl, ite2 (fun c => ?_) (fun c => ?_)⟩
    · have c' : (10 : Int) < 11 - (d : Int) := of_decide_eq_true c
      have d0 : d = 0 := by (first | lia | omega)
      subst d0
      exact ⟨_, rfl, tell H6 at_ "deep" g6 (by rw [eq]; exact stack_deep)⟩
    obtain ⟨d', rfl⟩ : ∃ d', d = d' + 1 := by
      cases d with
      | zero => exact absurd (decide_eq_true (show (10 : Int) < 11 - ((0 : Nat) : Int) by decide)) c
      | succ d => exact ⟨d, rfl⟩
    refine ⟨_, rfl, _, rfl, l, _, rfl, .inl (.of (g6 _ _ el)), rfl, _, rfl, ite2 (fun c => ?_) (fun c => ?_)⟩
    · have c' := vt c
      exact ⟨_, rfl, tell H6 at_ "end" g6 (by rw [eq]; exact stack_kind (within_end (by (first | lia | omega))))⟩
    have hlt : at_ < ns.length := by have := vf c; (first | lia | omega)
    have ek : ns[at_]? = some ns[at_] := List.getElem?_eq_getElem hlt
    generalize ns[at_] = k at ek
    have atk := atI_ns ek
    refine ⟨_, rfl, _, rfl, l, _, _, _, rfl, rfl, .of (g6 _ _ el), atk, _, _, rfl, rfl, _, rfl, ite2 (fun c1 => ?_) (fun c1 => ?_)⟩
    rotate_left
    · exact ⟨_, rfl, iteT ⟨_, rfl, tell H6 at_ "range" g6 (by rw [eq]; exact stack_kind (within_bad ek (.inl (Int.not_le.mp fun z => c1 (decide_eq_true z)))))⟩⟩
    have k0 := of_decide_eq_true c1
    refine ⟨_, _, rfl, rfl, _, rfl, ?_⟩
    by_cases k19 : k ≤ 19
    rotate_left
    · rw [decide_eq_false k19]
      exact iteT ⟨_, rfl, tell H6 at_ "range" g6 (by rw [eq]; exact stack_kind (within_bad ek (.inr (Int.not_le.mp k19))))⟩
    rw [decide_eq_true k19]
    refine iteF ?_
    have wk := withinM_at ek k0 k19
    refine ⟨_, rfl, _, rfl, l, _, _, _, rfl, rfl, .of (g6 _ _ el), atk, small (show 6 ≤ 1000 by decide), fun u hu => ⟨u, _, rfl, .inr (.of upd_same), rfl, rfl, .inr ⟨_, rfl, ?_⟩⟩⟩
    have s7 := same_new hu (.tup ([0, 1, 2, 3, 4, 6].map V.int))
    have g7 := g6.trans s7
    have ew7 := s7 _ _ ew6
    have pw7 : Paired (WAt (upd H6 u (.tup ([0, 1, 2, 3, 4, 6].map V.int)))) ws' stk.reverse := Paired.imp (fun _ _ z => z.tups (.same s7)) pw6
    have inw : (if (if false = true then !inV (.int k) ([0, 1, 2, 3, 4, 6].map V.int) else inV (.int k) ([0, 1, 2, 3, 4, 6].map V.int)) = true then (1 : Int) else 0) = if k = 0 ∨ k = 1 ∨ k = 2 ∨ k = 3 ∨ k = 4 ∨ k = 6 then 1 else 0 := by
      show (if inV (.int k) ([0, 1, 2, 3, 4, 6].map V.int) = true then (1 : Int) else 0) = _
      rw [inV_ints]
      have : k ∈ [(0 : Int), 1, 2, 3, 4, 6] ↔ (k = 0 ∨ k = 1 ∨ k = 2 ∨ k = 3 ∨ k = 4 ∨ k = 6) := by simp
      by_cases c : k = 0 ∨ k = 1 ∨ k = 2 ∨ k = 3 ∨ k = 4 ∨ k = 6
      · rw [if_pos c, if_pos (decide_eq_true (this.mpr c))]
      · rw [if_neg c, if_neg (fun z => c (this.mp (of_decide_eq_true z)))]
    obtain ⟨o, ho1, ho2⟩ : ∃ o : Int, (if (if false = true then !inV (.int k) ([0, 1, 2, 3, 4, 6].map V.int) else inV (.int k) ([0, 1, 2, 3, 4, 6].map V.int)) = true then (1 : Int) else 0) = o ∧ ((o = 1 ∧ (k = 0 ∨ k = 1 ∨ k = 2 ∨ k = 3 ∨ k = 4 ∨ k = 6)) ∨ (o = 0 ∧ ¬ (k = 0 ∨ k = 1 ∨ k = 2 ∨ k = 3 ∨ k = 4 ∨ k = 6))) := by
      refine ⟨_, inw, ?_⟩
      by_cases c : k = 0 ∨ k = 1 ∨ k = 2 ∨ k = 3 ∨ k = 4 ∨ k = 6
      · rw [if_pos c]; exact .inl ⟨rfl, c⟩
      · rw [if_neg c]; exact .inr ⟨rfl, c⟩
    rw [show (if (if false = true then !inV (.int k) [V.int 0, .int 1, .int 2, .int 3, .int 4, .int 6] else inV (.int k) [V.int 0, .int 1, .int 2, .int 3, .int 4, .int 6]) = true then (1 : Int) else 0) = o from ho1]
    clear ho1 inw
    have ad1 : (at_ : Int) + 1 = ((at_ + 1 : Nat) : Int) := by (first | lia | omega)
    have dl1 : (11 : Int) - ((d' + 1 : Nat) : Int) = 10 - (d' : Int) := by (first | lia | omega)
    refine ⟨fun σ' H' => σ' = [some (.ref l), some .non, some (.ref wl), some (.int (at_ : Int)), some (.int (11 - ((d' + 1 : Nat) : Int))), some (.int b), some (.int o), v7, v8] ∧ (Same H H' ∧ H' wl = some (.lst ws') ∧ Paired (WAt H') ws' stk.reverse) ∧ (o = 1 → at_ + 1 < ns.length), ?_, ?_⟩
    · refine ⟨_, rfl, rfl, _, rfl, ite2 (fun c1 => ?_) (fun c1 => iteF ⟨rfl, ⟨g7, ew7, pw7⟩, fun z => absurd z (vf c1)⟩)⟩
      have o1 := vt c1
      have hk6 : k = 0 ∨ k = 1 ∨ k = 2 ∨ k = 3 ∨ k = 4 ∨ k = 6 := by
        rcases ho2 with z | z
        · exact z.2
        · (first | lia | omega)
      refine ⟨_, rfl, _, _, rfl, rfl, _, rfl, l, _, rfl, .inl (.of (g7 _ _ el)), rfl, _, rfl, ite2 (fun c2 => ?_) (fun c2 => ⟨rfl, ⟨g7, ew7, pw7⟩, fun _ => ?_⟩)⟩
      · have c2' : (at_ : Int) + 1 = ((ns.map V.int).length : Nat) := vt c2
        exact ⟨_, rfl, _, _, rfl, rfl, tell _ (at_ + 1) "end" g7 (by rw [eq]; exact stack_own wk (one_end hk6 (by (first | lia | omega))))⟩
      · have c2' : (at_ : Int) + 1 ≠ ((ns.map V.int).length : Nat) := vf c2
        (first | lia | omega)
    rintro _ H8 ⟨rfl, ⟨g8, ew8, pw8⟩, ho3⟩
    refine ⟨fun σ' H' => (∃ v7 v8, σ' = [some (.ref l), some .non, some (.ref wl), some (.int (at_ : Int)), some (.int (11 - ((d' + 1 : Nat) : Int))), some (.int b), some (.int o), v7, v8]) ∧ (Same H H' ∧ H' wl = some (.lst ws') ∧ Paired (WAt H') ws' stk.reverse) ∧ ∃ own, ownM ns hs b k (at_ + 1) = .ok own ∧ (own.length : Int) = o, ?_, ?_⟩
    · refine ⟨_, rfl, rfl, _, rfl, ite2 (fun c1 => ?_) (fun c1 => iteF ⟨⟨_, _, rfl⟩, ⟨g8, ew8, pw8⟩, [], own_none ?_, ?_⟩)⟩
      · have o1 := vt c1
        have hk6 : k = 0 ∨ k = 1 ∨ k = 2 ∨ k = 3 ∨ k = 4 ∨ k = 6 := by
          rcases ho2 with z | z
          · exact z.2
          · (first | lia | omega)
        have hl1 := ho3 o1
        have en : ns[at_ + 1]? = some ns[at_ + 1] := List.getElem?_eq_getElem hl1
        generalize ns[at_ + 1] = n at en
        have at1 : atI (ns.map V.int) ((at_ : Int) + 1) = some (.int n) := by rw [ad1]; exact atI_ns en
        refine ⟨_, rfl, _, rfl, l, _, _, _, rfl, rfl, .of (g8 _ _ el), atk, _, _, rfl, rfl, _, rfl, ite2 (fun c2 => ?_) (fun c2 => ⟨⟨_, _, rfl⟩, ⟨g8, ew8, pw8⟩, [n], ?_, ?_⟩)⟩
        rotate_left
        · have : k = 0 := by have := df c2; (first | lia | omega)
          subst this
          show oneM (takeM ns (at_ + 1)) = _
          unfold takeM
          rw [en]; rfl
        · rw [o1]; rfl
        have c2' := of_decide_eq_true c2
        have hk5 : k = 1 ∨ k = 2 ∨ k = 3 ∨ k = 4 ∨ k = 6 := by (first | lia | omega)
        refine ⟨_, rfl, _, rfl, _, rfl, l, ns, at_, k, (hs.length : Int), b, rfl, g8 _ _ el, ek, e0, fun t H9 lo hi s9 et hlim => ?_⟩
        have g9 := g8.trans s9
        have ew9 := s9 _ _ ew8
        have pw9 : Paired (WAt H9) ws' stk.reverse := Paired.imp (fun _ _ z => z.tups (.same s9)) pw8
        refine ⟨t, _, rfl, .of et, rfl, _, _, rfl, _, _, rfl, rfl, ?_⟩
        have ol := own_lim (ns := ns) (p := at_ + 1) hk5 (show Lim hs b k lo hi from hlim)
        have bad : n < lo ∨ hi < n → stackM ns hs ((d' + 1, b) :: stk) at_ = .error (at_ + 1, "range") := fun z => stack_own wk (by rw [ol, within_bad en z]; rfl)
        refine ⟨_, rfl, _, rfl, _, rfl, _, _, rfl, rfl, l, _, _, _, rfl, rfl, .of (g9 _ _ el), at1, _, _, rfl, rfl, _, rfl, ite2 (fun d1 => ?_) (fun d1 => ?_)⟩
        rotate_left
        · exact ⟨_, rfl, iteT ⟨_, rfl, _, _, rfl, rfl, tell _ (at_ + 1) "range" g9 (by rw [eq]; exact bad (.inl (by have := df d1; (first | lia | omega))))⟩⟩
        have d1' := of_decide_eq_true d1
        refine ⟨_, rfl, _, _, rfl, rfl, _, rfl, ?_⟩
        by_cases d2 : n ≤ hi
        · rw [decide_eq_true d2]
          refine iteF ⟨⟨_, _, rfl⟩, ⟨g9, ew9, pw9⟩, [n], ?_, ?_⟩
          · rw [ol, withinM_at en d1' d2]; rfl
          · rw [o1]; rfl
        · rw [decide_eq_false d2]
          exact iteT ⟨_, rfl, _, _, rfl, rfl, tell _ (at_ + 1) "range" g9 (by rw [eq]; exact bad (.inr (by (first | lia | omega))))⟩
      · have := vf c1
        rcases ho2 with z | z
        · exact absurd z.1 this
        · exact z.2
      · have := vf c1
        rcases ho2 with z | z
        · exact absurd z.1 this
        · rw [z.1]; rfl
    rintro _ H9 ⟨⟨v7', v8', rfl⟩, ⟨g9, ew9, pw9⟩, own, eo, hol⟩
    have due := due_ok (own_ok k0 k19 eo) ho
    refine ⟨_, rfl, _, rfl, _, _, rfl, rfl, _, rfl, small (show 2 ≤ 1000 by decide), fun t ht => ⟨small (show 1 ≤ 1000 by decide), fun l1 h1 => ?_⟩⟩
    have s10 := same_new ht (.tup [.int (11 - ((d' + 1 : Nat) : Int) + 1), .int b])
    have s11 := s10.trans (same_new h1 (.lst [.ref t]))
    have tt : upd (upd H9 t (.tup [.int (11 - ((d' + 1 : Nat) : Int) + 1), .int b])) l1 (.lst [.ref t]) t = some (.tup [.int (11 - ((d' + 1 : Nat) : Int) + 1), .int b]) := same_new h1 (.lst [.ref t]) _ _ upd_same
    refine ⟨_, rfl, _, rfl, l, ns, at_, k, hs, b, own, rfl, s11 _ _ (g9 _ _ el), k0, k19, ek, eo, eh, fun H12 s12 => ?_⟩
    have s13 := s11.trans s12
    have l12 := s12 l1 (.lst [.ref t]) upd_same
    have lw : ws'.length ≤ 16 + 13 * at_ := by
      have := Paired.len pw9
      rw [List.length_reverse] at this
      have h2 : stk.length + 1 ≤ 16 + 13 * at_ := hst
      (first | lia | omega)
    obtain ⟨n, hn⟩ : ∃ n : Nat, dueM hs k own = (n : Int) := ⟨(dueM hs k own).toNat, by (first | lia | omega)⟩
    rw [hn] at due ⊢
    have hn13 : n ≤ 13 := by (first | lia | omega)
    refine ⟨l1, _, [.ref t], rfl, rfl, l12, by (first | lia | omega), by (first | lia | omega), (by show 1 * ((n : Int).toNat) ≤ sizeLine; (first | lia | omega)), fun r hr => ?_⟩
    have fe : (List.replicate (n : Int).toNat [V.ref t]).flatten = List.replicate n (V.ref t) := by rw [Int.toNat_natCast, flat_rep]
    rw [fe]
    have s14 := s13.trans (same_new hr (.lst (List.replicate n (V.ref t))))
    refine ⟨wl, r, ws', List.replicate n (V.ref t), rfl, rfl, s14 _ _ ew9, upd_same, (by rw [List.length_replicate]; (first | lia | omega)), fun w2 hw2 => ?_⟩
    have s15 := s14.trans (same_new hw2 (.lst (ws' ++ List.replicate n (V.ref t))))
    refine ⟨_, rfl, _, _, rfl, rfl, _, rfl, _, _, rfl, rfl, ?_⟩
    have nl : at_ + 1 + own.length ≤ ns.length := by
      rcases own_at k0 eo with ⟨_, m, rfl, em⟩ | ⟨_, rfl⟩
      · exact (List.getElem?_eq_some_iff.mp em).1
      · exact hlt
    have fw2 : H w2 = none := (g9.trans s14).free hw2
    refine ⟨_, ?_, at_ + 1 + own.length, List.replicate n (d', b) ++ stk, ws' ++ List.replicate n (V.ref t), w2, some (.int (11 - ((d' + 1 : Nat) : Int))), some (.int b), some (.int o), v7', v8', ?_, rfl, g9.trans s15, upd_same, fw2, ?_, nl, ?_, ?_, ?_⟩
    · (first | lia | omega)
    · have : (at_ : Int) + 1 + o = ((at_ + 1 + own.length : Nat) : Int) := by (first | lia | omega)
      rw [← this]; rfl
    · rw [List.reverse_append, List.reverse_replicate]
      refine paired_app (Paired.imp (fun _ _ z => z.tups (.same s15)) pw9) (paired_rep ⟨t, rfl, ?_⟩ n)
      have : (11 : Int) - ((d' + 1 : Nat) : Int) + 1 = 11 - (d' : Int) := by (first | lia | omega)
      rw [← this]
      exact same_new hw2 _ _ _ (same_new hr _ _ _ (s12 _ _ tt))
    · rw [eq, stack_step wk eo, hn, Int.toNat_natCast]
    · intro x hx
      rcases List.mem_append.mp hx with z | z
      · rw [List.eq_of_mem_replicate z]; show d' ≤ 10; (first | lia | omega)
      · exact h10 x (List.mem_cons_of_mem _ z)
    · have h2 : stk.length + 1 ≤ 16 + 13 * at_ := hst
      rw [List.length_append, List.length_replicate]
      (first | lia | omega)

noncomputable def spBent (K : PySem.W.Frag) : Sp := fun vs H Q _ => ∃ (st l : Addr) (ns : List Int), vs = [.ref st, .ref l] ∧ Draw K H st ∧ H l = some (.lst (ns.map V.int)) ∧ ns.length ≤ 100000 ∧
  ∀ (r : Addr) (zs : List Int) H', Drawn K st H H' → H r = none → H' r = some (.lst (zs.map V.int)) → zs.length ≤ 400010 → Q (.ref r) H'
noncomputable def InvBent (st l : Addr) (H : Hp) (i : Nat) (σ' : St) (H' : Hp) : Prop := ∃ (fl : Addr) (zs : List Int) (v3 v4 v5 v6 : Option V), σ' = [some (.ref st), some (.ref l), some (.ref fl), v3, v4, v5, v6, none] ∧ Drawn K st H H' ∧ H fl = none ∧ H' fl = some (.lst (zs.map V.int)) ∧ ((i = 0 ∧ zs.length ≤ 100000) ∨ (i = 1 ∧ zs.length ≤ 200001) ∨ (i = 2 ∧ zs.length ≤ 400003))
theorem ok_bent (T : Txt K mg aP CL CN) (F : Fun K "_law_bent" "_law_bent" s__law_bent f fd) (C_law_take : Cal P w K mg base (CXE P w) 2 "_law_take" ["_law_state", "_law_many"] (spTakeB K)) : FnOk P w K mg base (CXE P w) 3 f fd ["_law_state", "_law_sheet_here"] (spBent K) := by
  refine F.okN sc__law_bent (fun vs H Q E h => ?_) (fun cdv A outer s H vs Q E hr h => ?_)
  · obtain ⟨st, l, ns, rfl, _⟩ := h
    rfl
  obtain ⟨st, l, ns, rfl, D, el, hns, q⟩ := h
  refine ⟨_, (pss_cons (ps_set (i := 2) sc__law_bent.nd rfl (Or.inl rfl) (pe_callTy call_list_of rfl T.n_list bt_list (pa_cons (pv 1) pa_nil)))
      (pss_cons (ps_for PassesOwn.never rfl (pi_range1 rfl T.n_range (pa_cons (pe_op op_add pe_int (pe_callC C_law_take hr rfl (pa_cons (pv 0) (pa_cons pe_int pa_nil)) passN)) pa_nil)) (pg_name (i := 3) sc__law_bent.nd rfl (Or.inl rfl)) (pss_cons (ps_set (i := 4) sc__law_bent.nd rfl (Or.inl rfl) (pe_callC C_law_take hr rfl (pa_cons (pv 0) (pa_cons (pe_op op_add (pe_callB call_len_seq rfl T.n_len bt_len (pa_cons (pv 2) pa_nil)) pe_int) pa_nil)) passN))
      (pss_cons (ps_set (i := 5) sc__law_bent.nd rfl (Or.inl rfl) (pe_ix ix_list (pe_lst (pa_cons (pe_op op_sub (pe_callC C_law_take hr rfl (pa_cons (pv 0) (pa_cons pe_int pa_nil)) passN) pe_int) (pa_cons (pe_op op_sub (pe_callC C_law_take hr rfl (pa_cons (pv 0) (pa_cons pe_int pa_nil)) passN) pe_int) (pa_cons (pe_op op_pow pe_int pe_int) pa_nil)))) (pe_callC C_law_take hr rfl (pa_cons (pv 0) (pa_cons pe_int pa_nil)) passN) (fun _ _ => rfl)))
      (pss_cons (ps_set (i := 6) sc__law_bent.nd rfl (Or.inl rfl) (pe_callC C_law_take hr rfl (pa_cons (pv 0) (pa_cons pe_int pa_nil)) passN))
      (pss_one (ps_if (PW.pt (pw_and (pt_cmpR op_lt (pv 6) pe_int (nomark _)) (pw_and1 (pt_cmpR op_lt (pv 4) (pe_callB call_len_seq rfl T.n_len bt_len (pa_cons (pv 2) pa_nil)) (nomark _))))) (pss_one (ps_asg (pv 5) (pg_sub (pv 2) (pv 4) set_list))) (pss_one (ps_if (pt_cmpR op_eq (pv 6) pe_int (nomark _)) (pss_one (ps_set (i := 2) sc__law_bent.nd rfl (Or.inl rfl) (pe_op op_cat (pe_op op_cat (pe_slice sl_list (pv 2) po_none (po_some (pv 4))) (pe_lst (pa_cons (pv 5) pa_nil))) (pe_slice sl_list (pv 2) (po_some (pv 4)) po_none)))) (pss_one (ps_if (pt_cmpR op_eq (pv 6) pe_int (nomark _)) (pss_one (ps_set (i := 2) sc__law_bent.nd rfl (Or.inl rfl) (pe_op op_cat (pe_slice sl_list (pv 2) po_none (po_some (pv 4))) (pe_slice sl_list (pv 2) (po_some (pe_op op_add (pv 4) pe_int)) po_none)))) (pss_one (ps_if (pt_cmpR op_eq (pv 6) pe_int (nomark _)) (pss_one (ps_set (i := 2) sc__law_bent.nd rfl (Or.inl rfl) (pe_slice sl_list (pv 2) po_none (po_some (pv 4))))) (pss_one (ps_expr (pe_bm PySem.F.plainAttrs_list PySem.F.slot_list_append PySem.F.type_list_append mt_append (pv 2) (pa_cons (pv 5) pa_nil))))))))))))))))
      (pss_cons (ps_if (pt_cmpR op_eq (pe_callC C_law_take hr rfl (pa_cons (pv 0) (pa_cons pe_int pa_nil)) passN) pe_int (nomark _)) (pss_cons (ps_set (i := 7) sc__law_bent.nd rfl (Or.inl rfl) (pe_lst (pa_cons (pe_lst (pa_cons pe_int pa_nil)) (pa_cons (pe_lst (pa_cons pe_int pa_nil)) (pa_cons (pe_lst (pa_consts (.int (.int .nil)))) (pa_cons (pe_lst (pa_consts (.int (.int .nil)))) (pa_cons (pe_lst (pa_consts (.int (.int .nil)))) (pa_cons (pe_lst (pa_consts (.int (.int .nil)))) (pa_cons (pe_lst (pa_consts (.int (.int .nil)))) (pa_cons (pe_lst (pa_consts (.int (.int .nil)))) (pa_cons (pe_lst (pa_consts (.int (.int (.int .nil))))) (pa_cons (pe_lst (pa_cons pe_int pa_nil)) (pa_cons (pe_lst (pa_cons pe_int pa_nil)) (pa_cons (pe_lst (pa_cons pe_int pa_nil)) (pa_cons (pe_lst (pa_consts (.int (.int .nil)))) pa_nil)))))))))))))))
      (pss_cons (ps_set (i := 7) sc__law_bent.nd rfl (Or.inl rfl) (pe_ix ix_list (pe_op op_cat (pv 7) (pe_lst (pa_cons (pe_lst (pa_consts (.int (.int (.int .nil))))) pa_nil))) (pe_callC C_law_take hr rfl (pa_cons (pv 0) (pa_cons pe_int pa_nil)) passN) (fun _ _ => rfl)))
      (pss_one (ps_set (i := 2) sc__law_bent.nd rfl (Or.inl rfl) (pe_op op_cat (pe_op op_cat (pe_lst (pa_consts (.int (.int (.int (.int (.int .nil))))))) (pe_op op_rep (pv 7) (pe_op op_add pe_int (pe_callC C_law_take hr rfl (pa_cons (pv 0) (pa_cons pe_int pa_nil)) passN)))) (pe_op op_rep (pe_lst (pa_cons pe_int pa_nil)) (pe_callC C_law_take hr rfl (pa_cons (pv 0) (pa_cons pe_int pa_nil)) passN))))))) pss_nil)
      (pss_one (ps_ret (pv 2)))))), ?_⟩
  try dsimp only [Cx.nox, Cx.exc, Cx.wish, cxOf_K]
  refine ⟨_, rfl, l, _, rfl, .inl (.of el), fun f0 hf0 => ?_⟩
  have d0 := D.new hf0 (.lst (ns.map V.int))
  refine ⟨_, rfl, st, 2, rfl, by decide, by decide, d0.draw, fun n H1 n0 n1 d1 => ⟨_, _, rfl, rfl, _, rfl, by (first | lia | omega), by (first | lia | omega), ?_⟩⟩
  have e1 := d1.keep f0 _ (Ne.symm (D.ne hf0)) (upd_same (H := H) (a := f0) (o := .lst (ns.map V.int)))
  refine for_range (lo := 0) (n := (1 + n).toNat) (InvBent (K := K) st l H)
    ⟨f0, ns, _, _, _, _, rfl, d0.trans d1, hf0, e1, .inl ⟨rfl, hns⟩⟩ ?_ ?_
  · rintro i σ' H2 hi ⟨fl, zs, v3, v4, v5, v6, rfl, d2, hfl, e2, hz⟩
    have hi2 : i < 2 := by (first | lia | omega)
    have nfl : fl ≠ st := Ne.symm (D.ne hfl)
    have hzl : (zs.map V.int).length = zs.length := List.length_map ..
    have nx : ∀ ys : List Int, ys.length ≤ 2 * zs.length + 1 → ((i + 1 = 0 ∧ ys.length ≤ 100000) ∨ (i + 1 = 1 ∧ ys.length ≤ 200001) ∨ (i + 1 = 2 ∧ ys.length ≤ 400003)) := fun ys hy => by (first | lia | omega)
    have sl : sizeLine = 16777216 := sizeLine_eq
    refine ⟨_, rfl, _, rfl, fl, _, rfl, .inl (.of e2), _, _, rfl, rfl, st, _, rfl, by (first | lia | omega), by (first | lia | omega), d2.draw, fun at_ H3 a0 a1 d3 => ?_⟩
    refine II.at (K := K) (st := st) (lo := -20) (hi := 10 ^ 59) (n := 3) (AI.cons (II.sub (II.take rfl (II.c 22) (by decide) (by decide)) (II.c 1)) (AI.cons (II.sub (II.take rfl (II.c 40) (by decide) (by decide)) (II.c 20))
      (AI.cons (II.pow ⟨by decide, by decide, by decide⟩) AI.nil (by decide) (by decide)) (by decide) (by decide)) (by decide) (by decide)) (by decide) (II.take rfl (II.c 3) (by decide) (by decide)) (by decide) (by decide) H3 _ d3.draw fun nm H4 d4 _ _ => ?_
    refine ⟨_, rfl, st, 6, rfl, by decide, by decide, d4.draw, fun way H5 w0 w1 d5 => ?_⟩
    have d25 := (d3.trans d4).trans d5
    have e5 := d25.keep fl _ nfl e2
    have D5 := d2.trans d25
    clear d3 d4 d5 d25
    have eap : zs.map V.int ++ [V.int nm] = (zs ++ [nm]).map V.int := by rw [List.map_append] <;> rfl
    have lap : (zs ++ [nm]).length ≤ 2 * zs.length + 1 := by rw [List.length_append]; show zs.length + 1 ≤ _; (first | lia | omega)
    refine ⟨_, rfl, _, _, rfl, rfl, _, rfl, ite2 (fun c1 => ?_) (fun c1 => iteF ?_)⟩
    · have c1' := of_decide_eq_true c1
      refine ⟨_, rfl, _, rfl, fl, _, rfl, .inl (.of e5), _, _, rfl, rfl, _, rfl, ite2 (fun c2 => ?_) (fun c2 => ?_)⟩
      · have c2' := of_decide_eq_true c2
        have ix : ixN (zs.map V.int).length at_ = some at_.toNat := by
          unfold ixN
          rw [if_pos a0, if_pos c2']
        refine ⟨_, rfl, _, rfl, _, rfl, fl, _, _, _, rfl, rfl, e5, ix, ⟨fl, zs.set at_.toNat nm, _, _, _, _, rfl, D5.over D hfl e5, hfl, by rw [upd_same, List.map_set], nx _ (by rw [List.length_set]; (first | lia | omega))⟩⟩
      · refine ⟨_, rfl, rfl, _, rfl, ite2 (fun z => absurd (vt z) (by (first | lia | omega))) (fun _ => ⟨_, rfl, rfl, _, rfl, ite2 (fun z => absurd (vt z) (by (first | lia | omega))) (fun _ => ⟨_, rfl, rfl, _, rfl, ite2 (fun z => absurd (vt z) (by (first | lia | omega))) (fun _ => ?_)⟩)⟩)⟩
        exact ⟨_, rfl, .inl ⟨rfl, _, .of e5⟩, _, rfl, fl, _, _, rfl, rfl, e5, by (first | lia | omega), ⟨fl, zs ++ [nm], _, _, _, _, rfl, D5.over D hfl e5, hfl, by rw [upd_same, eap], nx _ lap⟩⟩
    · refine ⟨_, rfl, rfl, _, rfl, ite2 (fun _ => ?_) (fun _ => ⟨_, rfl, rfl, _, rfl, ite2 (fun _ => ?_) (fun _ => ⟨_, rfl, rfl, _, rfl, ite2 (fun _ => ?_) (fun _ => ?_)⟩)⟩)⟩
      · obtain ⟨y1, ey1, ly1⟩ := cutV_ints zs none (some at_)
        obtain ⟨y2, ey2, ly2⟩ := cutV_ints zs (some at_) none
        refine ⟨_, rfl, _, rfl, _, rfl, fl, _, rfl, .of e5, fun p1 h1 => ?_⟩
        rw [ey1]
        have d6 := D5.trans (D5.draw.new h1 (.lst (y1.map V.int)))
        have s6 := same_new h1 (.lst (y1.map V.int))
        refine ⟨_, rfl, small (show 1 ≤ 1000 by decide), fun p2 h2 => ?_⟩
        have d7 := d6.trans (d6.draw.new h2 (.lst [.int nm]))
        have s7 := same_new h2 (.lst [.int nm])
        refine ⟨p1, p2, y1.map V.int, [.int nm], rfl, rfl, s7 _ _ upd_same, upd_same, (by rw [List.length_map]; show y1.length + 1 ≤ _; (first | lia | omega)), fun p3 h3 => ?_⟩
        have d8 := d7.trans (d7.draw.new h3 (.lst (y1.map V.int ++ [.int nm])))
        have s8 := same_new h3 (.lst (y1.map V.int ++ [.int nm]))
        refine ⟨_, rfl, _, rfl, _, rfl, fl, _, rfl, .of (s8 _ _ (s7 _ _ (s6 _ _ e5))), fun p4 h4 => ?_⟩
        rw [ey2]
        have d9 := d8.trans (d8.draw.new h4 (.lst (y2.map V.int)))
        refine ⟨p3, p4, y1.map V.int ++ [.int nm], y2.map V.int, rfl, rfl, same_new h4 _ _ _ upd_same, upd_same, (by rw [List.length_append, List.length_map, List.length_map]; show y1.length + 1 + _ ≤ _; (first | lia | omega)), fun p5 h5 => ?_⟩
        refine ⟨p5, (y1 ++ [nm]) ++ y2, _, _, _, _, rfl, d9.trans (d9.draw.new h5 _), d9.free h5, by rw [upd_same, List.map_append, List.map_append] <;> rfl, ?_⟩
        have hl : (y1 ++ [nm] ++ y2).length = y1.length + 1 + y2.length := by rw [List.length_append, List.length_append] <;> rfl
        exact nx _ (by (first | lia | omega))
      · obtain ⟨y1, ey1, ly1⟩ := cutV_ints zs none (some at_)
        obtain ⟨y2, ey2, ly2⟩ := cutV_ints zs (some (at_ + 1)) none
        refine ⟨_, rfl, _, rfl, _, rfl, fl, _, rfl, .of e5, fun p1 h1 => ?_⟩
        rw [ey1]
        have d6 := D5.trans (D5.draw.new h1 (.lst (y1.map V.int)))
        have s6 := same_new h1 (.lst (y1.map V.int))
        refine ⟨_, rfl, _, rfl, _, _, rfl, rfl, _, rfl, fl, _, rfl, .of (s6 _ _ e5), fun p4 h4 => ?_⟩
        rw [ey2]
        have d9 := d6.trans (d6.draw.new h4 (.lst (y2.map V.int)))
        refine ⟨p1, p4, y1.map V.int, y2.map V.int, rfl, rfl, same_new h4 _ _ _ upd_same, upd_same, (by rw [List.length_map, List.length_map]; (first | lia | omega)), fun p5 h5 => ?_⟩
        refine ⟨p5, y1 ++ y2, _, _, _, _, rfl, d9.trans (d9.draw.new h5 _), d9.free h5, by rw [upd_same, List.map_append], ?_⟩
        have hl : (y1 ++ y2).length = y1.length + y2.length := List.length_append ..
        exact nx _ (by (first | lia | omega))
      · obtain ⟨y1, ey1, ly1⟩ := cutV_ints zs none (some at_)
        refine ⟨_, rfl, _, rfl, _, rfl, fl, _, rfl, .of e5, fun p1 h1 => ?_⟩
        rw [ey1]
        exact ⟨p1, y1, _, _, _, _, rfl, D5.trans (D5.draw.new h1 _), D5.free h1, upd_same, nx _ (by (first | lia | omega))⟩
      · exact ⟨_, rfl, .inl ⟨rfl, _, .of e5⟩, _, rfl, fl, _, _, rfl, rfl, e5, by (first | lia | omega), ⟨fl, zs ++ [nm], _, _, _, _, rfl, D5.over D hfl e5, hfl, by rw [upd_same, eap], nx _ lap⟩⟩
  rintro σ' H2 ⟨fl, zs, v3, v4, v5, v6, rfl, d2, hfl, e2, hz⟩
  have nfl : fl ≠ st := Ne.symm (D.ne hfl)
  have sl : sizeLine = 16777216 := sizeLine_eq
  refine ⟨_, rfl, st, 5, rfl, by decide, by decide, d2.draw, fun r H3 r0 r1 d3 => ⟨rfl, _, rfl, ite2 (fun c => ?_) (fun c => ⟨_, rfl, q fl zs H3 (d2.trans d3) hfl (d3.keep fl _ nfl e2) (by (first | lia | omega))⟩)⟩⟩
  · have A0 : ∀ x ∈ ([] : List V), Sm H3 x := fun x hx => nomatch hx
    have B0 := d3
    refine ⟨small (show 1 ≤ 1000 by decide), fun p1 h1 => ?_⟩
    have A1 := Sm.more A0 h1 [7] (by decide)
    have B1 := B0.trans (B0.draw.new h1 (.lst (([7] : List Int).map V.int)))
    refine ⟨small (show 1 ≤ 1000 by decide), fun p2 h2 => ?_⟩
    have A2 := Sm.more A1 h2 [18] (by decide)
    have B2 := B1.trans (B1.draw.new h2 (.lst (([18] : List Int).map V.int)))
    refine ⟨small (show 2 ≤ 1000 by decide), fun p3 h3 => ?_⟩
    have A3 := Sm.more A2 h3 [3, 1] (by decide)
    have B3 := B2.trans (B2.draw.new h3 (.lst (([3, 1] : List Int).map V.int)))
    refine ⟨small (show 2 ≤ 1000 by decide), fun p4 h4 => ?_⟩
    have A4 := Sm.more A3 h4 [8, 19] (by decide)
    have B4 := B3.trans (B3.draw.new h4 (.lst (([8, 19] : List Int).map V.int)))
    refine ⟨small (show 2 ≤ 1000 by decide), fun p5 h5 => ?_⟩
    have A5 := Sm.more A4 h5 [5, 19] (by decide)
    have B5 := B4.trans (B4.draw.new h5 (.lst (([5, 19] : List Int).map V.int)))
    refine ⟨small (show 2 ≤ 1000 by decide), fun p6 h6 => ?_⟩
    have A6 := Sm.more A5 h6 [15, 19] (by decide)
    have B6 := B5.trans (B5.draw.new h6 (.lst (([15, 19] : List Int).map V.int)))
    refine ⟨small (show 2 ≤ 1000 by decide), fun p7 h7 => ?_⟩
    have A7 := Sm.more A6 h7 [2, 0] (by decide)
    have B7 := B6.trans (B6.draw.new h7 (.lst (([2, 0] : List Int).map V.int)))
    refine ⟨small (show 2 ≤ 1000 by decide), fun p8 h8 => ?_⟩
    have A8 := Sm.more A7 h8 [4, 2] (by decide)
    have B8 := B7.trans (B7.draw.new h8 (.lst (([4, 2] : List Int).map V.int)))
    refine ⟨small (show 3 ≤ 1000 by decide), fun p9 h9 => ?_⟩
    have A9 := Sm.more A8 h9 [4, 2, 19] (by decide)
    have B9 := B8.trans (B8.draw.new h9 (.lst (([4, 2, 19] : List Int).map V.int)))
    refine ⟨small (show 1 ≤ 1000 by decide), fun p10 h10 => ?_⟩
    have A10 := Sm.more A9 h10 [17] (by decide)
    have B10 := B9.trans (B9.draw.new h10 (.lst (([17] : List Int).map V.int)))
    refine ⟨small (show 1 ≤ 1000 by decide), fun p11 h11 => ?_⟩
    have A11 := Sm.more A10 h11 [16] (by decide)
    have B11 := B10.trans (B10.draw.new h11 (.lst (([16] : List Int).map V.int)))
    refine ⟨small (show 1 ≤ 1000 by decide), fun p12 h12 => ?_⟩
    have A12 := Sm.more A11 h12 [5] (by decide)
    have B12 := B11.trans (B11.draw.new h12 (.lst (([5] : List Int).map V.int)))
    refine ⟨small (show 2 ≤ 1000 by decide), fun p13 h13 => ?_⟩
    have A13 := Sm.more A12 h13 [6, 1] (by decide)
    have B13 := B12.trans (B12.draw.new h13 (.lst (([6, 1] : List Int).map V.int)))
    refine ⟨small (show 13 ≤ 1000 by decide), fun p14 h14 => ?_⟩
    have A14 := Sm.same A13 (same_new h14 (.lst [V.ref p1, .ref p2, .ref p3, .ref p4, .ref p5, .ref p6, .ref p7, .ref p8, .ref p9, .ref p10, .ref p11, .ref p12, .ref p13]))
    have B14 := B13.trans (B13.draw.new h14 (.lst [V.ref p1, .ref p2, .ref p3, .ref p4, .ref p5, .ref p6, .ref p7, .ref p8, .ref p9, .ref p10, .ref p11, .ref p12, .ref p13]))
    refine ⟨_, rfl, small (show 3 ≤ 1000 by decide), fun p15 h15 => ⟨small (show 1 ≤ 1000 by decide), fun p16 h16 => ?_⟩⟩
    have s15 := same_new h15 (.lst (([17, 19, 19] : List Int).map V.int))
    have s16 := same_new h16 (.lst [V.ref p15])
    have A15 := Sm.more A14 h15 [17, 19, 19] (by decide)
    have A16 := Sm.same A15 s16
    have B15 := B14.trans (B14.draw.new h15 (.lst (([17, 19, 19] : List Int).map V.int)))
    have B16 := B15.trans (B15.draw.new h16 (.lst [V.ref p15]))
    refine ⟨p14, p16, [V.ref p1, .ref p2, .ref p3, .ref p4, .ref p5, .ref p6, .ref p7, .ref p8, .ref p9, .ref p10, .ref p11, .ref p12, .ref p13], [V.ref p15], rfl, rfl, s16 _ _ (s15 _ _ upd_same), upd_same, small (show 14 ≤ 1000 by decide), fun p17 h17 => ?_⟩
    have A17 := Sm.same A16 (same_new h17 (.lst ([V.ref p1, .ref p2, .ref p3, .ref p4, .ref p5, .ref p6, .ref p7, .ref p8, .ref p9, .ref p10, .ref p11, .ref p12, .ref p13] ++ [V.ref p15])))
    have B17 := B16.trans (B16.draw.new h17 (.lst ([V.ref p1, .ref p2, .ref p3, .ref p4, .ref p5, .ref p6, .ref p7, .ref p8, .ref p9, .ref p10, .ref p11, .ref p12, .ref p13] ++ [V.ref p15])))
    have n17 := Ne.symm (B16.draw.ne h17)
    refine ⟨_, rfl, st, 14, rfl, by decide, by decide, B17.draw, fun r H4 r0 r1 d4 => ?_⟩
    obtain ⟨x, hx, ex⟩ := atI_memV (xs := [V.ref p1, .ref p2, .ref p3, .ref p4, .ref p5, .ref p6, .ref p7, .ref p8, .ref p9, .ref p10, .ref p11, .ref p12, .ref p13] ++ [V.ref p15]) r0 r1
    refine ⟨p17, _, _, _, rfl, rfl, .of (d4.keep p17 _ n17 upd_same), ex, ?_⟩
    obtain ⟨sl, szs, rfl, es, lsz⟩ := Sm.drawn A17 B17.draw d4 x hx
    have B18 := B17.trans d4
    clear A0 A1 A2 A3 A4 A5 A6 A7 A8 A9 A10 A11 A12 A13 A14 A15 A16 A17 B0 B1 B2 B3 B4 B5 B6 B7 B8 B9 B10 B11 B12 B13 B14 B15 B16 B17 d4 ex hx
    refine ⟨small (show 5 ≤ 1000 by decide), fun q1 g1 => ?_⟩
    have d5 := B18.trans (B18.draw.new g1 (.lst (([2, 0, 1, 1, 1] : List Int).map V.int)))
    have e1 : upd H4 q1 (.lst (([2, 0, 1, 1, 1] : List Int).map V.int)) q1 = some (.lst (([2, 0, 1, 1, 1] : List Int).map V.int)) := upd_same
    have es5 := same_new g1 (.lst (([2, 0, 1, 1, 1] : List Int).map V.int)) _ _ es
    refine ⟨_, rfl, _, rfl, st, 5, rfl, by decide, by decide, d5.draw, fun m H6 m0 m1 d6 => ⟨_, _, rfl, rfl, ?_⟩⟩
    have es6 := d6.keep sl _ (d5.draw.neI es5) es5
    have e16 := d6.keep q1 _ (d5.draw.neI e1) e1
    have dd6 := d5.trans d6
    have mul1 : szs.length * (7 + m).toNat ≤ 3 * 11 := Nat.mul_le_mul lsz (by (first | lia | omega))
    refine ⟨sl, _, szs.map V.int, rfl, rfl, es6, (by (first | lia | omega)), (by (first | lia | omega)), (by rw [List.length_map]; (first | lia | omega)), fun q2 g2 => ?_⟩
    rw [rep_ints]
    have rl := rep_len (7 + m).toNat szs
    rw [Nat.mul_comm] at rl
    generalize (List.replicate (7 + m).toNat szs).flatten = y2 at rl
    have d7 := dd6.trans (dd6.draw.new g2 (.lst (y2.map V.int)))
    refine ⟨q1, q2, ([2, 0, 1, 1, 1] : List Int).map V.int, y2.map V.int, rfl, rfl, same_new g2 _ _ _ e16, upd_same, (by rw [List.length_map, List.length_map]; show 5 + _ ≤ _; (first | lia | omega)), fun q3 g3 => ?_⟩
    have d8 := d7.trans (d7.draw.new g3 (.lst ((([2, 0, 1, 1, 1] : List Int).map V.int) ++ y2.map V.int)))
    rw [← List.map_append] at d8
    have e3 : upd (upd H6 q2 (.lst (y2.map V.int))) q3 (.lst ((([2, 0, 1, 1, 1] : List Int) ++ y2).map V.int)) q3 = some (.lst ((([2, 0, 1, 1, 1] : List Int) ++ y2).map V.int)) := upd_same
    rw [← List.map_append]
    refine ⟨small (show 1 ≤ 1000 by decide), fun q4 g4 => ?_⟩
    have d9 := d8.trans (d8.draw.new g4 (.lst (([19] : List Int).map V.int)))
    have e4 : upd (upd (upd H6 q2 (.lst (y2.map V.int))) q3 (.lst ((([2, 0, 1, 1, 1] : List Int) ++ y2).map V.int))) q4 (.lst (([19] : List Int).map V.int)) q4 = some (.lst (([19] : List Int).map V.int)) := upd_same
    have e34 := same_new g4 (.lst (([19] : List Int).map V.int)) _ _ e3
    refine ⟨_, rfl, st, 3, rfl, by decide, by decide, d9.draw, fun u H10 u0 u1 d10 => ?_⟩
    have e4' := d10.keep q4 _ (d9.draw.neI e4) e4
    have e3' := d10.keep q3 _ (d9.draw.neI e34) e34
    have dd := d9.trans d10
    refine ⟨q4, _, ([19] : List Int).map V.int, rfl, rfl, e4', (by (first | lia | omega)), (by (first | lia | omega)), (by show 1 * u.toNat ≤ _; (first | lia | omega)), fun q5 g5 => ?_⟩
    rw [rep_ints]
    have rl2 := rep_len u.toNat [19]
    generalize (List.replicate u.toNat ([19] : List Int)).flatten = y5 at rl2
    have l5 : y5.length ≤ 2 := by rw [rl2]; show u.toNat * 1 ≤ 2; (first | lia | omega)
    have d11 := dd.trans (dd.draw.new g5 (.lst (y5.map V.int)))
    have l3 : (([2, 0, 1, 1, 1] : List Int) ++ y2).length ≤ 38 := by rw [List.length_append]; show 5 + _ ≤ _; (first | lia | omega)
    refine ⟨q3, q5, _, y5.map V.int, rfl, rfl, same_new g5 _ _ _ e3', upd_same, (by rw [List.length_map, List.length_map]; (first | lia | omega)), fun q6 g6 => ?_⟩
    rw [← List.map_append]
    exact ⟨_, rfl, q q6 _ _ (d2.trans (d11.trans (d11.draw.new g6 _))) ((d2.trans d11).free g6) upd_same (by rw [List.length_append]; (first | lia | omega))⟩

noncomputable def spEdge (K : PySem.W.Frag) : Sp := fun vs H Q _ => ∃ (st : Addr), vs = [.ref st] ∧ Draw K H st ∧ ∀ (r : Addr) (zs : List Int) H', Drawn K st H H' → H r = none → H' r = some (.lst (zs.map V.int)) → zs.length ≤ 1000 → Q (.ref r) H'
theorem ok_edge (T : Txt K mg aP CL CN) (F : Fun K "_law_edge" "_law_edge" s__law_edge f fd) (C_law_take : Cal P w K mg base (CXE P w) 2 "_law_take" ["_law_state", "_law_many"] (spTakeB K)) : FnOk P w K mg base (CXE P w) 3 f fd ["_law_state"] (spEdge K) := by
  refine F.okN sc__law_edge (fun vs H Q E h => ?_) (fun cdv A outer s H vs Q E hr h => ?_)
  · obtain ⟨st, rfl, _⟩ := h
    rfl
  obtain ⟨st, rfl, D, q⟩ := h
  refine ⟨_, (pss_cons (ps_set (i := 1) sc__law_edge.nd rfl (Or.inl rfl) (pe_callC C_law_take hr rfl (pa_cons (pv 0) (pa_cons pe_int pa_nil)) passN))
      (pss_cons (ps_set (i := 2) sc__law_edge.nd rfl (Or.inl rfl) (pe_callC C_law_take hr rfl (pa_cons (pv 0) (pa_cons pe_int pa_nil)) passN))
      (pss_cons (ps_if (pt_cmpR op_eq (pv 1) pe_int (nomark _)) (pss_one (ps_ret (pe_op op_cat (pe_op op_cat (pe_lst (pa_cons (pe_op op_add pe_int (pv 2)) pa_nil)) (pe_op op_rep (pe_lst (pa_consts (.int (.int .nil)))) (pe_op op_add pe_int (pv 2)))) (pe_op op_rep (pe_lst (pa_cons pe_int pa_nil)) (pe_op op_add pe_int (pv 2)))))) pss_nil)
      (pss_cons (ps_if (pt_cmpR op_eq (pv 1) pe_int (nomark _)) (pss_one (ps_ret (pe_lst (pa_cons pe_int (pa_cons pe_int (pa_cons pe_int (pa_cons (pe_op op_add pe_int (pv 2)) (pa_cons (pe_op op_add pe_int (pv 2)) (pa_cons pe_int (pa_cons pe_int pa_nil)))))))))) pss_nil)
      (pss_cons (ps_if (pt_cmpR op_eq (pv 1) pe_int (nomark _)) (pss_one (ps_ret (pe_lst (pa_cons pe_int (pa_cons pe_int (pa_cons (pe_op op_add pe_int (pv 2)) (pa_cons pe_int pa_nil))))))) pss_nil)
      (pss_cons (ps_if (pt_cmpR op_eq (pv 1) pe_int (nomark _)) (pss_cons (ps_set (i := 3) sc__law_edge.nd rfl (Or.inl rfl) (pe_ix ix_list (pe_lst (pa_cons (pe_op op_add pe_int (pv 2)) (pa_cons (pe_op op_sub pe_int (pv 2)) pa_nil))) (pe_callC C_law_take hr rfl (pa_cons (pv 0) (pa_cons pe_int pa_nil)) passN) (fun _ _ => rfl)))
      (pss_one (ps_ret (pe_op op_cat (pe_lst (pa_cons pe_int (pa_cons pe_int (pa_cons pe_int (pa_cons pe_int (pa_cons (pv 3) pa_nil)))))) (pe_op op_rep (pe_lst (pa_cons pe_int pa_nil)) (pv 3)))))) pss_nil)
      (pss_cons (ps_if (pt_cmpR op_eq (pv 1) pe_int (nomark _)) (pss_cons (ps_set (i := 3) sc__law_edge.nd rfl (Or.inl rfl) (pe_ix ix_list (pe_lst (pa_cons (pe_op op_add pe_int (pv 2)) (pa_cons (pe_op op_sub pe_int (pv 2)) pa_nil))) (pe_callC C_law_take hr rfl (pa_cons (pv 0) (pa_cons pe_int pa_nil)) passN) (fun _ _ => rfl)))
      (pss_one (ps_ret (pe_op op_cat (pe_lst (pa_cons pe_int (pa_cons pe_int (pa_cons pe_int (pa_cons pe_int (pa_cons (pv 3) pa_nil)))))) (pe_op op_rep (pe_lst (pa_cons pe_int pa_nil)) (pe_op op_add (pv 3) pe_int)))))) pss_nil)
      (pss_cons (ps_if (pt_cmpR op_eq (pv 1) pe_int (nomark _)) (pss_one (ps_ret (pe_slice sl_list (pe_lst (pa_cons pe_int (pa_cons pe_int (pa_cons pe_int (pa_cons (pe_ix ix_list (pe_lst (pa_cons (pe_op op_add pe_int (pv 2)) (pa_cons (pe_op op_sub pe_int (pv 2)) pa_nil))) (pe_callC C_law_take hr rfl (pa_cons (pv 0) (pa_cons pe_int pa_nil)) passN) (fun _ _ => rfl)) (pa_cons pe_int pa_nil)))))) po_none (po_some (pe_op op_add pe_int (pe_callC C_law_take hr rfl (pa_cons (pv 0) (pa_cons pe_int pa_nil)) passN)))))) pss_nil)
      (pss_cons (ps_if (pt_cmpR op_eq (pv 1) pe_int (nomark _)) (pss_cons (ps_set (i := 4) sc__law_edge.nd rfl (Or.inl rfl) (pe_op op_add pe_int (pe_callC C_law_take hr rfl (pa_cons (pv 0) (pa_cons pe_int pa_nil)) passN)))
      (pss_one (ps_ret (pe_slice sl_list (pe_lst (pa_cons pe_int (pa_cons pe_int (pa_cons (pv 4) (pa_cons (pe_ix ix_list (pe_lst (pa_consts (.int (.int .nil)))) (pe_callC C_law_take hr rfl (pa_cons (pv 0) (pa_cons pe_int pa_nil)) passN) (fun _ _ => rfl)) (pa_cons (pe_op op_add (pe_op op_sub (pv 4) pe_int) (pv 2)) (pa_cons pe_int pa_nil))))))) po_none (po_some (pe_op op_add pe_int (pe_callC C_law_take hr rfl (pa_cons (pv 0) (pa_cons pe_int pa_nil)) passN))))))) pss_nil)
      (pss_cons (ps_set (i := 3) sc__law_edge.nd rfl (Or.inl rfl) (pe_op op_add pe_int (pe_callC C_law_take hr rfl (pa_cons (pv 0) (pa_cons pe_int pa_nil)) passN)))
      (pss_one (ps_ret (pe_op op_cat (pe_op op_cat (pe_op op_cat (pe_lst (pa_cons (pv 3) pa_nil)) (pe_op op_rep (pe_lst (pa_consts (.int (.int .nil)))) (pv 3))) (pe_lst (pa_cons pe_int (pa_cons (pe_op op_add (pe_op op_sub (pv 3) pe_int) (pv 2)) pa_nil)))) (pe_op op_rep (pe_lst (pa_cons pe_int pa_nil)) (pe_op op_sub (pv 3) pe_int))))))))))))))), ?_⟩
  try dsimp only [Cx.nox, Cx.exc, Cx.wish, cxOf_K]
  refine ⟨_, rfl, st, 8, rfl, by decide, by decide, D, fun way H1 w0 w1 d1 => ?_⟩
  refine ⟨_, rfl, st, 2, rfl, by decide, by decide, d1.draw, fun more H2 m0 m1 d2 => ?_⟩
  have d12 := d1.trans d2
  have fin : ∀ (H3 : Hp), Drawn K st H H3 → ∀ (l : Addr) (zs : List Int) (H' : Hp), Drawn K st H3 H' → H3 l = none → H' l = some (.lst (zs.map V.int)) → zs.length ≤ 1000 → Q (.ref l) H' := fun H3 d3 l zs H' d f e n => q l zs H' (d3.trans d) (d3.free f) e n
  refine ⟨_, rfl, rfl, _, rfl, ite2 (fun _ => ?_) (fun c0 => ?_)⟩
  · refine LI.cat (K := K) (st := st) (LI.cat (LI.lst (AI.cons (II.add (II.c 16) (II.v rfl)) AI.nil (Int.le_refl _) (Int.le_refl _)) (by decide)) (LI.rep (m := 17) (LI.lst (AI.consts [0, 0] (n := 2) (lo := 0) (hi := 0) rfl (by decide)) (by decide)) (II.add (II.c 16) (II.v rfl)) ?_ ?_ (by decide) (by decide)) (by decide))
      (LI.rep (m := 17) (LI.lst (AI.cons (II.c 19) AI.nil (Int.le_refl _) (Int.le_refl _)) (by decide)) (II.add (II.c 16) (II.v rfl)) ?_ ?_ (by decide) (by decide)) (by decide) H2 _ d2.draw (fun l zs H' d f e n => fin H2 d12 l zs H' d f e (by (first | lia | omega)))
    all_goals (first | lia | omega)
  refine ⟨_, rfl, rfl, _, rfl, ite2 (fun _ => ?_) (fun c1 => ?_)⟩
  · refine (LI.lst (K := K) (st := st) (AI.cons (lo := -100000) (hi := 100000) (II.c 2) (AI.cons (lo := -100000) (hi := 100000) (II.c 0) (AI.cons (lo := -100000) (hi := 100000) (II.c 0) (AI.cons (lo := -100000) (hi := 100000) (II.add (II.c 4) (II.v rfl)) (AI.cons (lo := -100000) (hi := 100000) (II.add (II.c 4) (II.v rfl)) (AI.cons (lo := -100000) (hi := 100000) (II.c 19) (AI.cons (lo := -100000) (hi := 100000) (II.c 19) AI.nil ?_ ?_) ?_ ?_) ?_ ?_) ?_ ?_) ?_ ?_) ?_ ?_) ?_ ?_) (by decide)) H2 _ d2.draw (fun l zs H' d f e n => fin H2 d12 l zs H' d f e (by (first | lia | omega)))
    all_goals (first | lia | omega)
  refine ⟨_, rfl, rfl, _, rfl, ite2 (fun _ => ?_) (fun c2 => ?_)⟩
  · refine (LI.lst (K := K) (st := st) (AI.cons (lo := -100000) (hi := 100000) (II.c 1) (AI.cons (lo := -100000) (hi := 100000) (II.c 0) (AI.cons (lo := -100000) (hi := 100000) (II.add (II.c 12) (II.v rfl)) (AI.cons (lo := -100000) (hi := 100000) (II.c 19) AI.nil ?_ ?_) ?_ ?_) ?_ ?_) ?_ ?_) (by decide)) H2 _ d2.draw (fun l zs H' d f e n => fin H2 d12 l zs H' d f e (by (first | lia | omega)))
    all_goals (first | lia | omega)
  refine ⟨_, rfl, rfl, _, rfl, ite2 (fun _ => ?_) (fun c3 => ?_)⟩
  · refine (II.at (K := K) (st := st) (AI.cons (lo := 0) (hi := 13) (II.add (II.c 12) (II.v rfl)) (AI.cons (lo := 0) (hi := 13) (II.sub (II.c 1) (II.v rfl)) AI.nil ?_ ?_) ?_ ?_) (by decide) (II.take rfl (II.c 2) (by first | decide | (first | lia | omega)) (by first | decide | (first | lia | omega))) ?_ ?_) H2 _ d2.draw (fun many H3 d3 n0 n1 => ?_)
    rotate_right
    · refine (LI.cat (K := K) (st := st) (LI.lst (AI.cons (lo := -100000) (hi := 100000) (II.c 1) (AI.cons (lo := -100000) (hi := 100000) (II.c 0) (AI.cons (lo := -100000) (hi := 100000) (II.c 0) (AI.cons (lo := -100000) (hi := 100000) (II.c 3) (AI.cons (lo := -100000) (hi := 100000) (II.v rfl) AI.nil ?_ ?_) ?_ ?_) ?_ ?_) ?_ ?_) ?_ ?_) (by decide)) (LI.rep (m := 13) (LI.lst (AI.cons (lo := -100000) (hi := 100000) (II.c 19) AI.nil ?_ ?_) (by decide)) (II.v rfl) ?_ ?_ (by decide) (by decide)) (by decide)) H3 _ d3.draw (fun l zs H' d f e n => fin H3 (d12.trans d3) l zs H' d f e (by (first | lia | omega)))
      all_goals (first | lia | omega)
    all_goals (first | lia | omega)
  refine ⟨_, rfl, rfl, _, rfl, ite2 (fun _ => ?_) (fun c4 => ?_)⟩
  · refine (II.at (K := K) (st := st) (AI.cons (lo := 0) (hi := 13) (II.add (II.c 12) (II.v rfl)) (AI.cons (lo := 0) (hi := 13) (II.sub (II.c 2) (II.v rfl)) AI.nil ?_ ?_) ?_ ?_) (by decide) (II.take rfl (II.c 2) (by first | decide | (first | lia | omega)) (by first | decide | (first | lia | omega))) ?_ ?_) H2 _ d2.draw (fun many H3 d3 n0 n1 => ?_)
    rotate_right
    · refine (LI.cat (K := K) (st := st) (LI.lst (AI.cons (lo := -100000) (hi := 100000) (II.c 1) (AI.cons (lo := -100000) (hi := 100000) (II.c 0) (AI.cons (lo := -100000) (hi := 100000) (II.c 0) (AI.cons (lo := -100000) (hi := 100000) (II.c 4) (AI.cons (lo := -100000) (hi := 100000) (II.v rfl) AI.nil ?_ ?_) ?_ ?_) ?_ ?_) ?_ ?_) ?_ ?_) (by decide)) (LI.rep (m := 14) (LI.lst (AI.cons (lo := -100000) (hi := 100000) (II.c 19) AI.nil ?_ ?_) (by decide)) (II.add (II.v rfl) (II.c 1)) ?_ ?_ (by decide) (by decide)) (by decide)) H3 _ d3.draw (fun l zs H' d f e n => fin H3 (d12.trans d3) l zs H' d f e (by (first | lia | omega)))
      all_goals (first | lia | omega)
    all_goals (first | lia | omega)
  refine ⟨_, rfl, rfl, _, rfl, ite2 (fun _ => ?_) (fun c5 => ?_)⟩
  · refine (LI.cut (K := K) (st := st) (LI.lst (AI.cons (lo := -100000) (hi := 100000) (II.c 1) (AI.cons (lo := -100000) (hi := 100000) (II.c 0) (AI.cons (lo := -100000) (hi := 100000) (II.c 0) (AI.cons (lo := -100000) (hi := 100000) (II.at (AI.cons (lo := -100000) (hi := 100000) (II.add (II.c 19) (II.v rfl)) (AI.cons (lo := -100000) (hi := 100000) (II.sub (II.c 0) (II.v rfl)) AI.nil ?_ ?_) ?_ ?_) (by decide) (II.take rfl (II.c 2) (by first | decide | (first | lia | omega)) (by first | decide | (first | lia | omega))) ?_ ?_) (AI.cons (lo := -100000) (hi := 100000) (II.c 0) AI.nil ?_ ?_) ?_ ?_) ?_ ?_) ?_ ?_) ?_ ?_) (by decide)) PI.no (PI.some (II.add (II.c 4) (II.take rfl (II.c 2) (by first | decide | (first | lia | omega)) (by first | decide | (first | lia | omega)))))) H2 _ d2.draw (fun l zs H' d f e n => fin H2 d12 l zs H' d f e (by (first | lia | omega)))
    all_goals (first | lia | omega)
  refine ⟨_, rfl, rfl, _, rfl, ite2 (fun _ => ?_) (fun c6 => ?_)⟩
  · refine (II.add (K := K) (st := st) (II.c 1) (II.take rfl (II.c 12) (by first | decide | (first | lia | omega)) (by first | decide | (first | lia | omega)))) H2 _ d2.draw (fun boxes H3 d3 n0 n1 => ?_)
    refine (LI.cut (K := K) (st := st) (LI.lst (AI.cons (lo := -100000) (hi := 100000) (II.c 1) (AI.cons (lo := -100000) (hi := 100000) (II.c 0) (AI.cons (lo := -100000) (hi := 100000) (II.v rfl) (AI.cons (lo := -100000) (hi := 100000) (II.at (AI.cons (lo := -100000) (hi := 100000) (II.c 1) (AI.cons (lo := -100000) (hi := 100000) (II.c 2) AI.nil ?_ ?_) ?_ ?_) (by decide) (II.take rfl (II.c 2) (by first | decide | (first | lia | omega)) (by first | decide | (first | lia | omega))) ?_ ?_) (AI.cons (lo := -100000) (hi := 100000) (II.add (II.sub (II.v rfl) (II.c 1)) (II.v rfl)) (AI.cons (lo := -100000) (hi := 100000) (II.c 19) AI.nil ?_ ?_) ?_ ?_) ?_ ?_) ?_ ?_) ?_ ?_) ?_ ?_) (by decide)) PI.no (PI.some (II.add (II.c 5) (II.take rfl (II.c 2) (by first | decide | (first | lia | omega)) (by first | decide | (first | lia | omega)))))) H3 _ d3.draw (fun l zs H' d f e n => fin H3 (d12.trans d3) l zs H' d f e (by (first | lia | omega)))
    all_goals (first | lia | omega)
  refine (II.add (K := K) (st := st) (II.c 1) (II.take rfl (II.c 16) (by first | decide | (first | lia | omega)) (by first | decide | (first | lia | omega)))) H2 _ d2.draw (fun many H3 d3 n0 n1 => ?_)
  refine (LI.cat (K := K) (st := st) (LI.cat (LI.cat (LI.lst (AI.cons (lo := -100000) (hi := 100000) (II.v rfl) AI.nil ?_ ?_) (by decide)) (LI.rep (m := 16) (LI.lst (AI.consts [0, 0] (n := 2) (lo := -100000) (hi := 100000) rfl (by decide)) (by decide)) (II.v rfl) ?_ ?_ (by decide) (by decide)) (by decide)) (LI.lst (AI.cons (lo := -100000) (hi := 100000) (II.c 6) (AI.cons (lo := -100000) (hi := 100000) (II.add (II.sub (II.v rfl) (II.c 1)) (II.v rfl)) AI.nil ?_ ?_) ?_ ?_) (by decide)) (by decide)) (LI.rep (m := 16) (LI.lst (AI.cons (lo := -100000) (hi := 100000) (II.c 19) AI.nil ?_ ?_) (by decide)) (II.sub (II.v rfl) (II.c 1)) ?_ ?_ (by decide) (by decide)) (by decide)) H3 _ d3.draw (fun l zs H' d f e n => fin H3 (d12.trans d3) l zs H' d f e (by (first | lia | omega)))
  all_goals (first | lia | omega)

structure Txt3 (K : PySem.W.Frag) (mg : Str → Option Value) (CN CE CC CM CR CT : Addr) : Prop where
  n_isinstance : mg "isinstance" = none
  n_list : mg "list" = none
  n_bool : mg "bool" = none
  n_ValueError : mg "ValueError" = none
  m_ChainError : mg "ChainError" = some (.ref CE)
  m_NoSheet : mg "NoSheet" = some (.ref CN)
  m_NoCode : mg "NoCode" = some (.ref CC)
  m_NoName : mg "NoName" = some (.ref CM)
  m_NoRow : mg "NoRow" = some (.ref CR)
  m_NoText : mg "NoText" = some (.ref CT)
  mch : Mch K CN CE
  is : IsCls K CN
  exc : ExCls K CN
  xplace : NoAttr K CN "place"
  xword : NoAttr K CN "word"
  kC : PySem.W.kitOne K (.ref CN) (.ref CC) = some false
  kM : PySem.W.kitOne K (.ref CN) (.ref CM) = some false
  kR : PySem.W.kitOne K (.ref CN) (.ref CR) = some false
  kT : PySem.W.kitOne K (.ref CN) (.ref CT) = some false
  kN : PySem.W.kitOne K (.ref CN) (.ref CN) = some true
  kV : PySem.W.kitOne K (.ref CN) (.type "ValueError") = some true
  klist : PySem.W.kitOne K (.type "list") (.type "list") = some true
  kbool : PySem.W.kitOne K (.type "int") (.type "bool") = some false
noncomputable def hearV (ns : List Int) : List V := match wrongM ns with
  | none => [.bl true, .non, .non]
  | some b => [.bl true, .int (b.1 : Nat), .str b.2]
noncomputable def spHeard : Sp := fun vs H Q _ => ∃ (way : Int) (l : Addr) (ns : List Int), vs = [.int way, .ref l] ∧ H l = some (.lst (ns.map V.int)) ∧ ns.length ≤ 1000000 ∧ ∀ r H', Same H H' → H' r = some (.lst (hearV ns)) → Q (.ref r) H'
theorem ok_heard {CE CC CM CR CT : Addr} (T : Txt3 K mg CN CE CC CM CR CT) (F : Fun K "_law_heard" "_law_heard" s__law_heard f fd) (Cfunctions : Cal P w K mg base (CXE P w) 17 "functions" ["sheet"] (spFns CN)) (Cnodes : Cal P w K mg base (CXE P w) 18 "nodes" ["sheet"] (spNodes CN)) :
    FnOk P w K mg base (CXE P w) 19 f fd ["_law_way", "_law_sheet_here"] spHeard := by
  refine F.okN sc__law_heard (fun vs H Q E h => ?_) (fun cdv A outer s H vs Q E hr h => ?_)
  · obtain ⟨way, l, ns, rfl, _⟩ := h
    rfl
  obtain ⟨way, l, ns, rfl, el, hz, q⟩ := h
  refine ⟨_, (pss_cons (ps_set (i := 2) sc__law_heard.nd rfl (Or.inl rfl) pe_non)
      (pss_cons (ps_set (i := 3) sc__law_heard.nd rfl (Or.inl rfl) pe_non)
      (pss_cons (ps_cut (ps_try (i := 4) sc__law_heard.nd rfl rfl rfl T.m_ChainError (fun _ _ => (pss_one (ps_if (pt_cmpR op_eq (pv 0) pe_int (nomark _)) (pss_one (ps_set (i := 3) sc__law_heard.nd rfl (Or.inl rfl) (pe_callC Cfunctions hr rfl (pa_cons (pv 1) pa_nil) passX))) (pss_one (ps_set (i := 3) sc__law_heard.nd rfl (Or.inl rfl) (pe_callC Cnodes hr rfl (pa_cons (pv 1) pa_nil) passX)))))) (fun _ => (pss_one (ps_set (i := 2) sc__law_heard.nd rfl (Or.inl rfl) (pv 4))))))
      (pss_cons (ps_if (pt_cmpR op_isN (pv 2) pe_non (nomark _)) (pss_one (ps_ret (pe_lst (pa_cons (pe_callB call_isi rfl T.n_isinstance bt_isinstance (pa_cons (pv 3) (pa_cons (pe_bltn (v := .ty "list") rfl T.n_list bt_list rfl) pa_nil))) (pa_cons pe_non (pa_cons pe_non pa_nil)))))) pss_nil)
      (pss_cons (ps_set (i := 5) sc__law_heard.nd rfl (Or.inl rfl) (pe_or (pe_callB call_isX rfl T.n_isinstance bt_isinstance (pa_cons (pv 2) (pa_cons (pe_gref rfl T.m_NoCode) pa_nil))) (pe_or (pe_callB call_isX rfl T.n_isinstance bt_isinstance (pa_cons (pv 2) (pa_cons (pe_gref rfl T.m_NoName) pa_nil))) (pe_one (pe_callB call_isX rfl T.n_isinstance bt_isinstance (pa_cons (pv 2) (pa_cons (pe_gref rfl T.m_NoRow) pa_nil)))))))
      (pss_cons (ps_if (PW.pt (pw_or (pt_val (pv 5)) (pw_or (pt_val (pe_callB call_isX rfl T.n_isinstance bt_isinstance (pa_cons (pv 2) (pa_cons (pe_gref rfl T.m_NoText) pa_nil)))) (pw_or (pt_not (pt_val (pe_callB call_isX rfl T.n_isinstance bt_isinstance (pa_cons (pv 2) (pa_cons (pe_gref rfl T.m_NoSheet) pa_nil))))) (pw_or1 (pt_not (pt_val (pe_callB call_isX rfl T.n_isinstance bt_isinstance (pa_cons (pv 2) (pa_cons (pe_bltn (v := .ty "ValueError") rfl T.n_ValueError bt_ValueError rfl) pa_nil)))))))))) (pss_one (ps_ret (pe_lst (pa_cons pe_bl (pa_cons pe_non (pa_cons pe_non pa_nil)))))) pss_nil)
      (pss_one (ps_ret (pe_lst (pa_cons (pe_not (pe_callB call_isi rfl T.n_isinstance bt_isinstance (pa_cons (pe_fldXK K rfl (pv 2)) (pa_cons (pe_bltn (v := .ty "bool") rfl T.n_bool bt_bool rfl) pa_nil)))) (pa_cons (pe_fldXK K rfl (pv 2)) (pa_cons (pe_fldXK K rfl (pv 2)) pa_nil)))))))))))), ?_⟩
  try dsimp only [Cx.nox, Cx.exc, Cx.wish, cxOf_K]
  refine ⟨fun σ' H' => Same H H' ∧ ((wrongM ns = none ∧ ∃ fl xs y4 y5, σ' = [some (.int way), some (.ref l), some .non, some (.ref fl), y4, y5] ∧ H' fl = some (.lst xs)) ∨
    ∃ p wd x d y0 y1 y3 y4 y5, wrongM ns = some (p, wd) ∧ σ' = [y0, y1, some (.ref x), y3, y4, y5] ∧ H' x = some (ExO x CN (some d)) ∧ H' d = some (XdO d [("place", .int (p : Nat)), ("word", .str wd)])), ?_, ?_⟩
  · have okm : ∀ {r}, functionsM ns = .ok r → wrongM ns = none := fun e => by unfold wrongM; rw [e]
    have bad : ∀ {p wd}, functionsM ns = .error (p, wd) → wrongM ns = some (p, wd) := fun e => by unfold wrongM; rw [e]
    refine ⟨_, rfl, rfl, _, rfl, ite2 (fun c => ?_) (fun c => ?_)⟩
    · refine ⟨_, rfl, l, ns, rfl, el, fun r er l2 H1 s1 fr fa => ?_, fun p wd er d H1 s1 ed => ⟨CN, d, rfl, rfl, T.mch, fun x σ1 ex hn => ?_⟩⟩
      · obtain ⟨xs, e, _⟩ := fa
        exact ⟨s1, .inl ⟨okm er, l2, xs, _, _, rfl, e⟩⟩
      · match σ1, hn with
        | [y0, y1, y2, y3, y4, y5], _ => exact ⟨_, rfl, s1, .inr ⟨p, wd, x, d, _, _, _, _, _, bad er, rfl, ex, ed⟩⟩
    · refine ⟨_, rfl, l, ns, rfl, el, hz, fun r er l2 us H1 s1 fr e _ => ?_, fun p wd er d H1 s1 ed => ⟨CN, d, rfl, rfl, T.mch, fun x σ1 ex hn => ?_⟩⟩
      · exact ⟨s1, .inl ⟨okm er, l2, us, _, _, rfl, e⟩⟩
      · match σ1, hn with
        | [y0, y1, y2, y3, y4, y5], _ => exact ⟨_, rfl, s1, .inr ⟨p, wd, x, d, _, _, _, _, _, bad er, rfl, ex, ed⟩⟩
  rintro σ' H1 ⟨s1, ⟨ew, fl, xs, y4, y5, rfl, efl⟩ | ⟨p, wd, x, d, y0, y1, y3, y4, y5, ew, rfl, ex, ed⟩⟩
  · have hv : hearV ns = [.bl true, .non, .non] := by unfold hearV; rw [ew]
    refine ⟨_, rfl, rfl, _, rfl, ?_⟩
    rw [show decide (V.non = V.non) = true from rfl]
    refine iteT ⟨_, rfl, .inl ⟨_, _, _, true, rfl, .lst efl, T.klist, small (show 3 ≤ 1000 by decide), fun r hr => q r _ (s1.trans (same_new hr _)) ?_⟩⟩
    rw [hv]; exact upd_same
  · have hv : hearV ns = [.bl true, .int (p : Nat), .str wd] := by unfold hearV; rw [ew]
    refine ⟨_, rfl, rfl, _, rfl, ?_⟩
    rw [show decide (V.ref x = V.non) = false from rfl]
    refine iteF ?_
    refine ⟨_, rfl, x, CN, d, _, false, ex, ed, T.exc, T.is, .inr ⟨_, rfl, T.kC⟩, _, rfl, iteF ?_⟩
    refine ⟨_, rfl, x, CN, d, _, false, ex, ed, T.exc, T.is, .inr ⟨_, rfl, T.kM⟩, _, rfl, iteF ?_⟩
    refine ⟨_, rfl, x, CN, d, _, false, ex, ed, T.exc, T.is, .inr ⟨_, rfl, T.kR⟩, ?_⟩
    refine ⟨_, rfl, _, rfl, iteF ?_⟩
    refine ⟨_, rfl, x, CN, d, _, false, ex, ed, T.exc, T.is, .inr ⟨_, rfl, T.kT⟩, _, rfl, iteF ?_⟩
    refine ⟨_, rfl, x, CN, d, _, true, ex, ed, T.exc, T.is, .inr ⟨_, rfl, T.kN⟩, _, rfl, iteF ?_⟩
    refine ⟨_, rfl, x, CN, d, _, true, ex, ed, T.exc, T.is, .inl ⟨_, rfl, T.kV⟩, _, rfl, iteF ?_⟩
    refine ⟨_, rfl, x, CN, d, _, _, rfl, ex, ed, T.exc, T.xplace, rfl, .inl ⟨_, _, _, false, rfl, .int _, T.kbool, ?_⟩⟩
    refine ⟨_, rfl, _, rfl, x, CN, d, _, _, rfl, ex, ed, T.exc, T.xplace, rfl, _, rfl, x, CN, d, _, _, rfl, ex, ed, T.exc, T.xword, rfl, small (show 3 ≤ 1000 by decide), fun r hr => q r _ (s1.trans (same_new hr _)) ?_⟩
    rw [hv]; exact upd_same

noncomputable def dueV (ns : List Int) : List V := match wrongM ns with
  | none => [.non, .non]
  | some b => [.int (b.1 : Nat), .str b.2]
noncomputable def DV (H : Hp) (v : V) (o : Option Bad) : Prop := (o = none ∧ v = .non) ∨ ∃ p wd t, o = some (p, wd) ∧ v = .ref t ∧ H t = some (.tup [.int (p : Nat), .str wd])
theorem DV.same {H H' : Hp} {v : V} {o : Option Bad} (h : DV H v o) (s : Same H H') : DV H' v o := by
  rcases h with h | ⟨p, wd, t, e1, e2, e3⟩
  · exact .inl h
  · exact .inr ⟨p, wd, t, e1, e2, s _ _ e3⟩
theorem hear_due (ns : List Int) : ∃ x y, dueV ns = [x, y] ∧ hearV ns = [.bl true, x, y] ∧ flatV x = true ∧ flatV y = true := by
  unfold dueV hearV
  cases wrongM ns with
  | none => exact ⟨_, _, rfl, rfl, rfl, rfl⟩
  | some b => exact ⟨_, _, rfl, rfl, rfl, rfl⟩
noncomputable def InvLaw (a st l : Addr) (zs : List Int) (_i : Nat) (σ' : St) (H' : Hp) : Prop := ∃ v3 v4 v5 v6 v7, σ' = [some (.ref a), some (.ref st), some (.ref l), v3, v4, v5, v6, v7] ∧ Draw K H' st ∧ H' l = some (.lst (zs.map V.int))
noncomputable def PostLaw (a st l : Addr) (zs : List Int) (i : Nat) (v5 v6 v7 : Option V) (σ' : St) (H' : Hp) : Prop := ∃ b z, σ' = [some (.ref a), some (.ref st), some (.ref l), some (.int (0 + i)), some (.ref b), v5, v6, v7] ∧ Draw K H' st ∧ H' l = some (.lst (zs.map V.int)) ∧ H' b = some (.lst (z.map V.int)) ∧ (z : List Int).length ≤ 1000000
noncomputable def PostDV (σ : V → St) (H : Hp) (o : Option Bad) (σ' : St) (H' : Hp) : Prop := ∃ v, σ' = σ v ∧ Same H H' ∧ DV H' v o
theorem ok_law (T : Txt K mg aP CL CN) (F : Fun K "law" "law" s_law f fd) (C_law_sheet : Cal P w K mg base (CXE P w) 16 "_law_sheet" ["_law_state", "_law_most"] (spSheet K)) (C_law_take : Cal P w K mg base (CXE P w) 2 "_law_take" ["_law_state", "_law_many"] (spTakeB K))
    (C_law_bent : Cal P w K mg base (CXE P w) 3 "_law_bent" ["_law_state", "_law_sheet_here"] (spBent K)) (C_law_edge : Cal P w K mg base (CXE P w) 3 "_law_edge" ["_law_state"] (spEdge K)) (C_law_wrong : Cal P w K mg base (CXE P w) 2 "_law_wrong" ["_law_sheet_here"] spLWrong)
    (Cwrong : Cal P w K mg base (CXE P w) 18 "wrong" ["numbers"] spWrong) (C_law_heard : Cal P w K mg base (CXE P w) 19 "_law_heard" ["_law_way", "_law_sheet_here"] spHeard) : FnOk P w K mg base (CXE P w) 20 f fd ["_law_script"] (spLaw K) := by
  refine F.okN sc_law (fun vs H Q E h => ?_) (fun cdv A outer s H vs Q E hr h => ?_)
  · obtain ⟨a, ns, rfl, _⟩ := h
    rfl
  obtain ⟨a, ns, rfl, hS, h63, q⟩ := h
  refine ⟨_, (pss_cons (ps_set (i := 1) sc_law.nd rfl (Or.inl rfl) (pe_lst (pa_cons (pv 0) (pa_cons pe_int (pa_cons pe_int pa_nil)))))
      (pss_cons (ps_set (i := 2) sc_law.nd rfl (Or.inl rfl) (pe_callC C_law_sheet hr rfl (pa_cons (pv 1) (pa_cons pe_int pa_nil)) passN))
      (pss_cons (ps_for PassesOwn.never rfl (pi_range1 rfl T.n_range (pa_cons pe_int pa_nil)) (pg_name (i := 3) sc_law.nd rfl (Or.inl rfl)) (pss_cons (ps_set (i := 4) sc_law.nd rfl (Or.inl rfl) (pe_callC C_law_bent hr rfl (pa_cons (pv 1) (pa_cons (pv 2) pa_nil)) passN))
      (pss_cons (ps_cut (ps_if (pt_cmpR op_eq (pv 3) pe_int (nomark _)) (pss_one (ps_set (i := 4) sc_law.nd rfl (Or.inl rfl) (pe_slice sl_list (pv 4) po_none (po_some (pe_callC C_law_take hr rfl (pa_cons (pv 1) (pa_cons pe_int pa_nil)) passN))))) pss_nil))
      (pss_cons (ps_cut (ps_if (pt_cmpR op_gt (pv 3) pe_int (nomark _)) (pss_one (ps_set (i := 4) sc_law.nd rfl (Or.inl rfl) (pe_callC C_law_edge hr rfl (pa_cons (pv 1) pa_nil) passN))) pss_nil))
      (pss_cons (ps_cut (ps_set (i := 5) sc_law.nd rfl (Or.inl rfl) (pe_callC C_law_wrong hr rfl (pa_cons (pv 4) pa_nil) passN)))
      (pss_cons (ps_set (i := 6) sc_law.nd rfl (Or.inl rfl) (pe_callTy call_list_of rfl T.n_list bt_list (pa_cons (pv 4) pa_nil)))
      (pss_cons (ps_cut (ps_set (i := 7) sc_law.nd rfl (Or.inl rfl) (pe_callC Cwrong hr rfl (pa_cons (pv 6) pa_nil) passN)))
      (pss_cons (ps_cut (ps_if (PW.pt (pw_or (pt_cmpR (op_neF hr) (pv 7) (pv 5) (nomark _)) (pw_or1 (PW.pt (pw_and (pt_cmpR op_notN (pv 5) pe_non (nomark _)) (pw_and1 (PW.pt (pw_or (pt_not (pt_val (pe_callB call_isi rfl T.n_isinstance bt_isinstance (pa_cons (pv 7) (pa_cons (pe_bltn (v := .ty "tuple") rfl T.n_tuple bt_tuple rfl) pa_nil))))) (pw_or1 (pt_val (pe_callB call_isi rfl T.n_isinstance bt_isinstance (pa_cons (pe_ix ix_tup (pv 7) pe_int (fun _ _ => rfl)) (pa_cons (pe_bltn (v := .ty "bool") rfl T.n_bool bt_bool rfl) pa_nil))))))))))))) (pss_one (ps_ret pe_bl)) pss_nil))
      (pss_cons (ps_cut (ps_if (pt_cmpR op_isN (pv 5) pe_non (nomark _)) (pss_one (ps_set (i := 5) sc_law.nd rfl (Or.inl rfl) (pe_tup (pa_cons pe_non (pa_cons pe_non pa_nil))))) pss_nil))
      (pss_cons (ps_if (PW.pt (pw_or (pt_cmpR (op_neD hr) (pe_callC C_law_heard hr rfl (pa_cons pe_int (pa_cons (pv 6) pa_nil)) passN) (pe_lst (pa_cons pe_bl (pa_cons (pe_ix ix_tup (pv 5) pe_int (fun _ _ => rfl)) (pa_cons (pe_ix ix_tup (pv 5) pe_int (fun _ _ => rfl)) pa_nil)))) (nomark _)) (pw_or1 (pt_cmpR (op_neD hr) (pe_callC C_law_heard hr rfl (pa_cons pe_int (pa_cons (pv 6) pa_nil)) passN) (pe_lst (pa_cons pe_bl (pa_cons (pe_ix ix_tup (pv 5) pe_int (fun _ _ => rfl)) (pa_cons (pe_ix ix_tup (pv 5) pe_int (fun _ _ => rfl)) pa_nil)))) (nomark _))))) (pss_one (ps_ret pe_bl)) pss_nil)
      (pss_one (ps_if (pt_cmpR (op_neD hr) (pv 6) (pv 4) (nomark _)) (pss_one (ps_ret pe_bl)) pss_nil))))))))))))
      (pss_one (ps_ret (pe_cmpR op_isN (pe_callC Cwrong hr rfl (pa_cons (pv 2) pa_nil) passN) pe_non (nomark _))))))), ?_⟩
  try dsimp only [Cx.nox, Cx.exc, Cx.wish, cxOf_K]
  refine ⟨_, rfl, small (show 3 ≤ 1000 by decide), fun st hst => ?_⟩
  have g1 := same_new hst (.lst [.ref a, .int 0, .int 0])
  have D1 : Draw K (upd H st (.lst [.ref a, .int 0, .int 0])) st := by
    refine ⟨a, ns, 0, 0, upd_same, ?_, h63, Int.le_refl _, Int.le_refl _⟩
    rcases hS with ⟨o, h⟩ | h
    · exact .inl ⟨o, g1 _ _ h⟩
    · exact .inr h
  refine ⟨_, rfl, st, 12, rfl, by decide, by decide, D1, fun l zs H2 d2 el ok => ?_⟩
  obtain ⟨lz, r, er⟩ := ok
  refine ⟨_, rfl, by decide, by decide, for_range (lo := 0) (n := 12) (InvLaw (K := K) a st l zs) ⟨_, _, _, _, _, rfl, d2.draw, el⟩ ?_ ?_⟩
  rotate_left
  · rintro σ' H' ⟨v3, v4, v5, v6, v7, rfl, D', el'⟩
    refine ⟨_, rfl, l, zs, rfl, el', fun r' er' H3 s3 => ?_, fun p wd e => ?_⟩
    · exact ⟨rfl, q _⟩
    · rw [er] at e; cases e
  rintro i σ' H3 hi ⟨v3, v4, v5, v6, v7, rfl, D3, el3⟩
  refine ⟨_, rfl, _, rfl, st, l, zs, rfl, D3, el3, lz, fun b1 z1 H4 d4 f4 e4 n4 => ?_⟩
  have el4 := d4.keep l _ (D3.neI el3) el3
  refine ⟨PostLaw (K := K) a st l zs i v5 v6 v7, ?_, ?_⟩
  · refine ⟨_, rfl, rfl, _, rfl, ite2 (fun c => ?_) (fun c => ⟨b1, z1, rfl, d4.draw, el4, e4, by (first | lia | omega)⟩)⟩
    refine ⟨_, rfl, _, rfl, st, 3, rfl, by decide, by decide, d4.draw, fun m H5 m0 m1 d5 => ⟨_, rfl, b1, _, rfl, .of (d5.keep b1 _ (d4.draw.neI e4) e4), fun p hp => ?_⟩⟩
    obtain ⟨y, ey, ly⟩ := cutV_ints z1 none (some m)
    rw [ey]
    exact ⟨p, y, rfl, (d5.draw.new hp _).draw, same_new hp _ _ _ (d5.keep l _ (d4.draw.neI el4) el4), upd_same, by (first | lia | omega)⟩
  clear e4 el4 d4 f4 n4
  rintro _ H4 ⟨b, z, rfl, D4, el4, eb4, hz4⟩
  refine ⟨PostLaw (K := K) a st l zs i v5 v6 v7, ?_, ?_⟩
  · refine ⟨_, rfl, _, _, rfl, rfl, _, rfl, ite2 (fun c => ?_) (fun c => ⟨b, z, rfl, D4, el4, eb4, hz4⟩)⟩
    exact ⟨_, rfl, st, rfl, D4, fun r z5 H5 d5 f5 e5 n5 => ⟨r, z5, rfl, d5.draw, d5.keep l _ (D4.neI el4) el4, e5, by (first | lia | omega)⟩⟩
  clear hz4 eb4 el4 D4 b z
  rintro _ H4 ⟨b, z, rfl, D4, el4, eb4, hz4⟩
  refine ⟨PostDV (fun v => [some (.ref a), some (.ref st), some (.ref l), some (.int (0 + i)), some (.ref b), some v, v6, v7]) H4 (wrongM z), ?_, ?_⟩
  · exact ⟨_, rfl, b, z, rfl, eb4, hz4, fun e H5 s5 => ⟨_, rfl, s5, .inl ⟨e, rfl⟩⟩, fun p wd e t H5 s5 et => ⟨_, rfl, s5, .inr ⟨p, wd, t, e, rfl, et⟩⟩⟩
  rintro _ H5 ⟨dv, rfl, s5, hdv⟩
  refine ⟨_, rfl, b, _, rfl, .inl (.of (s5 _ _ eb4)), fun hp hhp => ?_⟩
  have s6 := s5.trans (same_new hhp (.lst (z.map V.int)))
  have hdv6 := hdv.same (same_new hhp (.lst (z.map V.int)))
  have eh6 : upd H5 hp (.lst (z.map V.int)) hp = some (.lst (z.map V.int)) := upd_same
  generalize upd H5 hp (.lst (z.map V.int)) = H6 at s6 hdv6 eh6 ⊢
  refine ⟨PostDV (fun v => [some (.ref a), some (.ref st), some (.ref l), some (.int (0 + i)), some (.ref b), some dv, some (.ref hp), some v]) H6 (wrongM z), ?_, ?_⟩
  · refine ⟨_, rfl, hp, z, rfl, eh6, fun r e H7 s7 => ⟨_, rfl, s7, .inl ⟨?_, rfl⟩⟩, fun p wd e t H7 s7 et => ⟨_, rfl, s7, .inr ⟨p, wd, t, ?_, rfl, et⟩⟩⟩
    · unfold wrongM; rw [e]
    · unfold wrongM; rw [e]
  rintro _ H7 ⟨fv, rfl, s7, hfv⟩
  have hdv7 := hdv6.same s7
  have s47 := s6.trans s7
  have eh7 := s7 _ _ eh6
  refine ⟨fun σ' H' => σ' = [some (.ref a), some (.ref st), some (.ref l), some (.int (0 + i)), some (.ref b), some dv, some (.ref hp), some fv] ∧ H' = H7, ?_, ?_⟩
  · rcases hdv7 with ⟨e1, rfl⟩ | ⟨p, wd, t, e1, rfl, et⟩
    · rcases hfv with ⟨_, rfl⟩ | ⟨p, wd, t, e2, _⟩
      · exact ⟨_, rfl, _, rfl, .inr ⟨rfl, rfl, _, rfl, iteF ⟨_, rfl, rfl, _, rfl, iteF (iteF ⟨rfl, rfl⟩)⟩⟩⟩
      · rw [e1] at e2; cases e2
    · rcases hfv with ⟨e2, _⟩ | ⟨p2, wd2, t2, e2, rfl, et2⟩
      · rw [e1] at e2; cases e2
      · rw [e1] at e2
        cases e2
        refine ⟨_, rfl, _, rfl, .inl ⟨t2, t, _, _, 0, rfl, rfl, .inr ⟨.of et2, .of et⟩, .cons ⟨rfl, rfl⟩ (.cons ⟨rfl, rfl⟩ .nil), by decide, _, rfl, iteF ⟨_, rfl, rfl, _, rfl, ?_⟩⟩⟩
        refine iteT ?_
        refine ⟨_, rfl, .inl ⟨_, _, _, true, rfl, .tup et2, T.ktup, _, rfl, iteF ?_⟩⟩
        exact ⟨_, rfl, t2, _, _, _, rfl, rfl, .of et2, rfl, .inl ⟨_, _, _, false, rfl, .int _, T.kbool, _, rfl, iteF ⟨rfl, rfl⟩⟩⟩
  rintro _ _ ⟨rfl, rfl⟩
  obtain ⟨x, y, hd, hh, fx, fy⟩ := hear_due z
  rename_i H7
  refine ⟨fun σ' H' => ∃ t, σ' = [some (.ref a), some (.ref st), some (.ref l), some (.int (0 + i)), some (.ref b), some (.ref t), some (.ref hp), some fv] ∧ Same H7 H' ∧ H' t = some (.tup [x, y]), ?_, ?_⟩
  · rcases hdv7 with ⟨e1, rfl⟩ | ⟨p, wd, t, e1, rfl, et⟩
    · have : dueV z = [.non, .non] := by unfold dueV; rw [e1]
      rw [this] at hd
      cases hd
      exact ⟨_, rfl, rfl, _, rfl, iteT ⟨small (show 2 ≤ 1000 by decide), fun t ht => ⟨t, rfl, same_new ht _, upd_same⟩⟩⟩
    · have : dueV z = [.int (p : Nat), .str wd] := by unfold dueV; rw [e1]
      rw [this] at hd
      cases hd
      exact ⟨_, rfl, rfl, _, rfl, iteF ⟨t, rfl, Same.refl _, et⟩⟩
  rintro _ H8 ⟨t, rfl, s8, et8⟩
  have one : ∀ (H9 : Hp), Same H8 H9 → ∀ (r u : Addr), H9 r = some (.lst (hearV z)) → H9 u = some (.lst [.bl true, x, y]) → ∀ Q' : VK, Q' (.bl false) H9 → rEqD K false (.ref r) (.ref u) H9 Q' := fun H9 _ r u er eu Q' h =>
    ⟨r, u, _, _, 0, rfl, rfl, .inl ⟨.of er, .of eu⟩, by rw [hh]; exact .cons ⟨rfl, rfl⟩ (.cons ⟨fx, rfl⟩ (.cons ⟨fy, rfl⟩ .nil)), by decide, h⟩
  have eh8 := s8 _ _ eh7
  refine ⟨_, rfl, 0, hp, z, rfl, eh8, hz4, fun r H9 s9 er => ?_⟩
  refine ⟨_, rfl, t, _, _, _, rfl, rfl, .of (s9 _ _ et8), rfl, _, rfl, t, _, _, _, rfl, rfl, .of (s9 _ _ et8), rfl, small (show 3 ≤ 1000 by decide), fun u hu => ?_⟩
  have s10 := s9.trans (same_new hu (.lst [.bl true, x, y]))
  refine ⟨r, u, _, _, 0, rfl, rfl, .inl ⟨.of (same_new hu _ _ _ er), .of upd_same⟩, by rw [hh]; exact .cons ⟨rfl, rfl⟩ (.cons ⟨fx, rfl⟩ (.cons ⟨fy, rfl⟩ .nil)), by decide, _, rfl, iteF ?_⟩
  refine ⟨_, rfl, 1, hp, z, rfl, s10 _ _ eh8, hz4, fun r2 H11 s11 er2 => ?_⟩
  have s12 := s10.trans s11
  refine ⟨_, rfl, t, _, _, _, rfl, rfl, .of (s12 _ _ et8), rfl, _, rfl, t, _, _, _, rfl, rfl, .of (s12 _ _ et8), rfl, small (show 3 ≤ 1000 by decide), fun u2 hu2 => ?_⟩
  have s13 := s12.trans (same_new hu2 (.lst [.bl true, x, y]))
  refine ⟨r2, u2, _, _, 0, rfl, rfl, .inl ⟨.of (same_new hu2 _ _ _ er2), .of upd_same⟩, by rw [hh]; exact .cons ⟨rfl, rfl⟩ (.cons ⟨fx, rfl⟩ (.cons ⟨fy, rfl⟩ .nil)), by decide, _, rfl, iteF ?_⟩
  have g := s47.trans (s8.trans s13)
  refine ⟨_, rfl, _, rfl, hp, b, _, _, 0, rfl, rfl, .inl ⟨.of (s13 _ _ eh8), .of (g _ _ eb4)⟩, EqD.ints z, by decide, _, rfl, iteF ?_⟩
  exact ⟨_, _, _, _, _, rfl, D4.same g, g _ _ el4⟩

end


theorem ln1 {α : Type} {us : List α} (h : us.length = 1) : ∃ a0, us = [a0] := match us, h with | [a0], _ => ⟨a0, rfl⟩
theorem ln2 {α : Type} {us : List α} (h : us.length = 2) : ∃ a0 a1, us = [a0, a1] := match us, h with | [a0, a1], _ => ⟨a0, a1, rfl⟩
theorem ln3 {α : Type} {us : List α} (h : us.length = 3) : ∃ a0 a1 a2, us = [a0, a1, a2] := match us, h with | [a0, a1, a2], _ => ⟨a0, a1, a2, rfl⟩
theorem ln4 {α : Type} {us : List α} (h : us.length = 4) : ∃ a0 a1 a2 a3, us = [a0, a1, a2, a3] := match us, h with | [a0, a1, a2, a3], _ => ⟨a0, a1, a2, a3, rfl⟩
theorem ln5 {α : Type} {us : List α} (h : us.length = 5) : ∃ a0 a1 a2 a3 a4, us = [a0, a1, a2, a3, a4] := match us, h with | [a0, a1, a2, a3, a4], _ => ⟨a0, a1, a2, a3, a4, rfl⟩
theorem all_mk {l : PySem.W.OpenLaw} {w : World} {K : PySem.W.Frag} {h : Heap} {mg : Str → Option Value} {fa f0 f1 f2 f3 f4 f5 f6 f7 f8 f9 f10 f11 f12 f13 f14 f15 f16 f17 f18 f19 f20 f21 f22 f23 f24 f25 f26 f27 f28 f29 : Addr} {cE cC cM cR cT : Addr} {nmN qN nmC qC : Str} {NN cChain nsC : Addr} {bsN subN bsC mroC subC : List Value} {snN snC : List Str} {abN hdC abC delC : Bool} {colN colC : Option Bool} {ddN ddC ddD : Option Addr} {k0N k1N k2N k3N k5N : Option Value} {ccC ccD : Value} {slC slD : Array (Option Value)} {esD : Array DictEntry} {nD : Nat} {cNoSheet cLook aP : Addr} {tNUMBER tGET tSET tALL tPICK tLOOP tCALL tFAIL tNEW tMOST_FUNCTIONS tMOST_PARAMS tMOST_BOXES tMOST_DEEP tMOST_MANY tLEAST_ALL tLEAST_PICK : Tok} {tPARTS0 tPARTS1 tPARTS2 tPARTS3 tPARTS4 tPARTS5 tPARTS6 tPARTS7 tPARTS8 tPARTS9 tPARTS10 tPARTS11 tPARTS12 : Tok} {nPARTS : Nat} {sPARTS : Array (Option Value)} (X : K.In h) (G : h.Ns mainGlobals mg) (hfa : mg "law" = some (.ref fa))
    {od0 an0 od1 an1 od2 an2 od3 an3 od4 an4 od5 an5 od6 an6 od7 an7 od8 an8 od9 an9 od10 an10 od11 an11 od12 an12 od13 an13 od14 an14 od15 an15 od16 an16 od17 an17 od18 an18 od19 an19 od20 an20 od21 an21 od22 an22 od23 an23 od24 an24 od25 an25 od26 an26 od27 an27 od28 an28 od29 an29 : Option Addr} {sl0 sl1 sl2 sl3 sl4 sl5 sl6 sl7 sl8 sl9 sl10 sl11 sl12 sl13 sl14 sl15 sl16 sl17 sl18 sl19 sl20 sl21 sl22 sl23 sl24 sl25 sl26 sl27 sl28 sl29 : Array (Option Value)} {oc0 kV0 dc0 pm0 cd0 ct0 oc1 kV1 dc1 pm1 cd1 ct1 oc2 kV2 dc2 pm2 cd2 ct2 oc3 kV3 dc3 pm3 cd3 ct3 oc4 kV4 dc4 pm4 cd4 ct4 oc5 kV5 dc5 pm5 cd5 ct5 oc6 kV6 dc6 pm6 cd6 ct6 oc7 kV7 dc7 pm7 cd7 ct7 oc8 kV8 dc8 pm8 cd8 ct8 oc9 kV9 dc9 pm9 cd9 ct9 oc10 kV10 dc10 pm10 cd10 ct10 oc11 kV11 dc11 pm11 cd11 ct11 oc12 kV12 dc12 pm12 cd12 ct12 oc13 kV13 dc13 pm13 cd13 ct13 oc14 kV14 dc14 pm14 cd14 ct14 oc15 kV15 dc15 pm15 cd15 ct15 oc16 kV16 dc16 pm16 cd16 ct16 oc17 kV17 dc17 pm17 cd17 ct17 oc18 kV18 dc18 pm18 cd18 ct18 oc19 kV19 dc19 pm19 cd19 ct19 oc20 kV20 dc20 pm20 cd20 ct20 oc21 kV21 dc21 pm21 cd21 ct21 oc22 kV22 dc22 pm22 cd22 ct22 oc23 kV23 dc23 pm23 cd23 ct23 oc24 kV24 dc24 pm24 cd24 ct24 oc25 kV25 dc25 pm25 cd25 ct25 oc26 kV26 dc26 pm26 cd26 ct26 oc27 kV27 dc27 pm27 cd27 ct27 oc28 kV28 dc28 pm28 cd28 ct28 oc29 kV29 dc29 pm29 cd29 ct29 : Value}
    (c_E : PySem.W.nsIn K mainGlobals "ChainError" = some (some (.ref cE)))
    (c_C : PySem.W.nsIn K mainGlobals "NoCode" = some (some (.ref cC)))
    (c_M : PySem.W.nsIn K mainGlobals "NoName" = some (some (.ref cM)))
    (c_R : PySem.W.nsIn K mainGlobals "NoRow" = some (some (.ref cR)))
    (c_T : PySem.W.nsIn K mainGlobals "NoText" = some (some (.ref cT)))
    (c_NoSheet : PySem.W.nsIn K mainGlobals "NoSheet" = some (some (.ref cNoSheet)))
    (c_Look : PySem.W.nsIn K mainGlobals "Look" = some (some (.ref cLook)))
    (a0 : PySem.W.findIn K (.ref cNoSheet) "__init__" = some (some (.ref f0))) (l0 : K.lookup f0 = some ⟨oc0, od0, .func (PySem.W.fnOf "__init__" "NoSheet.__init__" (defArgs s_NoSheet___init__) (defBody s_NoSheet___init__) (defScope s_NoSheet___init__) .none kV0 dc0 pm0 an0 cd0 ct0), sl0⟩) (c0 : PySem.W.codeIn K cd0 "NoSheet.__init__" = true) (k0 : PySem.W.keepIn K (.ref f0) = true)
    (a1 : PySem.W.findIn K (.ref cLook) "__init__" = some (some (.ref f1))) (l1 : K.lookup f1 = some ⟨oc1, od1, .func (PySem.W.fnOf "__init__" "Look.__init__" (defArgs s_Look___init__) (defBody s_Look___init__) (defScope s_Look___init__) .none kV1 dc1 pm1 an1 cd1 ct1), sl1⟩) (c1 : PySem.W.codeIn K cd1 "Look.__init__" = true) (k1 : PySem.W.keepIn K (.ref f1) = true)
    (a2 : PySem.W.findIn K (.ref cLook) "take" = some (some (.ref f2))) (l2 : K.lookup f2 = some ⟨oc2, od2, .func (PySem.W.fnOf "take" "Look.take" (defArgs s_Look_take) (defBody s_Look_take) (defScope s_Look_take) .none kV2 dc2 pm2 an2 cd2 ct2), sl2⟩) (c2 : PySem.W.codeIn K cd2 "Look.take" = true) (k2 : PySem.W.keepIn K (.ref f2) = true)
    (a3 : PySem.W.findIn K (.ref cLook) "take_within" = some (some (.ref f3))) (l3 : K.lookup f3 = some ⟨oc3, od3, .func (PySem.W.fnOf "take_within" "Look.take_within" (defArgs s_Look_take_within) (defBody s_Look_take_within) (defScope s_Look_take_within) .none kV3 dc3 pm3 an3 cd3 ct3), sl3⟩) (c3 : PySem.W.codeIn K cd3 "Look.take_within" = true) (k3 : PySem.W.keepIn K (.ref f3) = true)
    (a4 : PySem.W.nsIn K mainGlobals "is_whole" = some (some (.ref f4))) (l4 : K.lookup f4 = some ⟨oc4, od4, .func (PySem.W.fnOf "is_whole" "is_whole" (defArgs s_is_whole) (defBody s_is_whole) (defScope s_is_whole) .none kV4 dc4 pm4 an4 cd4 ct4), sl4⟩) (c4 : PySem.W.codeIn K cd4 "is_whole" = true) (k4 : PySem.W.keepIn K (.ref f4) = true)
    (a5 : PySem.W.nsIn K mainGlobals "take_heads" = some (some (.ref f5))) (l5 : K.lookup f5 = some ⟨oc5, od5, .func (PySem.W.fnOf "take_heads" "take_heads" (defArgs s_take_heads) (defBody s_take_heads) (defScope s_take_heads) .none kV5 dc5 pm5 an5 cd5 ct5), sl5⟩) (c5 : PySem.W.codeIn K cd5 "take_heads" = true) (k5 : PySem.W.keepIn K (.ref f5) = true)
    (a6 : PySem.W.nsIn K mainGlobals "take_own" = some (some (.ref f6))) (l6 : K.lookup f6 = some ⟨oc6, od6, .func (PySem.W.fnOf "take_own" "take_own" (defArgs s_take_own) (defBody s_take_own) (defScope s_take_own) .none kV6 dc6 pm6 an6 cd6 ct6), sl6⟩) (c6 : PySem.W.codeIn K cd6 "take_own" = true) (k6 : PySem.W.keepIn K (.ref f6) = true)
    (a7 : PySem.W.nsIn K mainGlobals "parts_of" = some (some (.ref f7))) (l7 : K.lookup f7 = some ⟨oc7, od7, .func (PySem.W.fnOf "parts_of" "parts_of" (defArgs s_parts_of) (defBody s_parts_of) (defScope s_parts_of) .none kV7 dc7 pm7 an7 cd7 ct7), sl7⟩) (c7 : PySem.W.codeIn K cd7 "parts_of" = true) (k7 : PySem.W.keepIn K (.ref f7) = true)
    (a8 : PySem.W.nsIn K mainGlobals "parts_due" = some (some (.ref f8))) (l8 : K.lookup f8 = some ⟨oc8, od8, .func (PySem.W.fnOf "parts_due" "parts_due" (defArgs s_parts_due) (defBody s_parts_due) (defScope s_parts_due) .none kV8 dc8 pm8 an8 cd8 ct8), sl8⟩) (c8 : PySem.W.codeIn K cd8 "parts_due" = true) (k8 : PySem.W.keepIn K (.ref f8) = true)
    (a9 : PySem.W.nsIn K mainGlobals "take_node" = some (some (.ref f9))) (l9 : K.lookup f9 = some ⟨oc9, od9, .func (PySem.W.fnOf "take_node" "take_node" (defArgs s_take_node) (defBody s_take_node) (defScope s_take_node) .none kV9 dc9 pm9 an9 cd9 ct9), sl9⟩) (c9 : PySem.W.codeIn K cd9 "take_node" = true) (k9 : PySem.W.keepIn K (.ref f9) = true)
    (a10 : PySem.W.nsIn K mainGlobals "functions" = some (some (.ref f10))) (l10 : K.lookup f10 = some ⟨oc10, od10, .func (PySem.W.fnOf "functions" "functions" (defArgs s_functions) (defBody s_functions) (defScope s_functions) .none kV10 dc10 pm10 an10 cd10 ct10), sl10⟩) (c10 : PySem.W.codeIn K cd10 "functions" = true) (k10 : PySem.W.keepIn K (.ref f10) = true)
    (a11 : PySem.W.nsIn K mainGlobals "wrong" = some (some (.ref f11))) (l11 : K.lookup f11 = some ⟨oc11, od11, .func (PySem.W.fnOf "wrong" "wrong" (defArgs s_wrong) (defBody s_wrong) (defScope s_wrong) .none kV11 dc11 pm11 an11 cd11 ct11), sl11⟩) (c11 : PySem.W.codeIn K cd11 "wrong" = true) (k11 : PySem.W.keepIn K (.ref f11) = true)
    (a12 : PySem.W.nsIn K mainGlobals "nodes_in" = some (some (.ref f12))) (l12 : K.lookup f12 = some ⟨oc12, od12, .func (PySem.W.fnOf "nodes_in" "nodes_in" (defArgs s_nodes_in) (defBody s_nodes_in) (defScope s_nodes_in) .none kV12 dc12 pm12 an12 cd12 ct12), sl12⟩) (c12 : PySem.W.codeIn K cd12 "nodes_in" = true) (k12 : PySem.W.keepIn K (.ref f12) = true)
    (a13 : PySem.W.nsIn K mainGlobals "nodes" = some (some (.ref f13))) (l13 : K.lookup f13 = some ⟨oc13, od13, .func (PySem.W.fnOf "nodes" "nodes" (defArgs s_nodes) (defBody s_nodes) (defScope s_nodes) .none kV13 dc13 pm13 an13 cd13 ct13), sl13⟩) (c13 : PySem.W.codeIn K cd13 "nodes" = true) (k13 : PySem.W.keepIn K (.ref f13) = true)
    (a14 : PySem.W.nsIn K mainGlobals "_law_mixed" = some (some (.ref f14))) (l14 : K.lookup f14 = some ⟨oc14, od14, .func (PySem.W.fnOf "_law_mixed" "_law_mixed" (defArgs s__law_mixed) (defBody s__law_mixed) (defScope s__law_mixed) .none kV14 dc14 pm14 an14 cd14 ct14), sl14⟩) (c14 : PySem.W.codeIn K cd14 "_law_mixed" = true) (k14 : PySem.W.keepIn K (.ref f14) = true)
    (a15 : PySem.W.nsIn K mainGlobals "_law_take" = some (some (.ref f15))) (l15 : K.lookup f15 = some ⟨oc15, od15, .func (PySem.W.fnOf "_law_take" "_law_take" (defArgs s__law_take) (defBody s__law_take) (defScope s__law_take) .none kV15 dc15 pm15 an15 cd15 ct15), sl15⟩) (c15 : PySem.W.codeIn K cd15 "_law_take" = true) (k15 : PySem.W.keepIn K (.ref f15) = true)
    (a16 : PySem.W.nsIn K mainGlobals "_law_heads" = some (some (.ref f16))) (l16 : K.lookup f16 = some ⟨oc16, od16, .func (PySem.W.fnOf "_law_heads" "_law_heads" (defArgs s__law_heads) (defBody s__law_heads) (defScope s__law_heads) .none kV16 dc16 pm16 an16 cd16 ct16), sl16⟩) (c16 : PySem.W.codeIn K cd16 "_law_heads" = true) (k16 : PySem.W.keepIn K (.ref f16) = true)
    (a17 : PySem.W.nsIn K mainGlobals "_law_number" = some (some (.ref f17))) (l17 : K.lookup f17 = some ⟨oc17, od17, .func (PySem.W.fnOf "_law_number" "_law_number" (defArgs s__law_number) (defBody s__law_number) (defScope s__law_number) .none kV17 dc17 pm17 an17 cd17 ct17), sl17⟩) (c17 : PySem.W.codeIn K cd17 "_law_number" = true) (k17 : PySem.W.keepIn K (.ref f17) = true)
    (a18 : PySem.W.nsIn K mainGlobals "_law_leaf" = some (some (.ref f18))) (l18 : K.lookup f18 = some ⟨oc18, od18, .func (PySem.W.fnOf "_law_leaf" "_law_leaf" (defArgs s__law_leaf) (defBody s__law_leaf) (defScope s__law_leaf) .none kV18 dc18 pm18 an18 cd18 ct18), sl18⟩) (c18 : PySem.W.codeIn K cd18 "_law_leaf" = true) (k18 : PySem.W.keepIn K (.ref f18) = true)
    (a19 : PySem.W.nsIn K mainGlobals "_law_head" = some (some (.ref f19))) (l19 : K.lookup f19 = some ⟨oc19, od19, .func (PySem.W.fnOf "_law_head" "_law_head" (defArgs s__law_head) (defBody s__law_head) (defScope s__law_head) .none kV19 dc19 pm19 an19 cd19 ct19), sl19⟩) (c19 : PySem.W.codeIn K cd19 "_law_head" = true) (k19 : PySem.W.keepIn K (.ref f19) = true)
    (a20 : PySem.W.nsIn K mainGlobals "_law_node" = some (some (.ref f20))) (l20 : K.lookup f20 = some ⟨oc20, od20, .func (PySem.W.fnOf "_law_node" "_law_node" (defArgs s__law_node) (defBody s__law_node) (defScope s__law_node) .none kV20 dc20 pm20 an20 cd20 ct20), sl20⟩) (c20 : PySem.W.codeIn K cd20 "_law_node" = true) (k20 : PySem.W.keepIn K (.ref f20) = true)
    (a21 : PySem.W.nsIn K mainGlobals "_law_sheet" = some (some (.ref f21))) (l21 : K.lookup f21 = some ⟨oc21, od21, .func (PySem.W.fnOf "_law_sheet" "_law_sheet" (defArgs s__law_sheet) (defBody s__law_sheet) (defScope s__law_sheet) .none kV21 dc21 pm21 an21 cd21 ct21), sl21⟩) (c21 : PySem.W.codeIn K cd21 "_law_sheet" = true) (k21 : PySem.W.keepIn K (.ref f21) = true)
    (a22 : PySem.W.nsIn K mainGlobals "_law_own" = some (some (.ref f22))) (l22 : K.lookup f22 = some ⟨oc22, od22, .func (PySem.W.fnOf "_law_own" "_law_own" (defArgs s__law_own) (defBody s__law_own) (defScope s__law_own) .none kV22 dc22 pm22 an22 cd22 ct22), sl22⟩) (c22 : PySem.W.codeIn K cd22 "_law_own" = true) (k22 : PySem.W.keepIn K (.ref f22) = true)
    (a23 : PySem.W.nsIn K mainGlobals "_law_parts" = some (some (.ref f23))) (l23 : K.lookup f23 = some ⟨oc23, od23, .func (PySem.W.fnOf "_law_parts" "_law_parts" (defArgs s__law_parts) (defBody s__law_parts) (defScope s__law_parts) .none kV23 dc23 pm23 an23 cd23 ct23), sl23⟩) (c23 : PySem.W.codeIn K cd23 "_law_parts" = true) (k23 : PySem.W.keepIn K (.ref f23) = true)
    (a24 : PySem.W.nsIn K mainGlobals "_law_head_wrong" = some (some (.ref f24))) (l24 : K.lookup f24 = some ⟨oc24, od24, .func (PySem.W.fnOf "_law_head_wrong" "_law_head_wrong" (defArgs s__law_head_wrong) (defBody s__law_head_wrong) (defScope s__law_head_wrong) .none kV24 dc24 pm24 an24 cd24 ct24), sl24⟩) (c24 : PySem.W.codeIn K cd24 "_law_head_wrong" = true) (k24 : PySem.W.keepIn K (.ref f24) = true)
    (a25 : PySem.W.nsIn K mainGlobals "_law_wrong" = some (some (.ref f25))) (l25 : K.lookup f25 = some ⟨oc25, od25, .func (PySem.W.fnOf "_law_wrong" "_law_wrong" (defArgs s__law_wrong) (defBody s__law_wrong) (defScope s__law_wrong) .none kV25 dc25 pm25 an25 cd25 ct25), sl25⟩) (c25 : PySem.W.codeIn K cd25 "_law_wrong" = true) (k25 : PySem.W.keepIn K (.ref f25) = true)
    (a26 : PySem.W.nsIn K mainGlobals "_law_bent" = some (some (.ref f26))) (l26 : K.lookup f26 = some ⟨oc26, od26, .func (PySem.W.fnOf "_law_bent" "_law_bent" (defArgs s__law_bent) (defBody s__law_bent) (defScope s__law_bent) .none kV26 dc26 pm26 an26 cd26 ct26), sl26⟩) (c26 : PySem.W.codeIn K cd26 "_law_bent" = true) (k26 : PySem.W.keepIn K (.ref f26) = true)
    (a27 : PySem.W.nsIn K mainGlobals "_law_heard" = some (some (.ref f27))) (l27 : K.lookup f27 = some ⟨oc27, od27, .func (PySem.W.fnOf "_law_heard" "_law_heard" (defArgs s__law_heard) (defBody s__law_heard) (defScope s__law_heard) .none kV27 dc27 pm27 an27 cd27 ct27), sl27⟩) (c27 : PySem.W.codeIn K cd27 "_law_heard" = true) (k27 : PySem.W.keepIn K (.ref f27) = true)
    (a28 : PySem.W.nsIn K mainGlobals "_law_edge" = some (some (.ref f28))) (l28 : K.lookup f28 = some ⟨oc28, od28, .func (PySem.W.fnOf "_law_edge" "_law_edge" (defArgs s__law_edge) (defBody s__law_edge) (defScope s__law_edge) .none kV28 dc28 pm28 an28 cd28 ct28), sl28⟩) (c28 : PySem.W.codeIn K cd28 "_law_edge" = true) (k28 : PySem.W.keepIn K (.ref f28) = true)
    (a29 : PySem.W.nsIn K mainGlobals "law" = some (some (.ref f29))) (l29 : K.lookup f29 = some ⟨oc29, od29, .func (PySem.W.fnOf "law" "law" (defArgs s_law) (defBody s_law) (defScope s_law) .none kV29 dc29 pm29 an29 cd29 ct29), sl29⟩) (c29 : PySem.W.codeIn K cd29 "law" = true) (k29 : PySem.W.keepIn K (.ref f29) = true)
    (z_len : PySem.W.nsIn K mainGlobals "len" = some none)
    (z_abs : PySem.W.nsIn K mainGlobals "abs" = some none)
    (z_range : PySem.W.nsIn K mainGlobals "range" = some none)
    (z_isinstance : PySem.W.nsIn K mainGlobals "isinstance" = some none)
    (z_int : PySem.W.nsIn K mainGlobals "int" = some none)
    (z_bool : PySem.W.nsIn K mainGlobals "bool" = some none)
    (z_list : PySem.W.nsIn K mainGlobals "list" = some none)
    (z_tuple : PySem.W.nsIn K mainGlobals "tuple" = some none)
    (i_NUMBER : PySem.W.nsIn K mainGlobals "NUMBER" = some (some (.int 0 tNUMBER)))
    (i_GET : PySem.W.nsIn K mainGlobals "GET" = some (some (.int 1 tGET)))
    (i_SET : PySem.W.nsIn K mainGlobals "SET" = some (some (.int 2 tSET)))
    (i_ALL : PySem.W.nsIn K mainGlobals "ALL" = some (some (.int 3 tALL)))
    (i_PICK : PySem.W.nsIn K mainGlobals "PICK" = some (some (.int 4 tPICK)))
    (i_LOOP : PySem.W.nsIn K mainGlobals "LOOP" = some (some (.int 5 tLOOP)))
    (i_CALL : PySem.W.nsIn K mainGlobals "CALL" = some (some (.int 6 tCALL)))
    (i_FAIL : PySem.W.nsIn K mainGlobals "FAIL" = some (some (.int 7 tFAIL)))
    (i_NEW : PySem.W.nsIn K mainGlobals "NEW" = some (some (.int 19 tNEW)))
    (i_MOST_FUNCTIONS : PySem.W.nsIn K mainGlobals "MOST_FUNCTIONS" = some (some (.int 16 tMOST_FUNCTIONS)))
    (i_MOST_PARAMS : PySem.W.nsIn K mainGlobals "MOST_PARAMS" = some (some (.int 4 tMOST_PARAMS)))
    (i_MOST_BOXES : PySem.W.nsIn K mainGlobals "MOST_BOXES" = some (some (.int 12 tMOST_BOXES)))
    (i_MOST_DEEP : PySem.W.nsIn K mainGlobals "MOST_DEEP" = some (some (.int 10 tMOST_DEEP)))
    (i_MOST_MANY : PySem.W.nsIn K mainGlobals "MOST_MANY" = some (some (.int 12 tMOST_MANY)))
    (i_LEAST_ALL : PySem.W.nsIn K mainGlobals "LEAST_ALL" = some (some (.int 1 tLEAST_ALL)))
    (i_LEAST_PICK : PySem.W.nsIn K mainGlobals "LEAST_PICK" = some (some (.int 2 tLEAST_PICK)))
    (g_PARTS : PySem.W.nsIn K mainGlobals "PARTS" = some (some (.ref aP)))
    (o_PARTS : K.lookup aP = some ⟨.type "tuple", none, .seq #[.int 1 tPARTS0, .int 2 tPARTS1, .int 2 tPARTS2, .int 2 tPARTS3, .int 2 tPARTS4, .int 2 tPARTS5, .int 2 tPARTS6, .int 2 tPARTS7, .int 2 tPARTS8, .int 2 tPARTS9, .int 3 tPARTS10, .int 1 tPARTS11, .int 0 tPARTS12] nPARTS, sPARTS⟩)
    (u_bool : PySem.W.subIn K (.type "int") (.type "bool") = some false)
    (fn_NoSheet___init__ : PySem.W.isFn K (.ref f0) = true)
    (fn_Look___init__ : PySem.W.isFn K (.ref f1) = true)
    (fn_Look_take : PySem.W.isFn K (.ref f2) = true)
    (fn_Look_take_within : PySem.W.isFn K (.ref f3) = true)
    (makes : PySem.W.makesIn K cLook = true)
    (lkp : PySem.W.keepIn K (.ref cLook) = true)
    (pg : PySem.W.plainGet K cLook Str.empty = true)
    (hd : PySem.W.hasDictIn K cLook = true)
    (po : PySem.W.plainOver K cLook = true)
    (sa : PySem.W.findIn K (.ref cLook) "__setattr__" = some (some (.builtin "object.__setattr__")))
    (lnum : PySem.W.findIn K (.ref cLook) "numbers" = some none)
    (lpl : PySem.W.findIn K (.ref cLook) "place" = some none)
    (xN : K.lookup cNoSheet = some (excClassObj nmN qN cNoSheet NN bsN (.ref cChain :: bmValue) true snN subN abN colN ddN k0N k1N k2N k3N k5N "ValueError.__new__"))
    (xC : K.lookup cChain = some ⟨ccC, ddC, .cls ⟨nmC, bsC, mroC, nsC, qC, hdC, snC, subC, abC, colC, delC⟩, slC⟩)
    (xD : K.lookup nsC = some ⟨ccD, ddD, .dict esD nD, slD⟩)
    (xF : PySem.W.nsIn K nsC "__init__" = some none)
    (xkp : PySem.W.keepIn K (.ref cNoSheet) = true)
    (xty : PySem.W.typeIn K (.ref f0) = some (.type "function"))
    (xobj : PySem.W.mroIn K cNoSheet (.type "object") = some true)
    (xbase : PySem.W.mroIn K cNoSheet (.type "BaseException") = some true)
    (xsa : PySem.W.findIn K (.ref cNoSheet) "__setattr__" = some (some (.builtin "object.__setattr__")))
    (xga : PySem.W.findIn K (.ref cNoSheet) "__getattribute__" = some (some (.builtin "BaseException.__getattribute__")))
    (xnh : PySem.W.findIn K (.ref cNoSheet) "__getattr__" = some none)
    (xpl : PySem.W.findIn K (.ref cNoSheet) "place" = some none)
    (xwd : PySem.W.findIn K (.ref cNoSheet) "word" = some none)
    (xm1 : PySem.W.subIn K (.ref cNoSheet) (.ref cNoSheet) = some true)
    (xm2 : PySem.W.typeIn K (.ref cNoSheet) = some (.type "type"))
    (xm3 : PySem.W.isClsIn K cNoSheet = true)
    (xm4 : PySem.W.subIn K (.ref cNoSheet) (.type "BaseException") = some true)
    (xE : (esD.toList.all fun e => match e.key with | .str _ _ => true | _ => false) = true)
    (z_reversed : PySem.W.nsIn K mainGlobals "reversed" = some none)
    (z_ValueError : PySem.W.nsIn K mainGlobals "ValueError" = some none)
    (w_ha : PySem.W.findIn K (.ref cNoSheet) "__class__" = some (some (.builtin "object.__class__")))
    (w_hn : PySem.W.specialIn K (.builtin "object.__class__") "__get__" = some (some (.builtin "getset_descriptor.__get__")))
    (w_htk : PySem.W.takesIn K (.builtin "object.__class__") = some true)
    (w_V : PySem.W.subIn K (.ref cNoSheet) (.type "ValueError") = some true)
    (w_E4 : PySem.W.subIn K (.ref cE) (.type "BaseException") = some true)
    (w_E1 : PySem.W.subIn K (.ref cNoSheet) (.ref cE) = some true)
    (w_E2 : PySem.W.typeIn K (.ref cE) = some (.type "type"))
    (w_E3 : PySem.W.isClsIn K cE = true)
    (w_C1 : PySem.W.subIn K (.ref cNoSheet) (.ref cC) = some false)
    (w_C2 : PySem.W.typeIn K (.ref cC) = some (.type "type"))
    (w_C3 : PySem.W.isClsIn K cC = true)
    (w_M1 : PySem.W.subIn K (.ref cNoSheet) (.ref cM) = some false)
    (w_M2 : PySem.W.typeIn K (.ref cM) = some (.type "type"))
    (w_M3 : PySem.W.isClsIn K cM = true)
    (w_R1 : PySem.W.subIn K (.ref cNoSheet) (.ref cR) = some false)
    (w_R2 : PySem.W.typeIn K (.ref cR) = some (.type "type"))
    (w_R3 : PySem.W.isClsIn K cR = true)
    (w_T1 : PySem.W.subIn K (.ref cNoSheet) (.ref cT) = some false)
    (w_T2 : PySem.W.typeIn K (.ref cT) = some (.type "type"))
    (w_T3 : PySem.W.isClsIn K cT = true)
    : ∃ fd : FuncData, (∀ (s : Shared) (v : Value), BindsTo s fd ⟨[v], []⟩ [("_law_script", v)]) ∧ ∀ base : Heap, K.In base → base.Ns mainGlobals mg → FnOk l.prog w K mg base (CXE l.prog w) 20 fa fd ["_law_script"] (spLaw K) := by
  have e := hfa.symm.trans (PySem.W.mg_of X G a29)
  cases e
  have F0 := fun_mk (st := s_NoSheet___init__) l0 c0 k0
  have b0 := F0.binds (ps := ["self", "place", "word"]) fun _ _ _ _ _ _ us hl => by obtain ⟨_, _, _, rfl⟩ := ln3 hl; rfl
  have F1 := fun_mk (st := s_Look___init__) l1 c1 k1
  have b1 := F1.binds (ps := ["self", "numbers"]) fun _ _ _ _ _ _ us hl => by obtain ⟨_, _, rfl⟩ := ln2 hl; rfl
  have F2 := fun_mk (st := s_Look_take) l2 c2 k2
  have b2 := F2.binds (ps := ["self"]) fun _ _ _ _ _ _ us hl => by obtain ⟨_, rfl⟩ := ln1 hl; rfl
  have F3 := fun_mk (st := s_Look_take_within) l3 c3 k3
  have b3 := F3.binds (ps := ["self", "least", "most"]) fun _ _ _ _ _ _ us hl => by obtain ⟨_, _, _, rfl⟩ := ln3 hl; rfl
  have F4 := fun_mk (st := s_is_whole) l4 c4 k4
  have b4 := F4.binds (ps := ["thing"]) fun _ _ _ _ _ _ us hl => by obtain ⟨_, rfl⟩ := ln1 hl; rfl
  have m4 := PySem.W.mg_of X G a4
  have F5 := fun_mk (st := s_take_heads) l5 c5 k5
  have b5 := F5.binds (ps := ["look"]) fun _ _ _ _ _ _ us hl => by obtain ⟨_, rfl⟩ := ln1 hl; rfl
  have m5 := PySem.W.mg_of X G a5
  have F6 := fun_mk (st := s_take_own) l6 c6 k6
  have b6 := F6.binds (ps := ["look", "kind", "heads", "boxes"]) fun _ _ _ _ _ _ us hl => by obtain ⟨_, _, _, _, rfl⟩ := ln4 hl; rfl
  have m6 := PySem.W.mg_of X G a6
  have F7 := fun_mk (st := s_parts_of) l7 c7 k7
  have b7 := F7.binds (ps := ["kind"]) fun _ _ _ _ _ _ us hl => by obtain ⟨_, rfl⟩ := ln1 hl; rfl
  have m7 := PySem.W.mg_of X G a7
  have F8 := fun_mk (st := s_parts_due) l8 c8 k8
  have b8 := F8.binds (ps := ["kind", "numbers", "heads"]) fun _ _ _ _ _ _ us hl => by obtain ⟨_, _, _, rfl⟩ := ln3 hl; rfl
  have m8 := PySem.W.mg_of X G a8
  have F9 := fun_mk (st := s_take_node) l9 c9 k9
  have b9 := F9.binds (ps := ["look", "heads", "boxes", "deep"]) fun _ _ _ _ _ _ us hl => by obtain ⟨_, _, _, _, rfl⟩ := ln4 hl; rfl
  have m9 := PySem.W.mg_of X G a9
  have F10 := fun_mk (st := s_functions) l10 c10 k10
  have b10 := F10.binds (ps := ["sheet"]) fun _ _ _ _ _ _ us hl => by obtain ⟨_, rfl⟩ := ln1 hl; rfl
  have m10 := PySem.W.mg_of X G a10
  have F11 := fun_mk (st := s_wrong) l11 c11 k11
  have b11 := F11.binds (ps := ["numbers"]) fun _ _ _ _ _ _ us hl => by obtain ⟨_, rfl⟩ := ln1 hl; rfl
  have m11 := PySem.W.mg_of X G a11
  have F12 := fun_mk (st := s_nodes_in) l12 c12 k12
  have b12 := F12.binds (ps := ["body"]) fun _ _ _ _ _ _ us hl => by obtain ⟨_, rfl⟩ := ln1 hl; rfl
  have m12 := PySem.W.mg_of X G a12
  have F13 := fun_mk (st := s_nodes) l13 c13 k13
  have b13 := F13.binds (ps := ["sheet"]) fun _ _ _ _ _ _ us hl => by obtain ⟨_, rfl⟩ := ln1 hl; rfl
  have m13 := PySem.W.mg_of X G a13
  have F14 := fun_mk (st := s__law_mixed) l14 c14 k14
  have b14 := F14.binds (ps := ["_law_cell", "_law_k"]) fun _ _ _ _ _ _ us hl => by obtain ⟨_, _, rfl⟩ := ln2 hl; rfl
  have m14 := PySem.W.mg_of X G a14
  have F15 := fun_mk (st := s__law_take) l15 c15 k15
  have b15 := F15.binds (ps := ["_law_state", "_law_many"]) fun _ _ _ _ _ _ us hl => by obtain ⟨_, _, rfl⟩ := ln2 hl; rfl
  have m15 := PySem.W.mg_of X G a15
  have F16 := fun_mk (st := s__law_heads) l16 c16 k16
  have b16 := F16.binds (ps := ["_law_state"]) fun _ _ _ _ _ _ us hl => by obtain ⟨_, rfl⟩ := ln1 hl; rfl
  have m16 := PySem.W.mg_of X G a16
  have F17 := fun_mk (st := s__law_number) l17 c17 k17
  have b17 := F17.binds (ps := ["_law_state"]) fun _ _ _ _ _ _ us hl => by obtain ⟨_, rfl⟩ := ln1 hl; rfl
  have m17 := PySem.W.mg_of X G a17
  have F18 := fun_mk (st := s__law_leaf) l18 c18 k18
  have b18 := F18.binds (ps := ["_law_state", "_law_boxes"]) fun _ _ _ _ _ _ us hl => by obtain ⟨_, _, rfl⟩ := ln2 hl; rfl
  have m18 := PySem.W.mg_of X G a18
  have F19 := fun_mk (st := s__law_head) l19 c19 k19
  have b19 := F19.binds (ps := ["_law_state", "_law_heads_here", "_law_boxes"]) fun _ _ _ _ _ _ us hl => by obtain ⟨_, _, _, rfl⟩ := ln3 hl; rfl
  have m19 := PySem.W.mg_of X G a19
  have F20 := fun_mk (st := s__law_node) l20 c20 k20
  have b20 := F20.binds (ps := ["_law_state", "_law_heads_here", "_law_boxes", "_law_deep", "_law_room"]) fun _ _ _ _ _ _ us hl => by obtain ⟨_, _, _, _, _, rfl⟩ := ln5 hl; rfl
  have m20 := PySem.W.mg_of X G a20
  have F21 := fun_mk (st := s__law_sheet) l21 c21 k21
  have b21 := F21.binds (ps := ["_law_state", "_law_most"]) fun _ _ _ _ _ _ us hl => by obtain ⟨_, _, rfl⟩ := ln2 hl; rfl
  have m21 := PySem.W.mg_of X G a21
  have F22 := fun_mk (st := s__law_own) l22 c22 k22
  have b22 := F22.binds (ps := ["_law_sheet_here", "_law_at", "_law_boxes"]) fun _ _ _ _ _ _ us hl => by obtain ⟨_, _, _, rfl⟩ := ln3 hl; rfl
  have m22 := PySem.W.mg_of X G a22
  have F23 := fun_mk (st := s__law_parts) l23 c23 k23
  have b23 := F23.binds (ps := ["_law_sheet_here", "_law_at"]) fun _ _ _ _ _ _ us hl => by obtain ⟨_, _, rfl⟩ := ln2 hl; rfl
  have m23 := PySem.W.mg_of X G a23
  have F24 := fun_mk (st := s__law_head_wrong) l24 c24 k24
  have b24 := F24.binds (ps := ["_law_sheet_here"]) fun _ _ _ _ _ _ us hl => by obtain ⟨_, rfl⟩ := ln1 hl; rfl
  have m24 := PySem.W.mg_of X G a24
  have F25 := fun_mk (st := s__law_wrong) l25 c25 k25
  have b25 := F25.binds (ps := ["_law_sheet_here"]) fun _ _ _ _ _ _ us hl => by obtain ⟨_, rfl⟩ := ln1 hl; rfl
  have m25 := PySem.W.mg_of X G a25
  have F26 := fun_mk (st := s__law_bent) l26 c26 k26
  have b26 := F26.binds (ps := ["_law_state", "_law_sheet_here"]) fun _ _ _ _ _ _ us hl => by obtain ⟨_, _, rfl⟩ := ln2 hl; rfl
  have m26 := PySem.W.mg_of X G a26
  have F27 := fun_mk (st := s__law_heard) l27 c27 k27
  have b27 := F27.binds (ps := ["_law_way", "_law_sheet_here"]) fun _ _ _ _ _ _ us hl => by obtain ⟨_, _, rfl⟩ := ln2 hl; rfl
  have m27 := PySem.W.mg_of X G a27
  have F28 := fun_mk (st := s__law_edge) l28 c28 k28
  have b28 := F28.binds (ps := ["_law_state"]) fun _ _ _ _ _ _ us hl => by obtain ⟨_, rfl⟩ := ln1 hl; rfl
  have m28 := PySem.W.mg_of X G a28
  have F29 := fun_mk (st := s_law) l29 c29 k29
  refine ⟨PySem.W.fnOf "law" "law" (defArgs s_law) (defBody s_law) (defScope s_law) .none kV29 dc29 pm29 an29 cd29 ct29, fun s v => .of_eq rfl, fun base _ _ => ?_⟩
  have T : Txt K mg aP cLook cNoSheet := by
    refine ⟨PySem.W.mg_none_of X G z_len, PySem.W.mg_none_of X G z_abs, PySem.W.mg_none_of X G z_range, PySem.W.mg_none_of X G z_isinstance, PySem.W.mg_none_of X G z_int, PySem.W.mg_none_of X G z_bool, PySem.W.mg_none_of X G z_list, PySem.W.mg_none_of X G z_tuple, ⟨_, PySem.W.mg_of X G i_NUMBER⟩, ⟨_, PySem.W.mg_of X G i_GET⟩, ⟨_, PySem.W.mg_of X G i_SET⟩, ⟨_, PySem.W.mg_of X G i_ALL⟩, ⟨_, PySem.W.mg_of X G i_PICK⟩, ⟨_, PySem.W.mg_of X G i_LOOP⟩, ⟨_, PySem.W.mg_of X G i_CALL⟩, ⟨_, PySem.W.mg_of X G i_FAIL⟩, ⟨_, PySem.W.mg_of X G i_NEW⟩, ⟨_, PySem.W.mg_of X G i_MOST_FUNCTIONS⟩, ⟨_, PySem.W.mg_of X G i_MOST_PARAMS⟩, ⟨_, PySem.W.mg_of X G i_MOST_BOXES⟩, ⟨_, PySem.W.mg_of X G i_MOST_DEEP⟩, ⟨_, PySem.W.mg_of X G i_MOST_MANY⟩, ⟨_, PySem.W.mg_of X G i_LEAST_ALL⟩, ⟨_, PySem.W.mg_of X G i_LEAST_PICK⟩, PySem.W.mg_of X G g_PARTS, PySem.W.mg_of X G c_NoSheet, ?_, kit_self, kit_of u_bool, kit_self, kit_self, ⟨pg, hd, po, sa⟩, lnum, lpl, ⟨exc_cd xN, xobj, xbase, xsa, xga, xnh⟩, xpl, xwd, ⟨xm1, xm2, xm3, xm4⟩⟩
    exact sqT_of o_PARTS (small (show 13 ≤ 1000 by decide)) (.cons ⟨_, rfl⟩ (.cons ⟨_, rfl⟩ (.cons ⟨_, rfl⟩ (.cons ⟨_, rfl⟩ (.cons ⟨_, rfl⟩ (.cons ⟨_, rfl⟩ (.cons ⟨_, rfl⟩ (.cons ⟨_, rfl⟩ (.cons ⟨_, rfl⟩ (.cons ⟨_, rfl⟩ (.cons ⟨_, rfl⟩ (.cons ⟨_, rfl⟩ (.cons ⟨_, rfl⟩ (.nil))))))))))))))
  have T3 : Txt3 K mg cNoSheet cE cC cM cR cT := ⟨T.n_isinstance, T.n_list, T.n_bool, PySem.W.mg_none_of X G z_ValueError, PySem.W.mg_of X G c_E, PySem.W.mg_of X G c_NoSheet, PySem.W.mg_of X G c_C, PySem.W.mg_of X G c_M, PySem.W.mg_of X G c_R, PySem.W.mg_of X G c_T, ⟨w_E1, w_E2, w_E3, w_E4⟩, ⟨w_ha, w_hn, w_htk⟩, T.exc, T.xplace, T.xword, kit_ref w_C1 w_C2 w_C3 xm1, kit_ref w_M1 w_M2 w_M3 xm1, kit_ref w_R1 w_R2 w_R3 xm1, kit_ref w_T1 w_T2 w_T3 xm1, kit_ref xm1 xm2 xm3 xm1, kit_of w_V rfl, T.klist, T.kbool⟩
  have n_reversed := PySem.W.mg_none_of X G z_reversed
  have X0 : CalX l.prog w K mg base 1 "NoSheet" cNoSheet _ _ := ⟨⟨_, _, ExMk.ofValue ⟨_, _, _, _, _, _, _, _, _, _, _, _, _, _, _, _, xN, exc_tail xC rfl (ns_ok xD xE) xF⟩ a0 xty xkp T.exc, ok_initX T F0, PySem.W.mg_of X G c_NoSheet, b0⟩⟩
  have K1 : CalK l.prog w K mg base (CXE l.prog w) 1 "Look" cLook _ _ := ⟨⟨_, _, ⟨makes, a1, fn_Look___init__, lkp⟩, ok_initL T F1, PySem.W.mg_of X G c_Look, b1⟩⟩
  have C4 : Cal l.prog w K mg base (CXE l.prog w) 1 "is_whole" _ _ := ⟨⟨_, _, ok_whole T F4, m4, k4, b4⟩⟩
  have M2 : CalM l.prog w K mg base (CXE l.prog w) 3 cLook "take" _ _ := ⟨⟨_, _, ok_tk T F2 C4 X0, T.look, ⟨a2, fn_Look_take, k2⟩, b2⟩⟩
  have M3 : CalM l.prog w K mg base (CXE l.prog w) 4 cLook "take_within" _ _ := ⟨⟨_, _, ok_within T F3 M2 X0, T.look, ⟨a3, fn_Look_take_within, k3⟩, b3⟩⟩
  have C5 : Cal l.prog w K mg base (CXE l.prog w) 5 "take_heads" _ _ := ⟨⟨_, _, ok_heads T F5 M3, m5, k5, b5⟩⟩
  have C6 : Cal l.prog w K mg base (CXE l.prog w) 5 "take_own" _ _ := ⟨⟨_, _, ok_own T F6 M2 M3, m6, k6, b6⟩⟩
  have C7 : Cal l.prog w K mg base (CXE l.prog w) 1 "parts_of" _ _ := ⟨⟨_, _, ok_parts T F7, m7, k7, b7⟩⟩
  have C8 : Cal l.prog w K mg base (CXE l.prog w) 2 "parts_due" _ _ := ⟨⟨_, _, ok_due T F8 C7, m8, k8, b8⟩⟩
  have N9 := ok_nodes T F9 X0 M3 C6 C8 m9 k9 b9
  have C9 : Cal l.prog w K mg base (CXE l.prog w) 16 "take_node" _ (spNode cLook cNoSheet 10) := ⟨⟨_, _, N9 10 (Nat.le_refl _), m9, k9, b9⟩⟩
  have C10 : Cal l.prog w K mg base (CXE l.prog w) 17 "functions" _ _ := ⟨⟨_, _, ok_fns T F10 X0 K1 C5 C9, m10, k10, b10⟩⟩
  have C11 : Cal l.prog w K mg base (CXE l.prog w) 18 "wrong" _ _ := ⟨⟨_, _, ok_wrong T F11 C10, m11, k11, b11⟩⟩
  have C14 : Cal l.prog w K mg base (CXE l.prog w) 1 "_law_mixed" _ _ := ⟨⟨_, _, ok_mixed F14, m14, k14, b14⟩⟩
  have C15 : Cal l.prog w K mg base (CXE l.prog w) 2 "_law_take" _ _ := ⟨⟨_, _, ok_take T F15 C14, m15, k15, b15⟩⟩
  have C16 : Cal l.prog w K mg base (CXE l.prog w) 3 "_law_heads" _ _ := ⟨⟨_, _, ok_lheads T F16 C15, m16, k16, b16⟩⟩
  have C17 : Cal l.prog w K mg base (CXE l.prog w) 3 "_law_number" _ _ := ⟨⟨_, _, ok_number T F17 C15, m17, k17, b17⟩⟩
  have C18 : Cal l.prog w K mg base (CXE l.prog w) 4 "_law_leaf" _ _ := ⟨⟨_, _, ok_leaf T F18 C15 C17, m18, k18, b18⟩⟩
  have C19 : Cal l.prog w K mg base (CXE l.prog w) 3 "_law_head" _ _ := ⟨⟨_, _, ok_lhead T F19 C15, m19, k19, b19⟩⟩
  have N20 := ok_lnodes T F20 C18 C19 m20 k20 b20
  have C20 : Cal l.prog w K mg base (CXE l.prog w) 15 "_law_node" _ (spNodeL K 10) := ⟨⟨_, _, N20 10, m20, k20, b20⟩⟩
  have C21 : Cal l.prog w K mg base (CXE l.prog w) 16 "_law_sheet" _ _ := ⟨⟨_, _, ok_lsheet T F21 C15 C16 C20, m21, k21, b21⟩⟩
  have C12 : Cal l.prog w K mg base (CXE l.prog w) 1 "nodes_in" _ _ := ⟨⟨_, _, ok_nodes_in T n_reversed F12, m12, k12, b12⟩⟩
  have C13 : Cal l.prog w K mg base (CXE l.prog w) 18 "nodes" _ _ := ⟨⟨_, _, ok_nodesP T F13 C10 C12, m13, k13, b13⟩⟩
  have C22 : Cal l.prog w K mg base (CXE l.prog w) 1 "_law_own" _ _ := ⟨⟨_, _, ok_lown T F22, m22, k22, b22⟩⟩
  have C23 : Cal l.prog w K mg base (CXE l.prog w) 1 "_law_parts" _ _ := ⟨⟨_, _, ok_lparts T F23, m23, k23, b23⟩⟩
  have C24 : Cal l.prog w K mg base (CXE l.prog w) 1 "_law_head_wrong" _ _ := ⟨⟨_, _, ok_hw T F24, m24, k24, b24⟩⟩
  have C25 : Cal l.prog w K mg base (CXE l.prog w) 2 "_law_wrong" _ _ := ⟨⟨_, _, ok_lwrong T F25 C24 C22 C23, m25, k25, b25⟩⟩
  have C26 : Cal l.prog w K mg base (CXE l.prog w) 3 "_law_bent" _ _ := ⟨⟨_, _, ok_bent T F26 C15, m26, k26, b26⟩⟩
  have C28 : Cal l.prog w K mg base (CXE l.prog w) 3 "_law_edge" _ _ := ⟨⟨_, _, ok_edge T F28 C15, m28, k28, b28⟩⟩
  have C27 : Cal l.prog w K mg base (CXE l.prog w) 19 "_law_heard" _ _ := ⟨⟨_, _, ok_heard T3 F27 C10 C13, m27, k27, b27⟩⟩
  exact ok_law T F29 C21 C15 C26 C28 C25 C11 C27
theorem walk {l : PySem.W.OpenLaw} {q : Program} {loose : List Str} {XP : (Str → Option Value) → Heap → Prop} {YP : World → Heap → Prop} {d : DefRec} {K : Params → PySem.W.Frag} (hn : l.most = some 63) (hdf : d.params.defaults = [])
    (hY : ∀ (w : World) (h : Heap), YP w h → (K w.params).In h)
    (F : ∀ (w : World) (mg : Str → Option Value) (fa : Addr) (h : Heap), (K w.params).In h → h.Ns mainGlobals mg → mg d.name = some (.ref fa) →
      ∃ fd : FuncData, (∀ (s : Shared) (u : Value), BindsTo s fd ⟨[u], []⟩ [("_law_script", u)]) ∧ ∀ base : Heap, (K w.params).In base → base.Ns mainGlobals mg → FnOk l.prog w (K w.params) mg base (CXE l.prog w) 20 fa fd ["_law_script"] (spLaw (K w.params))) :
    PySem.W.WalkO q loose XP YP l.row.toRowW d [] (fun f vs => PySem.call f vs) :=
  L2.walk_of (n := 63) (k := 20) (x := "_law_script") (CX := fun w => (CXE l.prog w)) (sp := fun w => spLaw (K w.params)) hn (by decide) hdf ⟨rfl, by decide, by decide⟩ hY F (fun _ _ a ns hl hO hS => ⟨a, ns, rfl, Scr.of hO hS, hl, fun _ => rfl⟩) (fun _ _ _ _ _ => cxe_none)
end OcL
open PySem PySem.W PyProof.Rows
set_option maxRecDepth 100000 in
set_option maxHeartbeats 0 in
theorem PySem.Challenge.cw_ownchain_k03_where_it_is_none_holds : PySem.Challenge.rw_ownchain_k03_where_it_is_none.Holds := by
  w_on; o_law; k_head; (case hw => w_witness2)
  k_fill
  refine OcL.walk (l := PySem.Challenge.rw_ownchain_k03_where_it_is_none) rfl rfl (fun w h Y => PySem.W.kIn_of Y) ?F
  case F =>
    intro w mg fa h KX G hmg
    refine' OcL.all_mk KX G hmg ?c_E ?c_C ?c_M ?c_R ?c_T ?c_NoSheet ?c_Look ?a0 ?l0 ?c0 ?k0 ?a1 ?l1 ?c1 ?k1 ?a2 ?l2 ?c2 ?k2 ?a3 ?l3 ?c3 ?k3 ?a4 ?l4 ?c4 ?k4 ?a5 ?l5 ?c5 ?k5 ?a6 ?l6 ?c6 ?k6 ?a7 ?l7 ?c7 ?k7 ?a8 ?l8 ?c8 ?k8 ?a9 ?l9 ?c9 ?k9 ?a10 ?l10 ?c10 ?k10 ?a11 ?l11 ?c11 ?k11 ?a12 ?l12 ?c12 ?k12 ?a13 ?l13 ?c13 ?k13 ?a14 ?l14 ?c14 ?k14 ?a15 ?l15 ?c15 ?k15 ?a16 ?l16 ?c16 ?k16 ?a17 ?l17 ?c17 ?k17 ?a18 ?l18 ?c18 ?k18 ?a19 ?l19 ?c19 ?k19 ?a20 ?l20 ?c20 ?k20 ?a21 ?l21 ?c21 ?k21 ?a22 ?l22 ?c22 ?k22 ?a23 ?l23 ?c23 ?k23 ?a24 ?l24 ?c24 ?k24 ?a25 ?l25 ?c25 ?k25 ?a26 ?l26 ?c26 ?k26 ?a27 ?l27 ?c27 ?k27 ?a28 ?l28 ?c28 ?k28 ?a29 ?l29 ?c29 ?k29 ?z_len ?z_abs ?z_range ?z_isinstance ?z_int ?z_bool ?z_list ?z_tuple ?i_NUMBER ?i_GET ?i_SET ?i_ALL ?i_PICK ?i_LOOP ?i_CALL ?i_FAIL ?i_NEW ?i_MOST_FUNCTIONS ?i_MOST_PARAMS ?i_MOST_BOXES ?i_MOST_DEEP ?i_MOST_MANY ?i_LEAST_ALL ?i_LEAST_PICK ?g_PARTS ?o_PARTS ?u_bool ?fn_NoSheet___init__ ?fn_Look___init__ ?fn_Look_take ?fn_Look_take_within ?makes ?lkp ?pg ?hd ?po ?sa ?lnum ?lpl ?xN ?xC ?xD ?xF ?xkp ?xty ?xobj ?xbase ?xsa ?xga ?xnh ?xpl ?xwd ?xm1 ?xm2 ?xm3 ?xm4 ?xE ?z_reversed ?z_ValueError ?w_ha ?w_hn ?w_htk ?w_V ?w_E4 ?w_E1 ?w_E2 ?w_E3 ?w_C1 ?w_C2 ?w_C3 ?w_M1 ?w_M2 ?w_M3 ?w_R1 ?w_R2 ?w_R3 ?w_T1 ?w_T2 ?w_T3
    (case c_E => k_is)
    (case c_C => k_is)
    (case c_M => k_is)
    (case c_R => k_is)
    (case c_T => k_is)
    (case c_NoSheet => k_is)
    (case c_Look => k_is)
    (case a0 => k_is)
    (case l0 => k_is)
    (case c0 => k_is)
    (case k0 => k_is)
    (case a1 => k_is)
    (case l1 => k_is)
    (case c1 => k_is)
    (case k1 => k_is)
    (case a2 => k_is)
    (case l2 => k_is)
    (case c2 => k_is)
    (case k2 => k_is)
    (case a3 => k_is)
    (case l3 => k_is)
    (case c3 => k_is)
    (case k3 => k_is)
    (case a4 => k_is)
    (case l4 => k_is)
    (case c4 => k_is)
    (case k4 => k_is)
    (case a5 => k_is)
    (case l5 => k_is)
    (case c5 => k_is)
    (case k5 => k_is)
    (case a6 => k_is)
    (case l6 => k_is)
    (case c6 => k_is)
    (case k6 => k_is)
    (case a7 => k_is)
    (case l7 => k_is)
    (case c7 => k_is)
    (case k7 => k_is)
    (case a8 => k_is)
    (case l8 => k_is)
    (case c8 => k_is)
    (case k8 => k_is)
    (case a9 => k_is)
    (case l9 => k_is)
    (case c9 => k_is)
    (case k9 => k_is)
    (case a10 => k_is)
    (case l10 => k_is)
    (case c10 => k_is)
    (case k10 => k_is)
    (case a11 => k_is)
    (case l11 => k_is)
    (case c11 => k_is)
    (case k11 => k_is)
    (case a12 => k_is)
    (case l12 => k_is)
    (case c12 => k_is)
    (case k12 => k_is)
    (case a13 => k_is)
    (case l13 => k_is)
    (case c13 => k_is)
    (case k13 => k_is)
    (case a14 => k_is)
    (case l14 => k_is)
    (case c14 => k_is)
    (case k14 => k_is)
    (case a15 => k_is)
    (case l15 => k_is)
    (case c15 => k_is)
    (case k15 => k_is)
    (case a16 => k_is)
    (case l16 => k_is)
    (case c16 => k_is)
    (case k16 => k_is)
    (case a17 => k_is)
    (case l17 => k_is)
    (case c17 => k_is)
    (case k17 => k_is)
    (case a18 => k_is)
    (case l18 => k_is)
    (case c18 => k_is)
    (case k18 => k_is)
    (case a19 => k_is)
    (case l19 => k_is)
    (case c19 => k_is)
    (case k19 => k_is)
    (case a20 => k_is)
    (case l20 => k_is)
    (case c20 => k_is)
    (case k20 => k_is)
    (case a21 => k_is)
    (case l21 => k_is)
    (case c21 => k_is)
    (case k21 => k_is)
    (case a22 => k_is)
    (case l22 => k_is)
    (case c22 => k_is)
    (case k22 => k_is)
    (case a23 => k_is)
    (case l23 => k_is)
    (case c23 => k_is)
    (case k23 => k_is)
    (case a24 => k_is)
    (case l24 => k_is)
    (case c24 => k_is)
    (case k24 => k_is)
    (case a25 => k_is)
    (case l25 => k_is)
    (case c25 => k_is)
    (case k25 => k_is)
    (case a26 => k_is)
    (case l26 => k_is)
    (case c26 => k_is)
    (case k26 => k_is)
    (case a27 => k_is)
    (case l27 => k_is)
    (case c27 => k_is)
    (case k27 => k_is)
    (case a28 => k_is)
    (case l28 => k_is)
    (case c28 => k_is)
    (case k28 => k_is)
    (case a29 => k_is)
    (case l29 => k_is)
    (case c29 => k_is)
    (case k29 => k_is)
    (case z_len => k_is)
    (case z_abs => k_is)
    (case z_range => k_is)
    (case z_isinstance => k_is)
    (case z_int => k_is)
    (case z_bool => k_is)
    (case z_list => k_is)
    (case z_tuple => k_is)
    (case i_NUMBER => k_is)
    (case i_GET => k_is)
    (case i_SET => k_is)
    (case i_ALL => k_is)
    (case i_PICK => k_is)
    (case i_LOOP => k_is)
    (case i_CALL => k_is)
    (case i_FAIL => k_is)
    (case i_NEW => k_is)
    (case i_MOST_FUNCTIONS => k_is)
    (case i_MOST_PARAMS => k_is)
    (case i_MOST_BOXES => k_is)
    (case i_MOST_DEEP => k_is)
    (case i_MOST_MANY => k_is)
    (case i_LEAST_ALL => k_is)
    (case i_LEAST_PICK => k_is)
    (case g_PARTS => k_is)
    (case o_PARTS => k_is)
    (case u_bool => k_is)
    (case fn_NoSheet___init__ => k_is)
    (case fn_Look___init__ => k_is)
    (case fn_Look_take => k_is)
    (case fn_Look_take_within => k_is)
    (case makes => k_is)
    (case lkp => k_is)
    (case pg => k_is)
    (case hd => k_is)
    (case po => k_is)
    (case sa => k_is)
    (case lnum => k_is)
    (case lpl => k_is)
    (case xN => k_is)
    (case xC => k_is)
    (case xD => k_is)
    (case xF => k_is)
    (case xkp => k_is)
    (case xty => k_is)
    (case xobj => k_is)
    (case xbase => k_is)
    (case xsa => k_is)
    (case xga => k_is)
    (case xnh => k_is)
    (case xpl => k_is)
    (case xwd => k_is)
    (case xm1 => k_is)
    (case xm2 => k_is)
    (case xm3 => k_is)
    (case xm4 => k_is)
    (case xE => rfl)
    (case z_reversed => k_is)
    (case z_ValueError => k_is)
    (case w_ha => k_is)
    (case w_hn => k_is)
    (case w_htk => k_is)
    (case w_V => k_is)
    (case w_E4 => k_is)
    (case w_E1 => k_is)
    (case w_E2 => k_is)
    (case w_E3 => k_is)
    (case w_C1 => k_is)
    (case w_C2 => k_is)
    (case w_C3 => k_is)
    (case w_M1 => k_is)
    (case w_M2 => k_is)
    (case w_M3 => k_is)
    (case w_R1 => k_is)
    (case w_R2 => k_is)
    (case w_R3 => k_is)
    (case w_T1 => k_is)
    (case w_T2 => k_is)
    (case w_T3 => k_is)
