import PyProof.Rows.All
import PyProof.LayNew
import PyProof.EnumFor
import PyProof.EnumStmt
import PyProof.EnumMake
import PyProof.ConsumeWalk
import PyProof.AutoSeq1
import KE.KRevSl
import KE.KRevIter
import Wide.All
import OpenK.AllK
import Wide.FinOn
import Lean
import PyProof.EqAt
import PyProof.EqKinds
import PyProof.TupleCall
import PyProof.NeKinds
import PySem.Challenge.RW_ownchain_k34_values_that_are_fixed
set_option Elab.async false
set_option linter.all false
set_option maxRecDepth 100000
/-! THE HAND LAYER, for ints, bools, texts, own classes, LISTS and tuples (index, slices, in, append, pop ..), calls, loops. Paste it whole ahead of your own text; what your proof does not reach may be deleted. -/
namespace L2
open PySem PySem.Spec PyProof.Rows

/-- a key: an int or a str -/
abbrev Key := Sum Int Str
def keyIs : Key → Value → Bool
  | .inl k, v => Value.isInt k v
  | .inr x, v => Value.isStrOf x v
def keyH (w : World) : Key → Int
  | .inl k => hashInt k
  | .inr x => hashStr w x
theorem keyIs_shape : ∀ {k : Key} {v : Value}, keyIs k v = true → (∃ i t, k = Sum.inl i ∧ v = Value.int i t) ∨ (∃ x t, k = Sum.inr x ∧ v = Value.str x t)
  | .inl i, v, h => by
    obtain ⟨t, e⟩ := Value.isInt_shape (k := i) (v := v) h
    exact .inl ⟨i, t, rfl, e⟩
  | .inr x, v, h => by
    obtain ⟨t, e⟩ := Value.isStrOf_shape (x := x) (v := v) h
    exact .inr ⟨x, t, rfl, e⟩
theorem key_ll (a b : Int) : decide ((Sum.inl a : Key) = Sum.inl b) = (a == b) := by
  by_cases e : a = b
  · subst e; simp
  · have h : ¬ (Sum.inl a : Key) = Sum.inl b := fun q => e (Sum.inl.inj q)
    rw [decide_eq_false h]
    exact (beq_eq_false_iff_ne.mpr e).symm
theorem key_rr (a b : Str) : decide ((Sum.inr a : Key) = Sum.inr b) = decide (a = b) := by
  by_cases e : a = b
  · subst e; simp
  · have h : ¬ (Sum.inr a : Key) = Sum.inr b := fun q => e (Sum.inr.inj q)
    rw [decide_eq_false h, decide_eq_false e]
theorem key_lr (a : Int) (b : Str) : decide ((Sum.inl a : Key) = Sum.inr b) = false := decide_eq_false (fun q => nomatch q)
theorem key_rl (a : Str) (b : Int) : decide ((Sum.inr a : Key) = Sum.inl b) = false := decide_eq_false (fun q => nomatch q)

def mixKind (prog : Program) (w : World) : PySem.KeyKind prog w Key where
  is := keyIs
  hash := keyH w
  inj := fun v a b ha hb => by
    rcases keyIs_shape ha with ⟨i, t, rfl, rfl⟩ | ⟨x, t, rfl, rfl⟩
    · rcases keyIs_shape hb with ⟨j, u, rfl, e⟩ | ⟨y, u, rfl, e⟩
      · injection e with e1 _; rw [e1]
      · exact nomatch e
    · rcases keyIs_shape hb with ⟨j, u, rfl, e⟩ | ⟨y, u, rfl, e⟩
      · exact nomatch e
      · injection e with e1 _; rw [e1]
  byValue := fun k v h => by
    rcases keyIs_shape h with ⟨i, t, rfl, rfl⟩ | ⟨x, t, rfl, rfl⟩ <;> rfl
  pyHash := fun hv h => by
    rcases keyIs_shape hv with ⟨i, t, rfl, rfl⟩ | ⟨x, t, rfl, rfl⟩
    · exact wpAny_pyHash_int h
    · exact wpAny_pyHash_str h
  eqBool := fun hu hv h => by
    rcases keyIs_shape hu with ⟨i, t, rfl, rfl⟩ | ⟨x, t, rfl, rfl⟩
    · rcases keyIs_shape hv with ⟨j, u, rfl, rfl⟩ | ⟨y, u, rfl, rfl⟩
      · rw [key_ll] at h; exact wpAny_eqBool_int h
      · rw [key_lr] at h; exact SeqAt.EqAt.int_str i t y u _ _ _ _ h
    · rcases keyIs_shape hv with ⟨j, u, rfl, rfl⟩ | ⟨y, u, rfl, rfl⟩
      · rw [key_rl] at h; exact SeqAt.EqAt.str_int x t j u _ _ _ _ h
      · rw [key_rr] at h; exact wpAny_eqBool_str h
  «strs» := fun k x t v h => by
    rcases keyIs_shape h with ⟨i, u, rfl, e⟩ | ⟨y, u, rfl, e⟩
    · exact nomatch e
    · injection e with e1 _
      subst e1
      cases v <;> rfl

end L2

namespace L2
open PySem PySem.Spec PyProof.Rows

/-- a value, without the heap -/
inductive V where
  | non | bl (b : Bool) | int (i : Int) | str (x : Str) | byt (b : Array UInt8) | flt (b : UInt64) | ref (a : Addr) | ty (n : String)
  deriving DecidableEq

def RelV : V → Value → Prop
  | .non, u => u = Value.none
  | .bl b, u => u = Value.bool b
  | .int i, u => ∃ t, u = Value.int i t
  | .str x, u => ∃ t, u = Value.str x t
  | .byt b, u => ∃ t, u = Value.bytes b t
  | .flt b, u => ∃ t, u = Value.float b t
  | .ref a, u => u = Value.ref a
  | .ty n, u => u = Value.type n

abbrev Vals : List V → List Value → Prop := Paired RelV
theorem Vals.length {xs : List V} {us : List Value} (r : Vals xs us) : xs.length = us.length := Paired.length r
theorem Vals.get : ∀ {xs : List V} {us : List Value} {i : Nat} {x : V}, Vals xs us → xs[i]? = some x → ∃ u, us[i]? = some u ∧ RelV x u
  | _, _, _, _, .nil, e => by simp at e
  | _, _, 0, _, .cons r _, e => by simp at e; subst e; exact ⟨_, rfl, r⟩
  | _, _, i + 1, x, .cons _ t, e => by
    obtain ⟨u, h1, h2⟩ := Vals.get (i := i) (x := x) t (by simpa using e)
    exact ⟨u, by simpa using h1, h2⟩
theorem Vals.set {x : V} {u : Value} (r : RelV x u) : ∀ {xs : List V} {us : List Value} (i : Nat), Vals xs us → Vals (xs.set i x) (us.set i u)
  | _, _, _, .nil => .nil
  | _, _, 0, .cons _ t => .cons r t
  | _, _, i + 1, .cons q t => .cons q (Vals.set r i t)
theorem Vals.append : ∀ {xs ys : List V} {us ws : List Value}, Vals xs us → Vals ys ws → Vals (xs ++ ys) (us ++ ws)
  | _, _, _, _, .nil, s => s
  | _, _, _, _, .cons r t, s => .cons r (Vals.append t s)
theorem Vals.take : ∀ {xs : List V} {us : List Value} (n : Nat), Vals xs us → Vals (xs.take n) (us.take n)
  | _, _, 0, _ => .nil
  | _, _, _ + 1, .nil => .nil
  | _, _, n + 1, .cons r t => .cons r (Vals.take n t)
theorem Vals.drop : ∀ {xs : List V} {us : List Value} (n : Nat), Vals xs us → Vals (xs.drop n) (us.drop n)
  | _, _, 0, r => r
  | _, _, _ + 1, .nil => .nil
  | _, _, n + 1, .cons _ t => Vals.drop n t
def RelO : Option V → Option Value → Prop
  | some v, some u => RelV v u
  | none, none => True
  | _, _ => False
def KV {κ : Type} : List (κ × V) → List (κ × Value) → Prop := Paired fun (p : κ × V) (q : κ × Value) => p.1 = q.1 ∧ RelV p.2 q.2

/-- a key of a dict (00_mix): an int or a text -/
def kV : Key → V
  | .inl i => .int i
  | .inr x => .str x

/-- what stands at a tracked address -/
inductive HO where
  /-- a list -/
  | lst (xs : List V)
  /-- a tuple (never changes) -/
  | tup (xs : List V)
  /-- a dict whose keys are ints and texts; one whose keys are tuples of ints and texts (the empty one is both) -/
  | dK (kvs : List (Key × V)) | dT (kvs : List (List Key × V))
  /-- a set of ints: its members, its size -/
  | set (S : Int → Bool) (n : Nat)
  /-- an instance of the class at C, its dict at dx, its attributes -/
  | ins (C dx : Addr) (fs : List (Str × V))
  /-- the dict of the instance at x -/
  | own (x : Addr)
  /-- the dict of an exception -/
  | xd (fs : List (Str × V))
  /-- a bound method, f of x -/
  | met (f x : Addr)
  /-- a range object lo, lo + 1, .. below hi -/
  | rng (lo hi : Int)
  /-- a thing that is known to the object (the script; a dict while a loop walks it): read, never written while it is so -/
  | frz (o : Obj) (u : HO)
  /-- a code object's table -/
  | tbl (ps : Array Value)
  /-- any other thing, by what is true of its one object (a def of one's own: SetO a S n := HO.ext fun h => ..) -/
  | ext (φ : Heap → Prop)

abbrev Hp := Addr → Option HO
def upd (H : Hp) (a : Addr) (o : HO) : Hp := fun b => if b = a then some o else H b
theorem upd_same {H : Hp} {a : Addr} {o : HO} : upd H a o a = some o := by unfold upd; rw [if_pos rfl]
theorem upd_ne {H : Hp} {a b : Addr} {o : HO} (h : b ≠ a) : upd H a o b = H b := by unfold upd; rw [if_neg h]
theorem ne_of_none {H : Hp} {a b : Addr} {o : HO} (h : H a = some o) (h' : H b = none) : a ≠ b := by
  intro e; subst e; rw [h] at h'; cases h'

section
variable (P : Program) (w : World)
def ObjOk (H : Hp) (h : Heap) (a : Addr) : HO → Prop
  | .lst xs => xs.length ≤ sizeLine ∧ ∃ (its : List Value) (n : Nat), Vals xs its ∧ h.get? a = some { cls := .type "list", data := .seq its.toArray n }
  | .tup xs => xs.length ≤ sizeLine ∧ ∃ its : List Value, Vals xs its ∧ IsTup h a its.toArray
  | .dK kvs => kvs.length ≤ sizeLine ∧ (a == sysModules) = false ∧ ∃ vs, KV kvs vs ∧ h.DictOf (mixKind P w) a vs
  | .dT kvs => kvs.length ≤ sizeLine ∧ (a == sysModules) = false ∧ ∃ xs : List (List Key × Addr × Value),
      Paired (fun (p : List Key × V) (q : List Key × Addr × Value) => p.1 = q.1 ∧ H q.2.1 = some (.tup (p.1.map kV)) ∧ RelV p.2 q.2.2) kvs xs ∧
      ∃ o es ep, h.get? a = some o ∧ o.ExactDict ∧ o.data = .dict es ep ∧ es.toList = xs.map (entryOfKey (tupleKind (mixKind P w))) ∧ (xs.map (·.1)).Nodup
  | .set S n => h.SetOf (intKind P w) a S n
  | .ins C dx fs => H dx = some (.own a) ∧ fs.length ≤ 1000 ∧ dx ≠ a ∧ h.get? a = some (PySem.W.instObj C dx) ∧
      ∃ mA, h.Ns1 dx mA ∧ (∀ f, RelO (fs.lookup f) (mA f)) ∧ PySem.Within mA (fs.map (·.1))
  | .own _ => ∃ o, h.get? a = some o
  | .xd fs => ∃ mA, h.Ns1 a mA ∧ ∀ f, RelO (fs.lookup f) (mA f)
  | .rng lo hi => ∃ t u v, h.get? a = some { cls := .type "range", data := .fields #[.int lo t, .int hi u, .int 1 v] }
  | .frz o u => h.get? a = some o ∧ ObjOk H h a u
  | .tbl ps => h.get? a = some { cls := .none, data := .fields ps }
  | .met f x => h.get? a = some (PySem.W.methodObj (.ref f) (.ref x))
  | .ext φ => φ h ∧ (∃ o, h.get? a = some o) ∧ ∀ h1 h2 : Heap, φ h1 → (∀ o, h1.get? a = some o → h2.get? a = some o) → φ h2
/-- the abstract heap is held -/
def HOk (H : Hp) (h : Heap) : Prop := ∀ a o, H a = some o → ObjOk P w H h a o
end

section
variable {P : Program} {w : World} {H H' : Hp} {h h' : Heap} {a : Addr} {o : HO}
theorem ObjOk.lt (x : ObjOk P w H h a o) : a < h.objs.size := by
  cases o with
  | lst xs => obtain ⟨_, _, _, _, e⟩ := x; exact Heap.lt_size e
  | tup xs => obtain ⟨_, _, _, p⟩ := x; exact p.lt
  | dK kvs => obtain ⟨_, _, _, _, o, _, _, e, _⟩ := x; exact Heap.lt_size e
  | dT kvs => obtain ⟨_, _, _, _, o, _, _, e, _⟩ := x; exact Heap.lt_size e
  | set S n => obtain ⟨o, _, _, _, e, _⟩ := x; exact Heap.lt_size e
  | ins C dx fs => obtain ⟨_, _, _, e, _⟩ := x; exact Heap.lt_size e
  | own y => obtain ⟨_, e⟩ := x; exact Heap.lt_size e
  | xd fs => obtain ⟨_, ⟨_, _, _, e, _⟩, _⟩ := x; exact Heap.lt_size e
  | rng lo hi => obtain ⟨_, _, _, e⟩ := x; exact Heap.lt_size e
  | frz ob u => obtain ⟨e, _⟩ := x; exact Heap.lt_size e
  | tbl ps => exact Heap.lt_size (show h.get? a = some _ from x)
  | met f y => exact Heap.lt_size (show h.get? a = some _ from x)
  | ext φ => obtain ⟨_, ⟨_, e⟩, _⟩ := x; exact Heap.lt_size e
theorem Paired.mapP {α β : Type} {F G : α → β → Prop} : ∀ {l₁ : List α} {l₂ : List β}, Paired F l₁ l₂ → (∀ a b, F a b → G a b) → Paired G l₁ l₂
  | _, _, .nil, _ => .nil
  | _, _, .cons r t, f => .cons (f _ _ r) (Paired.mapP t f)
/-- what an object's description leans on: its own object, its own dict, the tuples -/
theorem ObjOk.stay (x : ObjOk P w H h a o) (k : ∀ b u, (b = a ∨ H b = some (.own a)) → h.get? b = some u → h'.get? b = some u)
    (ho : ∀ b, H b = some (.own a) → H' b = some (.own a)) (ht : ∀ b xs, H b = some (.tup xs) → H' b = some (.tup xs)) : ObjOk P w H' h' a o := by
  induction o with
  | lst xs => obtain ⟨z, its, n, r, e⟩ := x; exact ⟨z, its, n, r, k _ _ (.inl rfl) e⟩
  | tup xs => obtain ⟨z, its, r, ob, e, c⟩ := x; exact ⟨z, its, r, ob, k _ _ (.inl rfl) e, c⟩
  | dK kvs => obtain ⟨z, y, vs, r, ob, es, ep, e, c⟩ := x; exact ⟨z, y, vs, r, ob, es, ep, k _ _ (.inl rfl) e, c⟩
  | dT kvs =>
    obtain ⟨z, y, xs, r, ob, es, ep, e, c⟩ := x
    exact ⟨z, y, xs, Paired.mapP r fun p q z => ⟨z.1, ht _ _ z.2.1, z.2.2⟩, ob, es, ep, k _ _ (.inl rfl) e, c⟩
  | set S n => obtain ⟨ob, es, ep, t, e, c⟩ := x; exact ⟨ob, es, ep, t, k _ _ (.inl rfl) e, c⟩
  | ins C dx fs =>
    obtain ⟨d, z, ne, e, mA, ⟨od, es, ep, e2, c⟩, r⟩ := x
    exact ⟨ho _ d, z, ne, k _ _ (.inl rfl) e, mA, ⟨od, es, ep, k _ _ (.inr d) e2, c⟩, r⟩
  | own y => obtain ⟨ob, e⟩ := x; exact ⟨ob, k _ _ (.inl rfl) e⟩
  | xd fs => obtain ⟨mA, ⟨od, es, ep, e, c⟩, r⟩ := x; exact ⟨mA, ⟨od, es, ep, k _ _ (.inl rfl) e, c⟩, r⟩
  | rng lo hi => obtain ⟨t, u, v, e⟩ := x; exact ⟨t, u, v, k _ _ (.inl rfl) e⟩
  | frz ob u ih => obtain ⟨e, q⟩ := x; exact ⟨k _ _ (.inl rfl) e, ih q⟩
  | tbl ps =>
    have e : h.get? a = some { cls := .none, data := .fields ps } := x
    show h'.get? a = some { cls := .none, data := .fields ps }
    exact k a _ (.inl rfl) e
  | met f y =>
    have e : h.get? a = some (PySem.W.methodObj (.ref f) (.ref y)) := x
    show h'.get? a = some (PySem.W.methodObj (.ref f) (.ref y))
    exact k a _ (.inl rfl) e
  | ext φ => obtain ⟨p, ⟨o, e⟩, st⟩ := x; exact ⟨st _ _ p fun o q => k _ _ (.inl rfl) q, ⟨o, k _ _ (.inl rfl) e⟩, st⟩
theorem HOk.lt (x : HOk P w H h) (e : H a = some o) : a < h.objs.size := (x a o e).lt
theorem HOk.fresh (x : HOk P w H h) (e : h.objs.size ≤ a) : H a = none := by
  cases q : H a with
  | none => rfl
  | some u => exact absurd (Nat.lt_of_lt_of_le (x.lt q) e) (Nat.lt_irrefl _)
/-- every object of the heap is kept -/
theorem HOk.kept (x : HOk P w H h) (k : ∀ b u, h.get? b = some u → h'.get? b = some u) : HOk P w H h' := fun a o e =>
  (x a o e).stay (fun b u _ q => k b u q) (fun _ q => q) fun _ _ q => q
/-- a new object is laid and tracked -/
theorem HOk.laid (x : HOk P w H h) (k : ∀ b u, h.get? b = some u → h'.get? b = some u) (hp : h.objs.size ≤ a) (new : ObjOk P w (upd H a o) h' a o) : HOk P w (upd H a o) h' := fun b u e => by
  have hn := x.fresh hp
  by_cases hb : b = a
  · subst hb; rw [upd_same] at e; cases e; exact new
  · rw [upd_ne hb] at e
    exact (x b u e).stay (fun c v _ q => k c v q) (fun c q => by rw [upd_ne (ne_of_none q hn)]; exact q) fun c xs q => by rw [upd_ne (ne_of_none q hn)]; exact q
end

/-- what may be read as u: it is u, or a known u -/
def Rd (H : Hp) (a : Addr) (u : HO) : Prop := H a = some u ∨ ∃ o, H a = some (.frz o u)
theorem Rd.of {H : Hp} {a : Addr} {u : HO} (h : H a = some u) : Rd H a u := .inl h
theorem Rd.ok {P : Program} {w : World} {H : Hp} {h : Heap} {a : Addr} {u : HO} (r : Rd H a u) (x : HOk P w H h) : ObjOk P w H h a u := by
  rcases r with r | ⟨o, r⟩
  · exact x a u r
  · obtain ⟨_, q⟩ := x a _ r
    exact q
/-- what may be written -/
def Mut : Option HO → Prop
  | some (.lst _) => True
  | some (.dK _) => True
  | some (.dT _) => True
  | some (.set _ _) => True
  | some (.ins _ _ _) => True
  | some (.ext _) => True
  | _ => False
section
variable {P : Program} {w : World} {H : Hp} {h h' : Heap} {x e : Addr} {o' : HO}
/-- the object at e is changed: x itself, or the dict of the instance x -/
theorem HOk.write (ok : HOk P w H h) (mu : Mut (H x)) (he : e = x ∨ H e = some (.own x)) (k : ∀ b u, b ≠ e → h.get? b = some u → h'.get? b = some u) (heo : ∃ u, h'.get? e = some u)
    (new : ObjOk P w (upd H x o') h' x o') : HOk P w (upd H x o') h' := fun b u q => by
  have nown : ∀ c y, H c = some (.own y) → c ≠ x := fun c y r z => by subst z; rw [r] at mu; exact mu
  have ntup : ∀ c xs, H c = some (.tup xs) → c ≠ x := fun c xs r z => by subst z; rw [r] at mu; exact mu
  by_cases hb : b = x
  · subst hb; rw [upd_same] at q; cases q; exact new
  · rw [upd_ne hb] at q
    by_cases hbe : b = e
    · have q' : H b = some (.own x) := by
        rcases he with z | z
        · exact absurd (hbe.trans z) hb
        · rw [hbe]; exact z
      rw [q] at q'; cases q'
      obtain ⟨v, hv⟩ := heo
      exact ⟨v, by rw [hbe]; exact hv⟩
    · refine (ok b u q).stay (fun c v hc r => k c v ?_ r) (fun c r => by rw [upd_ne (nown c b r)]; exact r) fun c xs r => by rw [upd_ne (ntup c xs r)]; exact r
      rcases hc with rfl | hc
      · exact hbe
      · rintro rfl
        rcases he with z | z
        · exact nown c b hc z
        · rw [hc] at z; cases z; exact hb rfl
end

/-! ### kept unless tracked; of the frames at fs (the callers') the slots may change (an exception that passes writes there); of the records at ex (iterators) nothing is said -/
structure Un (fs ex : List Addr) (H H' : Hp) (h h' : Heap) : Prop where
  keep : ∀ b o, h.get? b = some o → H b = none → b ∉ fs → b ∉ ex → h'.get? b = some o
  slot : ∀ b o, h.get? b = some o → H b = none → b ∈ fs → b ∉ ex → ∃ sl, h'.get? b = some { o with slots := sl }
  free : ∀ b o, h.get? b = some o → H b = none → b ∉ ex → H' b = none
  there : ∀ b o, h.get? b = some o → b ∉ ex → ∃ o', h'.get? b = some o'
  tups : ∀ b xs, H b = some (.tup xs) → H' b = some (.tup xs)
  frzs : ∀ b o u, H b = some (.frz o u) → H' b = some (.frz o u)
  tbls : ∀ b ps, H b = some (.tbl ps) → ∃ more, H' b = some (.tbl (ps ++ more))
section
variable {fs fs' ex ex' : List Addr} {H H1 H2 : Hp} {h h1 h2 h' : Heap} {a x e : Addr} {o : HO}
theorem Un.any (u : Un fs ex H H1 h h1) {b : Addr} {ob : Obj} (q : h.get? b = some ob) (n : H b = none) (hx : b ∉ ex) : ∃ sl, h1.get? b = some { ob with slots := sl } := by
  by_cases hb : b ∈ fs
  · exact u.slot b ob q n hb hx
  · exact ⟨ob.slots, u.keep b ob q n hb hx⟩
theorem Un.trans (a : Un fs ex H H1 h h1) (b : Un fs ex H1 H2 h1 h2) : Un fs ex H H2 h h2 where
  keep := fun c ob q n hc hx => b.keep c ob (a.keep c ob q n hc hx) (a.free c ob q n hx) hc hx
  slot := fun c ob q n hc hx => by
    obtain ⟨sl, e1⟩ := a.slot c ob q n hc hx
    obtain ⟨sl', e2⟩ := b.slot c _ e1 (a.free c ob q n hx) hc hx
    exact ⟨sl', e2⟩
  free := fun c ob q n hx => by
    obtain ⟨o', e1⟩ := a.there c ob q hx
    exact b.free c o' e1 (a.free c ob q n hx) hx
  there := fun c ob q hx => by
    obtain ⟨o', e1⟩ := a.there c ob q hx
    exact b.there c o' e1 hx
  tups := fun c xs q => b.tups c xs (a.tups c xs q)
  frzs := fun c ob xs q => b.frzs c ob xs (a.frzs c ob xs q)
  tbls := fun c ps q => by
    obtain ⟨m1, e1⟩ := a.tbls c ps q
    obtain ⟨m2, e2⟩ := b.tbls c _ e1
    exact ⟨m1 ++ m2, by rw [e2, Array.append_assoc]⟩
theorem Un.kept (k : ∀ b u, h.get? b = some u → h'.get? b = some u) : Un fs ex H H h h' :=
  ⟨fun b ob q _ _ _ => k b ob q, fun b ob q _ _ _ => ⟨ob.slots, k b ob q⟩, fun _ _ _ n _ => n, fun b ob q _ => ⟨ob, k b ob q⟩, fun _ _ q => q, fun _ _ _ q => q, fun _ ps q => ⟨#[], by rw [q]; simp⟩⟩
theorem Un.refl : Un fs ex H H h h := Un.kept fun _ _ q => q
theorem Un.laid (k : ∀ b u, h.get? b = some u → h'.get? b = some u) (hp : h.objs.size ≤ a) (hn : H a = none) : Un fs ex H (upd H a o) h h' where
  keep := fun b u q _ _ _ => k b u q
  slot := fun b u q _ _ _ => ⟨u.slots, k b u q⟩
  free := fun b u q n _ => by rw [upd_ne (Nat.ne_of_lt (Nat.lt_of_lt_of_le (Heap.lt_size q) hp))]; exact n
  there := fun b u q _ => ⟨u, k b u q⟩
  tups := fun b xs q => by rw [upd_ne (ne_of_none q hn)]; exact q
  frzs := fun b u xs q => by rw [upd_ne (ne_of_none q hn)]; exact q
  tbls := fun b ps q => ⟨#[], by rw [upd_ne (ne_of_none q hn), q]; simp⟩
theorem Un.write (mu : Mut (H x)) (he : e = x ∨ H e = some (.own x)) (k : ∀ b u, b ≠ e → h.get? b = some u → h'.get? b = some u) (heo : ∃ u, h'.get? e = some u) : Un fs ex H (upd H x o) h h' := by
  have hx : ∀ b, H b = none → b ≠ x := fun b n z => by subst z; rw [n] at mu; exact mu
  have hb : ∀ b, H b = none → b ≠ e := fun b n z => by
    subst z
    rcases he with r | r
    · exact hx b n r
    · rw [n] at r; cases r
  have hm : ∀ b u, H b = some u → ¬ Mut (some u) → b ≠ x := fun b u q nm z => by subst z; rw [q] at mu; exact nm mu
  refine ⟨fun b u q n _ _ => k b u (hb b n) q, fun b u q n _ _ => ⟨u.slots, k b u (hb b n) q⟩, fun b u q n _ => by rw [upd_ne (hx b n)]; exact n, fun b u q _ => ?_,
    fun b xs q => by rw [upd_ne (hm b _ q fun z => z)]; exact q, fun b u xs q => by rw [upd_ne (hm b _ q fun z => z)]; exact q, fun b ps q => ⟨#[], by rw [upd_ne (hm b _ q fun z => z), q]; simp⟩⟩
  by_cases hbe : b = e
  · subst hbe; exact heo
  · exact ⟨u, k b u hbe q⟩
theorem Un.mono (u : Un fs ex H H1 h h1) (hs : ∀ b ∈ fs, b ∈ fs') (hx : ∀ b ∈ ex, b ∈ ex') : Un fs' ex' H H1 h h1 :=
  ⟨fun b ob q n hb he => u.keep b ob q n (fun z => hb (hs b z)) fun z => he (hx b z), fun _ _ q n _ he => u.any q n fun z => he (hx _ z), fun b ob q n he => u.free b ob q n fun z => he (hx b z), fun b ob q he => u.there b ob q fun z => he (hx b z), u.tups, u.frzs, u.tbls⟩
end

/-! ### the heap without what is tracked -/
def trk (h : Heap) (H : Hp) : List Addr := (List.range h.objs.size).filter fun a => (H a).isSome
def hidT (h : Heap) (H : Hp) : Heap := PySem.W.hideAll h (trk h H)
theorem hidT_size (h : Heap) (H : Hp) : (hidT h H).objs.size = h.objs.size := PySem.W.hideAll_size _ _
theorem hidT_get {h : Heap} {H : Hp} {b : Addr} {o : Obj} (e : h.get? b = some o) (n : H b = none) : (hidT h H).get? b = some o :=
  PySem.W.hideAll_get _ e fun hm => by
    have q : (H b).isSome = true := (List.mem_filter.mp hm).2
    rw [n] at q; simp at q
theorem of_hidT {h : Heap} {H : Hp} {b : Addr} {o : Obj} (e : (hidT h H).get? b = some o) : h.get? b = some o ∧ H b = none := by
  have e' : h.get? b = some o := PySem.W.of_hideAll (trk h H) e
  refine ⟨e', ?_⟩
  cases q : H b with
  | none => rfl
  | some x =>
    have hm : b ∈ trk h H := List.mem_filter.mpr ⟨List.mem_range.mpr (Heap.lt_size e'), by simp [q]⟩
    have z : (hidT h H).get? b = none := PySem.W.hideAll_none (trk h H) hm
    rw [z] at e; cases e

/-! ### OpenK's ledger, filled with every new object but one -/
def allNews (g h : Heap) (L : Addr) : List (Addr × Obj) := (List.range h.objs.size).filterMap fun a => if a = L ∨ (g.get? a).isSome = true then none else (h.get? a).map fun o => (a, o)
def rest (g h : Heap) (L d : Addr) : List (Addr × Obj) := (allNews g h L).filter fun p => decide (p.1 ≠ d)
end L2

namespace L2
open PySem PySem.Spec PyProof.Rows

/-- the module's facts, over the base: the heap at the law's entry without what is tracked there -/
structure Mod (K : PySem.W.Frag) (mg : Str → Option Value) (base : Heap) : Prop where
  kin : K.In base
  glob : base.Ns mainGlobals mg
  blt : ∃ mb, base.Ns builtinsNs mb ∧ ∀ x : Str, x ≠ "__name__" → mb x = bootBuiltins x
  nolimit : base.NoLimit

/-- the context: a def's body (or a comprehension's block) running. base: fixed through the whole law; s₀, H₀: the entry; outer: the frames whose slots others may change (a def's callers); stack: all frames that run;
   ex: iterators that were made ahead of the entry and are walked here (a comprehension's); fn: the names whose cells were made at the entry (a def: all; a comprehension's block: its own); calm: not within an except suite; pn: pins that every state bears; xe: what is wanted of an exception that leaves the code -/
structure Cx where
  prog : Program
  w : World
  K : PySem.W.Frag
  mg : Str → Option Value
  base : Heap
  A : Around
  N : List Str
  s₀ : Shared
  H₀ : Hp
  env : Env
  outer : List Env
  stack : List Env
  ex : List Addr
  fn : Str → Bool
  calm : Bool
  pn : List (Addr × Obj)
  xe : Value → Shared → Prop
/-- the callers' frames -/
def frs (l : List Env) : List Addr := l.filterMap (·.frame)
abbrev Cx.fs (X : Cx) : List Addr := frs X.outer

def Vis (sc : Scope) (x : Str) : Prop := sc.names.lookup x = some .local ∨ sc.names.lookup x = some .cell ∨ sc.names.lookup x = some .free
def Loc (sc : Scope) (x : Str) : Prop := sc.names.lookup x = some .local ∨ sc.names.lookup x = some .cell
def Look (env : Env) (h : Heap) (m : Str → Option Value) (x : Str) (u : Value) : Prop :=
  (env.kindOf x = some .local ∧ m x = some u) ∨ ((env.kindOf x = some .cell ∨ env.kindOf x = some .free) ∧ ∃ c, env.cells.lookup x = some c ∧ h.IsCell c (some u))

structure Cx.Ok (X : Cx) : Prop where
  mod : Mod X.K X.mg X.base
  kind : X.env.scope.kind = .function
  glob : X.env.globals = mainGlobals
  blt : X.env.builtins = builtinsNs
  above : X.s₀.heap.objs.size ≤ X.env.locals
  inj : ∀ x y c, X.env.cells.lookup x = some c → X.env.cells.lookup y = some c → x = y
  has : ∀ x, (X.env.kindOf x = some .cell ∨ X.env.kindOf x = some .free) → ∃ c, X.env.cells.lookup x = some c
  cab : ∀ x c, X.fn x = true → X.env.cells.lookup x = some c → X.s₀.heap.objs.size ≤ c
  hd : X.calm = true → X.A.handled = none
  frames : X.A.frames = some X.stack
  stk : X.stack = X.outer ∨ (X.stack = X.env :: X.outer ∧ X.env.frame = some X.env.locals)
  exf : ∀ b ∈ X.ex, b ≠ X.env.locals ∧ ∀ x c, X.env.cells.lookup x = some c → c ≠ b
  bs : ∀ b o, X.base.get? b = some o → X.s₀.heap.get? b = some o ∧ X.H₀ b = none
  bsz : X.base.objs.size ≤ X.s₀.heap.objs.size
  noex : ∀ b o, X.base.get? b = some o → b ∉ X.ex
  exfs : ∀ b ∈ X.ex, b ∉ X.fs
  funs : X.s₀.heap.FunFrames X.base X.outer
  frf : ∀ b ∈ X.fs, X.H₀ b = none

structure Inv (X : Cx) (pins : List (Addr × Obj)) (σ : List (Option V)) (H : Hp) (s : Shared) : Prop where
  ok : X.Ok
  os : s.os = X.s₀.os
  bare : AllBare s.gens
  base : Un X.fs X.ex X.H₀ H X.s₀.heap s.heap
  loc : ∃ m, s.heap.Ns X.env.locals m ∧ ∀ (i : Nat) (x : Str) (v : V), X.N[i]? = some x → σ[i]? = some (some v) → Vis X.env.scope x → ∃ u, RelV v u ∧ Look X.env s.heap m x u
  cell : ∀ x c, X.env.cells.lookup x = some c → ∃ v, s.heap.IsCell c v
  free : H X.env.locals = none
  freeC : ∀ x c, X.env.cells.lookup x = some c → H c = none
  pin : ∀ p ∈ X.pn ++ pins, s.heap.get? p.1 = some p.2 ∧ H p.1 = none ∧ p.1 ≠ X.env.locals ∧ p.1 ∉ X.fs ∧ ∀ v, p.2.data ≠ .cell v
  hok : HOk X.prog X.w H s.heap
  len : σ.length = X.N.length

section
variable {X : Cx} {pins : List (Addr × Obj)} {σ : List (Option V)} {H H' : Hp} {s : Shared} {h' : Heap}

theorem Cx.Ok.nofr (ok : X.Ok) {b : Addr} {o : Obj} (e : X.base.get? b = some o) : b ∉ X.fs := fun hb => by
  have := (ok.funs.mem hb).1
  rw [e] at this; cases this
theorem Inv.bs (I : Inv X pins σ H s) : ∀ b o, X.base.get? b = some o → s.heap.get? b = some o ∧ H b = none := fun b o e =>
  ⟨I.base.keep b o (I.ok.bs b o e).1 (I.ok.bs b o e).2 (I.ok.nofr e) (I.ok.noex b o e), I.base.free b o (I.ok.bs b o e).1 (I.ok.bs b o e).2 (I.ok.noex b o e)⟩
theorem Inv.bk (I : Inv X pins σ H s) : ∀ b o, X.base.get? b = some o → s.heap.get? b = some o := fun b o e => (I.bs b o e).1
theorem Inv.mod (I : Inv X pins σ H s) : Mod X.K X.mg X.base := I.ok.mod
theorem Inv.kIn (I : Inv X pins σ H s) : X.K.In s.heap := I.ok.mod.kin.keeps I.bk
theorem Inv.nolimit (I : Inv X pins σ H s) : s.heap.NoLimit := I.ok.mod.nolimit.keeps I.bk
/-- the frame over the base: for OpenK's rules (K.In X.base is I.mod.kin) -/
theorem Inv.fr (I : Inv X pins σ H s) : ∃ m, Fr X.base X.env.locals s.heap m :=
  let ⟨m, hn, _⟩ := I.loc
  ⟨m, hn, I.bk, Nat.le_trans I.ok.bsz I.ok.above⟩
theorem Inv.lt (I : Inv X pins σ H s) : X.env.locals < s.heap.objs.size := let ⟨_, hn, _⟩ := I.loc; hn.lt
theorem Inv.sz (I : Inv X pins σ H s) : X.s₀.heap.objs.size ≤ s.heap.objs.size := Nat.le_trans I.ok.above (Nat.le_of_lt I.lt)
theorem Inv.nofs (I : Inv X pins σ H s) {a : Addr} (h : s.heap.objs.size ≤ a) : a ∉ X.fs := fun hb => by
  obtain ⟨_, o, ho, _⟩ := I.ok.funs.mem hb
  exact absurd (Nat.lt_of_lt_of_le (Heap.lt_size ho) (Nat.le_trans I.sz h)) (Nat.lt_irrefl _)
theorem Inv.cne (I : Inv X pins σ H s) : ∀ x c, X.env.cells.lookup x = some c → c ≠ X.env.locals := fun x c e z => by
  obtain ⟨v, o, ho, hd⟩ := I.cell x c e
  obtain ⟨m, ⟨o', es, ep, ho', hd', _⟩, _⟩ := I.loc
  rw [z, ho'] at ho; cases ho; rw [hd'] at hd; cases hd
theorem Inv.funs (I : Inv X pins σ H s) : s.heap.FunFrames X.base X.outer := by
  have all : ∀ (l : List Env), (∀ b ∈ frs l, b ∈ X.fs) → X.s₀.heap.FunFrames X.base l → s.heap.FunFrames X.base l := by
    intro l
    induction l with
    | nil => intro _ _; trivial
    | cons env r ih =>
      intro hs hl
      obtain ⟨hk, ⟨L, o, hf, hn, ho, hd⟩, hr⟩ := hl
      have hL : L ∈ X.fs := hs L (by unfold frs; rw [List.filterMap_cons, hf]; exact List.mem_cons_self)
      obtain ⟨sl, e⟩ := I.base.slot L o ho (I.ok.frf L hL) hL fun z => I.ok.exfs L z hL
      exact ⟨hk, ⟨L, _, hf, hn, e, hd⟩, ih (fun b hb => hs b (by unfold frs; rw [List.filterMap_cons, hf]; exact List.mem_cons_of_mem _ hb)) hr⟩
  exact all X.outer (fun _ hb => hb) I.ok.funs

/-- the frames that run, for a call -/
theorem Inv.stack (I : Inv X pins σ H s) : s.heap.FunFrames X.base X.stack := by
  rcases I.ok.stk with e | ⟨e, hf⟩
  · rw [e]; exact I.funs
  · rw [e]
    obtain ⟨m, hn, _⟩ := I.loc
    refine .cons (by rw [I.ok.kind]; decide) hf hn ?_ I.funs
    exact Heap.get?_none_of_le (Nat.le_trans I.ok.bsz I.ok.above)
theorem Inv.stkSub (I : Inv X pins σ H s) : ∀ b ∈ frs X.stack, b ∈ X.env.locals :: X.fs := fun b hb => by
  rcases I.ok.stk with e | ⟨e, hf⟩
  · rw [e] at hb; exact List.mem_cons_of_mem _ hb
  · rw [e] at hb
    unfold frs at hb
    rw [List.filterMap_cons, hf] at hb
    exact hb
theorem Inv.stkFree (I : Inv X pins σ H s) : ∀ b ∈ frs X.stack, H b = none := fun b hb => by
  rcases List.mem_cons.mp (I.stkSub b hb) with e | hb
  · rw [e]; exact I.free
  · obtain ⟨_, o, ho, _⟩ := I.ok.funs.mem hb
    exact I.base.free b o ho (I.ok.frf b hb) fun z => I.ok.exfs b z hb

/-- THE STEP: the untracked objects but the frame and the records at ch are kept (the callers' frames up to slots), the frame's map is kept, the new abstract heap is held -/
theorem Inv.step {g' : Array GenState} {t' : Nat} {d' : Drawn} {ch : List Addr} (I : Inv X pins σ H s)
    (hch : ∀ b ∈ ch, (b ∈ X.ex ∨ X.s₀.heap.objs.size ≤ b) ∧ b ≠ X.env.locals ∧ (∀ x c, X.env.cells.lookup x = some c → c ≠ b) ∧ ∀ p ∈ X.pn ++ pins, p.1 ≠ b)
    (keep : ∀ b o, b ≠ X.env.locals → b ∉ X.fs → b ∉ ch → s.heap.get? b = some o → H b = none → h'.get? b = some o)
    (slot : ∀ b o, b ≠ X.env.locals → b ∈ X.fs → b ∉ ch → s.heap.get? b = some o → H b = none → ∃ sl, h'.get? b = some { o with slots := sl }) (free : ∀ b o, b ∉ ch → s.heap.get? b = some o → H b = none → H' b = none)
    (there : ∀ b o, b ∉ ch → s.heap.get? b = some o → ∃ o', h'.get? b = some o')
    (tups : ∀ b xs, H b = some (.tup xs) → H' b = some (.tup xs)) (frzs : ∀ b o u, H b = some (.frz o u) → H' b = some (.frz o u)) (tbls : ∀ b ps, H b = some (.tbl ps) → ∃ more, H' b = some (.tbl (ps ++ more)))
    (ns : ∀ m, s.heap.Ns X.env.locals m → h'.Ns X.env.locals m) (hok : HOk X.prog X.w H' h') (hg : AllBare g') :
    Inv X pins σ H' { s with heap := h', gens := g', drawn := d', toks := t' } := by
  have neL : ∀ b o, X.s₀.heap.get? b = some o → b ≠ X.env.locals := fun b o e => Nat.ne_of_lt (Nat.lt_of_lt_of_le (Heap.lt_size e) I.ok.above)
  have neC : ∀ b o, X.s₀.heap.get? b = some o → b ∉ X.ex → b ∉ ch := fun b o e hx hb => by
    rcases (hch b hb).1 with z | z
    · exact hx z
    · exact absurd (Nat.lt_of_lt_of_le (Heap.lt_size e) z) (Nat.lt_irrefl _)
  have cellK : ∀ x c, X.env.cells.lookup x = some c → ∀ v, s.heap.IsCell c v → h'.IsCell c v := fun x c e v ⟨o, ho, hd⟩ => by
    have nch : c ∉ ch := fun z => (hch c z).2.2.1 x c e rfl
    by_cases hc : c ∈ X.fs
    · obtain ⟨sl, q⟩ := slot c o (I.cne x c e) hc nch ho (I.freeC x c e)
      exact ⟨_, q, hd⟩
    · exact ⟨o, keep c o (I.cne x c e) hc nch ho (I.freeC x c e), hd⟩
  refine ⟨I.ok, I.os, hg, ⟨fun b o e n hb hx => ?_, fun b o e n hb hx => ?_, fun b o e n hx => ?_, fun b o e hx => ?_, fun b xs e => tups b xs (I.base.tups b xs e), fun b o xs e => frzs b o xs (I.base.frzs b o xs e), fun b ps e => ?_⟩, ?_, fun x c e => ?_, ?_, fun x c e => ?_, fun p hp => ?_, hok, I.len⟩
  · exact keep b o (neL b o e) hb (neC b o e hx) (I.base.keep b o e n hb hx) (I.base.free b o e n hx)
  · obtain ⟨sl, e1⟩ := I.base.slot b o e n hb hx
    obtain ⟨sl', e2⟩ := slot b _ (neL b o e) hb (neC b o e hx) e1 (I.base.free b o e n hx)
    exact ⟨sl', e2⟩
  · obtain ⟨o', e1⟩ := I.base.there b o e hx
    exact free b o' (neC b o e hx) e1 (I.base.free b o e n hx)
  · obtain ⟨o', e1⟩ := I.base.there b o e hx
    exact there b o' (neC b o e hx) e1
  · obtain ⟨m1, e1⟩ := I.base.tbls b ps e
    obtain ⟨m2, e2⟩ := tbls b _ e1
    exact ⟨m1 ++ m2, by rw [e2, Array.append_assoc]⟩
  · obtain ⟨m, hn, hl⟩ := I.loc
    refine ⟨m, ns m hn, fun i x v e1 e2 e3 => ?_⟩
    obtain ⟨u, r, l⟩ := hl i x v e1 e2 e3
    refine ⟨u, r, ?_⟩
    rcases l with l | ⟨k, c, e, z⟩
    · exact .inl l
    · exact .inr ⟨k, c, e, cellK x c e _ z⟩
  · obtain ⟨v, z⟩ := I.cell x c e
    exact ⟨v, cellK x c e v z⟩
  · obtain ⟨m, ⟨o, _, _, ho, _⟩, _⟩ := I.loc
    exact free _ o (fun z => (hch _ z).2.1 rfl) ho I.free
  · obtain ⟨v, o, ho, hd⟩ := I.cell x c e
    exact free c o (fun z => (hch c z).2.2.1 x c e rfl) ho (I.freeC x c e)
  · obtain ⟨e, n, ne, nf, d⟩ := I.pin p hp
    have nch : p.1 ∉ ch := fun z => (hch p.1 z).2.2.2 p hp rfl
    exact ⟨keep p.1 p.2 ne nf nch e n, free p.1 p.2 nch e n, ne, nf, d⟩
/-- .. where the frame's own object is kept too -/
theorem Inv.un {t' : Nat} (I : Inv X pins σ H s) (u : Un X.fs [] H H' s.heap h') (hok : HOk X.prog X.w H' h') : Inv X pins σ H' { s with heap := h', toks := t' } := by
  obtain ⟨m, ⟨o, es, ep, ho, r⟩, _⟩ := id I.loc
  obtain ⟨sl, hL⟩ := u.any ho I.free (by simp)
  exact I.step (g' := s.gens) (d' := s.drawn) (ch := []) (fun _ z => nomatch z) (fun b o _ hb _ e n => u.keep b o e n hb (by simp)) (fun b o _ hb _ e n => u.slot b o e n hb (by simp)) (fun b o _ e n => u.free b o e n (by simp)) (fun b o _ e => u.there b o e (by simp)) u.tups u.frzs u.tbls (fun m' hm => by
    obtain ⟨o', es', ep', ho', r'⟩ := hm
    rw [ho] at ho'; cases ho'
    exact ⟨_, es', ep', hL, r'⟩) hok I.bare
/-- behind a call (or a comprehension's block): the slots of this frame may have changed too, the records at ch may have turned -/
theorem Inv.call {g' : Array GenState} {t' : Nat} {d' : Drawn} {ch : List Addr} (I : Inv X pins σ H s) (u : Un (frs X.stack) ch H H' s.heap h') (hok : HOk X.prog X.w H' h') (hg : AllBare g')
    (hch : ∀ b ∈ ch, (b ∈ X.ex ∨ X.s₀.heap.objs.size ≤ b) ∧ b ≠ X.env.locals ∧ (∀ x c, X.env.cells.lookup x = some c → c ≠ b) ∧ ∀ p ∈ X.pn ++ pins, p.1 ≠ b) :
    Inv X pins σ H' { s with heap := h', gens := g', drawn := d', toks := t' } := by
  obtain ⟨m, ⟨o, es, ep, ho, r⟩, _⟩ := id I.loc
  obtain ⟨sl, hL⟩ := u.any ho I.free fun z => (hch _ z).2.1 rfl
  exact I.step (ch := ch) hch (fun b o hL hb hc e n => u.keep b o e n (fun z => (List.mem_cons.mp (I.stkSub b z)).elim hL hb) hc) (fun b o _ _ hc e n => u.any e n hc) (fun b o hc e n => u.free b o e n hc) (fun b o hc e => u.there b o e hc) u.tups u.frzs u.tbls (fun m' hm => by
    obtain ⟨o', es', ep', ho', r'⟩ := hm
    rw [ho] at ho'; cases ho'
    exact ⟨_, es', ep', hL, r'⟩) hok hg
/-- an untracked record of ours (an iterator) has turned -/
theorem Inv.turned {t' : Nat} {it : Addr} (I : Inv X pins σ H s) (k : ∀ b o, b ≠ it → s.heap.get? b = some o → h'.get? b = some o) (hn : H it = none) (hL : it ≠ X.env.locals)
    (h1 : it ∈ X.ex ∨ X.s₀.heap.objs.size ≤ it) (h2 : ∀ x c, X.env.cells.lookup x = some c → c ≠ it) (h3 : ∀ p ∈ X.pn ++ pins, p.1 ≠ it) : Inv X pins σ H { s with heap := h', toks := t' } := by
  have nit : ∀ b u, H b = some u → b ≠ it := fun b u e z => by rw [z, hn] at e; cases e
  refine I.step (g' := s.gens) (d' := s.drawn) (ch := [it]) (fun b hb => ?_) (fun b o _ _ hc e _ => k b o (fun z => hc (by simp [z])) e) (fun b o _ _ hc e _ => ⟨o.slots, k b o (fun z => hc (by simp [z])) e⟩) (fun _ _ _ _ n => n)
    (fun b o hc e => ⟨o, k b o (fun z => hc (by simp [z])) e⟩) (fun _ _ e => e) (fun _ _ _ e => e) (fun b ps e => ⟨#[], by rw [e]; simp⟩) (fun m hm => ?_) (fun b u e => ?_) I.bare
  · have e : b = it := by simpa using hb
    subst e
    exact ⟨h1, hL, h2, h3⟩
  · obtain ⟨o, es, ep, ho, r⟩ := hm
    exact ⟨o, es, ep, k _ o (Ne.symm hL) ho, r⟩
  · refine (I.hok b u e).stay (fun c v hc q => k c v ?_ q) (fun _ q => q) fun _ _ q => q
    rcases hc with z | z
    · rw [z]; exact nit b u e
    · exact nit c _ z
theorem Inv.tok (I : Inv X pins σ H s) (t : Nat) : Inv X pins σ H { s with toks := t } := I.un (h' := s.heap) (t' := t) Un.refl I.hok
/-- all objects kept -/
theorem Inv.kept {t' : Nat} (I : Inv X pins σ H s) (k : ∀ b u, s.heap.get? b = some u → h'.get? b = some u) : Inv X pins σ H { s with heap := h', toks := t' } := I.un (Un.kept k) (I.hok.kept k)
/-- a new object laid and tracked -/
theorem Inv.laid {a : Addr} {o : HO} {t' : Nat} (I : Inv X pins σ H s) (k : ∀ b u, s.heap.get? b = some u → h'.get? b = some u) (hp : s.heap.objs.size ≤ a) (new : ObjOk X.prog X.w (upd H a o) h' a o) :
    Inv X pins σ (upd H a o) { s with heap := h', toks := t' } := I.un (Un.laid k hp (I.hok.fresh hp)) (I.hok.laid k hp new)
/-- an object written -/
theorem Inv.write {x e : Addr} {o : HO} {t' : Nat} (I : Inv X pins σ H s) (mu : Mut (H x)) (he : e = x ∨ H e = some (.own x)) (k : ∀ b u, b ≠ e → s.heap.get? b = some u → h'.get? b = some u) (heo : ∃ u, h'.get? e = some u)
    (new : ObjOk X.prog X.w (upd H x o) h' x o) : Inv X pins σ (upd H x o) { s with heap := h', toks := t' } := I.un (Un.write mu he k heo) (I.hok.write mu he k heo new)
theorem Inv.pins_of {pins' : List (Addr × Obj)} (I : Inv X pins σ H s) (h : ∀ p ∈ pins', s.heap.get? p.1 = some p.2 ∧ H p.1 = none ∧ p.1 ≠ X.env.locals ∧ p.1 ∉ X.fs ∧ ∀ v, p.2.data ≠ .cell v) : Inv X pins' σ H s :=
  ⟨I.ok, I.os, I.bare, I.base, I.loc, I.cell, I.free, I.freeC, fun p hp => (List.mem_append.mp hp).elim (fun z => I.pin p (List.mem_append_left _ z)) (h p), I.hok, I.len⟩

theorem nodup_ix {N : List Str} (hN : N.Nodup) {i j : Nat} {x : Str} (a : N[i]? = some x) (b : N[j]? = some x) : i = j := by
  obtain ⟨h1, e1⟩ := List.getElem?_eq_some_iff.mp a
  obtain ⟨h2, e2⟩ := List.getElem?_eq_some_iff.mp b
  exact (List.getElem_inj hN).mp (e1.trans e2.symm)

/-- a name is stored; what changed -/
theorem store_ok2 {M : Model} {A : Around} {E : Value → Shared → Prop} {i : Nat} {x : Str} {v : V} {u : Value} {Q : Unit → Shared → Prop} (I : Inv X pins σ H s) (hN : X.N.Nodup) (hi : X.N[i]? = some x) (hx : Loc X.env.scope x) (r : RelV v u)
    (h : ∀ s', Inv X pins (σ.set i (some v)) H s' → (∃ a, Heap.SameBut a s.heap s'.heap ∧ (a = X.env.locals ∨ X.env.cells.lookup x = some a)) → Q () s') (hf : X.fn x = true ∨ X.env.scope.names.lookup x = some .local := by first | exact .inl rfl | exact .inr rfl | assumption) : wpAny M A (storeName X.env x u) Q E s := by
  obtain ⟨m, hn, hl⟩ := id I.loc
  have hcls : (X.env.scope.kind == .class || (X.env.scope.kind == .module && X.env.locals != X.env.globals)) = false := by rw [I.ok.kind]; rfl
  have hiσ : i < σ.length := by rw [I.len]; exact (List.getElem?_eq_some_iff.mp hi).1
  have cne := I.cne
  have tracked : ∀ {a : Addr} {h' : Heap}, (∃ o, s.heap.get? a = some o ∧ H a = none) → Heap.SameBut a s.heap h' → HOk X.prog X.w H h' := fun {a h'} ha hs b ob e => by
    obtain ⟨_, _, hfree⟩ := ha
    refine (I.hok b ob e).stay (fun c w' hc q => (hs.2 c ?_).trans q) (fun _ q => q) fun _ _ q => q
    rintro rfl
    rcases hc with rfl | hc
    · rw [hfree] at e; cases e
    · rw [hfree] at hc; cases hc
  rcases hx with hk | hk
  · refine wpAny_storeName_local hk hn (fun h' hn' hs => ?_) hcls
    obtain ⟨oL, _, _, hoL, _⟩ := id hn
    refine h _ ⟨I.ok, I.os, I.bare, ⟨fun b o e n hb hx => ?_, fun b o e n hb hx => ?_, I.base.free, fun b o e hx => ?_, I.base.tups, I.base.frzs, I.base.tbls⟩, ⟨_, hn', fun j y v' e1 e2 e3 => ?_⟩, fun y c e => ?_, I.free, I.freeC, fun p hp => ?_, tracked ⟨oL, hoL, I.free⟩ hs, by simpa using I.len⟩ ⟨_, hs, .inl rfl⟩
    · exact (hs.2 b (Nat.ne_of_lt (Nat.lt_of_lt_of_le (Heap.lt_size e) I.ok.above))).trans (I.base.keep b o e n hb hx)
    · obtain ⟨sl, e1⟩ := I.base.slot b o e n hb hx
      exact ⟨sl, (hs.2 b (Nat.ne_of_lt (Nat.lt_of_lt_of_le (Heap.lt_size e) I.ok.above))).trans e1⟩
    · obtain ⟨o', e1⟩ := I.base.there b o e hx
      exact ⟨o', (hs.2 b (Nat.ne_of_lt (Nat.lt_of_lt_of_le (Heap.lt_size e) I.ok.above))).trans e1⟩
    · by_cases hj : j = i
      · subst hj
        rw [hi] at e1; cases e1
        rw [List.getElem?_set_self hiσ] at e2
        cases e2
        exact ⟨u, r, .inl ⟨hk, by simp⟩⟩
      · rw [List.getElem?_set_ne (Ne.symm hj)] at e2
        obtain ⟨u', r', q⟩ := hl j y v' e1 e2 e3
        refine ⟨u', r', ?_⟩
        rcases q with ⟨k, e⟩ | ⟨k, c, e, z⟩
        · refine .inl ⟨k, ?_⟩
          have : y ≠ x := fun e => hj (nodup_ix hN e1 (e ▸ hi))
          simp [this, e]
        · exact .inr ⟨k, c, e, z.sameBut hs (cne y c e)⟩
    · obtain ⟨w', z⟩ := I.cell y c e
      exact ⟨w', z.sameBut hs (cne y c e)⟩
    · obtain ⟨e, n, ne, nf, d⟩ := I.pin p hp
      exact ⟨(hs.2 p.1 ne).trans e, n, ne, nf, d⟩
  · have hfn : X.fn x = true := by
      rcases hf with z | z
      · exact z
      · rw [z] at hk; cases hk
    obtain ⟨c, hc⟩ := I.ok.has x (.inl hk)
    obtain ⟨w', z⟩ := I.cell x c hc
    refine wpAny_storeName_cell I.ok.kind hk hc z (fun h' hc' hs => ?_)
    obtain ⟨oc, hoc, hocd⟩ := id z
    refine h { s with heap := h' } ⟨I.ok, I.os, I.bare, ⟨fun b o e n hb hx => ?_, fun b o e n hb hx => ?_, I.base.free, fun b o e hx => ?_, I.base.tups, I.base.frzs, I.base.tbls⟩, ⟨m, hn.sameBut hs (Ne.symm (cne x c hc)), fun j y v' e1 e2 e3 => ?_⟩, fun y c' e => ?_, I.free, I.freeC, fun p hp => ?_, tracked ⟨oc, hoc, I.freeC x c hc⟩ hs, by simpa using I.len⟩ ⟨c, hs, .inr hc⟩
    · exact (hs.2 b (Nat.ne_of_lt (Nat.lt_of_lt_of_le (Heap.lt_size e) (I.ok.cab x c hfn hc)))).trans (I.base.keep b o e n hb hx)
    · obtain ⟨sl, e1⟩ := I.base.slot b o e n hb hx
      exact ⟨sl, (hs.2 b (Nat.ne_of_lt (Nat.lt_of_lt_of_le (Heap.lt_size e) (I.ok.cab x c hfn hc)))).trans e1⟩
    · obtain ⟨o', e1⟩ := I.base.there b o e hx
      exact ⟨o', (hs.2 b (Nat.ne_of_lt (Nat.lt_of_lt_of_le (Heap.lt_size e) (I.ok.cab x c hfn hc)))).trans e1⟩
    · by_cases hj : j = i
      · subst hj
        rw [hi] at e1; cases e1
        rw [List.getElem?_set_self hiσ] at e2
        cases e2
        exact ⟨u, r, .inr ⟨.inl hk, c, hc, hc'⟩⟩
      · rw [List.getElem?_set_ne (Ne.symm hj)] at e2
        obtain ⟨u', r', q⟩ := hl j y v' e1 e2 e3
        refine ⟨u', r', ?_⟩
        rcases q with q | ⟨k, c', e, z'⟩
        · exact .inl q
        · refine .inr ⟨k, c', e, z'.sameBut hs ?_⟩
          rintro rfl
          exact hj (nodup_ix hN e1 (I.ok.inj _ _ _ e hc ▸ hi))
    · by_cases hcc : c' = c
      · subst hcc; exact ⟨_, hc'⟩
      · obtain ⟨w2, z2⟩ := I.cell y c' e
        exact ⟨w2, z2.sameBut hs hcc⟩
    · obtain ⟨e, n, ne, nf, d⟩ := I.pin p hp
      refine ⟨(hs.2 p.1 ?_).trans e, n, ne, nf, d⟩
      intro q
      rw [q, hoc] at e
      have q' : oc = p.2 := Option.some.inj e
      exact d w' (by rw [← q']; exact hocd)
theorem store_ok {M : Model} {A : Around} {E : Value → Shared → Prop} {i : Nat} {x : Str} {v : V} {u : Value} {Q : Unit → Shared → Prop} (I : Inv X pins σ H s) (hN : X.N.Nodup) (hi : X.N[i]? = some x) (hx : Loc X.env.scope x) (r : RelV v u)
    (h : ∀ s', Inv X pins (σ.set i (some v)) H s' → Q () s') (hf : X.fn x = true ∨ X.env.scope.names.lookup x = some .local := by first | exact .inl rfl | exact .inr rfl | assumption) : wpAny M A (storeName X.env x u) Q E s :=
  store_ok2 I hN hi hx r (fun s' I' _ => h s' I') hf
/-- behind a call or a block, the state as it is -/
theorem Inv.call' {s' : Shared} {ch : List Addr} (I : Inv X pins σ H s) (ho : s'.os = s.os) (u : Un (frs X.stack) ch H H' s.heap s'.heap) (hok : HOk X.prog X.w H' s'.heap) (hg : AllBare s'.gens)
    (hch : ∀ b ∈ ch, (b ∈ X.ex ∨ X.s₀.heap.objs.size ≤ b) ∧ b ≠ X.env.locals ∧ (∀ x c, X.env.cells.lookup x = some c → c ≠ b) ∧ ∀ p ∈ X.pn ++ pins, p.1 ≠ b) : Inv X pins σ H' s' := by
  obtain ⟨h', g', d', t', o'⟩ := s'
  have e : o' = s.os := ho
  subst e
  exact I.call (g' := g') (t' := t') (d' := d') u hok hg hch
end

/-! ### the judgements -/
/-- an exception: its class, its own dict's address (where it has one), the abstract heap behind it -/
abbrev XK := Value → Option Addr → Hp → Prop
abbrev St := List (Option V)
abbrev VK := V → Hp → Prop
/-- an expression's reading; a test's; an argument list's -/
abbrev TE := St → Hp → VK → Prop
abbrev TT := St → Hp → (Bool → Hp → Prop) → Prop
abbrev TA := St → Hp → (List V → Hp → Prop) → Prop
/-- what is wanted behind a statement -/
structure Ends where
  nx : St → Hp → Prop
  rt : VK
  bk : St → Hp → Prop := fun _ _ => False
  ct : St → Hp → Prop := fun _ _ => False
abbrev TS := Ends → St → Hp → Prop

def EP (X : Cx) (pins : List (Addr × Obj)) (σ : St) (Q : VK) (u : Value) (s' : Shared) : Prop := ∃ v H', Inv X pins σ H' s' ∧ RelV v u ∧ Q v H'
def TP (X : Cx) (pins : List (Addr × Obj)) (σ : St) (Q : Bool → Hp → Prop) (b : Bool) (s' : Shared) : Prop := ∃ H', Inv X pins σ H' s' ∧ Q b H'
def AP (X : Cx) (pins : List (Addr × Obj)) (σ : St) (Q : List V → Hp → Prop) (us : List Value) (s' : Shared) : Prop := ∃ vs H', Inv X pins σ H' s' ∧ Vals vs us ∧ Q vs H'
def SP (X : Cx) (pins : List (Addr × Obj)) (D : Ends) (f : Flow) (s' : Shared) : Prop :=
  match f with
  | .next => ∃ σ' H', Inv X pins σ' H' s' ∧ D.nx σ' H'
  | .brk => ∃ σ' H', Inv X pins σ' H' s' ∧ D.bk σ' H'
  | .cont => ∃ σ' H', Inv X pins σ' H' s' ∧ D.ct σ' H'
  | .ret u => ∃ v σ' H', Inv X pins σ' H' s' ∧ RelV v u ∧ D.rt v H'

structure PE (X : Cx) (e : Expr) (t : TE)  : Prop where
  go : ∀ (pins : List (Addr × Obj)) (s : Shared) (σ : St) (H : Hp) (Q : VK), Inv X pins σ H s → t σ H Q → wpAny (model X.prog X.w) X.A (eval e X.env) (EP X pins σ Q) X.xe s
instance {X : Cx} {e : Expr} {t : TE} : CoeFun (PE X e t) (fun _ => ∀ (pins : List (Addr × Obj)) (s : Shared) (σ : St) (H : Hp) (Q : VK), Inv X pins σ H s → t σ H Q → wpAny (model X.prog X.w) X.A (eval e X.env) (EP X pins σ Q) X.xe s) := ⟨PE.go⟩
structure PT (X : Cx) (e : Expr) (t : TT)  : Prop where
  go : ∀ (pins : List (Addr × Obj)) (s : Shared) (σ : St) (H : Hp) (Q : Bool → Hp → Prop), Inv X pins σ H s → t σ H Q → wpAny (model X.prog X.w) X.A (isTrue e X.env (eval e X.env)) (TP X pins σ Q) X.xe s
instance {X : Cx} {e : Expr} {t : TT} : CoeFun (PT X e t) (fun _ => ∀ (pins : List (Addr × Obj)) (s : Shared) (σ : St) (H : Hp) (Q : Bool → Hp → Prop), Inv X pins σ H s → t σ H Q → wpAny (model X.prog X.w) X.A (isTrue e X.env (eval e X.env)) (TP X pins σ Q) X.xe s) := ⟨PT.go⟩
/-- a test whatever its 'whole' is (and, or) -/
structure PW (X : Cx) (e : Expr) (t : TT)  : Prop where
  go : ∀ (whole : Sem Value) (pins : List (Addr × Obj)) (s : Shared) (σ : St) (H : Hp) (Q : Bool → Hp → Prop), Inv X pins σ H s → t σ H Q → wpAny (model X.prog X.w) X.A (isTrue e X.env whole) (TP X pins σ Q) X.xe s
instance {X : Cx} {e : Expr} {t : TT} : CoeFun (PW X e t) (fun _ => ∀ (whole : Sem Value) (pins : List (Addr × Obj)) (s : Shared) (σ : St) (H : Hp) (Q : Bool → Hp → Prop), Inv X pins σ H s → t σ H Q → wpAny (model X.prog X.w) X.A (isTrue e X.env whole) (TP X pins σ Q) X.xe s) := ⟨PW.go⟩
theorem PW.pt {X : Cx} {e : Expr} {t : TT} (h : PW X e t) : PT X e t := ⟨h _⟩
/-- an argument list (no star), from the left -/
structure PA (X : Cx) (es : List Expr) (t : TA)  : Prop where
  go : ∀ (pos : Pos) (pins : List (Addr × Obj)) (s : Shared) (σ : St) (H : Hp) (Q : List V → Hp → Prop), Inv X pins σ H s → t σ H Q → wpAny (model X.prog X.w) X.A (spliced (backTo pos (starEach es X.env))) (AP X pins σ Q) X.xe s
instance {X : Cx} {es : List Expr} {t : TA} : CoeFun (PA X es t) (fun _ => ∀ (pos : Pos) (pins : List (Addr × Obj)) (s : Shared) (σ : St) (H : Hp) (Q : List V → Hp → Prop), Inv X pins σ H s → t σ H Q → wpAny (model X.prog X.w) X.A (spliced (backTo pos (starEach es X.env))) (AP X pins σ Q) X.xe s) := ⟨PA.go⟩
structure PS (X : Cx) (st : Stmt) (t : TS)  : Prop where
  go : ∀ (pins : List (Addr × Obj)) (s : Shared) (σ : St) (H : Hp) (D : Ends), Inv X pins σ H s → t D σ H → wpAny (model X.prog X.w) X.A (exec st X.env) (SP X pins D) X.xe s
instance {X : Cx} {st : Stmt} {t : TS} : CoeFun (PS X st t) (fun _ => ∀ (pins : List (Addr × Obj)) (s : Shared) (σ : St) (H : Hp) (D : Ends), Inv X pins σ H s → t D σ H → wpAny (model X.prog X.w) X.A (exec st X.env) (SP X pins D) X.xe s) := ⟨PS.go⟩
structure PSs (X : Cx) (st : List Stmt) (t : TS)  : Prop where
  go : ∀ (pins : List (Addr × Obj)) (s : Shared) (σ : St) (H : Hp) (D : Ends), Inv X pins σ H s → t D σ H → wpAny (model X.prog X.w) X.A (execs st X.env) (SP X pins D) X.xe s
instance {X : Cx} {st : List Stmt} {t : TS} : CoeFun (PSs X st t) (fun _ => ∀ (pins : List (Addr × Obj)) (s : Shared) (σ : St) (H : Hp) (D : Ends), Inv X pins σ H s → t D σ H → wpAny (model X.prog X.w) X.A (execs st X.env) (SP X pins D) X.xe s) := ⟨PSs.go⟩
/-- weaken the end -/
theorem thn {α : Type} {t : Sem α} {Q Q' : α → Shared → Prop} {M : Model} {A : Around} {E : Value → Shared → Prop} {s : Shared} (h : wpAny M A t Q E s) (hQ : ∀ a s, Q a s → Q' a s) : wpAny M A t Q' E s := wpAny_mono h hQ fun _ _ x => x
end L2

namespace L2
open PySem PySem.Spec PyProof.Rows
section
variable {X : Cx}

/-! ### names and constants -/
def tVar (i : Nat) : TE := fun σ H Q => ∃ v, σ[i]? = some (some v) ∧ Q v H
def tC (v : V) : TE := fun _ H Q => Q v H
theorem pe_var {i : Nat} {x : Str} {pos : Pos} (hN : X.N[i]? = some x) (hv : Vis X.env.scope x) (hd : (x == ("__debug__" : Str)) = false := by decide) (hcd : (x == ("__classdict__" : Str)) = false := by decide) : PE X (.Name x pos) (tVar i) := by
  refine ⟨?_⟩
  intro pins s σ H Q I h
  obtain ⟨v, e, h⟩ := h
  obtain ⟨m, hn, hl⟩ := I.loc
  obtain ⟨u, r, l⟩ := hl i x v hN e hv
  have fin : EP X pins σ Q u s := ⟨v, H, I, r, h⟩
  rcases l with ⟨hk, hm⟩ | ⟨hk, c, hc, hcell⟩
  · exact wpAny_Name (wpAny_loadName_local I.ok.kind hk hn hm fin) hd
  · rcases hk with hk | hk
    · exact wpAny_Name (wpAny_loadName_cell I.ok.kind hk hc hcell fin) hd
    · exact wpAny_Name (wpAny_loadName_free I.ok.kind hk hc hcell fin hcd) hd
theorem pe_int {i j pos} : PE X (.Constant (.int i) j pos) (tC (.int i)) := ⟨fun _ _ _ H _ I h => wpAny_Constant_int ⟨.int i, H, I.tok _, ⟨_, rfl⟩, h⟩⟩
theorem pe_bl {b j pos} : PE X (.Constant (.bool b) j pos) (tC (.bl b)) := ⟨fun _ _ _ H _ I h => Constant_bool ⟨.bl b, H, I, rfl, h⟩⟩
theorem pe_non {j pos} : PE X (.Constant .none j pos) (tC .non) := ⟨fun _ _ _ H _ I h => Constant_none ⟨.non, H, I, rfl, h⟩⟩
theorem pe_str {x j pos} : PE X (.Constant (.str x) j pos) (tC (.str x)) := ⟨fun _ _ _ H _ I h => Calls.Constant_str ⟨.str x, H, I.tok _, ⟨_, rfl⟩, h⟩⟩
/-- a global name of the def -/
def Gl (X : Cx) (x : Str) : Prop := X.env.kindOf x = some .globalImplicit
theorem ld_glob {E : Value → Shared → Prop} {pins : List (Addr × Obj)} {s : Shared} {σ : St} {H : Hp} {x : Str} {u : Value} {pos : Pos} {Q : Value → Shared → Prop} (I : Inv X pins σ H s) (hg : Gl X x) (hm : X.mg x = some u) (h : Q u s)
    (hd : (x == ("__debug__" : Str)) = false := by decide) : wpAny (model X.prog X.w) X.A (eval (.Name x pos) X.env) Q E s :=
  Calls.Name_function_global I.ok.kind hg (Calls.loadGlobal_global (by rw [I.ok.glob]; exact I.mod.glob.keeps I.bk) hm h) hd
theorem ld_blt {E : Value → Shared → Prop} {pins : List (Addr × Obj)} {s : Shared} {σ : St} {H : Hp} {x : Str} {u : Value} {pos : Pos} {Q : Value → Shared → Prop} (I : Inv X pins σ H s) (hg : Gl X x) (hm : X.mg x = none) (hv : bootBuiltins x = some u) (h : Q u s)
    (hn : x ≠ "__name__" := by decide) (hd : (x == ("__debug__" : Str)) = false := by decide) : wpAny (model X.prog X.w) X.A (eval (.Name x pos) X.env) Q E s := by
  obtain ⟨mb, h1, h2⟩ := I.mod.blt
  exact Calls.Name_function_global I.ok.kind hg (Calls.loadGlobal_builtin (by rw [I.ok.glob]; exact I.mod.glob.keeps I.bk) hm (by rw [I.ok.blt]; exact h1.keeps I.bk) ((h2 x hn).trans hv) h) hd
/-- a module's constant, a class, a function, as a value -/
theorem pe_glob {x : Str} {v : V} {u : Value} {pos : Pos} (hg : Gl X x) (hm : X.mg x = some u) (r : RelV v u) (hd : (x == ("__debug__" : Str)) = false := by decide) : PE X (.Name x pos) (tC v) := ⟨fun _ _ _ H _ I h => ld_glob I hg hm ⟨v, H, I, r, h⟩ hd⟩
theorem pe_bltn {x : Str} {v : V} {u : Value} {pos : Pos} (hg : Gl X x) (hm : X.mg x = none) (hv : bootBuiltins x = some u) (r : RelV v u) (hn : x ≠ "__name__" := by decide) (hd : (x == ("__debug__" : Str)) = false := by decide) : PE X (.Name x pos) (tC v) := ⟨fun _ _ _ H _ I h => ld_blt I hg hm hv ⟨v, H, I, r, h⟩ hn hd⟩
/-! ### arithmetic -/
/-- two ints -/
def t2I (ta tb : TE) (k : Int → Int → Hp → Prop) : St → Hp → Prop := fun σ H => ta σ H fun x H1 => tb σ H1 fun y H2 => ∃ i j, x = .int i ∧ y = .int j ∧ k i j H2
def tAdd (ta tb : TE) : TE := fun σ H Q => t2I ta tb (fun i j H2 => Q (.int (i + j)) H2) σ H
def tSub (ta tb : TE) : TE := fun σ H Q => t2I ta tb (fun i j H2 => Q (.int (i - j)) H2) σ H
/-- the left factor below 2^64 -/
def tMul (ta tb : TE) : TE := fun σ H Q => t2I ta tb (fun i j H2 => (-(2 ^ 64) < i ∧ i < 2 ^ 64) ∧ Q (.int (i * j)) H2) σ H
variable {a b : Expr} {ta tb : TE} {pos : Pos}
/-! ### comparisons -/
structure PC (X : Cx) (op : CmpOp) (a b : Expr) (t : TE)  : Prop where
  go : ∀ (pins : List (Addr × Obj)) (s : Shared) (σ : St) (H : Hp) (Q : VK), Inv X pins σ H s → t σ H Q →
    wpAny (model X.prog X.w) X.A (eval a X.env) (fun v s₁ => wpAny (model X.prog X.w) X.A (eval b X.env) (fun u s₂ => wpAny (model X.prog X.w) X.A (compareOp op v u) (EP X pins σ Q) X.xe s₂) X.xe s₁) X.xe s
instance {X : Cx} {op : CmpOp} {a b : Expr} {t : TE} : CoeFun (PC X op a b t) (fun _ => ∀ (pins : List (Addr × Obj)) (s : Shared) (σ : St) (H : Hp) (Q : VK), Inv X pins σ H s → t σ H Q →
    wpAny (model X.prog X.w) X.A (eval a X.env) (fun v s₁ => wpAny (model X.prog X.w) X.A (eval b X.env) (fun u s₂ => wpAny (model X.prog X.w) X.A (compareOp op v u) (EP X pins σ Q) X.xe s₂) X.xe s₁) X.xe s) := ⟨PC.go⟩
def tCmp (p : Int → Int → Bool) (ta tb : TE) : TE := fun σ H Q => t2I ta tb (fun i j H2 => Q (.bl (p i j)) H2) σ H
abbrev tLt : TE → TE → TE := tCmp fun i j => decide (i < j)
abbrev tLe : TE → TE → TE := tCmp fun i j => decide (i ≤ j)
abbrev tGt : TE → TE → TE := tCmp fun i j => decide (j < i)
abbrev tGe : TE → TE → TE := tCmp fun i j => decide (j ≤ i)
abbrev tEqI : TE → TE → TE := tCmp fun i j => decide (i = j)
abbrev tNeI : TE → TE → TE := tCmp fun i j => !decide (i = j)
/-- is None -/
def tIsN (ta : TE) : TE := fun σ H Q => ta σ H fun x H1 => Q (.bl (decide (x = .non))) H1
def tNotN (ta : TE) : TE := fun σ H Q => ta σ H fun x H1 => Q (.bl (!decide (x = .non))) H1
/-- a comparison as a value, as a test -/
def tB (t : TE) : TT := fun σ H Q => t σ H fun x H1 => ∃ c, x = .bl c ∧ Q c H1
/-- an expression whose value is a bool, as a test -/
theorem pt_val {e : Expr} {t : TE} (h : PE X e t) (he : ∀ whole, isTrue e X.env whole = (do let v ← whole; standAt e.pos; holding [v] (truthy v)) := by intro _; rfl) : PT X e (tB t) := by
  refine ⟨?_⟩
  intro pins s σ H Q I hw
  refine isTrue_plain (thn (h pins s σ H _ I hw) fun v s1 ⟨x, H1, I1, r1, q1⟩ => ?_) (he _)
  obtain ⟨d, rfl, q⟩ := q1
  cases r1
  exact wpAny_truthy_bool ⟨H1, I1, q⟩

/-! ### and, or, not -/
variable {tA tB' : TT} {rest : List Expr}
def tAnd (t u : TT) : TT := fun σ H Q => t σ H fun c H1 => if c = true then u σ H1 Q else Q false H1
def tOr (t u : TT) : TT := fun σ H Q => t σ H fun c H1 => if c = true then Q true H1 else u σ H1 Q
def tNot (t : TT) : TT := fun σ H Q => t σ H fun c H1 => Q (!c) H1
theorem pw_and1 (ha : PT X a tA) : PW X (.BoolOp .And [a] pos) tA := by
  refine ⟨?_⟩
  intro wh pins s σ H Q I h
  refine isTrue_and (thn (ha pins s σ H Q I h) fun c s1 e => ?_)
  cases c with
  | true => exact isTrue_and_nil e
  | false => exact e
theorem pw_or1 (ha : PT X a tA) : PW X (.BoolOp .Or [a] pos) tA := by
  refine ⟨?_⟩
  intro wh pins s σ H Q I h
  refine isTrue_or (thn (ha pins s σ H Q I h) fun c s1 e => ?_)
  cases c with
  | false => exact isTrue_or_nil e
  | true => exact e
theorem pw_and (ha : PT X a tA) (hb : PW X (.BoolOp .And (b :: rest) pos) tB') : PW X (.BoolOp .And (a :: b :: rest) pos) (tAnd tA tB') := by
  refine ⟨?_⟩
  intro wh pins s σ H Q I h
  refine isTrue_and (thn (ha pins s σ H _ I h) fun c s1 ⟨H1, I1, q1⟩ => ?_)
  cases c with
  | true => exact hb wh pins s1 σ H1 Q I1 q1
  | false => exact ⟨H1, I1, q1⟩
theorem pw_or (ha : PT X a tA) (hb : PW X (.BoolOp .Or (b :: rest) pos) tB') : PW X (.BoolOp .Or (a :: b :: rest) pos) (tOr tA tB') := by
  refine ⟨?_⟩
  intro wh pins s σ H Q I h
  refine isTrue_or (thn (ha pins s σ H _ I h) fun c s1 ⟨H1, I1, q1⟩ => ?_)
  cases c with
  | true => exact ⟨H1, I1, q1⟩
  | false => exact hb wh pins s1 σ H1 Q I1 q1
/-- .. as values (bools) -/
def tAndV (ta tb : TE) : TE := fun σ H Q => ta σ H fun x H1 => ∃ c, x = .bl c ∧ if c = true then tb σ H1 Q else Q (.bl false) H1
def tOrV (ta tb : TE) : TE := fun σ H Q => ta σ H fun x H1 => ∃ c, x = .bl c ∧ if c = true then Q (.bl true) H1 else tb σ H1 Q
def tNotV (ta : TE) : TE := fun σ H Q => ta σ H fun x H1 => ∃ c, x = .bl c ∧ Q (.bl (!c)) H1
/-- a if t else b -/
def tIf (t : TT) (ta tb : TE) : TE := fun σ H Q => t σ H fun c H1 => if c = true then ta σ H1 Q else tb σ H1 Q
theorem pe_ifExp {c : Expr} (hc : PT X c tA) (ha : PE X a ta) (hb : PE X b tb) : PE X (.IfExp c a b pos) (tIf tA ta tb) := by
  refine ⟨?_⟩
  intro pins s σ H Q I h
  refine wpAny_IfExp (thn (hc pins s σ H _ I h) fun d s1 ⟨H1, I1, q1⟩ => ?_)
  cases d with
  | true => exact ha pins s1 σ H1 Q I1 q1
  | false => exact hb pins s1 σ H1 Q I1 q1
end
end L2

namespace L2
open PySem PySem.Spec PyProof.Rows

/-! ### a list, a tuple that is read: tracked, frozen, or an object of the module -/
def SqL (K : PySem.W.Frag) (H : Hp) (a : Addr) (xs : List V) : Prop :=
  Rd H a (.lst xs) ∨
    ∃ (o : Obj) (its : Array Value) (n : Nat), K.lookup a = some o ∧ o.cls = .type "list" ∧ o.dict = none ∧ o.data = .seq its n ∧ its.size ≤ sizeLine ∧ Vals xs its.toList
def SqT (K : PySem.W.Frag) (H : Hp) (a : Addr) (xs : List V) : Prop :=
  Rd H a (.tup xs) ∨
    ∃ (o : Obj) (its : Array Value) (n : Nat), K.lookup a = some o ∧ o.cls = .type "tuple" ∧ o.data = .seq its n ∧ its.size ≤ sizeLine ∧ Vals xs its.toList
def absV : Value → Option V
  | .none => some .non
  | .bool b => some (.bl b)
  | .int i _ => some (.int i)
  | .str x _ => some (.str x)
  | .bytes b _ => some (.byt b)
  | .float b _ => some (.flt b)
  | .ref a => some (.ref a)
  | .type n => some (.ty n)
  | _ => none
theorem RelV.abs {x : V} {u : Value} (r : RelV x u) : absV u = some x := by
  cases x with
  | non => cases r; rfl
  | bl _ => cases r; rfl
  | int _ => obtain ⟨t, rfl⟩ := r; rfl
  | str _ => obtain ⟨t, rfl⟩ := r; rfl
  | byt _ => obtain ⟨t, rfl⟩ := r; rfl
  | flt _ => obtain ⟨t, rfl⟩ := r; rfl
  | ref _ => cases r; rfl
  | ty _ => cases r; rfl
theorem RelV.inj {x y : V} {u : Value} (r : RelV x u) (q : RelV y u) : x = y := Option.some.inj (r.abs.symm.trans q.abs)
theorem Vals.inj : ∀ {xs ys : List V} {us : List Value}, Vals xs us → Vals ys us → xs = ys
  | _, _, _, .nil, .nil => rfl
  | _, _, _, .cons r t, .cons r' t' => by rw [r.inj r', Vals.inj t t']
section
variable {X : Cx} {pins : List (Addr × Obj)} {σ : St} {H : Hp} {s : Shared} {a : Addr} {xs ys : List V}
theorem SqL.of {K : PySem.W.Frag} (h : H a = some (.lst xs)) : SqL K H a xs := .inl (.inl h)
theorem SqT.of {K : PySem.W.Frag} (h : H a = some (.tup xs)) : SqT K H a xs := .inl (.inl h)
theorem Inv.list (I : Inv X pins σ H s) (h : SqL X.K H a xs) : ∃ its : List Value, Vals xs its ∧ PlainL s.heap a its.toArray ∧ xs.length ≤ sizeLine := by
  rcases h with h | ⟨o, its, n, hk, hc, hd, hs, hz, r⟩
  · obtain ⟨z, its, n, r, e⟩ := h.ok I.hok
    exact ⟨its, r, ⟨_, n, e, rfl, rfl, rfl⟩, z⟩
  · refine ⟨its.toList, r, ⟨o, n, I.kIn a o hk, hc, hd, by simpa using hs⟩, ?_⟩
    have e := r.length
    simp only [Array.length_toList] at e
    omega
theorem Inv.tuple (I : Inv X pins σ H s) (h : SqT X.K H a xs) : ∃ its : List Value, Vals xs its ∧ IsTup s.heap a its.toArray ∧ xs.length ≤ sizeLine := by
  rcases h with h | ⟨o, its, n, hk, hc, hs, hz, r⟩
  · obtain ⟨z, its, r, p⟩ := h.ok I.hok
    exact ⟨its, r, p, z⟩
  · refine ⟨its.toList, r, ⟨o, I.kIn a o hk, hc, n, by simpa using hs⟩, ?_⟩
    have e := r.length
    simp only [Array.length_toList] at e
    omega
theorem Inv.tuple_inj (I : Inv X pins σ H s) (h : SqT X.K H a xs) (h' : SqT X.K H a ys) : xs = ys := by
  obtain ⟨its, r, ⟨o, e, _, n, d⟩, _⟩ := I.tuple h
  obtain ⟨its', r', ⟨o', e', _, n', d'⟩, _⟩ := I.tuple h'
  rw [e] at e'; cases e'
  rw [d] at d'
  injection d' with d1 _
  have : its = its' := by simpa using congrArg Array.toList d1
  subst this
  exact r.inj r'
end

/-! ### another wish about exceptions -/
abbrev Cx.wish (X : Cx) (E : Value → Shared → Prop) : Cx := { X with xe := E }
/-- no exception leaves -/
abbrev Cx.nox (X : Cx) : Cx := X.wish fun _ _ => False
theorem Cx.Ok.wish {X : Cx} (ok : X.Ok) (E : Value → Shared → Prop) : (X.wish E).Ok :=
  ⟨ok.mod, ok.kind, ok.glob, ok.blt, ok.above, ok.inj, ok.has, ok.cab, ok.hd, ok.frames, ok.stk, ok.exf, ok.bs, ok.bsz, ok.noex, ok.exfs, ok.funs, ok.frf⟩
theorem Cx.Ok.unwish {X : Cx} {E : Value → Shared → Prop} (ok : (X.wish E).Ok) : X.Ok :=
  ⟨ok.mod, ok.kind, ok.glob, ok.blt, ok.above, ok.inj, ok.has, ok.cab, ok.hd, ok.frames, ok.stk, ok.exf, ok.bs, ok.bsz, ok.noex, ok.exfs, ok.funs, ok.frf⟩
section
variable {X : Cx} {pins : List (Addr × Obj)} {σ : St} {H : Hp} {s : Shared} {E : Value → Shared → Prop}
theorem Inv.wish (I : Inv X pins σ H s) (E : Value → Shared → Prop) : Inv (X.wish E) pins σ H s := ⟨I.ok.wish E, I.os, I.bare, I.base, I.loc, I.cell, I.free, I.freeC, I.pin, I.hok, I.len⟩
theorem Inv.unwish (I : Inv (X.wish E) pins σ H s) : Inv X pins σ H s := ⟨I.ok.unwish, I.os, I.bare, I.base, I.loc, I.cell, I.free, I.freeC, I.pin, I.hok, I.len⟩
theorem SP.unwish {D : Ends} {f : Flow} {s' : Shared} (h : SP (X.wish E) pins D f s') : SP X pins D f s' := by
  cases f with
  | next => obtain ⟨σ', H', I, q⟩ := h; exact ⟨σ', H', I.unwish, q⟩
  | brk => obtain ⟨σ', H', I, q⟩ := h; exact ⟨σ', H', I.unwish, q⟩
  | cont => obtain ⟨σ', H', I, q⟩ := h; exact ⟨σ', H', I.unwish, q⟩
  | ret u => obtain ⟨v, σ', H', I, r, q⟩ := h; exact ⟨v, σ', H', I.unwish, r, q⟩
theorem PE.nox {e : Expr} {t : TE} (h : PE X.nox e t) : PE X e t := ⟨fun pins s σ H Q I hw =>
  wpAny_mono (h pins s σ H Q (I.wish _) hw) (fun _ _ ⟨v, H', I', r, q⟩ => ⟨v, H', I'.unwish, r, q⟩) fun _ _ z => False.elim z⟩
theorem PT.nox {e : Expr} {t : TT} (h : PT X.nox e t) : PT X e t := ⟨fun pins s σ H Q I hw =>
  wpAny_mono (h pins s σ H Q (I.wish _) hw) (fun _ _ ⟨H', I', q⟩ => ⟨H', I'.unwish, q⟩) fun _ _ z => False.elim z⟩
theorem PSs.nox {st : List Stmt} {t : TS} (h : PSs X.nox st t) : PSs X st t := ⟨fun pins s σ H D I hw =>
  wpAny_mono (h pins s σ H D (I.wish _) hw) (fun _ _ q => q.unwish) fun _ _ z => False.elim z⟩
end

/-! ### blocks and small statements -/
section
variable {X : Cx} {st : Stmt} {rest : List Stmt} {t u : TS} {e : Expr} {te : TE} {pos : Pos}
def tNext : TS := fun D σ H => D.nx σ H
def tSeq (t u : TS) : TS := fun D σ H => t { D with nx := u D } σ H
theorem pss_nil : PSs X [] tNext := ⟨fun _ _ σ H _ I h => wpAny_execs_nil ⟨σ, H, I, h⟩⟩
theorem pss_cons (h1 : PS X st t) (h2 : PSs X rest u) : PSs X (st :: rest) (tSeq t u) := by
  refine ⟨?_⟩
  intro pins s σ H D I h
  refine wpAny_execs_cons (thn (h1 pins s σ H { D with nx := u D } I h) fun f s1 q => ?_)
  cases f with
  | next =>
    obtain ⟨σ', H', I', q⟩ := q
    exact h2 pins s1 σ' H' D I' q
  | ret v => exact q
  | brk => exact q
  | cont => exact q
theorem pss_one (h1 : PS X st t) : PSs X [st] t := by
  refine ⟨?_⟩
  intro pins s σ H D I h
  refine wpAny_execs_cons (thn (h1 pins s σ H D I h) fun f s1 q => ?_)
  cases f with
  | next => exact wpAny_execs_nil q
  | ret v => exact q
  | brk => exact q
  | cont => exact q
def tBreak : TS := fun D σ H => D.bk σ H
def tCont : TS := fun D σ H => D.ct σ H
/-- in a def's body nothing is shown -/
theorem Inv.quiet {pins : List (Addr × Obj)} {σ : St} {H : Hp} {s : Shared} (I : Inv X pins σ H s) : interactive X.env = false := by simp [interactive, I.ok.kind]
/-- an expression whose value is dropped -/
def tDrop (te : TE) : TS := fun D σ H => te σ H fun _ H1 => D.nx σ H1
theorem ps_expr (he : PE X e te) (hs : swapsWith e none pos.line X.env = pure false := by rfl) : PS X (.Expr e pos) (tDrop te) := by
  refine ⟨?_⟩
  intro pins s σ H D I h
  exact wpAny_Expr_any (thn (he pins s σ H _ I h) fun v s1 ⟨x, H1, I1, r1, q1⟩ => ⟨σ, H1, I1, q1⟩) I.quiet hs
def tRet (te : TE) : TS := fun D σ H => te σ H D.rt
theorem ps_ret (he : PE X e te) : PS X (.Return (some e) pos) (tRet te) := by
  refine ⟨?_⟩
  intro pins s σ H D I h
  exact wpAny_Return_some (thn (he pins s σ H _ I h) fun v s1 ⟨x, H1, I1, r1, q1⟩ => ⟨x, σ, H1, I1, r1, q1⟩)
def tRetN : TS := fun D _ H => D.rt .non H
def tIfS (c : TT) (t u : TS) : TS := fun D σ H => c σ H fun b H1 => if b = true then t D σ H1 else u D σ H1
theorem ps_if {c : Expr} {a b : List Stmt} {tc : TT} (hc : PT X c tc) (ha : PSs X a t) (hb : PSs X b u) : PS X (.If c a b pos) (tIfS tc t u) := by
  refine ⟨?_⟩
  intro pins s σ H D I h
  refine wpAny_If (thn (hc pins s σ H _ I h) fun d s1 ⟨H1, I1, q1⟩ => ?_)
  cases d with
  | true => exact ha pins s1 σ H1 D I1 q1
  | false => exact hb pins s1 σ H1 D I1 q1
/-- code that the proof never comes to -/
def tNever : TS := fun _ _ _ => False
end

/-! ### targets -/
abbrev TG := V → St → Hp → (St → Hp → Prop) → Prop
abbrev TGs := List V → St → Hp → (St → Hp → Prop) → Prop
structure PG (X : Cx) (target : Expr) (t : TG)  : Prop where
  go : ∀ (pins : List (Addr × Obj)) (s : Shared) (σ : St) (H : Hp) (v : V) (u : Value) (Q : St → Hp → Prop), Inv X pins σ H s → RelV v u → t v σ H Q →
    wpAny (model X.prog X.w) X.A (assign target X.env u) (fun _ s' => ∃ σ' H', Inv X pins σ' H' s' ∧ Q σ' H') X.xe s
instance {X : Cx} {target : Expr} {t : TG} : CoeFun (PG X target t) (fun _ => ∀ (pins : List (Addr × Obj)) (s : Shared) (σ : St) (H : Hp) (v : V) (u : Value) (Q : St → Hp → Prop), Inv X pins σ H s → RelV v u → t v σ H Q →
    wpAny (model X.prog X.w) X.A (assign target X.env u) (fun _ s' => ∃ σ' H', Inv X pins σ' H' s' ∧ Q σ' H') X.xe s) := ⟨PG.go⟩
/-- several targets, one after another -/
structure PGs (X : Cx) (ts : List Expr) (t : TGs)  : Prop where
  go : ∀ (pins : List (Addr × Obj)) (s : Shared) (σ : St) (H : Hp) (vs : List V) (us : List Value) (Q : St → Hp → Prop), Inv X pins σ H s → Vals vs us → t vs σ H Q →
    wpAny (model X.prog X.w) X.A (assignInOrder ((assignEach ts X.env).map (·.2)) us) (fun _ s' => ∃ σ' H', Inv X pins σ' H' s' ∧ Q σ' H') X.xe s
instance {X : Cx} {ts : List Expr} {t : TGs} : CoeFun (PGs X ts t) (fun _ => ∀ (pins : List (Addr × Obj)) (s : Shared) (σ : St) (H : Hp) (vs : List V) (us : List Value) (Q : St → Hp → Prop), Inv X pins σ H s → Vals vs us → t vs σ H Q →
    wpAny (model X.prog X.w) X.A (assignInOrder ((assignEach ts X.env).map (·.2)) us) (fun _ s' => ∃ σ' H', Inv X pins σ' H' s' ∧ Q σ' H') X.xe s) := ⟨PGs.go⟩
/-- o[i] = v, by values -/
abbrev TSet := V → V → V → Hp → (Hp → Prop) → Prop
def PSet (X : Cx) (t : TSet) : Prop :=
  ∀ (pins : List (Addr × Obj)) (s : Shared) (σ : St) (H : Hp) (o i v : V) (ov iv u : Value) (Q : Hp → Prop), Inv X pins σ H s → RelV o ov → RelV i iv → RelV v u → t o i v H Q →
    wpAny (model X.prog X.w) X.A (setItem ov iv u) (fun _ s' => ∃ H', Inv X pins σ H' s' ∧ Q H') X.xe s
/-- a op= b, by values -/
abbrev TIp := V → V → Hp → VK → Prop
def PIp (X : Cx) (op : Operator) (t : TIp) : Prop :=
  ∀ (pins : List (Addr × Obj)) (s : Shared) (σ : St) (H : Hp) (x y : V) (v u : Value) (Q : VK), Inv X pins σ H s → RelV x v → RelV y u → t x y H Q →
    wpAny (model X.prog X.w) X.A (inplaceOp op v u) (EP X pins σ Q) X.xe s
section
variable {X : Cx} {pos : Pos}
def gName (i : Nat) : TG := fun v σ H Q => Q (σ.set i (some v)) H
theorem pg_name {i : Nat} {x : Str} (hN : X.N.Nodup) (hi : X.N[i]? = some x) (hx : Loc X.env.scope x) (hf : X.fn x = true ∨ X.env.scope.names.lookup x = some .local := by first | exact .inl rfl | exact .inr rfl | assumption) : PG X (.Name x pos) (gName i) := by
  refine ⟨?_⟩
  intro pins s σ H v u Q I r h
  exact wpAny_assign_Name (store_ok I hN hi hx r (fun s' I' => ⟨_, H, I', h⟩) hf)
def gNil : TGs := fun vs σ H Q => vs = [] ∧ Q σ H
def gCons (t : TG) (u : TGs) : TGs := fun vs σ H Q => ∃ v r, vs = v :: r ∧ t v σ H fun σ' H' => u r σ' H' Q
theorem pgs_nil : PGs X [] gNil := by
  refine ⟨?_⟩
  intro pins s σ H vs us Q I r h
  obtain ⟨e, h⟩ := h
  subst e
  cases r
  exact assignInOrder_nil ⟨σ, H, I, h⟩
theorem pgs_cons {e : Expr} {es : List Expr} {t : TG} {u : TGs} (h1 : PG X e t) (h2 : PGs X es u)
    (hs : (assignEach (e :: es) X.env).map (·.2) = assign e X.env :: (assignEach es X.env).map (·.2) := by rfl) : PGs X (e :: es) (gCons t u) := by
  refine ⟨?_⟩
  intro pins s σ H vs us Q I r h
  obtain ⟨v, vr, e1, h⟩ := h
  subst e1
  cases r with
  | cons r rr =>
    rw [hs]
    refine assignInOrder_cons (thn (h1 pins s σ H _ _ _ I r h) fun _ s1 ⟨σ1, H1, I1, q1⟩ => ?_)
    exact h2 pins s1 σ1 H1 _ _ Q I1 rr q1
/-- (a, b, ..) = a tuple of that length -/
def gTup (K : PySem.W.Frag) (n : Nat) (t : TGs) : TG := fun v σ H Q => ∃ a xs, v = .ref a ∧ SqT K H a xs ∧ xs.length = n ∧ t xs σ H Q
theorem pg_tup {es : List Expr} {k : Nat} {t : TGs} {n : Nat} (hc : X.calm = true) (h : PGs X es t)
    (hn : (assignEach es X.env).length = n := by rfl) (hst : (assignEach es X.env).findIdx? (·.1) = none := by rfl) : PG X (.Tuple es k pos) (gTup X.K n t) := by
  refine ⟨?_⟩
  intro pins s σ H v u Q I r hw
  obtain ⟨a, xs, e1, hq, hl, hw⟩ := hw
  subst e1
  cases r
  obtain ⟨its, rv, ht, hz⟩ := I.tuple hq
  refine assign_Tuple_tuple (I.ok.hd hc) ht (by simp [hn, ← hl, rv.length]) hst fun h' hx => ?_
  have I1 : Inv X pins σ H { s with heap := h' } := I.kept (t' := s.toks) fun b o e => hx b o (Nat.ne_of_lt (Heap.lt_size e)) e
  exact h pins _ σ H xs _ Q I1 (by simpa using rv) hw
/-- o[i] = .. -/
def gSub (to ti : TE) (t : TSet) : TG := fun v σ H Q => to σ H fun o H1 => ti σ H1 fun i H2 => t o i v H2 fun H3 => Q σ H3
theorem pg_sub {o i : Expr} {to ti : TE} {t : TSet} (ho : PE X o to) (hi : PE X i ti) (hs : PSet X t)
    (ha : ∀ v, assign (.Subscript o i pos) X.env v = (do
      let ov ← holding [v] (eval o X.env)
      let iv ← holding [v, ov] (eval i X.env)
      standAt pos
      holding [v, ov, iv] (setItem ov iv v)
      release [v, ov, iv] []) := by intro _; rfl) : PG X (.Subscript o i pos) (gSub to ti t) := by
  refine ⟨?_⟩
  intro pins s σ H v u Q I r h
  rw [ha]
  refine wpAny_bind (wpAny_holding (thn (ho pins s σ H _ I h) fun ov s1 ⟨x, H1, I1, r1, q1⟩ => ?_))
  refine wpAny_bind (wpAny_holding (thn (hi pins s1 σ H1 _ I1 q1) fun iv s2 ⟨y, H2, I2, r2, q2⟩ => ?_))
  refine wpAny_bind (wpAny_standAt (wpAny_bind (wpAny_holding (thn (hs pins s2 σ H2 x y v ov iv u _ I2 r1 r2 r q2) fun _ s3 ⟨H3, I3, q3⟩ => ?_))))
  exact wpAny_release ⟨σ, H3, I3, q3⟩
/-- target = value -/
def tAsg (te : TE) (g : TG) : TS := fun D σ H => te σ H fun x H1 => g x σ H1 D.nx
theorem ps_asg {tg e : Expr} {te : TE} {g : TG} (he : PE X e te) (hg : PG X tg g) (hs : swapsWithSole [tg] e pos.line X.env = pure false := by rfl) (hw : swappedStores [tg] e X.env = pure none := by rfl)
    (h1 : (assignEach [tg] X.env).map (·.2) = [assign tg X.env] := by rfl) : PS X (.Assign [tg] e pos) (tAsg te g) := by
  refine ⟨?_⟩
  intro pins s σ H D I h
  refine wpAny_Assign_stores (thn (he pins s σ H _ I h) fun v s1 ⟨x, H1, I1, r1, q1⟩ => ?_) hs hw
  rw [h1]
  exact thn (hg pins s1 σ H1 x v _ I1 r1 q1) fun _ s2 q => q
/-- name = value -/
theorem ps_set {i : Nat} {x : Str} {e : Expr} {te : TE} {pos' : Pos} (hN : X.N.Nodup) (hi : X.N[i]? = some x) (hx : Loc X.env.scope x) (he : PE X e te) (hs : swapsWith e (some (.Name x pos')) pos.line X.env = pure false := by rfl) (hf : X.fn x = true ∨ X.env.scope.names.lookup x = some .local := by first | exact .inl rfl | exact .inr rfl | assumption) :
    PS X (.Assign [.Name x pos'] e pos) (tAsg te (gName i)) := by
  refine ⟨?_⟩
  intro pins s σ H D I h
  refine wpAny_Assign_Name (thn (he pins s σ H _ I h) fun v s1 ⟨y, H1, I1, r1, q1⟩ => ?_) hs
  exact store_ok I1 hN hi hx r1 (fun s2 I2 => ⟨_, H1, I2, q1⟩) hf
/-- a, b = x, y with plain local names: stored from the right; the pair itself is not tracked (the opening rows as in PyProof/Rows/TupAssign.lean:23) -/
def tPar (i j : Nat) (ta : TA) : TS := fun D σ H => ta σ H fun vs H1 => ∃ v w, vs = [v, w] ∧ D.nx ((σ.set i (some v)).set j (some w)) H1
/-- name op= e -/
def tAug (i : Nat) (te : TE) (ti : TIp) : TS := fun D σ H => ∃ x, σ[i]? = some (some x) ∧ te σ H fun y H1 => ti x y H1 fun z H2 => D.nx (σ.set i (some z)) H2
/-- o[i] op= e -/
def tAugS (to ti te : TE) (tget : V → V → Hp → VK → Prop) (tip : TIp) (tset : TSet) : TS := fun D σ H => to σ H fun o H1 => ti σ H1 fun i H2 => tget o i H2 fun x H3 => te σ H3 fun y H4 => tip x y H4 fun z H5 => tset o i z H5 fun H6 => D.nx σ H6
/-- o[i], by values -/
def PGet (X : Cx) (t : V → V → Hp → VK → Prop) : Prop :=
  ∀ (pins : List (Addr × Obj)) (s : Shared) (σ : St) (H : Hp) (o i : V) (ov iv : Value) (Q : VK), Inv X pins σ H s → RelV o ov → RelV i iv → t o i H Q →
    wpAny (model X.prog X.w) X.A (getItem ov iv) (EP X pins σ Q) X.xe s
/-- ints -/
def ipI (f : Int → Int → Int) : TIp := fun x y H Q => ∃ i j, x = .int i ∧ y = .int j ∧ Q (.int (f i j)) H
end

/-! ### while -/
section
variable {X : Cx} {pos : Pos}
/-- the invariant W with its measure -/
def tWhile (c : TT) (tb : TS) : TS := fun D σ H => ∃ W : Nat → St → Hp → Prop, (∃ m, W m σ H) ∧ ∀ m σ H, W m σ H →
  c σ H fun b H1 => if b = true then ∃ N : St → Hp → Prop, (∀ σ' H', N σ' H' → ∃ m', m' < m ∧ W m' σ' H') ∧ tb { D with nx := N, ct := N, bk := D.nx } σ H1 else D.nx σ H1
end

/-! ### what a loop or a comprehension walks -/
/-- at turn i: it yields x (the heap may grow), or it stops -/
structure It where
  go : Nat → Hp → Prop
  yld : Nat → Hp → V → Hp → Prop
  stop : Nat → Hp → Prop
/-- the iterator's own objects may turn: they are not the frame's, not pinned, younger than the entry (or a comprehension's own) -/
def FpOk (X : Cx) (pins : List (Addr × Obj)) (H : Hp) (b : Addr) : Prop :=
  H b = none ∧ b ≠ X.env.locals ∧ b ∉ X.fs ∧ (b ∈ X.ex ∨ X.s₀.heap.objs.size ≤ b) ∧ (∀ x c, X.env.cells.lookup x = some c → c ≠ b) ∧ ∀ p ∈ X.pn ++ pins, p.1 ≠ b
theorem Inv.fpOk {X : Cx} {pins : List (Addr × Obj)} {σ : St} {H H' : Hp} {s : Shared} {b : Addr} (I : Inv X pins σ H s) (hb : s.heap.objs.size ≤ b) (hn : H' b = none) : FpOk X pins H' b := by
  refine ⟨hn, Nat.ne_of_gt (Nat.lt_of_lt_of_le I.lt hb), I.nofs hb, .inr (Nat.le_trans I.sz hb), fun x c e z => ?_, fun p hp z => ?_⟩
  · obtain ⟨v, q⟩ := I.cell x c e
    exact absurd (Nat.lt_of_lt_of_le q.lt (by rw [z]; exact hb)) (Nat.lt_irrefl _)
  · exact absurd (Nat.lt_of_lt_of_le (Heap.lt_size (I.pin p hp).1) (by rw [z]; exact hb)) (Nat.lt_irrefl _)
structure Turn (P : Program) (w : World) (K : PySem.W.Frag) (tg : Expr) (J : It) (fp : List Addr) (it : Addr) (tn : Nat → Heap → Prop) : Prop where
  mem : it ∈ fp
  obj : ∀ i h, tn i h → ∀ b ∈ fp, ∃ o, h.get? b = some o ∧ ∀ v, o.data ≠ .cell v
  keep : ∀ i h h', tn i h → (∀ b ∈ fp, ∀ o, h.get? b = some o → h'.get? b = some o) → tn i h'
  item : ∀ (X : Cx), X.prog = P → X.w = w → X.K = K → X.calm = true → ∀ (i : Nat) (pins : List (Addr × Obj)) (s : Shared) (σ : St) (H : Hp) (E : Value → Shared → Prop), Inv X pins σ H s → (∀ b ∈ fp, FpOk X pins H b) → tn i s.heap → J.go i H →
    wpAny (model P w) X.A (pyNext (.ref it)) (fun r s1 => ∃ u, r = some u ∧
      wpAny (model P w) X.A (letOwnedTupleGo tg (.ref it) u) (fun _ s2 => ∃ x H', Inv X pins σ H' s2 ∧ RelV x u ∧ J.yld i H x H' ∧ tn (i + 1) s2.heap ∧ ∀ b ∈ fp, H' b = none) E s1) E s
  done : ∀ (X : Cx), X.prog = P → X.w = w → X.K = K → X.calm = true → ∀ (i : Nat) (pins : List (Addr × Obj)) (s : Shared) (σ : St) (H : Hp) (E : Value → Shared → Prop), Inv X pins σ H s → (∀ b ∈ fp, FpOk X pins H b) → tn i s.heap → J.stop i H →
    wpAny (model P w) X.A (pyNext (.ref it)) (fun r s1 => r = none ∧ Inv X pins σ H s1) E s
  self : ∀ (A : Around) (i : Nat) (s : Shared) (Q : Value → Shared → Prop) (E : Value → Shared → Prop), tn i s.heap → Q (.ref it) s → wpAny (model P w) A (pyIter (.ref it)) Q E s
abbrev TI := St → Hp → (It → Hp → Prop) → Prop
/-- an iterator has come -/
def PIE (X : Cx) (pins : List (Addr × Obj)) (σ : St) (tg : Expr) (R : It → Hp → Prop) (itv : Value) (s2 : Shared) : Prop :=
  ∃ (it : Addr) (fp : List Addr) (tn : Nat → Heap → Prop) (J : It) (H' : Hp), itv = .ref it ∧ Inv X pins σ H' s2 ∧ Turn X.prog X.w X.K tg J fp it tn ∧ tn 0 s2.heap ∧ (∀ b ∈ fp, FpOk X pins H' b) ∧ R J H'
structure PI (X : Cx) (tg iter : Expr) (wi : TI)  : Prop where
  go : ∀ (pins : List (Addr × Obj)) (s : Shared) (σ : St) (H : Hp) (R : It → Hp → Prop), Inv X pins σ H s → wi σ H R →
    wpAny (model X.prog X.w) X.A (eval iter X.env) (fun v s1 => wpAny (model X.prog X.w) X.A (pyIter v) (PIE X pins σ tg R) X.xe s1) X.xe s
instance {X : Cx} {tg iter : Expr} {wi : TI} : CoeFun (PI X tg iter wi) (fun _ => ∀ (pins : List (Addr × Obj)) (s : Shared) (σ : St) (H : Hp) (R : It → Hp → Prop), Inv X pins σ H s → wi σ H R →
    wpAny (model X.prog X.w) X.A (eval iter X.env) (fun v s1 => wpAny (model X.prog X.w) X.A (pyIter v) (PIE X pins σ tg R) X.xe s1) X.xe s) := ⟨PI.go⟩

/-- the step ahead of the store is nothing for an iterator that keeps no tuple -/
theorem go_of {M : Model} {A : Around} {E : Value → Shared → Prop} {s : Shared} {tg : Expr} {it : Addr} {u : Value} {o : Obj} {n : String} {vs : Array Value} {Q : Unit → Shared → Prop} (ho : s.heap.get? it = some o) (hc : o.cls = .type n) (hd : o.data = .fields vs)
    (hn : ["enumerate", "zip", "dict_itemiterator", "dict_reverseitemiterator", "odict_iterator", "itertools.zip_longest", "itertools.pairwise"].contains n = false) (hQ : Q () s) : wpAny M A (letOwnedTupleGo tg (.ref it) u) Q E s := by
  unfold letOwnedTupleGo
  cases tg <;> first
    | exact wpAny_pure hQ
    | (cases u <;> first
        | exact wpAny_pure hQ
        | (refine wpAny_bind (wpAny_load ho ?_)
           rw [hc, hd]
           show wpAny M A (if (["enumerate", "zip", "dict_itemiterator", "dict_reverseitemiterator", "odict_iterator", "itertools.zip_longest", "itertools.pairwise"].contains n && vs[0]? == some (rawInt _)) = true then _ else _) Q E s
           rw [if_neg (by intro h; rw [hn, Bool.false_and] at h; cases h)]
           exact wpAny_pure hQ))

/-- the list at a, as it stands at each turn (a loop may append to it) -/
def Itl (K : PySem.W.Frag) (a : Addr) : It :=
  ⟨fun i H => ∃ xs x, SqL K H a xs ∧ xs[i]? = some x, fun i H x H' => H' = H ∧ ∀ xs, SqL K H a xs → xs[i]? = some x, fun i H => ∃ xs, SqL K H a xs ∧ xs.length ≤ i⟩
def Itt (K : PySem.W.Frag) (a : Addr) : It :=
  ⟨fun i H => ∃ xs x, SqT K H a xs ∧ xs[i]? = some x, fun i H x H' => H' = H ∧ ∀ xs, SqT K H a xs → xs[i]? = some x, fun i H => ∃ xs, SqT K H a xs ∧ xs.length ≤ i⟩
/-- lo, lo + 1, .. (n of them) -/
def Itr (lo : Int) (n : Nat) : It := ⟨fun i _ => i < n, fun i H x H' => H' = H ∧ x = .int (lo + i), fun i _ => n ≤ i⟩
theorem turn_tuple {P : Program} {w : World} {K : PySem.W.Frag} {tg : Expr} (a it : Addr) : Turn P w K tg (Itt K a) [it] it (fun i h => h.IsTupleIter it a i) where
  mem := by simp
  obj := fun i h st b hb => by
    have e : b = it := by simpa using hb
    subst e
    obtain ⟨o, e, c, d⟩ := st
    exact ⟨o, e, fun v z => by rw [d] at z; cases z⟩
  keep := fun i h h' st k => st.at fun o e => k it (by simp) o e
  item := by
    intro X hP hw hK hc i pins s σ H E I hf st hg
    subst hP hw hK
    obtain ⟨xs, x, hq, hx⟩ := hg
    obtain ⟨its, rv, p, hz⟩ := I.tuple hq
    obtain ⟨u, hu, ru⟩ := rv.get hx
    obtain ⟨f0, f1, f2, f3, f4, f5⟩ := hf it (by simp)
    refine wpAny_pyNext_tuple_item st (show s.heap.IsTuple a its.toArray from p) (x := u) (by simpa using hu) fun h' st' sb => ?_
    have I1 : Inv X pins σ H { s with heap := h' } := I.turned (t' := s.toks) (fun b o hb e => (sb.2 b hb).trans e) f0 f1 f3 f4 f5
    obtain ⟨o, e, c, d⟩ := id st'
    exact ⟨u, rfl, go_of (s := { s with heap := h' }) e c d (by decide) ⟨x, H, I1, ru, ⟨rfl, fun ys hy => by rw [I.tuple_inj hy hq]; exact hx⟩, st', fun b hb => (hf b hb).1⟩⟩
  done := by
    intro X hP hw hK hc i pins s σ H E I hf st hg
    subst hP hw hK
    obtain ⟨xs, hq, hx⟩ := hg
    obtain ⟨its, rv, p, hz⟩ := I.tuple hq
    obtain ⟨f0, f1, f2, f3, f4, f5⟩ := hf it (by simp)
    have hl := rv.length
    exact wpAny_pyNext_tuple_end (I.ok.hd hc) st (show s.heap.IsTuple a its.toArray from p) (by simp; omega) fun h' eb => ⟨rfl, I.turned (t' := s.toks) (fun b o hb e => eb b o hb e) f0 f1 f3 f4 f5⟩
  self := fun _ _ _ _ _ st h => wpAny_pyIter_tupleiter st h
theorem turn_range {P : Program} {w : World} {K : PySem.W.Frag} {tg : Expr} (it : Addr) (lo : Int) (n : Nat) : Turn P w K tg (Itr lo n) [it] it (fun i h => IsRangeIter h it (lo + (i : Nat) * 1) ((n : Int) - (i : Nat)) 1) where
  mem := by simp
  obj := fun i h st b hb => by
    have e : b = it := by simpa using hb
    subst e
    exact ⟨_, st, fun v z => by
      have z' : Data.fields _ = Data.cell v := z
      cases z'⟩
  keep := fun i h h' st k => k it (by simp) _ st
  item := by
    intro X hP hw hK hc i pins s σ H E I hf st hg
    subst hP hw hK
    obtain ⟨f0, f1, f2, f3, f4, f5⟩ := hf it (by simp)
    have W := Walks.range (prog := X.prog) (w := X.w) (I.ok.hd hc) it lo 1 n
    refine W.item i s _ _ hg st fun v h' tk hv st' kk => ?_
    obtain ⟨t, rfl⟩ := hv
    have I1 : Inv X pins σ H { s with heap := h', toks := tk } := I.turned (fun b o hb e => kk b o (by simpa using hb) e) f0 f1 f3 f4 f5
    refine ⟨_, rfl, go_of (s := { s with heap := h', toks := tk }) (n := "range_iterator") st' rfl rfl (by decide) ⟨.int (lo + i), H, I1, ⟨t, ?_⟩, ⟨rfl, rfl⟩, st', fun b hb => (hf b hb).1⟩⟩
    rw [Int.mul_one]
  done := by
    intro X hP hw hK hc i pins s σ H E I hf st hg
    subst hP hw hK
    obtain ⟨f0, f1, f2, f3, f4, f5⟩ := hf it (by simp)
    exact wpAny_pyNext_range_end (I.ok.hd hc) st (by have : n ≤ i := hg; omega) fun h' eb => ⟨rfl, I.turned (t' := s.toks) (fun b o hb e => eb b o hb e) f0 f1 f3 f4 f5⟩
  self := fun _ _ _ _ _ st h => wpAny_pyIter_rangeiter st h
end L2

namespace L2
open PySem PySem.Spec PyProof.Rows
section
variable {X : Cx} {tg : Expr}
def iList (K : PySem.W.Frag) (tl : TE) : TI := fun σ H R => tl σ H fun x H1 => ∃ a, x = .ref a ∧ (∃ xs, SqL K H1 a xs) ∧ R (Itl K a) H1
def iTup (K : PySem.W.Frag) (tl : TE) : TI := fun σ H R => tl σ H fun x H1 => ∃ a, x = .ref a ∧ (∃ xs, SqT K H1 a xs) ∧ R (Itt K a) H1
theorem pi_tup {l : Expr} {tl : TE} (hl : PE X l tl) : PI X tg l (iTup X.K tl) := by
  refine ⟨?_⟩
  intro pins s σ H R I h
  refine thn (hl pins s σ H _ I h) fun v s1 ⟨x, H1, I1, r1, q1⟩ => ?_
  obtain ⟨a, e, ⟨xs, hq⟩, q⟩ := q1
  subst e
  cases r1
  obtain ⟨its, rv, p, hz⟩ := I1.tuple hq
  refine wpAny_pyIter_tuple (show s1.heap.IsTuple a its.toArray from p) ?_
  refine ⟨s1.heap.objs.size, [s1.heap.objs.size], _, _, H1, rfl, I1.kept (t' := s1.toks) fun b o e => Heap.get?_push_of_some _ e, turn_tuple a _, ⟨_, Heap.get?_push_size _ rfl, rfl, rfl⟩, fun b hb => ?_, q⟩
  have e : b = s1.heap.objs.size := by simpa using hb
  subst e
  exact I1.fpOk (Nat.le_refl _) (I1.hok.fresh (Nat.le_refl _))
/-- a range object just made, walked -/
theorem range_it {pins : List (Addr × Obj)} {σ : St} {H : Hp} {s : Shared} {R : It → Hp → Prop} {E : Value → Shared → Prop} {lo hi : Int} {t u v : Tok} {tk : Nat} (I : Inv X pins σ H s) (h1 : -(2 ^ 62) ≤ lo) (h2 : lo < 2 ^ 62) (h3 : -(2 ^ 62) ≤ hi) (h4 : hi < 2 ^ 62)
    (q : R (Itr lo (hi - lo).toNat) H) : wpAny (model X.prog X.w) X.A (pyIter (.ref s.heap.objs.size)) (PIE X pins σ tg R) E { s with heap := s.heap.push { cls := .type "range", data := .fields #[.int lo t, .int hi u, .int 1 v] }, toks := tk } := by
  refine wpAny_pyIter_range (IsRange.new ..) (small_one h1 h2 h3 h4) ?_
  have I1 : Inv X pins σ H { s with heap := s.heap.push { cls := .type "range", data := .fields #[.int lo t, .int hi u, .int 1 v] }, toks := tk } := I.kept fun b o e => Heap.get?_push_of_some _ e
  refine ⟨(s.heap.push { cls := .type "range", data := .fields #[.int lo t, .int hi u, .int 1 v] }).objs.size, [(s.heap.push { cls := .type "range", data := .fields #[.int lo t, .int hi u, .int 1 v] }).objs.size], _, _, H, rfl,
    I1.kept (t' := tk) fun b o e => Heap.get?_push_of_some _ e, turn_range _ lo (hi - lo).toNat, ?_, fun b hb => ?_, q⟩
  · have e1 : lo + ((0 : Nat) : Int) * 1 = lo := by simp
    have e2 : (((hi - lo).toNat : Nat) : Int) - ((0 : Nat) : Int) = Builtin.Range.rangeSize lo hi 1 := by rw [rangeSize_one]; split <;> omega
    show IsRangeIter _ _ (lo + ((0 : Nat) : Int) * 1) ((((hi - lo).toNat : Nat) : Int) - ((0 : Nat) : Int)) 1
    rw [e1, e2]
    exact Heap.get?_push_size _ rfl
  · have e : b = (s.heap.push { cls := .type "range", data := .fields #[.int lo t, .int hi u, .int 1 v] }).objs.size := by simpa using hb
    subst e
    exact I1.fpOk (Nat.le_refl _) (I1.hok.fresh (Nat.le_refl _))
def iRng1 (ta : TA) : TI := fun σ H R => ta σ H fun vs H1 => ∃ j : Int, vs = [.int j] ∧ -(2 ^ 62) ≤ j ∧ j < 2 ^ 62 ∧ R (Itr 0 j.toNat) H1
def iRng2 (ta : TA) : TI := fun σ H R => ta σ H fun vs H1 => ∃ i j : Int, vs = [.int i, .int j] ∧ (-(2 ^ 62) ≤ i ∧ i < 2 ^ 62 ∧ -(2 ^ 62) ≤ j ∧ j < 2 ^ 62) ∧ R (Itr i (j - i).toNat) H1
theorem pi_range1 {a : Expr} {ta : TA} {p pos : Pos} (hg : Gl X "range") (hm : X.mg "range" = none) (ha : PA X [a] ta) (hs : starEach [a] X.env = [(false, eval a X.env)] := by rfl) : PI X tg (.Call (.Name "range" p) [a] [] pos) (iRng1 ta) := by
  refine ⟨?_⟩
  intro pins s σ H R I h
  refine Call_ (ld_blt I hg hm boot_range (PyProof.Rows.callWith_type1 (thn (ha pos pins s σ H _ I h) fun us s1 ⟨vs, H1, I1, r1, q1⟩ => ?_) hs rfl))
  obtain ⟨j, e, q1, q2, q⟩ := q1
  subst e
  cases r1 with
  | cons r rr =>
    cases rr
    obtain ⟨t, rfl⟩ := r
    exact call_range_1 (range_it I1 (by omega) (by omega) q1 q2 (by simpa using q))
/-! ### for -/
/-- W: the invariant by the turn and a measure; N: what the body is to reach -/
def tFor (wi : TI) (g : TG) (tb : TS) : TS := fun D σ H => wi σ H fun J H1 => ∃ W : Nat → Nat → St → Hp → Prop, (∃ m, W 0 m σ H1) ∧ ∀ i m σ H, W i m σ H →
  (J.stop i H ∧ D.nx σ H) ∨ (J.go i H ∧ ∃ N : St → Hp → Prop, (∀ σ' H', N σ' H' → ∃ m', m' < m ∧ W (i + 1) m' σ' H') ∧ ∀ x H', J.yld i H x H' → g x σ H' fun σ2 H2 => tb { D with nx := N, ct := N, bk := D.nx } σ2 H2)
/-- the records at fp as they stand -/
def pinsAt (fp : List Addr) (h : Heap) : List (Addr × Obj) := fp.filterMap fun b => (h.get? b).map fun o => (b, o)
theorem mem_pinsAt {fp : List Addr} {h : Heap} {b : Addr} {o : Obj} (hb : b ∈ fp) (e : h.get? b = some o) : (b, o) ∈ pinsAt fp h := List.mem_filterMap.mpr ⟨b, hb, by rw [e]; rfl⟩
theorem of_pinsAt {fp : List Addr} {h : Heap} {p : Addr × Obj} (hp : p ∈ pinsAt fp h) : p.1 ∈ fp ∧ h.get? p.1 = some p.2 := by
  obtain ⟨b, hb, e⟩ := List.mem_filterMap.mp hp
  cases q : h.get? b with
  | none => rw [q] at e; cases e
  | some o =>
    rw [q] at e
    have e' : (b, o) = p := Option.some.inj e
    subst e'
    exact ⟨hb, q⟩
theorem Inv.pinned {pins : List (Addr × Obj)} {σ : St} {H : Hp} {s : Shared} {fp : List Addr} (I : Inv X pins σ H s) (hf : ∀ b ∈ fp, FpOk X pins H b) (ho : ∀ b ∈ fp, ∃ o, s.heap.get? b = some o ∧ ∀ v, o.data ≠ .cell v) : Inv X (pins ++ pinsAt fp s.heap) σ H s :=
  I.pins_of fun p hp => (List.mem_append.mp hp).elim (fun z => I.pin p (List.mem_append_right _ z)) fun z => by
    obtain ⟨hb, e⟩ := of_pinsAt z
    obtain ⟨f0, f1, f2, _⟩ := hf p.1 hb
    obtain ⟨o, e', d⟩ := ho p.1 hb
    rw [e] at e'; cases e'
    exact ⟨e, f0, f1, f2, d⟩
theorem Inv.unpinned {pins pl : List (Addr × Obj)} {σ : St} {H : Hp} {s : Shared} (I : Inv X (pins ++ pl) σ H s) : Inv X pins σ H s := I.pins_of fun p hp => I.pin p (List.mem_append_right _ (List.mem_append_left _ hp))
theorem ps_for {iter : Expr} {body : List Stmt} {wi : TI} {g : TG} {tb : TS} {pos : Pos} (hp : PassesOwn (model X.prog X.w) X.A X.env X.xe) (hc : X.calm = true) (hi : PI X tg iter wi) (hg : PG X tg g) (hb : PSs X body tb)
    (hs : ∀ x, foldedSetIterable iter X.env x = pure x := by intro _; rfl) : PS X (.For tg iter body [] pos) (tFor wi g tb) := by
  refine ⟨?_⟩
  intro pins s σ H D I h
  refine wpAny_For (thn (hi pins s σ H _ I h) fun v s1 h1 => thn h1 fun itv s2 h2 => ?_) hs
  obtain ⟨it, fp, tn, J, H2, e, I2, T, st2, f2, W, ⟨m0, w0⟩, turn⟩ := h2
  subst e
  -- what stays true of the iterator's objects through the loop
  have stat : ∀ {H' : Hp}, (∀ b ∈ fp, H' b = none) → ∀ b ∈ fp, FpOk X pins H' b := fun hn b hb => ⟨hn b hb, (f2 b hb).2⟩
  refine codeAny_forLoop_any (fun n s' => ∃ i σ' H', Inv X pins σ' H' s' ∧ tn i s'.heap ∧ (∀ b ∈ fp, H' b = none) ∧ W i n σ' H') ?_ m0 ⟨0, σ, H2, I2, st2, fun b hb => (f2 b hb).1, w0⟩
  rintro n s3 ⟨i, σ3, H3, I3, st3, fr3, w3⟩
  rcases turn i n σ3 H3 w3 with ⟨stop, qn⟩ | ⟨go, N, hN, step⟩
  · refine wpAny_passesOwn hp (thn (T.done X rfl rfl rfl hc i pins s3 σ3 H3 X.xe I3 (stat fr3) st3 stop) fun r s4 ⟨hr, I4⟩ => ?_)
    subst hr
    exact wpAny_execs_nil ⟨σ3, H3, I4, qn⟩
  · refine wpAny_passesOwn hp (thn (T.item X rfl rfl rfl hc i pins s3 σ3 H3 X.xe I3 (stat fr3) st3 go) fun r s4 ⟨u, hr, h4⟩ => ?_)
    subst hr
    refine wpAny_passesOwn hp (thn h4 fun _ s5 ⟨x, H5, I5, r5, y5, st5, fr5⟩ => ?_)
    have I5' := I5.pinned (stat fr5) (T.obj _ _ st5)
    refine wpAny_passesOwn hp (thn (hg _ s5 σ3 H5 x u _ I5' r5 (step x H5 y5)) fun _ s6 ⟨σ6, H6, I6, q6⟩ => ?_)
    refine wpAny_passesOwn hp (thn (hb _ s6 σ6 H6 _ I6 q6) fun f s7 q7 => ?_)
    have again : ∀ {σ7 : St} {H7 : Hp}, Inv X (pins ++ pinsAt fp s5.heap) σ7 H7 s7 → N σ7 H7 → ∃ m, m < n ∧ ∃ i σ' H', Inv X pins σ' H' s7 ∧ tn i s7.heap ∧ (∀ b ∈ fp, H' b = none) ∧ W i m σ' H' := fun {σ7 H7} I7 n7 => by
      obtain ⟨m', hm, w7⟩ := hN σ7 H7 n7
      refine ⟨m', hm, i + 1, σ7, H7, I7.unpinned, T.keep _ _ _ st5 fun b hb o e => (I7.pin (b, o) (List.mem_append_right _ (List.mem_append_right _ (mem_pinsAt hb e)))).1, fun b hb => ?_, w7⟩
      obtain ⟨o, e, d⟩ := T.obj _ _ st5 b hb
      exact (I7.pin (b, o) (List.mem_append_right _ (List.mem_append_right _ (mem_pinsAt hb e)))).2.1
    cases f with
    | next => obtain ⟨σ7, H7, I7, n7⟩ := q7; exact again I7 n7
    | cont => obtain ⟨σ7, H7, I7, n7⟩ := q7; exact again I7 n7
    | brk => obtain ⟨σ7, H7, I7, q7⟩ := q7; exact ⟨σ7, H7, I7.unpinned, q7⟩
    | ret v => obtain ⟨x7, σ7, H7, I7, r7, q7⟩ := q7; exact ⟨x7, σ7, H7, I7.unpinned, r7, q7⟩
end

/-! ### the forms one uses -/
theorem for_range {lo : Int} {n : Nat} {g : TG} {tb : TS} {D : Ends} {σ : St} {H : Hp} (Pv : Nat → St → Hp → Prop) (h0 : Pv 0 σ H)
    (hs : ∀ i σ H, i < n → Pv i σ H → g (.int (lo + i)) σ H fun σ2 H2 => tb { D with nx := Pv (i + 1), ct := Pv (i + 1), bk := D.nx } σ2 H2) (hd : ∀ σ H, Pv n σ H → D.nx σ H) :
    ∃ W : Nat → Nat → St → Hp → Prop, (∃ m, W 0 m σ H) ∧ ∀ i m σ H, W i m σ H →
      ((Itr lo n).stop i H ∧ D.nx σ H) ∨ ((Itr lo n).go i H ∧ ∃ N : St → Hp → Prop, (∀ σ' H', N σ' H' → ∃ m', m' < m ∧ W (i + 1) m' σ' H') ∧ ∀ x H', (Itr lo n).yld i H x H' → g x σ H' fun σ2 H2 => tb { D with nx := N, ct := N, bk := D.nx } σ2 H2) := by
  refine ⟨fun i m σ H => m = n - i ∧ i ≤ n ∧ Pv i σ H, ⟨n, by simp, Nat.zero_le _, h0⟩, ?_⟩
  rintro i m σ H ⟨rfl, hi, p⟩
  by_cases hlt : i < n
  · refine .inr ⟨hlt, Pv (i + 1), fun σ' H' p' => ⟨n - (i + 1), by omega, rfl, hlt, p'⟩, fun x H' y => ?_⟩
    obtain ⟨e, y⟩ := y
    subst e y
    exact hs i σ _ hlt p
  · have e : i = n := by omega
    subst e
    exact .inl ⟨Nat.le_refl _, hd σ H p⟩
end L2

namespace L2
open PySem PySem.Spec PyProof.Rows

abbrev R2 := V → V → Hp → VK → Prop
/-- a two-place operation on values: f is binaryOp op, inplaceOp op or compareOp op -/
def OpR (X : Cx) (f : Value → Value → Sem Value) (r : R2) : Prop :=
  ∀ (pins : List (Addr × Obj)) (s : Shared) (σ : St) (H : Hp) (x y : V) (v u : Value) (Q : VK), Inv X pins σ H s → RelV x v → RelV y u → r x y H Q →
    wpAny (model X.prog X.w) X.A (f v u) (EP X pins σ Q) X.xe s
/-- a one-place operation -/
def UnR (X : Cx) (f : Value → Sem Value) (r : V → Hp → VK → Prop) : Prop :=
  ∀ (pins : List (Addr × Obj)) (s : Shared) (σ : St) (H : Hp) (x : V) (v : Value) (Q : VK), Inv X pins σ H s → RelV x v → r x H Q →
    wpAny (model X.prog X.w) X.A (f v) (EP X pins σ Q) X.xe s
/-- a call of a value that is known (a builtin, a type) with values -/
def CallR (X : Cx) (f : Value) (r : List V → Hp → VK → Prop) : Prop :=
  ∀ (pins : List (Addr × Obj)) (s : Shared) (σ : St) (H : Hp) (xs : List V) (us : List Value) (Q : VK), Inv X pins σ H s → Vals xs us → r xs H Q →
    wpAny (model X.prog X.w) X.A (call f us) (EP X pins σ Q) X.xe s
/-- a value's truth -/
def TruR (X : Cx) (r : V → Hp → (Bool → Hp → Prop) → Prop) : Prop :=
  ∀ (pins : List (Addr × Obj)) (s : Shared) (σ : St) (H : Hp) (x : V) (v : Value) (Q : Bool → Hp → Prop), Inv X pins σ H s → RelV x v → r x H Q →
    wpAny (model X.prog X.w) X.A (truthy v) (TP X pins σ Q) X.xe s

def tOp (r : R2) (ta tb : TE) : TE := fun σ H Q => ta σ H fun x H1 => tb σ H1 fun y H2 => r x y H2 Q
def tUn (r : V → Hp → VK → Prop) (ta : TE) : TE := fun σ H Q => ta σ H fun x H1 => r x H1 Q
/-- ints in, under C, and a value out -/
def rI (C : Int → Int → Prop) (g : Int → Int → V) : R2 := fun x y H Q => ∃ i j, x = .int i ∧ y = .int j ∧ C i j ∧ Q (g i j) H
def rI0 (g : Int → Int → V) : R2 := fun x y H Q => ∃ i j, x = .int i ∧ y = .int j ∧ Q (g i j) H
def rU (g : Int → V) : V → Hp → VK → Prop := fun x H Q => ∃ i, x = .int i ∧ Q (g i) H

section
variable {X : Cx} {a b c : Expr} {ta tb tc : TE} {pos : Pos}

theorem binT (ha : PE X a ta) (hb : PE X b tb) {pins : List (Addr × Obj)} {s : Shared} {σ : St} {H : Hp} {R : V → V → Hp → Prop} (I : Inv X pins σ H s)
    (h : ta σ H fun x H1 => tb σ H1 fun y H2 => R x y H2) {Q : Value → Shared → Prop} {f : Value → Value → Sem Value}
    (hf : ∀ v u s2 x y H2, Inv X pins σ H2 s2 → RelV x v → RelV y u → R x y H2 → wpAny (model X.prog X.w) X.A (f v u) Q X.xe s2) :
    wpAny (model X.prog X.w) X.A (eval a X.env) (fun v s₁ => wpAny (model X.prog X.w) X.A (eval b X.env) (fun u s₂ => wpAny (model X.prog X.w) X.A (f v u) Q X.xe s₂) X.xe s₁) X.xe s := by
  refine thn (ha pins s σ H _ I h) fun v s1 ⟨x, H1, I1, r1, q1⟩ => ?_
  refine thn (hb pins s1 σ H1 _ I1 q1) fun u s2 ⟨y, H2, I2, r2, q2⟩ => ?_
  exact hf v u s2 x y H2 I2 r1 r2 q2

theorem pe_op {op : Operator} {r : R2} (ho : OpR X (binaryOp op) r) (ha : PE X a ta) (hb : PE X b tb) : PE X (.BinOp a op b pos) (tOp r ta tb) := by
  refine ⟨?_⟩
  intro pins s σ H Q I h
  exact wpAny_BinOp (binT ha hb I h fun v u s2 x y H2 I2 rx ry q => ho pins s2 σ H2 x y v u Q I2 rx ry q)
theorem pe_un {op : UnaryOp} {r : V → Hp → VK → Prop} (ho : UnR X (unaryOp op) r) (ha : PE X a ta) : PE X (.UnaryOp op a pos) (tUn r ta) := by
  refine ⟨?_⟩
  intro pins s σ H Q I h
  exact UnaryOp_ (thn (ha pins s σ H _ I h) fun v s1 ⟨x, H1, I1, r1, q1⟩ => ho pins s1 σ H1 x v Q I1 r1 q1)
/-! ### ints -/
theorem opI {f : Value → Value → Sem Value} {C : Int → Int → Prop} {g : Int → Int → Int}
    (rule : ∀ (i j : Int) (t u : Tok) (s : Shared) (Q : Value → Shared → Prop) (E : Value → Shared → Prop), C i j → Q (.int (g i j) s.toks) { s with toks := s.toks + 1 } → wpAny (model X.prog X.w) X.A (f (.int i t) (.int j u)) Q E s) :
    OpR X f (rI C fun i j => .int (g i j)) := by
  intro pins s σ H x y v u Q I rx ry h
  obtain ⟨i, j, rfl, rfl, hc, q⟩ := h
  obtain ⟨t, rfl⟩ := rx
  obtain ⟨t', rfl⟩ := ry
  exact rule i j t t' s _ _ hc ⟨.int (g i j), H, I.tok _, ⟨_, rfl⟩, q⟩
theorem opI0 {f : Value → Value → Sem Value} {g : Int → Int → Int}
    (rule : ∀ (i j : Int) (t u : Tok) (s : Shared) (Q : Value → Shared → Prop) (E : Value → Shared → Prop), Q (.int (g i j) s.toks) { s with toks := s.toks + 1 } → wpAny (model X.prog X.w) X.A (f (.int i t) (.int j u)) Q E s) :
    OpR X f (rI0 fun i j => .int (g i j)) := by
  intro pins s σ H x y v u Q I rx ry h
  obtain ⟨i, j, rfl, rfl, q⟩ := h
  obtain ⟨t, rfl⟩ := rx
  obtain ⟨t', rfl⟩ := ry
  exact rule i j t t' s _ _ ⟨.int (g i j), H, I.tok _, ⟨_, rfl⟩, q⟩
theorem opB0 {f : Value → Value → Sem Value} {g : Int → Int → Bool}
    (rule : ∀ (i j : Int) (t u : Tok) (s : Shared) (Q : Value → Shared → Prop) (E : Value → Shared → Prop), Q (.bool (g i j)) s → wpAny (model X.prog X.w) X.A (f (.int i t) (.int j u)) Q E s) :
    OpR X f (rI0 fun i j => .bl (g i j)) := by
  intro pins s σ H x y v u Q I rx ry h
  obtain ⟨i, j, rfl, rfl, q⟩ := h
  obtain ⟨t, rfl⟩ := rx
  obtain ⟨t', rfl⟩ := ry
  exact rule i j t t' s _ _ ⟨.bl (g i j), H, I, rfl, q⟩

def CDiv (i j : Int) : Prop := 0 < j ∧ j < 1073741824
def CDivN (i j : Int) : Prop := j ≠ 0 ∧ j.natAbs < 1073741824
def CPow (i j : Int) : Prop := 0 ≤ j ∧ j ≤ 1000000 ∧ i.natAbs < 2 ^ 64
def CMul (i j : Int) : Prop := (-(2 ^ 64) < i ∧ i < 2 ^ 64) ∨ (-(2 ^ 64) < j ∧ j < 2 ^ 64)
theorem CMul.ok {i j : Int} (h : CMul i j) : IntMulOk i j := by
  rcases h with ⟨h1, h2⟩ | ⟨h1, h2⟩
  · exact .of_left (intBits_le_64 h1 h2)
  · exact .of_right (intBits_le_64 h1 h2)
theorem op_add : OpR X (binaryOp .Add) (rI0 fun i j => .int (i + j)) := opI0 fun _ _ _ _ _ _ _ q => add_int q
theorem op_sub : OpR X (binaryOp .Sub) (rI0 fun i j => .int (i - j)) := opI0 fun _ _ _ _ _ _ _ q => sub_int q
theorem op_mul : OpR X (binaryOp .Mult) (rI CMul fun i j => .int (i * j)) := opI fun _ _ _ _ _ _ _ hc q => mul_int q hc.ok
/-- % by a positive divisor of any size -/
theorem op_mod : OpR X (binaryOp .Mod) (rI (fun _ j => 0 < j) fun i j => .int (i % j)) := opI fun i j _ _ _ _ _ hc q => by
  have h1 : (0 : Int) < j := hc
  exact mod_int' (by omega) (by rw [Int.fmod_eq_emod_of_nonneg i (by omega)]; exact q)
theorem op_modN : OpR X (binaryOp .Mod) (rI (fun _ j => j ≠ 0) fun i j => .int (i.fmod j)) := opI fun _ _ _ _ _ _ _ hc q => mod_int' hc q
theorem op_pow : OpR X (binaryOp .Pow) (rI CPow fun i j => .int (i ^ j.toNat)) := opI fun _ _ _ _ _ _ _ hc q => pow_int_small hc.1 hc.2.1 hc.2.2 q
theorem unI {f : Value → Sem Value} {g : Int → Int}
    (rule : ∀ (i : Int) (t : Tok) (s : Shared) (Q : Value → Shared → Prop) (E : Value → Shared → Prop), Q (.int (g i) s.toks) { s with toks := s.toks + 1 } → wpAny (model X.prog X.w) X.A (f (.int i t)) Q E s) :
    UnR X f (rU fun i => .int (g i)) := by
  intro pins s σ H x v Q I rx h
  obtain ⟨i, rfl, q⟩ := h
  obtain ⟨t, rfl⟩ := rx
  exact rule i t s _ _ ⟨.int (g i), H, I.tok _, ⟨_, rfl⟩, q⟩
theorem un_neg : UnR X (unaryOp .USub) (rU fun i => .int (-i)) := unI fun _ _ _ _ _ q => neg_int q
/-! ### bools among ints: n += (a < b) -/
end

/-! ### comparisons -/
/-- the scalars that == tells apart as data does -/
def scal : V → V → Bool
  | .non, .non => true | .non, .int _ => true | .int _, .non => true | .non, .bl _ => true | .bl _, .non => true | .non, .str _ => true | .str _, .non => true
  | .int _, .int _ => true | .bl _, .bl _ => true | .str _, .str _ => true | .byt _, .byt _ => true
  | .int _, .str _ => true | .str _, .int _ => true | .bl _, .str _ => true | .str _, .bl _ => true
  | _, _ => false
def rEq : R2 := fun x y H Q => scal x y = true ∧ Q (.bl (decide (x = y))) H
def rNe : R2 := fun x y H Q => scal x y = true ∧ Q (.bl (!decide (x = y))) H

theorem dec_int {i j : Int} : decide (V.int i = V.int j) = (i == j) := by
  rw [Bool.eq_iff_iff]
  simp
theorem dec_bl {i j : Bool} : decide (V.bl i = V.bl j) = (i == j) := by
  rw [Bool.eq_iff_iff]
  simp
theorem dec_str {i j : Str} : decide (V.str i = V.str j) = (i == j) := by
  rw [Bool.eq_iff_iff]
  simp
theorem dec_byt {i j : Array UInt8} : decide (V.byt i = V.byt j) = (i.toList == j.toList) := by
  rw [Bool.eq_iff_iff]
  cases i
  cases j
  simp

section
variable {X : Cx} {a b c : Expr} {ta tb tc : TE} {pos : Pos}
theorem fin_bl {pins : List (Addr × Obj)} {σ : St} {H : Hp} {s : Shared} {Q : VK} {k k' : Bool} (I : Inv X pins σ H s) (q : Q (.bl k) H) (e : k = k') : EP X pins σ Q (.bool k') s := by
  subst e
  exact ⟨.bl k, H, I, rfl, q⟩
theorem op_eq : OpR X (compareOp .Eq) rEq := by
  intro pins s σ H x y v u Q I rx ry h
  obtain ⟨hs, q⟩ := h
  cases x with
  | non =>
    cases rx
    cases y with
    | non => cases ry; exact PySem.EqNone.eq_none_none (fin_bl I q (by simp))
    | bl j => cases ry; exact PySem.EqNone.eq_none_bool (fin_bl I q (by simp))
    | int j => obtain ⟨t', rfl⟩ := ry; exact PySem.EqNone.eq_none_int (fin_bl I q (by simp))
    | str j => obtain ⟨t', rfl⟩ := ry; exact PySem.EqNone.eq_none_str (fin_bl I q (by simp))
    | _ => exact absurd (show false = true from hs) Bool.false_ne_true
  | bl i =>
    cases rx
    cases y with
    | non => cases ry; exact PySem.EqNone.eq_bool_none (fin_bl I q (by simp))
    | bl j => cases ry; exact eq_bool (fin_bl I q dec_bl)
    | str j => obtain ⟨t', rfl⟩ := ry; exact PySem.EqMixed.eq_bool_str (fin_bl I q (by simp))
    | _ => exact absurd (show false = true from hs) Bool.false_ne_true
  | int i =>
    obtain ⟨t, rfl⟩ := rx
    cases y with
    | non => cases ry; exact PySem.EqNone.eq_int_none (fin_bl I q (by simp))
    | int j => obtain ⟨t', rfl⟩ := ry; exact eq_int (fin_bl I q dec_int)
    | str j => obtain ⟨t', rfl⟩ := ry; exact PySem.EqMixed.eq_int_str (fin_bl I q (by simp))
    | _ => exact absurd (show false = true from hs) Bool.false_ne_true
  | str i =>
    obtain ⟨t, rfl⟩ := rx
    cases y with
    | non => cases ry; exact PySem.EqNone.eq_str_none (fin_bl I q (by simp))
    | bl j => cases ry; exact PySem.EqMixed.eq_str_bool (fin_bl I q (by simp))
    | int j => obtain ⟨t', rfl⟩ := ry; exact PySem.EqMixed.eq_str_int (fin_bl I q (by simp))
    | str j => obtain ⟨t', rfl⟩ := ry; exact eq_str (fin_bl I q dec_str)
    | _ => exact absurd (show false = true from hs) Bool.false_ne_true
  | byt i =>
    obtain ⟨t, rfl⟩ := rx
    cases y with
    | byt j => obtain ⟨t', rfl⟩ := ry; exact PySem.W.eq_bytes (fin_bl I q dec_byt)
    | _ => exact absurd (show false = true from hs) Bool.false_ne_true
  | _ => cases y <;> exact absurd (show false = true from hs) Bool.false_ne_true
theorem op_ne : OpR X (compareOp .NotEq) rNe := by
  intro pins s σ H x y v u Q I rx ry h
  obtain ⟨hs, q⟩ := h
  cases x with
  | non =>
    cases rx
    cases y with
    | non => cases ry; exact PySem.EqNone.ne_none_none (fin_bl I q (by simp))
    | bl j => cases ry; exact PySem.EqNone.ne_none_bool (fin_bl I q (by simp))
    | int j => obtain ⟨t', rfl⟩ := ry; exact PySem.EqNone.ne_none_int (fin_bl I q (by simp))
    | str j => obtain ⟨t', rfl⟩ := ry; exact PySem.EqNone.ne_none_str (fin_bl I q (by simp))
    | _ => exact absurd (show false = true from hs) Bool.false_ne_true
  | bl i =>
    cases rx
    cases y with
    | non => cases ry; exact PySem.EqNone.ne_bool_none (fin_bl I q (by simp))
    | bl j => cases ry; exact ne_bool (fin_bl I q (congrArg not dec_bl))
    | str j => obtain ⟨t', rfl⟩ := ry; exact PySem.EqMixed.ne_bool_str (fin_bl I q (by simp))
    | _ => exact absurd (show false = true from hs) Bool.false_ne_true
  | int i =>
    obtain ⟨t, rfl⟩ := rx
    cases y with
    | non => cases ry; exact PySem.EqNone.ne_int_none (fin_bl I q (by simp))
    | int j => obtain ⟨t', rfl⟩ := ry; exact ne_int (fin_bl I q (congrArg not dec_int))
    | str j => obtain ⟨t', rfl⟩ := ry; exact PySem.EqMixed.ne_int_str (fin_bl I q (by simp))
    | _ => exact absurd (show false = true from hs) Bool.false_ne_true
  | str i =>
    obtain ⟨t, rfl⟩ := rx
    cases y with
    | non => cases ry; exact PySem.EqNone.ne_str_none (fin_bl I q (by simp))
    | bl j => cases ry; exact PySem.EqMixed.ne_str_bool (fin_bl I q (by simp))
    | int j => obtain ⟨t', rfl⟩ := ry; exact PySem.EqMixed.ne_str_int (fin_bl I q (by simp))
    | str j => obtain ⟨t', rfl⟩ := ry; exact ne_str (fin_bl I q (congrArg not dec_str))
    | _ => exact absurd (show false = true from hs) Bool.false_ne_true
  | byt i =>
    obtain ⟨t, rfl⟩ := rx
    cases y with
    | byt j => obtain ⟨t', rfl⟩ := ry; exact PySem.W.ne_bytes (fin_bl I q (congrArg not dec_byt))
    | _ => exact absurd (show false = true from hs) Bool.false_ne_true
  | _ => cases y <;> exact absurd (show false = true from hs) Bool.false_ne_true

theorem op_lt : OpR X (compareOp .Lt) (rI0 fun i j => .bl (decide (i < j))) := opB0 fun _ _ _ _ _ _ _ q => lt_int q
theorem op_le : OpR X (compareOp .LtE) (rI0 fun i j => .bl (decide (i ≤ j))) := opB0 fun _ _ _ _ _ _ _ q => le_int q
theorem op_gt : OpR X (compareOp .Gt) (rI0 fun i j => .bl (decide (j < i))) := opB0 fun _ _ _ _ _ _ _ q => gt_int q
theorem op_ge : OpR X (compareOp .GtE) (rI0 fun i j => .bl (decide (j ≤ i))) := opB0 fun _ _ _ _ _ _ _ q => ge_int q
/-- is None, is not None: the right side a value none -/
theorem op_isN : OpR X (compareOp .Is) (fun x y H Q => y = .non ∧ Q (.bl (decide (x = .non))) H) := by
  intro pins s σ H x y v u Q I rx ry h
  obtain ⟨rfl, q⟩ := h
  cases ry
  refine is_none_gen (fin_bl I q ?_)
  cases x <;> first
    | (cases rx; rfl)
    | (obtain ⟨t, rfl⟩ := rx; rfl)
theorem op_notN : OpR X (compareOp .IsNot) (fun x y H Q => y = .non ∧ Q (.bl (!decide (x = .non))) H) := by
  intro pins s σ H x y v u Q I rx ry h
  obtain ⟨rfl, q⟩ := h
  cases ry
  refine isnot_none_gen (fin_bl I q ?_)
  cases x <;> first
    | (cases rx; rfl)
    | (obtain ⟨t, rfl⟩ := rx; rfl)

/-- is, is not of two objects that are tracked lists or instances -/
def isObj : HO → Bool
  | .lst _ => true
  | .ins _ _ _ => true
  | _ => false
/-- two rules for one operation: by cases -/
theorem OpR.or {f : Value → Value → Sem Value} {r r' : R2} (h : OpR X f r) (h' : OpR X f r') : OpR X f (fun x y H Q => r x y H Q ∨ r' x y H Q) := by
  intro pins s σ H x y v u Q I rx ry q
  rcases q with q | q
  · exact h pins s σ H x y v u Q I rx ry q
  · exact h' pins s σ H x y v u Q I rx ry q

theorem nomark (b : Expr) {op : CmpOp} (h : op ≠ .In := by decide) (h2 : op ≠ .NotIn := by decide) : behindInMarks op b = false := by
  have e1 : (op == CmpOp.In) = false := by cases op <;> first | rfl | exact absurd rfl h
  have e2 : (op == CmpOp.NotIn) = false := by cases op <;> first | rfl | exact absurd rfl h2
  cases b <;> simp [behindInMarks, e1, e2]
/-- a comparison as a value; hm: nomark b, or (for in, not in) by with_unfolding_all rfl -/
theorem pe_cmpR {op : CmpOp} {r : R2} (ho : OpR X (compareOp op) r) (ha : PE X a ta) (hb : PE X b tb) (hm : behindInMarks op b = false) : PE X (.Compare a [op] [b] pos) (tOp r ta tb) := by
  refine ⟨?_⟩
  intro pins s σ H Q I h
  exact wpAny_Compare1 (binT ha hb I h fun v u s2 x y H2 I2 rx ry q => ho pins s2 σ H2 x y v u Q I2 rx ry q) hm
/-- a reading of a value as a test -/
def tTest (t : TE) : TT := fun σ H Q => t σ H fun x H' => ∃ k, x = .bl k ∧ Q k H'
theorem pt_cmpR {op : CmpOp} {r : R2} (ho : OpR X (compareOp op) r) (ha : PE X a ta) (hb : PE X b tb) (hm : behindInMarks op b = false) : PT X (.Compare a [op] [b] pos) (tTest (tOp r ta tb)) := by
  refine ⟨?_⟩
  intro pins s σ H Q I h
  refine wpAny_isTrue_Compare1 (thn (ha pins s σ H _ I h) fun v s1 ⟨x, H1, I1, r1, q1⟩ => thn (hb pins s1 σ H1 _ I1 q1) fun u s2 ⟨y, H2, I2, r2, q2⟩ =>
    thn (ho pins s2 σ H2 x y v u _ I2 r1 r2 q2) fun c s3 ⟨z, H3, I3, r3, k, e, q3⟩ => ?_) hm
  subst e
  cases r3
  exact wpAny_truthy_bool ⟨H3, I3, q3⟩
/-- a op1 b op2 c -/
def tChain (r r' : R2) (ta tb tc : TE) : TE := fun σ H Q => ta σ H fun x H1 => tb σ H1 fun y H2 => r x y H2 fun z H3 => ∃ k, z = .bl k ∧
  (if k = true then tc σ H3 fun w' H4 => r' y w' H4 Q else Q (.bl false) H3)
/-! ### truth -/
/-- a value's truth by the abstract heap -/
def TruV (K : PySem.W.Frag) (x : V) (H : Hp) (k : Bool) : Prop :=
  match x with
  | .non => k = false
  | .bl b => k = b
  | .int i => k = (i != 0)
  | .str y => y.length ≤ sizeLine ∧ k = ((y.length : Int) != 0)
  | .byt y => y.size ≤ sizeLine ∧ k = ((y.size : Int) != 0)
  | .ref p => (∃ xs, SqL K H p xs ∧ k = !xs.isEmpty) ∨ (∃ xs, SqT K H p xs ∧ k = !xs.isEmpty) ∨ ∃ kvs, H p = some (.dK kvs) ∧ k = !kvs.isEmpty
  | _ => False
theorem line63 : (sizeLine : Nat) < 2 ^ 63 := by rw [sizeLine_eq]; decide
/-! ### strs and bytes -/
def PlainIxT (b : Expr) : Prop := ∀ o i, subscripted b false o i = operate [o, i] (getItem o i)
/-! ### scalar builtins, by CallR -/
theorem vals1 {x : V} {us : List Value} (r : Vals [x] us) : ∃ u, us = [u] ∧ RelV x u := by
  cases r with
  | cons r1 r2 => cases r2; exact ⟨_, rfl, r1⟩
theorem vals2 {x y : V} {us : List Value} (r : Vals [x, y] us) : ∃ u w', us = [u, w'] ∧ RelV x u ∧ RelV y w' := by
  cases r with
  | cons r1 r2 =>
    cases r2 with
    | cons r3 r4 => cases r4; exact ⟨_, _, rfl, r1, r3⟩
theorem call_abs : CallR X (.builtin "abs") (fun xs H Q => ∃ i, xs = [.int i] ∧ Q (.int (if i < 0 then -i else i)) H) := by
  intro pins s σ H xs us Q I r h
  obtain ⟨i, rfl, q⟩ := h
  obtain ⟨u, rfl, t, rfl⟩ := vals1 r
  exact call_abs_int fun u tk => ⟨.int (if i < 0 then -i else i), H, I.tok _, ⟨_, rfl⟩, q⟩
theorem call_int1 : CallR X (.type "int") (fun xs H Q => (∃ i, xs = [.int i] ∧ Q (.int i) H) ∨ ∃ k, xs = [.bl k] ∧ Q (.int (if k then 1 else 0)) H) := by
  intro pins s σ H xs us Q I r h
  rcases h with ⟨i, rfl, q⟩ | ⟨k, rfl, q⟩
  · obtain ⟨u, rfl, t, rfl⟩ := vals1 r
    exact call_int_int ⟨.int i, H, I, ⟨_, rfl⟩, q⟩
  · obtain ⟨u, rfl, r1⟩ := vals1 r
    cases r1
    exact call_int_bool ⟨.int (if k then 1 else 0), H, I.tok _, ⟨_, rfl⟩, q⟩
/-- len of a str, a bytes, a list, a tuple -/
def LenV (K : PySem.W.Frag) (x : V) (H : Hp) (n : Nat) : Prop :=
  match x with
  | .str y => y.length ≤ sizeLine ∧ n = y.length
  | .byt y => y.size ≤ sizeLine ∧ n = y.size
  | .ref p => (∃ xs, SqL K H p xs ∧ n = xs.length) ∨ ∃ xs, SqT K H p xs ∧ n = xs.length
  | _ => False
end
end L2

namespace L2
open PySem PySem.Spec PyProof.Rows

/-! ### an instance, its attributes a map -/
structure ObjM (h : Heap) (x dx C : Addr) (mA : Str → Option Value) : Prop where
  obj : h.get? x = some (PySem.W.instObj C dx)
  ns : h.Ns1 dx mA
  ne : dx ≠ x

theorem lookIn_ns {h : Heap} {dx : Addr} {mA : Str → Option Value} (n : h.Ns1 dx mA) : ∃ od, h.get? dx = some od ∧ ∀ name, PySem.W.lookIn name od = some (mA name) := by
  obtain ⟨o, es, ep, ho, hd, hk, _, hm⟩ := n
  refine ⟨o, ho, fun name => ?_⟩
  have e := hm name
  unfold nsFind findBy at e
  rw [← Array.find?_toList] at e
  unfold PySem.W.lookIn
  rw [hd]
  dsimp only
  split
  · rename_i y q
    rw [q] at e
    exact congrArg some e
  · rename_i q
    rw [q] at e
    have a : es.toList.any (·.refKey) = false := by
      rw [List.any_eq_false]
      intro y hy
      obtain ⟨z, t, hkey⟩ := hk y (Array.mem_toList_iff.mp hy)
      simp [DictEntry.refKey, hkey]
    have a' : ¬ es.toList.any (·.refKey) = true := by rw [a]; exact Bool.false_ne_true
    rw [if_neg a']
    exact congrArg some e

theorem ObjM.look {h : Heap} {x dx C : Addr} {mA : Str → Option Value} (I : ObjM h x dx C mA) : ∃ od, PySem.W.InstAt h x (PySem.W.instObj C dx) C (some od) ∧ ∀ name, PySem.W.lookIn name od = some (mA name) :=
  let ⟨od, ho, hl⟩ := lookIn_ns I.ns
  ⟨od, ⟨I.obj, rfl, rfl, ho⟩, hl⟩

section
variable {prog : Program} {w : World} {A : Around} {E : Value → Shared → Prop} {s : Shared} {K : PySem.W.Frag} {x dx C f : Addr} {mA : Str → Option Value} {name : Str} {v : Value}

end

/-! ### the attributes as a list of pairs -/
def putF (f : Str) (v : V) : List (Str × V) → List (Str × V)
  | [] => [(f, v)]
  | (g, x) :: r => if g = f then (g, v) :: r else (g, x) :: putF f v r
section
variable {P : Program} {w : World} {H H' : Hp} {h h' : Heap} {a C dx : Addr} {fs fs' : List (Str × V)}
theorem ins_get (hok : HOk P w H h) (e : H a = some (.ins C dx fs)) : ∃ mA, ObjM h a dx C mA ∧ (∀ f, RelO (fs.lookup f) (mA f)) ∧ PySem.Within mA (fs.map (·.1)) ∧ fs.length ≤ 1000 ∧ H dx = some (.own a) := by
  obtain ⟨d, z, ne, ob, mA, n, r, q⟩ := (show ObjOk P w H h a (.ins C dx fs) from hok a _ e)
  exact ⟨mA, ⟨ob, n, ne⟩, r, q, z, d⟩
end

/-! ### what of the text a class must have -/
structure Cls (K : PySem.W.Frag) (C : Addr) : Prop where
  pg : PySem.W.plainGet K C Str.empty = true
  hd : PySem.W.hasDictIn K C = true
  po : PySem.W.plainOver K C = true
  sa : PySem.W.findIn K (.ref C) "__setattr__" = some (some (.builtin "object.__setattr__"))
theorem Cls.get {K : PySem.W.Frag} {C : Addr} (c : Cls K C) (f : Str) : PySem.W.plainGet K C f = true := c.pg
/-- no class of it has the name -/
def NoAttr (K : PySem.W.Frag) (C : Addr) (f : Str) : Prop := PySem.W.findIn K (.ref C) f = some none
/-- a constant of the class -/
structure Con (K : PySem.W.Frag) (C : Addr) (f : Str) (v : V) (u : Value) : Prop where
  at_ : PySem.W.findIn K (.ref C) f = some (some u)
  rel : RelV v u
  get : PySem.W.specialIn K u "__get__" = some none
  cp : PySem.W.copiedNames.contains f = false
/-- a method: a plain def of the class or of one above it -/
structure Meth (K : PySem.W.Frag) (C : Addr) (m : Str) (f : Addr) : Prop where
  at_ : PySem.W.findIn K (.ref C) m = some (some (.ref f))
  fn : PySem.W.isFn K (.ref f) = true
  kp : PySem.W.keepIn K (.ref f) = true

section
variable {X : Cx} {pins : List (Addr × Obj)} {σ : St} {H : Hp} {s : Shared} {a C dx : Addr} {fs : List (Str × V)} {f : Str} {v : V} {A : Around} {E : Value → Shared → Prop}

/-- a new instance, tracked, without attributes -/
theorem Inv.made (I : Inv X pins σ H s) : Inv X pins σ (upd (upd H s.heap.objs.size (.own (s.heap.objs.size + 1))) (s.heap.objs.size + 1) (.ins C s.heap.objs.size []))
    { s with heap := (s.heap.push PySem.W.emptyDict).push (PySem.W.instObj C s.heap.objs.size) } := by
  have e1 : (s.heap.push PySem.W.emptyDict).get? s.heap.objs.size = some PySem.W.emptyDict := Heap.get?_push_size s.heap rfl
  have e2 : ((s.heap.push PySem.W.emptyDict).push (PySem.W.instObj C s.heap.objs.size)).get? (s.heap.objs.size + 1) = some (PySem.W.instObj C s.heap.objs.size) := by
    have := Heap.get?_push_size (s.heap.push PySem.W.emptyDict) (o := PySem.W.instObj C s.heap.objs.size) rfl
    rwa [Heap.size_push] at this
  have e3 : (s.heap.push PySem.W.emptyDict).Ns s.heap.objs.size (fun _ => none) := ⟨PySem.W.emptyDict, #[], _, e1, rfl, (fun e he => absurd he (by simp)), fun _ => rfl⟩
  have I1 := I.laid (a := s.heap.objs.size) (o := .own (s.heap.objs.size + 1)) (h' := s.heap.push PySem.W.emptyDict) (t' := s.toks) (fun b u q => Heap.get?_push_of_some _ q) (Nat.le_refl _) ⟨_, e1⟩
  refine I1.laid (a := s.heap.objs.size + 1) (o := .ins C s.heap.objs.size []) (t' := s.toks) (fun b u q => Heap.get?_push_of_some _ q) (Nat.le_of_eq (Heap.size_push _ _)) ?_
  have ne : s.heap.objs.size ≠ s.heap.objs.size + 1 := Nat.ne_of_lt (Nat.lt_succ_self _)
  refine ⟨by rw [upd_ne ne, upd_same], Nat.zero_le _, ne, e2, fun _ => none, (Heap.Ns1.of_empty e3).at fun o q => Heap.get?_push_of_some _ q, fun _ => True.intro, fun y hy => absurd rfl hy⟩

end

/-! ### readings and rules -/
/-- e.f, an attribute of the instance -/
def tFld (K : PySem.W.Frag) (ta : TE) (f : Str) : TE := fun σ H Q => ta σ H fun x H1 => ∃ a C dx fs v, x = .ref a ∧ H1 a = some (.ins C dx fs) ∧ Cls K C ∧ NoAttr K C f ∧ fs.lookup f = some v ∧ Q v H1
/-- e.f, a constant of the class -/
def tCon (K : PySem.W.Frag) (ta : TE) (f : Str) : TE := fun σ H Q => ta σ H fun x H1 => ∃ a C dx fs v u, x = .ref a ∧ H1 a = some (.ins C dx fs) ∧ Cls K C ∧ Con K C f v u ∧ fs.lookup f = none ∧ Q v H1
/-- e.f = value -/
def sFld (K : PySem.W.Frag) (ta tv : TE) (f : Str) : TS := fun D σ H => tv σ H fun y H1 => ta σ H1 fun x H2 => ∃ a C dx fs, x = .ref a ∧ H2 a = some (.ins C dx fs) ∧ Cls K C ∧ NoAttr K C f ∧ fs.length < 1000 ∧
  D.nx σ (upd H2 a (.ins C dx (putF f y fs)))
/-- an augmented operator on two values -/
def InOp (X : Cx) (op : Operator) (rd : V → V → Hp → VK → Prop) : Prop :=
  ∀ (pins : List (Addr × Obj)) (s : Shared) (σ : St) (H : Hp) (x y : V) (u v : Value) (Q : VK), Inv X pins σ H s → RelV x u → RelV y v → rd x y H Q → wpAny (model X.prog X.w) X.A (inplaceOp op u v) (EP X pins σ Q) X.xe s
/-- e.f op= value -/
def sFldAug (K : PySem.W.Frag) (ta tv : TE) (rd : V → V → Hp → VK → Prop) (f : Str) : TS := fun D σ H => ta σ H fun x H1 => ∃ a C dx fs v, x = .ref a ∧ H1 a = some (.ins C dx fs) ∧ Cls K C ∧ NoAttr K C f ∧ fs.lookup f = some v ∧
  tv σ H1 fun y H2 => rd v y H2 fun z H3 => ∃ dx' fs', H3 a = some (.ins C dx' fs') ∧ fs'.length < 1000 ∧ D.nx σ (upd H3 a (.ins C dx' (putF f z fs')))

section
variable {X : Cx} {o e value : Expr} {f : Str} {pos pos' tpos : Pos} {ta tv : TE}
def rAdd : V → V → Hp → VK → Prop := fun x y H Q => ∃ i j, x = .int i ∧ y = .int j ∧ Q (.int (i + j)) H
def rSub : V → V → Hp → VK → Prop := fun x y H Q => ∃ i j, x = .int i ∧ y = .int j ∧ Q (.int (i - j)) H
end

/-! ### isinstance -/
section
variable {X : Cx} {pins : List (Addr × Obj)} {σ : St} {H : Hp} {s : Shared} {A : Around} {E : Value → Shared → Prop} {Q : Value → Shared → Prop} {c : Value} {b : Bool}
/-- the type of a value, as the fragment's deciders take it; for an instance its class -/
inductive TyOf (K : PySem.W.Frag) (H : Hp) : V → Value → Prop where
  | non : TyOf K H .non (.type "NoneType")
  | bl (x : Bool) : TyOf K H (.bl x) (.type "bool")
  | int (i : Int) : TyOf K H (.int i) (.type "int")
  | str (x : Str) : TyOf K H (.str x) (.type "str")
  | flt (x : UInt64) : TyOf K H (.flt x) (.type "float")
  | lst {a : Addr} {xs : List V} (e : H a = some (.lst xs)) : TyOf K H (.ref a) (.type "list")
  | frz {a : Addr} {o : Obj} {xs : List V} (e : H a = some (.frz o (.lst xs))) : TyOf K H (.ref a) (.type "list")
  | tup {a : Addr} {xs : List V} (e : H a = some (.tup xs)) : TyOf K H (.ref a) (.type "tuple")
  | dK {a : Addr} {kvs : List (Key × V)} (e : H a = some (.dK kvs)) : TyOf K H (.ref a) (.type "dict")
  | dT {a : Addr} {kvs : List (List Key × V)} (e : H a = some (.dT kvs)) : TyOf K H (.ref a) (.type "dict")
  | ins {a C dx : Addr} {fs : List (Str × V)} (e : H a = some (.ins C dx fs)) (cl : Cls K C) (ha : PySem.W.findIn K (.ref C) "__class__" = some (some (.builtin "object.__class__")))
      (hn : PySem.W.specialIn K (.builtin "object.__class__") "__get__" = some (some (.builtin "getset_descriptor.__get__"))) (htk : PySem.W.takesIn K (.builtin "object.__class__") = some true)
      (hm : PySem.W.mroIn K C (.type "object") = some true) : TyOf K H (.ref a) (.ref C)
/-- isinstance(x, c) for one class c, a built-in or an own one: kitOne's answer -/
theorem isinst_ok {x : V} {u t : Value} (I : Inv X pins σ H s) (rx : RelV x u) (ty : TyOf X.K H x t) (e : PySem.W.kitOne X.K t c = some b) (h : ∀ tk, Q (.bool b) { s with toks := tk }) :
    wpAny (model X.prog X.w) A (call (.builtin "isinstance") [u, c]) Q E s := by
  cases ty with
  | non => cases (show u = Value.none from rx); exact PySem.W.kia_one PySem.W.kitx_none I.kIn True.intro e (fun z => nomatch z) h
  | bl y => cases (show u = Value.bool y from rx); exact PySem.W.kia_one PySem.W.kitx_bool I.kIn True.intro e (fun z => nomatch z) h
  | int i => obtain ⟨t, q⟩ := (show ∃ t, u = Value.int i t from rx); cases q; exact PySem.W.kia_one PySem.W.kitx_int I.kIn True.intro e (fun z => nomatch z) h
  | str y => obtain ⟨t, q⟩ := (show ∃ t, u = Value.str y t from rx); cases q; exact PySem.W.kia_one PySem.W.kitx_str I.kIn True.intro e (fun z => nomatch z) h
  | flt y => obtain ⟨t, q⟩ := (show ∃ t, u = Value.float y t from rx); cases q; exact PySem.W.kia_one PySem.W.kitx_float I.kIn True.intro e (fun z => nomatch z) h
  | @lst a xs ea =>
    cases (show u = Value.ref a from rx)
    obtain ⟨_, _, n, _, h1⟩ := (show ObjOk X.prog X.w H s.heap a (.lst xs) from I.hok a _ ea)
    exact PySem.W.kia_one PySem.W.kitx_list I.kIn ⟨_, h1, rfl⟩ e (fun z => nomatch z) h
  | @frz a ob xs ea =>
    cases (show u = Value.ref a from rx)
    obtain ⟨_, _, _, n, _, h1⟩ := (show ObjOk X.prog X.w H s.heap a (.frz ob (.lst xs)) from I.hok a _ ea)
    exact PySem.W.kia_one PySem.W.kitx_list I.kIn ⟨_, h1, rfl⟩ e (fun z => nomatch z) h
  | @tup a xs ea =>
    cases (show u = Value.ref a from rx)
    obtain ⟨_, _, _, p⟩ := (show ObjOk X.prog X.w H s.heap a (.tup xs) from I.hok a _ ea)
    obtain ⟨o, h1, h2, _⟩ := p
    exact PySem.W.kia_one PySem.W.kitx_tuple I.kIn ⟨o, h1, h2⟩ e (fun z => nomatch z) h
  | @dK a kvs ea =>
    cases (show u = Value.ref a from rx)
    obtain ⟨_, _, vs, _, p⟩ := (show ObjOk X.prog X.w H s.heap a (.dK kvs) from I.hok a _ ea)
    obtain ⟨o, es, ep, h1, h2, _⟩ := p
    exact PySem.W.kia_one PySem.W.kitx_dict I.kIn ⟨o, h1, h2.1⟩ e (fun z => nomatch z) h
  | @dT a kvs ea =>
    cases (show u = Value.ref a from rx)
    obtain ⟨_, _, xs, _, o, es, ep, h1, h2, _⟩ := (show ObjOk X.prog X.w H s.heap a (.dT kvs) from I.hok a _ ea)
    exact PySem.W.kia_one PySem.W.kitx_dict I.kIn ⟨o, h1, h2.1⟩ e (fun z => nomatch z) h
  | @ins a C dx fs ea cl ha hn htk hm =>
    cases (show u = Value.ref a from rx)
    obtain ⟨mA, O, _⟩ := ins_get I.hok ea
    obtain ⟨od, J, _⟩ := O.look
    exact PySem.W.kia_one (PySem.W.kitx_own (cl.get _) cl.hd ha hn htk hm) I.kIn J e (fun z => nomatch z) h
end
end L2

namespace L2
open PySem PySem.Spec PyProof.Rows

/-! ### room -/
structure Room (k : Nat) (A : Around) : Prop where
  hd : A.handled = none
  dp : A.depth + 3 * k + 5 < recursionLimit
  un : A.units + 16 * k + 200 < cLine
theorem Room.mono {j k : Nat} {A : Around} (r : Room k A) (h : j ≤ k) : Room j A := ⟨r.hd, by have := r.dp; omega, by have := r.un; omega⟩
theorem Room.deeper {k : Nat} {A : Around} (r : Room (k + 1) A) (env : Env) : Room k (A.deeper env) :=
  ⟨r.hd, by have := r.dp; show A.depth + 1 + 3 * k + 5 < _; omega, by have := r.un; show A.units + 3 + 16 * k + 200 < _; omega⟩
theorem Room.in1 {k : Nat} {A : Around} (r : Room (k + 1) A) : Room k A.in1 :=
  ⟨r.hd, by have := r.dp; show A.depth + 3 * k + 5 < _; omega, by have := r.un; show A.units + 1 + 16 * k + 200 < _; omega⟩
theorem Room.depth {k : Nat} {A : Around} (r : Room k A) : A.depth < recursionLimit := by have := r.dp; omega
theorem Room.units {k : Nat} {A : Around} (r : Room k A) : A.units + 64 < cLine := by have := r.un; omega
/-! ### argument lists and displays -/
def tNil : TA := fun _ H Q => Q [] H
def tCons (ta : TE) (tr : TA) : TA := fun σ H Q => ta σ H fun x H1 => tr σ H1 fun xs H2 => Q (x :: xs) H2
section
variable {X : Cx} {e : Expr} {es : List Expr} {te : TE} {t : TA} {pos : Pos}
theorem pa_nil : PA X [] tNil := ⟨fun _ _ _ _ H Q I h => Calls.spliced_nil ⟨[], H, I, .nil, h⟩⟩
theorem pa_cons (ha : PE X e te) (hr : PA X es t) (hs : starEach (e :: es) X.env = (false, eval e X.env) :: starEach es X.env := by rfl) : PA X (e :: es) (tCons te t) := by
  refine ⟨?_⟩
  intro pos pins s σ H Q I h
  rw [hs]
  show wpAny _ _ (spliced ((false, eval e X.env) :: backTo pos (starEach es X.env))) _ _ s
  refine Calls.spliced_cons (thn (ha pins s σ H _ I h) fun u s1 ⟨x, H1, I1, r1, q1⟩ => ?_)
  exact thn (hr pos pins s1 σ H1 _ I1 q1) fun us s2 ⟨xs, H2, I2, r2, q2⟩ => ⟨x :: xs, H2, I2, .cons r1 r2, q2⟩

/-- a tuple, a list of written items -/
def tTup (t : TA) : TE := fun σ H Q => t σ H fun xs H1 => xs.length ≤ sizeLine ∧ ∀ p, H1 p = none → Q (.ref p) (upd H1 p (.tup xs))
def tLst (t : TA) : TE := fun σ H Q => t σ H fun xs H1 => xs.length ≤ sizeLine ∧ ∀ p, H1 p = none → Q (.ref p) (upd H1 p (.lst xs))
theorem pe_tup {x1} (h : PA X es t) : PE X (.Tuple es x1 pos) (tTup t) := by
  refine ⟨?_⟩
  intro pins s σ H Q I hq
  refine wpAny_Tuple_spliced (thn (h pos pins s σ H _ I hq) fun us s1 ⟨xs, H1, I1, r, z, q⟩ => ⟨by rw [← r.length]; exact z, ?_⟩)
  have hf : H1 s1.heap.objs.size = none := I1.hok.fresh (Nat.le_refl _)
  refine ⟨.ref s1.heap.objs.size, upd H1 s1.heap.objs.size (.tup xs), I1.laid (t' := s1.toks) (fun b u e => Heap.get?_push_of_some _ e) (Nat.le_refl _) ?_, rfl, q _ hf⟩
  exact ⟨z, us, r, ⟨_, Heap.get?_push_size _ rfl, rfl, _, rfl⟩⟩
theorem pe_lst (h : PA X es t) : PE X (.List es pos) (tLst t) := by
  refine ⟨?_⟩
  intro pins s σ H Q I hq
  refine wpAny_List_spliced (thn (h pos pins s σ H _ I hq) fun us s1 ⟨xs, H1, I1, r, z, q⟩ => ⟨by rw [← r.length]; exact z, ?_⟩)
  have hf : H1 s1.heap.objs.size = none := I1.hok.fresh (Nat.le_refl _)
  refine ⟨.ref s1.heap.objs.size, upd H1 s1.heap.objs.size (.lst xs), I1.laid (t' := s1.toks) (fun b u e => Heap.get?_push_of_some _ e) (Nat.le_refl _) ?_, rfl, q _ hf⟩
  exact ⟨z, us, 0, r, Heap.get?_push_size _ rfl⟩
end

/-! ### what a def promises -/
/-- a def's promise: the bound arguments in the parameters' order, the heap, the wanted end, the wanted exception -/
abbrev Sp := List V → Hp → VK → XK → Prop
/-- how an exception lies behind a call (file 08 gives it): the callers' frames, abstract heap and state ahead of the call, the wish, the exception, the state -/
abbrev CXT := List Env → Hp → Shared → XK → Value → Shared → Prop

/-- the state at a call -/
structure Env0 (P : Program) (w : World) (K : PySem.W.Frag) (mg : Str → Option Value) (base : Heap) (A : Around) (outer : List Env) (s : Shared) (H : Hp) : Prop where
  frames : A.frames = some outer
  mod : Mod K mg base
  bs : ∀ b o, base.get? b = some o → s.heap.get? b = some o ∧ H b = none
  bsz : base.objs.size ≤ s.heap.objs.size
  funs : s.heap.FunFrames base outer
  frf : ∀ b ∈ frs outer, H b = none
  hok : HOk P w H s.heap
  bare : AllBare s.gens
/-- a call's end -/
def CE (outer : List Env) (P : Program) (w : World) (H : Hp) (s : Shared) (Q : VK) (u : Value) (s' : Shared) : Prop :=
  ∃ v H', s'.os = s.os ∧ AllBare s'.gens ∧ Un (frs outer) [] H H' s.heap s'.heap ∧ HOk P w H' s'.heap ∧ RelV v u ∧ Q v H'
def CR (CX : CXT) (outer : List Env) (P : Program) (w : World) (H : Hp) (s : Shared) (Q : VK) (E : XK) (r : Result) (s' : Shared) : Prop :=
  match r with
  | .ok (.ret u) => CE outer P w H s Q u s'
  | .ok _ => False
  | .error e => CX outer H s E e s'
structure FnOk (P : Program) (w : World) (K : PySem.W.Frag) (mg : Str → Option Value) (base : Heap) (CX : CXT) (k : Nat) (f : Addr) (fd : FuncData) (ps : List Str) (sp : Sp) : Prop where
  len : ∀ vs H Q E, sp vs H Q E → vs.length = ps.length
  run : ∀ (A : Around) (outer : List Env) (s : Shared) (H : Hp) (args : Args) (us : List Value) (vs : List V) (Q : VK) (E : XK), Room k A → Env0 P w K mg base A outer s H → BindsTo s fd args (ps.zip us) → Vals vs us → sp vs H Q E →
    codeAny (model P w) A (.call (.ref f) args) (CR CX outer P w H s Q E) s
theorem FnOk.mono {P : Program} {w : World} {K : PySem.W.Frag} {mg : Str → Option Value} {base : Heap} {CX : CXT} {j k : Nat} {f : Addr} {fd : FuncData} {ps : List Str} {sp : Sp} (F : FnOk P w K mg base CX j f fd ps sp) (h : j ≤ k) :
    FnOk P w K mg base CX k f fd ps sp := ⟨F.len, fun A outer s H args us vs Q E hr => F.run A outer s H args us vs Q E (hr.mono h)⟩
/-- a weaker promise -/
theorem FnOk.imp {P : Program} {w : World} {K : PySem.W.Frag} {mg : Str → Option Value} {base : Heap} {CX : CXT} {k : Nat} {f : Addr} {fd : FuncData} {ps : List Str} {sp sp' : Sp} (F : FnOk P w K mg base CX k f fd ps sp)
    (h : ∀ vs H Q E, sp' vs H Q E → sp vs H Q E) : FnOk P w K mg base CX k f fd ps sp' :=
  ⟨fun vs H Q E q => F.len vs H Q E (h _ _ _ _ q), fun A outer s H args us vs Q E hr he hb hv hs => F.run A outer s H args us vs Q E hr he hb hv (h _ _ _ _ hs)⟩

theorem Env0.in1 {P : Program} {w : World} {K : PySem.W.Frag} {mg : Str → Option Value} {base : Heap} {A : Around} {outer : List Env} {s : Shared} {H : Hp} (e : Env0 P w K mg base A outer s H) :
    Env0 P w K mg base A.in1 outer s H := ⟨e.frames, e.mod, e.bs, e.bsz, e.funs, e.frf, e.hok, e.bare⟩

section
variable {X : Cx} {pins : List (Addr × Obj)} {σ : St} {H : Hp} {s s' : Shared}
/-- from a body: what a callee wants -/
theorem Inv.env0 (I : Inv X pins σ H s) : Env0 X.prog X.w X.K X.mg X.base X.A X.stack s H :=
  ⟨I.ok.frames, I.ok.mod, I.bs, Nat.le_trans I.ok.bsz I.sz, I.stack, I.stkFree, I.hok, I.bare⟩
/-- behind a call -/
theorem Inv.after {Q : VK} {u : Value} (I : Inv X pins σ H s) (h : CE X.stack X.prog X.w H s Q u s') : EP X pins σ Q u s' := by
  obtain ⟨v, H', os, bare, un, hok, r, q⟩ := h
  obtain ⟨hh, g, d, t, os'⟩ := s'
  obtain rfl : os' = s.os := os
  exact ⟨v, H', I.call (h' := hh) (g' := g) (d' := d) (t' := t) (ch := []) un hok bare (fun b z => absurd z (by simp)), r, q⟩
end

/-! ### calls -/
/-- f(..): the written arguments, then the defaults dvs; E: what is wanted of an exception -/
def tCall (sp : Sp) (dvs : List V) (E : XK) (t : TA) : TE := fun σ H Q => t σ H fun vs H1 => sp (vs ++ dvs) H1 Q E
/-- o.m(..) of an instance of the class at C -/
def tMeth (C : Addr) (m : Str) (sp : Sp) (dvs : List V) (E : XK) (ta : TE) (t : TA) : TE := fun σ H Q => ta σ H fun x H1 => ∃ a dx fs, x = .ref a ∧ H1 a = some (.ins C dx fs) ∧ fs.lookup m = none ∧
  t σ H1 fun vs H2 => sp (x :: (vs ++ dvs)) H2 Q E
/-- C(..): a new instance and its dict, then __init__ -/
def tMake (C : Addr) (sp : Sp) (dvs : List V) (E : XK) (t : TA) : TE := fun σ H Q => t σ H fun vs H1 => ∀ x dx, H1 x = none → H1 dx = none → dx ≠ x →
  sp (.ref x :: (vs ++ dvs)) (upd (upd H1 dx (.own x)) x (.ins C dx [])) (fun v H2 => v = .non ∧ Q (.ref x) H2) E

/-- how the parameters are bound: us the positional arguments, kw the keywords' values by name, ds the defaults that fill up -/
def Binds (K : PySem.W.Frag) (fd : FuncData) (ps : List Str) (ds : List Value) : Prop :=
  ∀ (s : Shared) (us : List Value), K.In s.heap → (us ++ ds).length = ps.length → BindsTo s fd ⟨us, []⟩ (ps.zip (us ++ ds))
/-- every parameter is given -/
theorem Binds.all {K : PySem.W.Frag} {fd : FuncData} {ps : List Str} (h : ∀ us : List Value, us.length = ps.length → bindArgs fd ⟨us, []⟩ = pure (ps.zip us)) : Binds K fd ps [] := fun s us _ hl => by
  rw [List.append_nil] at hl ⊢
  exact .of_eq (h us hl)

/-- an exception of a callee reaches what this body wants of exceptions -/
def Passes (CX : CXT) (X : Cx) (E : XK) : Prop := ∀ (pins : List (Addr × Obj)) (σ : St) (H : Hp) (s : Shared) (e : Value) (s' : Shared), Inv X pins σ H s → CX X.stack H s E e s' → X.xe e s'

section
variable {X : Cx} {CX : CXT} {k : Nat} {f C : Addr} {fd : FuncData} {ps : List Str} {sp : Sp} {dvs : List V} {ds : List Value} {E : XK} {x m : Str} {p pos apos : Pos} {e o : Expr} {es : List Expr} {ta : TE} {t : TA}

/-- the callee runs -/
theorem run_fn {pins : List (Addr × Obj)} {σ : St} {H : Hp} {s : Shared} {Q : VK} {us : List Value} {vs : List V} (F : FnOk X.prog X.w X.K X.mg X.base CX k f fd ps sp) (hr : Room k X.A) (hb : Binds X.K fd ps ds) (hd : Vals dvs ds) (hx : Passes CX X E)
    (I : Inv X pins σ H s) (r : Vals vs us) (h : sp (vs ++ dvs) H Q E) : wpAny (model X.prog X.w) X.A (call (.ref f) us) (EP X pins σ Q) X.xe s := by
  have r2 : Vals (vs ++ dvs) (us ++ ds) := r.append hd
  have hl : (us ++ ds).length = ps.length := by rw [← r2.length]; exact F.len _ _ _ _ h
  refine wpAny_call (codeAny_mono (F.run X.A X.stack s H ⟨us, []⟩ (us ++ ds) (vs ++ dvs) Q E hr I.env0 (hb s us I.kIn hl) r2 h) fun r s' hq => ?_)
  cases r with
  | error e => exact hx pins σ H s e s' I hq
  | ok fl =>
    cases fl with
    | ret u => exact I.after hq
    | next => exact False.elim hq
    | brk => exact False.elim hq
    | cont => exact False.elim hq

theorem pe_call (F : FnOk X.prog X.w X.K X.mg X.base CX k f fd ps sp) (hr : Room k X.A) (hg : Gl X x) (hm : X.mg x = some (.ref f)) (hk : PySem.W.keepIn X.K (.ref f) = true) (hb : Binds X.K fd ps ds) (hd : Vals dvs ds) (hx : Passes CX X E)
    (ha : PA X (e :: es) t) (hdb : (x == ("__debug__" : Str)) = false := by decide) (he : starEach (e :: es) X.env = (false, eval e X.env) :: starEach es X.env := by rfl) (hpl : (backTo pos (starEach es X.env)).any (·.1) = false := by rfl) :
    PE X (.Call (.Name x p) (e :: es) [] pos) (tCall sp dvs E t) := by
  refine ⟨?_⟩
  intro pins s σ H Q I h
  refine wpAny_Call_Name_kw (ld_glob I hg hm ?_ hdb)
  refine PySem.W.callWith_K (h₀ := X.base) I.ok.mod.kin hk (thn (ha pos pins s σ H _ I h) fun us s1 ⟨vs, H1, I1, r, q⟩ => ⟨I1.kIn, ?_⟩) he hpl
  exact run_fn F hr hb hd hx I1 r q
/-- what a class must have to be made -/
structure Mk (K : PySem.W.Frag) (C f : Addr) : Prop where
  makes : PySem.W.makesIn K C = true
  init : PySem.W.findIn K (.ref C) "__init__" = some (some (.ref f))
  fn : PySem.W.isFn K (.ref f) = true
  kp : PySem.W.keepIn K (.ref C) = true

end

/-! ### keywords -/
/-- the values of the keywords, from the left -/
structure PK (X : Cx) (kws : List Keyword) (t : TA)  : Prop where
  go : ∀ (pos : Pos) (pins : List (Addr × Obj)) (s : Shared) (σ : St) (H : Hp) (Q : List V → Hp → Prop), Inv X pins σ H s → t σ H Q → wpAny (model X.prog X.w) X.A (evalAll ((backToKw pos (keywordEach kws X.env)).map (·.2))) (AP X pins σ Q) X.xe s
instance {X : Cx} {kws : List Keyword} {t : TA} : CoeFun (PK X kws t) (fun _ => ∀ (pos : Pos) (pins : List (Addr × Obj)) (s : Shared) (σ : St) (H : Hp) (Q : List V → Hp → Prop), Inv X pins σ H s → t σ H Q → wpAny (model X.prog X.w) X.A (evalAll ((backToKw pos (keywordEach kws X.env)).map (·.2))) (AP X pins σ Q) X.xe s) := ⟨PK.go⟩
section
variable {X : Cx} {CX : CXT} {k : Nat} {f C : Addr} {fd : FuncData} {ps ks : List Str} {sp : Sp} {E : XK} {x m : Str} {p pos apos kpos : Pos} {e o : Expr} {es : List Expr} {kws : List Keyword} {te ta : TE} {t tk : TA} {nm : Option Str}
/-- how a call with keywords binds: g puts the positional values us and the keywords' values ws (names ks) in the parameters' order, defaults among them -/
structure KBinds (K : PySem.W.Frag) (fd : FuncData) (ps ks : List Str) (g : List Value → List Value → List Value) (gV : List V → List V → List V) : Prop where
  to : ∀ (s : Shared) (us ws : List Value), K.In s.heap → (g us ws).length = ps.length → BindsTo s fd ⟨us, ks.zip ws⟩ (ps.zip (g us ws))
  rel : ∀ {vs : List V} {us : List Value} {zs : List V} {ws : List Value}, Vals vs us → Vals zs ws → Vals (gV vs zs) (g us ws)
def tCallK (sp : Sp) (gV : List V → List V → List V) (E : XK) (t tk : TA) : TE := fun σ H Q => t σ H fun vs H1 => tk σ H1 fun zs H2 => sp (gV vs zs) H2 Q E
variable {g : List Value → List Value → List Value} {gV : List V → List V → List V}
end

/-! ### a def's body keeps its promise -/
/-- names: the parameters first -/
structure FnScope (N P : List Str) (sc : Scope) : Prop where
  kind : sc.kind = .function
  co : sc.isCoroutine = false
  gen : sc.isGenerator = false
  nd : N.Nodup
  pre : N.take P.length = P
  par : ∀ x ∈ P, sc.names.lookup x = some .local ∨ sc.names.lookup x = some .cell
  nofree : ∀ y ∈ sc.names, y.2 ≠ .free

theorem bindL_out {kindOf : Str → Option NameKind} {x : Str} : ∀ {binds : List (Str × Value)} {m : Str → Option Value}, (∀ v, (x, v) ∉ binds) → bindL kindOf binds m x = m x
  | [], _, _ => rfl
  | (n, v) :: r, m, h => by
    unfold bindL
    rw [bindL_out fun w hw => h w (List.mem_cons_of_mem _ hw)]
    split
    · have : x ≠ n := by rintro rfl; exact h v List.mem_cons_self
      simp [this]
    · rfl
theorem bindC_out {kindOf : Str → Option NameKind} {x : Str} : ∀ {binds : List (Str × Value)} {m : Str → Option Value}, (∀ v, (x, v) ∉ binds) → bindC kindOf binds m x = m x
  | [], _, _ => rfl
  | (n, v) :: r, m, h => by
    unfold bindC
    rw [bindC_out fun w hw => h w (List.mem_cons_of_mem _ hw)]
    split
    · rfl
    · have : x ≠ n := by rintro rfl; exact h v List.mem_cons_self
      simp [this]
theorem bindL_get {kindOf : Str → Option NameKind} {x : Str} {v : Value} : ∀ {P : List Str} {vs : List Value} {i : Nat} {m : Str → Option Value}, P.Nodup → P[i]? = some x → vs[i]? = some v → kindOf x = some .local →
    bindL kindOf (P.zip vs) m x = some v
  | [], _, _, _, _, h, _, _ => by simp at h
  | _ :: _, [], _, _, _, _, h, _ => by simp at h
  | p :: P, w :: vs, 0, m, nd, h1, h2, hk => by
    simp at h1 h2; subst h1; subst h2
    show bindL kindOf ((p, w) :: P.zip vs) m p = _
    unfold bindL
    rw [bindL_out fun v hv => (List.nodup_cons.mp nd).1 (List.of_mem_zip hv).1, if_pos hk]
    simp
  | p :: P, w :: vs, i + 1, m, nd, h1, h2, hk => by
    show bindL kindOf ((p, w) :: P.zip vs) m x = _
    unfold bindL
    exact bindL_get (i := i) (List.nodup_cons.mp nd).2 (by simpa using h1) (by simpa using h2) hk
theorem bindC_get {kindOf : Str → Option NameKind} {x : Str} {v : Value} : ∀ {P : List Str} {vs : List Value} {i : Nat} {m : Str → Option Value}, P.Nodup → P[i]? = some x → vs[i]? = some v → kindOf x ≠ some .local →
    bindC kindOf (P.zip vs) m x = some v
  | [], _, _, _, _, h, _, _ => by simp at h
  | _ :: _, [], _, _, _, _, h, _ => by simp at h
  | p :: P, w :: vs, 0, m, nd, h1, h2, hk => by
    simp at h1 h2; subst h1; subst h2
    show bindC kindOf ((p, w) :: P.zip vs) m p = _
    unfold bindC
    rw [bindC_out fun v hv => (List.nodup_cons.mp nd).1 (List.of_mem_zip hv).1, if_neg hk]
    simp
  | p :: P, w :: vs, i + 1, m, nd, h1, h2, hk => by
    show bindC kindOf ((p, w) :: P.zip vs) m x = _
    unfold bindC
    exact bindC_get (i := i) (List.nodup_cons.mp nd).2 (by simpa using h1) (by simpa using h2) hk

/-- the names' values at the entry -/
def start (N : List Str) (vs : List V) : St := vs.map some ++ List.replicate (N.length - vs.length) none

/-- the context of a def's body, at its entry; an exception leaves the frame, then lies as CX says -/
def cxOf (CX : CXT) (P : Program) (w : World) (K : PySem.W.Frag) (mg : Str → Option Value) (base : Heap) (N : List Str) (qual : Str) (scope : Scope) (f : Addr) (cd : Value) (A : Around) (outer : List Env) (s : Shared) (H : Hp) (E : XK) : Cx where
  prog := P
  w := w
  K := K
  mg := mg
  base := base
  A := A.deeper (envOfC qual scope s.heap.objs.size f cd)
  N := N
  s₀ := s
  H₀ := H
  env := envOfC qual scope s.heap.objs.size f cd
  outer := outer
  stack := envOfC qual scope s.heap.objs.size f cd :: outer
  ex := []
  calm := true
  fn := fun _ => true
  pn := []
  xe := fun e s' => wpAny (model P w) (A.deeper (envOfC qual scope s.heap.objs.size f cd)) (leaving (envOfC qual scope s.heap.objs.size f cd) e) (fun _ s'' => CX outer H s E e s'') (fun e' s'' => CX outer H s E e' s'') s'

theorem cell_has {sc : Scope} {n : Nat} {x : Str} (h : sc.names.lookup x = some .cell) : ∃ c, (cellsFrom n sc.names []).lookup x = some c := by
  have q := PySem.W.cellsFrom_some sc.names n [] (.inl h)
  exact Option.isSome_iff_exists.mp q

theorem inv_start {CX : CXT} {P : Program} {w : World} {K : PySem.W.Frag} {mg : Str → Option Value} {base : Heap} {N ps : List Str} {qual : Str} {scope : Scope} {f : Addr} {cd : Value} {A : Around} {outer : List Env} {s s1 : Shared} {H : Hp} {E : XK} {us : List Value} {vs : List V}
    (S : FnScope N ps scope) (hd : A.handled = none) (e0 : Env0 P w K mg base A outer s H) (hl : vs.length = ps.length) (r : Vals vs us)
    (x : InCallC s s.heap.objs.size (bindL (envOfC qual scope s.heap.objs.size f cd).kindOf (ps.zip us) fun _ => none) (cellsFrom (s.heap.objs.size + 1) scope.names []) (bindC (envOfC qual scope s.heap.objs.size f cd).kindOf (ps.zip us) fun _ => none) s1) :
    Inv (cxOf CX P w K mg base N qual scope f cd A outer s H E) [] (start N vs) H s1 := by
  have hpl : ps.length ≤ N.length := by have := congrArg List.length S.pre; rw [List.length_take] at this; omega
  obtain ⟨h1, tk, rfl, hk⟩ := x.done
  have noA : ∀ b : Addr, b ∉ (cxOf CX P w K mg base N qual scope f cd A outer s H E).ex := fun b z => absurd (show b ∈ ([] : List Addr) from z) (by simp)
  refine ⟨⟨e0.mod, S.kind, rfl, rfl, Nat.le_refl _, fun y z c h1 h2 => ?_, fun y hy => ?_, fun y c _ h => ?_, fun _ => hd, Around.frames_deeper e0.frames, .inr ⟨rfl, rfl⟩, fun b z => absurd z (noA b), e0.bs, e0.bsz, fun b _ _ => noA b, fun b z => absurd z (noA b), e0.funs, e0.frf⟩,
    rfl, e0.bare, Un.kept hk, ⟨_, x.toInCall.ns, fun i y v h1 h2 h3 => ?_⟩, fun y c h => ⟨_, x.cell y c h⟩, e0.hok.fresh (Nat.le_refl _), fun y c h => ?_, fun p hp => absurd (show p ∈ ([] : List (Addr × Obj)) from hp) (by simp), e0.hok.kept hk, ?_⟩
  · exact name_of_addr x.apart (PySem.mem_of_lookup h1) (PySem.mem_of_lookup h2)
  · have hy : scope.names.lookup y = some .cell ∨ scope.names.lookup y = some .free := hy
    rcases hy with hy | hy
    · exact cell_has hy
    · exact absurd rfl (S.nofree _ (PySem.mem_of_lookup hy))
  · exact Nat.le_of_lt (x.above y c (PySem.mem_of_lookup h))
  · have hi : i < vs.length := by
      unfold start at h2
      by_cases hi : i < vs.length
      · exact hi
      · rw [List.getElem?_append_right (by simpa using hi)] at h2
        rw [List.getElem?_replicate] at h2
        split at h2 <;> cases h2
    have ha : vs[i]? = some v := by
      unfold start at h2
      rw [List.getElem?_append_left (by simpa using hi), List.getElem?_map] at h2
      cases e : vs[i]? with
      | none => rw [e] at h2; cases h2
      | some a => rw [e] at h2; cases h2; rfl
    obtain ⟨u, hu, rv⟩ := r.get ha
    have hp : ps[i]? = some y := by
      rw [← S.pre, List.getElem?_take_of_lt (by omega)]; exact h1
    have ndP : ps.Nodup := by rw [← S.pre]; exact S.nd.sublist (List.take_sublist _ _)
    refine ⟨u, rv, ?_⟩
    rcases S.par y (List.mem_of_getElem? hp) with k | k
    · exact .inl ⟨k, bindL_get ndP hp hu k⟩
    · obtain ⟨c, e⟩ := cell_has (n := s.heap.objs.size + 1) k
      refine .inr ⟨.inl k, c, e, ?_⟩
      have q := x.cell y c e
      rw [bindC_get ndP hp hu (by show scope.names.lookup y ≠ _; rw [k]; decide)] at q
      exact q
  · exact e0.hok.fresh (Nat.le_of_lt (x.above y c (PySem.mem_of_lookup h)))
  · unfold start
    show _ = N.length
    rw [List.length_append, List.length_map, List.length_replicate]
    omega

/-- THE RULE: a def (or a method) of the text, by its body. The body's reading t is chosen for each entry; it is run at the parameters' values -/
theorem fn_of {CX : CXT} {P : Program} {w : World} {K : PySem.W.Frag} {mg : Str → Option Value} {base : Heap} {k : Nat} {f : Addr} {name qual : Str} {params : Arguments} {body : List Stmt} {scope : Scope} {dV kV doc pm cdv ct oc : Value} {an od : Option Addr}
    {osl : Array (Option Value)} {N ps : List Str} {sp : Sp} (lk : K.lookup f = some ⟨oc, od, .func (PySem.W.fnOf name qual params body scope dV kV doc pm an cdv ct), osl⟩) (hcd : PySem.W.codeIn K cdv qual = true) (S : FnScope N ps scope)
    (len : ∀ vs H Q E, sp vs H Q E → vs.length = ps.length)
    (hbody : ∀ (A : Around) (outer : List Env) (s : Shared) (H : Hp) (vs : List V) (Q : VK) (E : XK), Room k (A.deeper (envOfC qual scope s.heap.objs.size f cdv)) → sp vs H Q E →
      ∃ t, PSs (cxOf CX P w K mg base N qual scope f cdv A outer s H E) body t ∧ t { nx := fun _ H' => Q .non H', rt := Q } (start N vs) H) :
    FnOk P w K mg base CX (k + 1) f (PySem.W.fnOf name qual params body scope dV kV doc pm an cdv ct) ps sp := by
  refine ⟨len, fun A outer s H args us vs Q E hr e0 hb r hsp => ?_⟩
  have hl := len _ _ _ _ hsp
  have KX : K.In s.heap := e0.mod.kin.keeps fun b o e => (e0.bs b o e).1
  have lim : s.heap.NoLimit := e0.mod.nolimit.keeps fun b o e => (e0.bs b o e).1
  have hkind : ∀ y ∈ ps.zip us, scope.names.lookup y.1 = some .local ∨ (scope.names.lookup y.1 = some .cell ∧ ((cellsFrom (s.heap.objs.size + 1) scope.names []).lookup y.1).isSome = true) := fun ⟨n, v⟩ hy => by
    rcases S.par n (List.of_mem_zip hy).1 with q | q
    · exact .inl q
    · exact .inr ⟨q, PySem.W.cellsFrom_some _ _ _ (.inl q)⟩
  refine codeAny_call_function hr.depth (KX _ _ lk) rfl S.co S.gen rfl (PySem.W.codeRec_of KX hcd) (hb _ _ _ _ ?_)
  refine wpAny_newFunctionEnv_cells S.kind hkind fun env he s1 x => ?_
  subst he
  refine ⟨lim.keeps x.toInCall.keep, codeAny_func ?_⟩
  obtain ⟨t, ht, hq⟩ := hbody A outer s H vs Q E (hr.deeper _) hsp
  have I : Inv (cxOf CX P w K mg base N qual scope f cdv A outer s H E) [] (start N vs) H s1 := inv_start S hr.hd e0 hl r x
  refine wpAny_mono (ht [] s1 (start N vs) H _ I hq) (fun fl s' hs => ?_) fun e s' hs => hs
  have fin : ∀ {σ' : St} {H' : Hp} {v : V} {u : Value}, Inv (cxOf CX P w K mg base N qual scope f cdv A outer s H E) [] σ' H' s' → RelV v u → Q v H' → CE outer P w H s Q u s' :=
    fun {σ' H' v u} J rv q => ⟨v, H', J.os, J.bare, J.base, J.hok, rv, q⟩
  cases fl with
  | ret u =>
    obtain ⟨v, σ', H', J, rv, q⟩ := hs
    exact fin J rv q
  | next =>
    obtain ⟨σ', H', J, q⟩ := hs
    exact fin (v := V.non) (u := Value.none) J rfl q
  | brk =>
    obtain ⟨_, _, _, q⟩ := hs
    exact False.elim q
  | cont =>
    obtain ⟨_, _, _, q⟩ := hs
    exact False.elim q
end L2

namespace L2
open PySem PySem.Spec PyProof.Rows
section
variable {X : Cx} {x : Str} {p pos : Pos} {e : Expr} {es : List Expr} {t : TA} {id T : String} {r : List V → Hp → VK → Prop}

def tCB (r : List V → Hp → VK → Prop) (t : TA) : TE := fun σ H Q => t σ H fun vs H1 => r vs H1 Q
/-- f(e, ..), f a built-in function -/
theorem pe_callB (hc : CallR X (.builtin id) r) (hg : Gl X x) (hm : X.mg x = none) (hv : bootBuiltins x = some (.builtin id)) (ha : PA X (e :: es) t) (hn : x ≠ "__name__" := by decide) (hdb : (x == ("__debug__" : Str)) = false := by decide)
    (he : starEach (e :: es) X.env = (false, eval e X.env) :: starEach es X.env := by rfl) (hpl : (backTo pos (starEach es X.env)).any (·.1) = false := by rfl) : PE X (.Call (.Name x p) (e :: es) [] pos) (tCB r t) := by
  refine ⟨?_⟩
  intro pins s σ H Q I h
  refine wpAny_Call_Name_kw (ld_blt I hg hm hv ?_ hn hdb)
  exact PyProof.Rows.callWith_builtin1 (thn (ha pos pins s σ H _ I h) fun us s1 ⟨vs, H1, I1, r1, q1⟩ => hc pins s1 σ H1 vs us Q I1 r1 q1) he hpl
/-- T(e, ..), T a built-in type -/
theorem pe_callTy (hc : CallR X (.type T) r) (hg : Gl X x) (hm : X.mg x = none) (hv : bootBuiltins x = some (.type T)) (ha : PA X (e :: es) t) (hn : x ≠ "__name__" := by decide) (hdb : (x == ("__debug__" : Str)) = false := by decide)
    (he : starEach (e :: es) X.env = (false, eval e X.env) :: starEach es X.env := by rfl) (hpl : (backTo pos (starEach es X.env)).any (·.1) = false := by rfl) : PE X (.Call (.Name x p) (e :: es) [] pos) (tCB r t) := by
  refine ⟨?_⟩
  intro pins s σ H Q I h
  refine wpAny_Call_Name_kw (ld_blt I hg hm hv ?_ hn hdb)
  exact PyProof.Rows.callWith_type1 (thn (ha pos pins s σ H _ I h) fun us s1 ⟨vs, H1, I1, r1, q1⟩ => hc pins s1 σ H1 vs us Q I1 r1 q1) he hpl
end
end L2

namespace HT
open PySem PyProof.Rows

/-- t < u of tuples of ints -/
def lexLt : List Int → List Int → Bool
  | [], [] => false
  | [], _ :: _ => true
  | _ :: _, [] => false
  | x :: xs, y :: ys => if x = y then lexLt xs ys else decide (x < y)
section
open PySem.SeqAt
open PySem.AutoSeq1 (wpAny_loadPart')
open PySem.MeetsSeq PySem.MeetsSeq2 PySem.MeetsSeq3

end

section
variable {prog : Program} {w : World} {A : Around} {E : Value → Shared → Prop} {s : Shared}

/-! ### t[a:b], not the whole -/
/-- a slice's bound as a place among n (d where it is left out) -/
def sIx (n d : Nat) : Option Int → Nat
  | none => d
  | some v => if v < 0 then (v + (n : Int)).toNat else min v.toNat n
end
end HT

namespace L2
open PySem PySem.Spec PyProof.Rows

/-! ### the parts of a slice -/
abbrev TO := St → Hp → (Option Int → Hp → Prop) → Prop
/-- a slice's part (left out, or an int) -/
structure PO (X : Cx) (e : Option Expr) (t : TO)  : Prop where
  go : ∀ (pins : List (Addr × Obj)) (s : Shared) (σ : St) (H : Hp) (Q : Option Int → Hp → Prop), Inv X pins σ H s → t σ H Q →
    wpAny (model X.prog X.w) X.A (evalPart e X.env) (fun u s' => ∃ o H', Inv X pins σ H' s' ∧ IsPart u o ∧ Q o H') X.xe s
instance {X : Cx} {e : Option Expr} {t : TO} : CoeFun (PO X e t) (fun _ => ∀ (pins : List (Addr × Obj)) (s : Shared) (σ : St) (H : Hp) (Q : Option Int → Hp → Prop), Inv X pins σ H s → t σ H Q →
    wpAny (model X.prog X.w) X.A (evalPart e X.env) (fun u s' => ∃ o H', Inv X pins σ H' s' ∧ IsPart u o ∧ Q o H') X.xe s) := ⟨PO.go⟩
def tNoPart : TO := fun _ H Q => Q none H
def tPart (t : TE) : TO := fun σ H Q => t σ H fun x H1 => ∃ i, x = .int i ∧ Q (some i) H1

section
variable {X : Cx} {e : Expr} {te : TE} {lo hi : Option Expr} {tl th : TO} {pos p2 : Pos}

theorem po_none : PO X none tNoPart := by
  refine ⟨?_⟩
  intro pins s σ H Q I h
  rw [evalPart_none]
  exact wpAny_pure ⟨none, H, I, .none, h⟩
theorem po_some (h : PE X e te) : PO X (some e) (tPart te) := by
  refine ⟨?_⟩
  intro pins s σ H Q I hw
  rw [evalPart_some]
  refine thn (h pins s σ H _ I hw) fun u s1 ⟨x, H1, I1, r1, q1⟩ => ?_
  obtain ⟨i, rfl, q⟩ := q1
  obtain ⟨t, rfl⟩ := r1
  exact ⟨some i, H1, I1, .int i t, q⟩

/-- what a slice of a value is, by values: the slice object stands at sl -/
def SlR (X : Cx) (r : V → Option Int → Option Int → Hp → VK → Prop) : Prop :=
  ∀ (pins : List (Addr × Obj)) (s : Shared) (σ : St) (H : Hp) (x : V) (v vl vu : Value) (lo hi : Option Int) (sl : Addr) (Q : VK), Inv X pins σ H s → RelV x v → s.heap.IsSliceOf sl vl vu .none → IsPart vl lo → IsPart vu hi → r x lo hi H Q →
    ∃ T id, typeLookup (.type T) "__getitem__" = pure (some (.builtin id)) ∧ s.TypeIs v T ∧ wpAny (model X.prog X.w) X.A (getItem v (.ref sl)) (EP X pins σ Q) X.xe s
theorem SlR.or {r r' : V → Option Int → Option Int → Hp → VK → Prop} (h : SlR X r) (h' : SlR X r') : SlR X (fun x lo hi H Q => r x lo hi H Q ∨ r' x lo hi H Q) := by
  intro pins s σ H x v vl vu lo hi sl Q I rx hs pl pu q
  rcases q with q | q
  · exact h pins s σ H x v vl vu lo hi sl Q I rx hs pl pu q
  · exact h' pins s σ H x v vl vu lo hi sl Q I rx hs pl pu q
def tSl (r : V → Option Int → Option Int → Hp → VK → Prop) (te : TE) (tl th : TO) : TE := fun σ H Q => te σ H fun x H1 => tl σ H1 fun l H2 => th σ H2 fun u H3 => r x l u H3 Q
/-- a[lo:hi], any a -/
theorem pe_slice {r : V → Option Int → Option Int → Hp → VK → Prop} (hr : SlR X r) (he : PE X e te) (hl : PO X lo tl) (hu : PO X hi th) : PE X (.Subscript e (.Slice lo hi none p2) pos) (tSl r te tl th) := by
  refine ⟨?_⟩
  intro pins s σ H Q I h
  refine Subscript_ (thn (he pins s σ H _ I h) fun v s1 ⟨x, H1, I1, r1, q1⟩ => ?_)
  refine wpAny_Slice (thn (hl pins s1 σ H1 _ I1 q1) fun vl s2 ⟨l, H2, I2, pl, q2⟩ => thn (hu pins s2 σ H2 _ I2 q2) fun vu s3 ⟨u, H3, I3, pu, q3⟩ => ?_)
  rw [evalPart_none]
  refine wpAny_pure ?_
  have I4 : Inv X pins σ H3 { s3 with heap := s3.heap.push { cls := .type "slice", data := .fields #[vl, vu, .none] } } := I3.kept (t' := s3.toks) fun b ob q => Heap.get?_push_of_some _ q
  obtain ⟨T, id, hT, ht, hg⟩ := hr pins { s3 with heap := s3.heap.push { cls := .type "slice", data := .fields #[vl, vu, .none] } } σ H3 x v vl vu l u s3.heap.objs.size Q I4 r1 (Heap.IsSliceOf.new ..) pl pu q3
  show wpAny (model X.prog X.w) X.A (subscriptTail e (.Slice lo hi none p2) v (.ref s3.heap.objs.size)) (EP X pins σ Q) X.xe { s3 with heap := s3.heap.push { cls := .type "slice", data := .fields #[vl, vu, .none] } }
  exact tail_any (ops := [.ref s3.heap.objs.size, v]) ht hT hg (by with_unfolding_all rfl)

/-- the items of xs[lo:hi] -/
def cutV (xs : List V) (lo hi : Option Int) : List V := (xs.drop (HT.sIx xs.length 0 lo)).take (HT.sIx xs.length xs.length hi - HT.sIx xs.length 0 lo)
theorem cutV_length (xs : List V) (lo hi : Option Int) : (cutV xs lo hi).length ≤ xs.length := by
  unfold cutV
  rw [List.length_take, List.length_drop]
  omega
/-- t[lo:hi], not the whole of it (the whole would be t itself) -/
def rSlT (K : PySem.W.Frag) : V → Option Int → Option Int → Hp → VK → Prop := fun x lo hi H Q => ∃ a xs, x = .ref a ∧ SqT K H a xs ∧
  ¬ (HT.sIx xs.length 0 lo = 0 ∧ HT.sIx xs.length xs.length hi = xs.length) ∧ ∀ p, H p = none → Q (.ref p) (upd H p (.tup (cutV xs lo hi)))
/-! ### t < u, t + u -/
def rLtT (K : PySem.W.Frag) : R2 := fun x y H Q => ∃ a b ns ms, x = .ref a ∧ y = .ref b ∧ SqT K H a (ns.map V.int) ∧ SqT K H b (ms.map V.int) ∧ Q (.bl (HT.lexLt ns ms)) H
/-- t + u, t not empty: u empty gives t itself -/
def rCatT (K : PySem.W.Frag) : R2 := fun x y H Q => ∃ a b xs ys, x = .ref a ∧ y = .ref b ∧ SqT K H a xs ∧ SqT K H b ys ∧ xs ≠ [] ∧ xs.length + ys.length ≤ sizeLine ∧
  (ys = [] → Q (.ref a) H) ∧ (ys ≠ [] → ∀ p, H p = none → Q (.ref p) (upd H p (.tup (xs ++ ys))))
end
end L2

namespace L2
open PySem PySem.Spec PyProof.Rows

/-! ### places -/
/-- the place that an index of any sign means -/
def ixN (n : Nat) (i : Int) : Option Nat := if 0 ≤ i then (if i < n then some i.toNat else none) else if -(n : Int) ≤ i then some (i + n).toNat else none
def atI {α : Type} (xs : List α) (i : Int) : Option α := (ixN xs.length i).bind fun j => xs[j]?
theorem ixN_seq {n : Nat} {i : Int} {j : Nat} (h : ixN n i = some j) : seqIndex? i n = some j ∧ j < n ∧ -(n : Int) ≤ i ∧ i < n := by
  unfold ixN at h
  by_cases h0 : 0 ≤ i
  · rw [if_pos h0] at h
    by_cases h1 : i < n
    · rw [if_pos h1] at h
      have e : i.toNat = j := Option.some.inj h
      exact ⟨by rw [seqIndex_of h0 h1, e], by omega, by omega, h1⟩
    · rw [if_neg h1] at h; cases h
  · rw [if_neg h0] at h
    by_cases h1 : -(n : Int) ≤ i
    · rw [if_pos h1] at h
      have e : (i + n).toNat = j := Option.some.inj h
      exact ⟨by rw [seqIndex_neg (by omega) h1, e], by omega, h1, by omega⟩
    · rw [if_neg h1] at h; cases h
theorem atI_get {α : Type} {xs : List α} {i : Int} {v : α} (h : atI xs i = some v) : ∃ j, seqIndex? i xs.length = some j ∧ xs[j]? = some v ∧ j < xs.length ∧ -(xs.length : Int) ≤ i ∧ i < xs.length := by
  unfold atI at h
  cases e : ixN xs.length i with
  | none => rw [e] at h; cases h
  | some j =>
    rw [e] at h
    obtain ⟨h1, h2, h3, h4⟩ := ixN_seq e
    exact ⟨j, h1, h, h2, h3, h4⟩
theorem atI_nat {α : Type} {xs : List α} {j : Nat} {v : α} (h : xs[j]? = some v) : atI xs (j : Int) = some v := by
  have hj : j < xs.length := (List.getElem?_eq_some_iff.mp h).1
  have e : ixN xs.length (j : Int) = some j := by
    unfold ixN
    rw [if_pos (by omega), if_pos (by omega)]; simp
  unfold atI; rw [e]; exact h
/-! ### what may be subscripted -/
/-- what stands as an index of a plain subscript -/
def PlainIx (b : Expr) : Prop := ∀ o i, subscripted b false o i = operate [o, i] (getItem o i)
/-- a subscript by values -/
def IxR (X : Cx) (r : R2) : Prop :=
  ∀ (value slice : Expr) (pins : List (Addr × Obj)) (s : Shared) (σ : St) (H : Hp) (x y : V) (v u : Value) (Q : VK), Inv X pins σ H s → RelV x v → RelV y u → r x y H Q →
    subscripted slice false v u = operate [v, u] (getItem v u) → wpAny (model X.prog X.w) X.A (subscriptTail value slice v u) (EP X pins σ Q) X.xe s
/-- a call of a builtin's method by values: the receiver, the arguments -/
def MtR (X : Cx) (id : String) (r : V → List V → Hp → VK → Prop) : Prop :=
  ∀ (pins : List (Addr × Obj)) (s : Shared) (σ : St) (H : Hp) (x : V) (xs : List V) (v : Value) (us : List Value) (Q : VK), Inv X pins σ H s → RelV x v → Vals xs us → r x xs H Q →
    wpAny (model X.prog X.w) X.A (call (.builtin id) (v :: us)) (EP X pins σ Q) X.xe s
section
variable {X : Cx} {a b : Expr} {ta tb : TE} {pos : Pos}
theorem IxR.or {r r' : R2} (h : IxR X r) (h' : IxR X r') : IxR X (fun x y H Q => r x y H Q ∨ r' x y H Q) := by
  intro value slice pins s σ H x y v u Q I rx ry q hs
  rcases q with q | q
  · exact h value slice pins s σ H x y v u Q I rx ry q hs
  · exact h' value slice pins s σ H x y v u Q I rx ry q hs
theorem MtR.or {id : String} {r r' : V → List V → Hp → VK → Prop} (h : MtR X id r) (h' : MtR X id r') : MtR X id (fun x xs H Q => r x xs H Q ∨ r' x xs H Q) := by
  intro pins s σ H x xs v us Q I rx rs q
  rcases q with q | q
  · exact h pins s σ H x xs v us Q I rx rs q
  · exact h' pins s σ H x xs v us Q I rx rs q
/-- a[b] -/
theorem pe_ix {r : R2} (hr : IxR X r) (ha : PE X a ta) (hb : PE X b tb) (hs : PlainIx b) : PE X (.Subscript a b pos) (tOp r ta tb) := by
  refine ⟨?_⟩
  intro pins s σ H Q I h
  exact Subscript_ (binT ha hb I h fun v u s2 x y H2 I2 rx ry q => hr a b pins s2 σ H2 x y v u Q I2 rx ry q (hs _ _))

def rIxL (K : PySem.W.Frag) : R2 := fun x y H Q => ∃ p xs i v, x = .ref p ∧ y = .int i ∧ SqL K H p xs ∧ atI xs i = some v ∧ Q v H
def rIxT (K : PySem.W.Frag) : R2 := fun x y H Q => ∃ p xs i v, x = .ref p ∧ y = .int i ∧ SqT K H p xs ∧ atI xs i = some v ∧ Q v H
def rIxS : R2 := fun x y H Q => ∃ z i c, x = .str z ∧ y = .int i ∧ z.length ≤ sizeLine ∧ atI z.cps.toList i = some c ∧ Q (.str ⟨#[c]⟩) H
theorem ix_list : IxR X (rIxL X.K) := by
  intro value slice pins s σ H x y v u Q I rx ry h hs
  obtain ⟨p, xs, i, z, rfl, rfl, hq, he, q⟩ := h
  cases rx
  obtain ⟨t, rfl⟩ := ry
  obtain ⟨its, r, pl, hz⟩ := I.list hq
  obtain ⟨j, h1, h2, h3, h4, h5⟩ := atI_get he
  obtain ⟨w, ew, rw'⟩ := r.get h2
  have hl := r.length
  have hn := line63
  have fin : EP X pins σ Q w s := ⟨z, H, I, rw', q⟩
  by_cases h0 : 0 ≤ i
  · have hj : i.toNat = j := by
      rw [seqIndex_of h0 h5] at h1
      exact Option.some.inj h1
    exact item_listR pl.isList h0 (by omega) (by rw [hj]; simpa using ew) fin hs
  · have hj : (i + (its.toArray.size : Int)).toNat = j := by
      rw [seqIndex_neg (by omega) h4] at h1
      rw [List.size_toArray, ← hl]
      exact Option.some.inj h1
    exact subscriptTail_builtinR (x := w) pl.isList.typeIs slot_list_getitem.lookup
      (wpAny_getItem_list_neg (Q := fun r s' => r = w ∧ EP X pins σ Q r s') pl.isList (by omega) (by rw [List.size_toArray] <;> omega) (by omega) (by rw [hj]; simpa using ew) ⟨rfl, fin⟩) hs
theorem ix_tup : IxR X (rIxT X.K) := by
  intro value slice pins s σ H x y v u Q I rx ry h hs
  obtain ⟨p, xs, i, z, rfl, rfl, hq, he, q⟩ := h
  cases rx
  obtain ⟨t, rfl⟩ := ry
  obtain ⟨its, r, pl, hz⟩ := I.tuple hq
  obtain ⟨j, h1, h2, h3, h4, h5⟩ := atI_get he
  obtain ⟨w, ew, rw'⟩ := r.get h2
  have hl := r.length
  have hn := line63
  have fin : EP X pins σ Q w s := ⟨z, H, I, rw', q⟩
  exact subscriptTail_builtinR (x := w) pl.typeIs slot_tuple_getitem.lookup
    (getItem_tuple (j := j) (Q := fun r s' => r = w ∧ EP X pins σ Q r s') pl (by omega) (by omega) (by rw [List.size_toArray, ← hl]; exact h1) (by simpa using ew) ⟨rfl, fin⟩) hs
/-- list, tuple or str -/
def rIx (K : PySem.W.Frag) : R2 := fun x y H Q => rIxL K x y H Q ∨ rIxT K x y H Q ∨ rIxS x y H Q
/-! ### xs[i] = v, any sign -/
/-- the list's object behind a store -/
theorem mapSeq_set (its : List Value) (n j : Nat) (u : Value) : Obj.mapSeq (·.setIfInBounds j u) { cls := .type "list", data := .seq its.toArray n } = { cls := .type "list", data := .seq (its.set j u).toArray n } := by
  simp [Obj.mapSeq]
theorem Inv.lst {pins : List (Addr × Obj)} {σ : St} {H : Hp} {s : Shared} {p : Addr} {xs : List V} (I : Inv X pins σ H s) (h : H p = some (.lst xs)) :
    ∃ (its : List Value) (n : Nat), Vals xs its ∧ s.heap.get? p = some { cls := .type "list", data := .seq its.toArray n } ∧ xs.length ≤ sizeLine := by
  obtain ⟨z, its, n, r, e⟩ := I.hok p _ h
  exact ⟨its, n, r, e, z⟩
/-- the list at p is written by an update of its object -/
theorem Inv.lstUpd {pins : List (Addr × Obj)} {σ : St} {H : Hp} {s : Shared} {p : Addr} {xs ys : List V} {its its' : List Value} {n n' : Nat} {f : Obj → Obj} (I : Inv X pins σ H s) (h : H p = some (.lst xs))
    (ho : s.heap.get? p = some { cls := .type "list", data := .seq its.toArray n }) (hf : f { cls := .type "list", data := .seq its.toArray n } = { cls := .type "list", data := .seq its'.toArray n' }) (r : Vals ys its') (hz : ys.length ≤ sizeLine) (t : Nat) :
    Inv X pins σ (upd H p (.lst ys)) { s with heap := s.heap.update p f, toks := t } := by
  have e : (s.heap.update p f).get? p = some { cls := .type "list", data := .seq its'.toArray n' } := by
    rw [Heap.get?_update_self f ho (by rw [hf] <;> rfl), hf]
  refine I.write (x := p) (e := p) (by rw [h]; trivial) (.inl rfl) (fun b u hb q => (Heap.get?_update_other _ _ (Ne.symm hb)).trans q) ⟨_, e⟩ ?_
  exact ⟨hz, its', n', r, e⟩
def rSetL : V → V → V → Hp → (Hp → Prop) → Prop := fun o i v H Q => ∃ p xs k j, o = .ref p ∧ i = .int k ∧ H p = some (.lst xs) ∧ ixN xs.length k = some j ∧ Q (upd H p (.lst (xs.set j v)))
theorem set_list : PSet X rSetL := by
  intro pins s σ H o i v ov iv u Q I ro ri rv h
  obtain ⟨p, xs, k, j, rfl, rfl, hp, hj, q⟩ := h
  cases ro
  obtain ⟨t, rfl⟩ := ri
  obtain ⟨its, n, r, ho, hz⟩ := I.lst hp
  obtain ⟨h1, h2, h3, h4⟩ := ixN_seq hj
  have hl := r.length
  have hn := line63
  have I' : Inv X pins σ (upd H p (.lst (xs.set j v))) { s with heap := s.heap.update p (Obj.mapSeq (·.setIfInBounds j u)) } :=
    I.lstUpd hp ho (mapSeq_set its n j u) (r.set rv j) (by rw [List.length_set]; exact hz) s.toks
  by_cases h0 : 0 ≤ k
  · have hk : k.toNat = j := by
      rw [seqIndex_of h0 h4] at h1
      exact Option.some.inj h1
    exact PySem.W.ki_setAt ho h0 (by omega) (by rw [List.size_toArray, ← hl]; exact h4) (by rw [hk]; exact ⟨_, I', q⟩)
  · have hk : (k + (its.toArray.size : Int)).toNat = j := by
      rw [seqIndex_neg (by omega) h3] at h1
      rw [List.size_toArray, ← hl]
      exact Option.some.inj h1
    exact PySem.W.ki_setBack ho (by omega) (by rw [List.size_toArray, ← hl]; exact h3) (by omega) (by rw [hk]; exact ⟨_, I', q⟩)

/-! ### slices -/
theorem slice_bounds (lo hi : Option Int) (n : Nat) : (sliceBounds lo hi none n).1 = ((HT.sIx n 0 lo : Nat) : Int) ∧ (sliceBounds lo hi none n).2.1 = ((HT.sIx n n hi : Nat) : Int) ∧ (sliceBounds lo hi none n).2.2 = 1 := by
  refine ⟨?_, ?_, rfl⟩
  · cases lo with
    | none => simp [sliceBounds, HT.sIx]
    | some i =>
      simp only [sliceBounds, HT.sIx, Option.getD_none, show (1 : Int) > 0 by decide, if_true]
      by_cases h : i < 0
      · simp only [h, if_true] <;> omega
      · simp only [h, if_false] <;> omega
  · cases hi with
    | none => simp [sliceBounds, HT.sIx]
    | some i =>
      simp only [sliceBounds, HT.sIx, Option.getD_none, show (1 : Int) > 0 by decide, if_true]
      by_cases h : i < 0
      · simp only [h, if_true] <;> omega
      · simp only [h, if_false] <;> omega
theorem slicePick_cut (its : List Value) (lo hi : Option Int) : slicePick its.toArray lo hi none = ((its.drop (HT.sIx its.length 0 lo)).take (HT.sIx its.length its.length hi - HT.sIx its.length 0 lo)).toArray := by
  obtain ⟨h1, h2, h3⟩ := slice_bounds lo hi its.toArray.size
  unfold slicePick
  rw [h1, h2, h3]
  simp only [sliceRange_one, pick_run, List.size_toArray] <;> rfl
/-- xs[lo:hi] of a list: a new list -/
def rSlL (K : PySem.W.Frag) : V → Option Int → Option Int → Hp → VK → Prop := fun x lo hi H Q => ∃ a xs, x = .ref a ∧ SqL K H a xs ∧ ∀ p, H p = none → Q (.ref p) (upd H p (.lst (cutV xs lo hi)))
theorem sl_list : SlR X (rSlL X.K) := by
  intro pins s σ H x v vl vu lo hi sl Q I rx hs pl pu h
  obtain ⟨a, xs, rfl, hx, q⟩ := h
  cases rx
  obtain ⟨its, r, ht, hz⟩ := I.list hx
  have hlen := r.length
  refine ⟨"list", _, slot_list_getitem.lookup, ht.isList.typeIs, ?_⟩
  refine wpAny_getItem_list_slice ht.isList hs pl pu .none (by simp) ?_ (by rw [List.size_toArray] <;> omega)
  rw [slicePick_cut, ← hlen]
  refine ⟨.ref s.heap.objs.size, _, I.laid (t' := s.toks) (o := .lst (cutV xs lo hi)) (fun b ob q => Heap.get?_push_of_some _ q) (Nat.le_refl _) ?_, rfl, q _ (I.hok.fresh (Nat.le_refl _))⟩
  exact ⟨Nat.le_trans (cutV_length xs lo hi) hz, _, 0, (r.drop (HT.sIx xs.length 0 lo)).take (HT.sIx xs.length xs.length hi - HT.sIx xs.length 0 lo), Heap.get?_push_size _ rfl⟩

/-! ### in, not in: flat items -/
def flatV : V → Bool
  | .non => true
  | .bl _ => true
  | .int _ => true
  | .str _ => true
  | _ => false
/-- == of flat values -/
def eqV : V → V → Bool
  | .non, .non => true
  | .bl a, .bl b => a == b
  | .bl a, .int b => (if a then 1 else 0) == b
  | .int a, .bl b => a == (if b then 1 else 0)
  | .int a, .int b => a == b
  | .str a, .str b => a == b
  | _, _ => false
theorem eqAt_V {A : Around} {s : Shared} {y x : V} {u v : Value} (ry : RelV y u) (rx : RelV x v) (fy : flatV y = true) (fx : flatV x = true) : SeqAt.EqAt A s u v (eqV y x) := by
  cases y with
  | non =>
    cases ry
    cases x with
    | non => cases rx; exact SeqAt.EqAt.same _
    | bl b => cases rx; exact SeqAt.EqAt.none_bool b
    | int b => obtain ⟨t, rfl⟩ := rx; exact SeqAt.EqAt.none_int b t
    | str b => obtain ⟨t, rfl⟩ := rx; exact SeqAt.EqAt.none_str b t
    | _ => exact absurd (show false = true from fx) Bool.false_ne_true
  | bl a =>
    cases ry
    cases x with
    | non => cases rx; exact SeqAt.EqAt.bool_none a
    | bl b => cases rx; exact SeqAt.EqAt.bool_bool a b
    | int b => obtain ⟨t, rfl⟩ := rx; exact SeqAt.EqAt.bool_int a b t
    | str b => obtain ⟨t, rfl⟩ := rx; exact SeqAt.EqAt.bool_str a b t
    | _ => exact absurd (show false = true from fx) Bool.false_ne_true
  | int a =>
    obtain ⟨t', rfl⟩ := ry
    cases x with
    | non => cases rx; exact SeqAt.EqAt.int_none a t'
    | bl b => cases rx; exact SeqAt.EqAt.int_bool a t' b
    | int b => obtain ⟨t, rfl⟩ := rx; exact SeqAt.EqAt.int_int a t' b t
    | str b => obtain ⟨t, rfl⟩ := rx; exact SeqAt.EqAt.int_str a t' b t
    | _ => exact absurd (show false = true from fx) Bool.false_ne_true
  | str a =>
    obtain ⟨t', rfl⟩ := ry
    cases x with
    | non => cases rx; exact SeqAt.EqAt.str_none a t'
    | bl b => cases rx; exact SeqAt.EqAt.str_bool a t' b
    | int b => obtain ⟨t, rfl⟩ := rx; exact SeqAt.EqAt.str_int a t' b t
    | str b => obtain ⟨t, rfl⟩ := rx; exact SeqAt.EqAt.str_str a t' b t
    | _ => exact absurd (show false = true from fx) Bool.false_ne_true
  | _ => exact absurd (show false = true from fy) Bool.false_ne_true
/-- the items' answers, read off the values (a value's own answer does not lean on its token) -/
def eqU (x : V) (u : Value) : Bool := match u with
  | .none => eqV .non x
  | .bool b => eqV (.bl b) x
  | .int i _ => eqV (.int i) x
  | .str z _ => eqV (.str z) x
  | _ => false
theorem eqU_of {x y : V} {u : Value} (r : RelV y u) (f : flatV y = true) : eqU x u = eqV y x := by
  cases y with
  | non => cases r; rfl
  | bl b => cases r; rfl
  | int i => obtain ⟨t, rfl⟩ := r; rfl
  | str z => obtain ⟨t, rfl⟩ := r; rfl
  | _ => exact absurd (show false = true from f) Bool.false_ne_true
theorem any_eqU {x : V} : ∀ {xs : List V} {us : List Value}, Vals xs us → xs.all flatV = true → us.any (eqU x) = xs.any fun y => eqV y x
  | _, _, .nil, _ => rfl
  | y :: xs, u :: us, .cons r t, f => by
    rw [List.all_cons, Bool.and_eq_true] at f
    rw [List.any_cons, List.any_cons, eqU_of r f.1, any_eqU t f.2]
theorem mem_eqAt {A : Around} {s : Shared} {x : V} {v : Value} (rx : RelV x v) (fx : flatV x = true) : ∀ {xs : List V} {us : List Value}, Vals xs us → xs.all flatV = true → ∀ u ∈ us, SeqAt.EqAt A s u v (eqU x u)
  | _, _, .nil, _ => fun u hu => by cases hu
  | y :: xs, u :: us, .cons r t, f => fun u' hu => by
    rw [List.all_cons, Bool.and_eq_true] at f
    rcases List.mem_cons.mp hu with rfl | hu
    · rw [eqU_of r f.1]; exact eqAt_V r rx f.1 fx
    · exact mem_eqAt rx fx t f.2 u' hu
def inV (x : V) (xs : List V) : Bool := xs.any fun y => eqV y x
/-- x in a list or tuple of flat items -/
def rIn (K : PySem.W.Frag) (neg : Bool) : R2 := fun x y H Q => ∃ p xs, y = .ref p ∧ (SqL K H p xs ∨ SqT K H p xs) ∧ flatV x = true ∧ xs.all flatV = true ∧ Q (.bl (if neg then !inV x xs else inV x xs)) H
theorem op_in_seq : OpR X (compareOp .In) (rIn X.K false) := by
  intro pins s σ H x y v u Q I rx ry h
  obtain ⟨p, xs, rfl, hq, fx, fs, q⟩ := h
  cases ry
  rcases hq with hq | hq
  · obtain ⟨its, r, pl, hz⟩ := I.list hq
    refine SeqAt.in_listAt (eqU x) pl.isList (fun w hw => mem_eqAt rx fx r fs w (by simpa using hw)) ⟨.bl _, H, I, rfl, ?_⟩
    rw [show its.toArray.any (eqU x) = its.any (eqU x) by simp, any_eqU r fs]
    exact q
  · obtain ⟨its, r, pl, hz⟩ := I.tuple hq
    refine SeqAt.in_tupleAt (eqU x) pl (fun w hw => mem_eqAt rx fx r fs w (by simpa using hw)) ⟨.bl _, H, I, rfl, ?_⟩
    rw [show its.toArray.any (eqU x) = its.any (eqU x) by simp, any_eqU r fs]
    exact q
/-! ### len, list(x), tuple(x) of any list or tuple that is read -/
theorem call_len_seq : CallR X (.builtin "len") (fun xs H Q => ∃ p ys, xs = [.ref p] ∧ (SqL X.K H p ys ∨ SqT X.K H p ys) ∧ Q (.int ys.length) H) := by
  intro pins s σ H xs us Q I r h
  obtain ⟨p, ys, rfl, hq, q⟩ := h
  obtain ⟨u, rfl, rx⟩ := vals1 r
  cases rx
  have hn := line63
  rcases hq with hq | hq
  · obtain ⟨its, r', pl, hz⟩ := I.list hq
    have hlen := r'.length
    exact Calls.call_len_list pl.isList (by simp only [List.size_toArray] <;> omega) ⟨.int ys.length, H, I.tok _, ⟨s.toks + 1, by rw [List.size_toArray, hlen]⟩, q⟩
  · obtain ⟨its, r', pl, hz⟩ := I.tuple hq
    have hlen := r'.length
    exact len_tuple pl (by simp only [List.size_toArray] <;> omega) ⟨.int ys.length, H, I.tok _, ⟨s.toks + 1, by rw [List.size_toArray, hlen]⟩, q⟩
theorem CallR.or {f : Value} {r r' : List V → Hp → VK → Prop} (h : CallR X f r) (h' : CallR X f r') : CallR X f (fun xs H Q => r xs H Q ∨ r' xs H Q) := by
  intro pins s σ H xs us Q I rs q
  rcases q with q | q
  · exact h pins s σ H xs us Q I rs q
  · exact h' pins s σ H xs us Q I rs q
theorem call_tuple_of : CallR X (.type "tuple") (fun xs H Q => ∃ p ys, xs = [.ref p] ∧ ((SqL X.K H p ys ∧ ∀ l, H l = none → Q (.ref l) (upd H l (.tup ys))) ∨ (SqT X.K H p ys ∧ Q (.ref p) H))) := by
  intro pins s σ H xs us Q I r h
  obtain ⟨p, ys, rfl, h⟩ := h
  obtain ⟨u, rfl, rx⟩ := vals1 r
  cases rx
  rcases h with ⟨hq, q⟩ | ⟨hq, q⟩
  · obtain ⟨its, r', pl, hz⟩ := I.list hq
    have hlen := r'.length
    refine call_tuple_list pl.isList (fun h' kp => ?_) (by simp only [List.size_toArray] <;> omega)
    have I1 : Inv X pins σ H { s with heap := h' } := I.kept (t' := s.toks) kp
    have I2 : Inv X pins σ (upd H h'.objs.size (.tup ys)) { s with heap := h'.push { cls := .type "tuple", data := .seq its.toArray } } :=
      I1.laid (t' := s.toks) (fun b o e => Heap.get?_push_of_some _ e) (Nat.le_refl _) (show ObjOk X.prog X.w _ _ _ (.tup ys) from ⟨hz, its, r', IsTup.new _ _⟩)
    exact ⟨.ref h'.objs.size, _, I2, rfl, q _ (I1.hok.fresh (Nat.le_refl _))⟩
  · obtain ⟨its, r', pl, hz⟩ := I.tuple hq
    exact call_tuple_same pl ⟨.ref p, H, I, rfl, q⟩

/-! ### the call of a builtin's method: o.m(..) -/
/-- the value is of that builtin type -/
def tyV (K : PySem.W.Frag) (T : String) (x : V) (H : Hp) : Prop := match x with
  | .str _ => T = "str"
  | .int _ => T = "int"
  | .ref p => (T = "list" ∧ ∃ xs, SqL K H p xs) ∨ (T = "tuple" ∧ ∃ o, K.lookup p = some o ∧ o.cls = .type "tuple" ∧ o.dict = none) ∨
      (T = "dict" ∧ ((∃ kvs, H p = some (.dK kvs)) ∨ ∃ kvs, H p = some (.dT kvs))) ∨ (T = "set" ∧ ∃ S n, H p = some (.set S n))
  | _ => False
theorem tyV_is {pins : List (Addr × Obj)} {σ : St} {H : Hp} {s : Shared} {T : String} {x : V} {v : Value} (I : Inv X pins σ H s) (r : RelV x v) (ty : tyV X.K T x H) :
    s.TypeIs v T ∧ ∀ a, v = .ref a → ∃ ob, s.heap.get? a = some ob ∧ ob.dict = none := by
  cases x with
  | str z =>
    obtain ⟨t, rfl⟩ := r
    cases (show T = "str" from ty)
    exact ⟨typeIs_str s z t, fun _ e => nomatch e⟩
  | int i =>
    obtain ⟨t, rfl⟩ := r
    cases (show T = "int" from ty)
    exact ⟨typeIs_int s i t, fun _ e => nomatch e⟩
  | ref p =>
    cases r
    rcases ty with ⟨rfl, xs, hq⟩ | ⟨rfl, o, hk, hc, hd⟩ | ⟨rfl, hk⟩ | ⟨rfl, S, n, hk⟩
    · obtain ⟨its, _, pl, _⟩ := I.list hq
      refine ⟨pl.isList.typeIs, fun a e => ?_⟩
      cases e
      obtain ⟨o, n, e, c, hd, _⟩ := pl
      exact ⟨o, e, hd⟩
    · refine ⟨⟨o, I.kIn p o hk, hc⟩, fun a e => ?_⟩
      cases e
      exact ⟨o, I.kIn _ o hk, hd⟩
    · have z : ∃ o, s.heap.get? p = some o ∧ o.ExactDict := by
        rcases hk with ⟨kvs, hk⟩ | ⟨kvs, hk⟩
        · obtain ⟨_, _, _, _, o, _, _, e, ex, _⟩ := I.hok p _ hk
          exact ⟨o, e, ex⟩
        · obtain ⟨_, _, _, _, o, _, _, e, ex, _⟩ := I.hok p _ hk
          exact ⟨o, e, ex⟩
      obtain ⟨o, e, ex⟩ := z
      refine ⟨⟨o, e, ex.1⟩, fun a e2 => ?_⟩
      cases e2
      exact ⟨o, e, ex.2.1⟩
    · obtain ⟨o, _, _, _, e, ex, _⟩ := I.hok p _ hk
      refine ⟨⟨o, e, ex.1⟩, fun a e2 => ?_⟩
      cases e2
      exact ⟨o, e, ex.2.1⟩
  | _ => exact False.elim ty
def tBM0 (K : PySem.W.Frag) (T : String) (r : V → List V → Hp → VK → Prop) (to : TE) : TE := fun σ H Q => to σ H fun x H1 => tyV K T x H1 ∧ r x [] H1 Q
def tBM (K : PySem.W.Frag) (T : String) (r : V → List V → Hp → VK → Prop) (to : TE) (t : TA) : TE := fun σ H Q => to σ H fun x H1 => tyV K T x H1 ∧ t σ H1 fun xs H2 => r x xs H2 Q
variable {o e : Expr} {es : List Expr} {to : TE} {t : TA} {name : Str} {apos cpos : Pos} {T id : String} {r : V → List V → Hp → VK → Prop}
theorem pe_bm (pa : PlainAttrs T) (slot : Slot T name id) (hty : typeOf (.builtin id) = pure (.type "method_descriptor")) (hm : MtR X id r) (ho : PE X o to) (ha : PA X (e :: es) t)
    (hbase : attributeBase o name X.env (eval o X.env) = eval o X.env := by rfl)
    (hfew : ((backTo cpos (starEach (e :: es) X.env)).all (fun x => !x.1) && (backToKw cpos (keywordEach [] X.env)).all (fun x => x.1.isSome)
      && decide ((e :: es).length + ([] : List Keyword).length + (if ([] : List Keyword).isEmpty then 0 else 1) < 30)) = true := by rfl)
    (hline : (apos.endLine == cpos.line) = true := by rfl) (hs : starEach (e :: es) X.env = (false, eval e X.env) :: starEach es X.env := by rfl) (hplain : (backTo cpos (starEach es X.env)).any (·.1) = false := by rfl) :
    PE X (.Call (.Attribute o name apos) (e :: es) [] cpos) (tBM X.K T r to t) := by
  refine ⟨?_⟩
  intro pins s σ H Q I h
  refine wpAny_Call_method_late hbase hfew hline rfl (thn (ho pins s σ H _ I h) fun v s1 ⟨x, H1, I1, r1, ty, q1⟩ => ?_)
  obtain ⟨h1, h2⟩ := tyV_is I1 r1 ty
  refine ⟨T, id, pa, slot, hty, h1, h2, ?_⟩
  have hA := ha cpos pins s1 σ H1 _ I1 q1
  rw [hs] at hA ⊢
  refine Calls.callWith_builtin (by show (false || (backTo cpos (starEach es X.env)).any (·.1)) = false; rw [hplain] <;> rfl) (Calls.evalArgs_plain ?_)
  exact thn hA fun us s2 ⟨vs, H2, I2, r2, q2⟩ => hm pins s2 σ H2 x vs v us Q I2 r1 r2 q2
/- xs.append(e), list.index on a module's tuple .. are MtR facts of 06m -/
end
end L2

namespace L2
open PySem PySem.Spec PyProof.Rows

def MtM (X : Cx) (id : String) (r : V → List V → Hp → VK → Prop) : Prop :=
  ∀ (pins : List (Addr × Obj)) (s : Shared) (σ : St) (H : Hp) (x : V) (xs : List V) (v : Value) (us : List Value) (Q : VK), Inv X pins σ H s → RelV x v → Vals xs us → r x xs H Q →
    wpAny (model X.prog X.w) X.A (call (.builtin id) (v :: us)) (EP X pins σ Q) X.xe s

/-! ### lists of values -/
theorem Vals.one : ∀ {x : V} {us : List Value}, Vals [x] us → ∃ u, us = [u] ∧ RelV x u
  | _, _, .cons r .nil => ⟨_, rfl, r⟩
theorem Vals.two : ∀ {x y : V} {us : List Value}, Vals [x, y] us → ∃ u v, us = [u, v] ∧ RelV x u ∧ RelV y v
  | _, _, _, .cons r (.cons q .nil) => ⟨_, _, rfl, r, q⟩
theorem Vals.zero : ∀ {us : List Value}, Vals [] us → us = []
  | _, .nil => rfl
theorem Vals.dropLast {xs : List V} {us : List Value} (h : Vals xs us) : Vals xs.dropLast us.dropLast := by
  induction h with
  | nil => exact .nil
  | cons r t ih =>
    cases t with
    | nil => exact .nil
    | cons q t' => exact .cons r ih
theorem Vals.eraseIdx : ∀ {xs : List V} {us : List Value} (i : Nat), Vals xs us → Vals (xs.eraseIdx i) (us.eraseIdx i)
  | _, _, _, .nil => .nil
  | _, _, 0, .cons _ t => t
  | _, _, i + 1, .cons r t => .cons r (Vals.eraseIdx i t)
theorem Vals.reverse {xs : List V} {us : List Value} (h : Vals xs us) : Vals xs.reverse us.reverse := by
  induction h with
  | nil => exact .nil
  | cons r t ih => rw [List.reverse_cons, List.reverse_cons]; exact Vals.append ih (.cons r .nil)
section
variable {X : Cx} {pins : List (Addr × Obj)} {σ : St} {H : Hp} {s : Shared} {l b : Addr} {xs ys zs : List V}

/-! ### the two steps: a tracked list is rewritten, a new list is laid -/
theorem Inv.lset {its its' : List Value} {n : Nat} {f : Array Value → Array Value} {t' : Nat} (I : Inv X pins σ H s) (hH : H l = some (.lst xs))
    (e : s.heap.get? l = some { cls := .type "list", data := .seq its.toArray n }) (hf : f its.toArray = its'.toArray) (hv : Vals ys its') (hz : ys.length ≤ sizeLine) :
    Inv X pins σ (upd H l (.lst ys)) { s with heap := s.heap.update l (Obj.mapSeq f), toks := t' } := by
  have q := PySem.IsL.update e f
  rw [hf] at q
  refine I.write (x := l) (e := l) (by rw [hH]; exact trivial) (.inl rfl) (fun b' u hb hu => (Heap.get?_update_other s.heap (Obj.mapSeq f) (Ne.symm hb)).trans hu) ⟨_, q⟩ ?_
  exact ⟨hz, its', _, hv, q⟩
theorem Inv.lnew {its : List Value} {t' : Nat} (I : Inv X pins σ H s) (hv : Vals ys its) (hz : ys.length ≤ sizeLine) :
    Inv X pins σ (upd H s.heap.objs.size (.lst ys)) { s with heap := s.heap.push { cls := .type "list", data := .seq its.toArray }, toks := t' } :=
  I.laid (fun _ _ q => Heap.get?_push_of_some _ q) (Nat.le_refl _) ⟨hz, its, 0, hv, Heap.get?_push_size _ rfl⟩
theorem Inv.fresh (I : Inv X pins σ H s) : H s.heap.objs.size = none := I.hok.fresh (Nat.le_refl _)
theorem Inv.lstM (I : Inv X pins σ H s) (hH : H l = some (.lst xs)) : xs.length ≤ sizeLine ∧ ∃ (its : List Value) (n : Nat), Vals xs its ∧ xs.length = its.length ∧ s.heap.get? l = some { cls := .type "list", data := .seq its.toArray n } := by
  obtain ⟨z, its, n, r, e⟩ := I.hok l _ hH
  exact ⟨z, its, n, r, r.length, e⟩

end

section
variable {X : Cx}

/-! ### methods -/
def rAppend : V → List V → Hp → VK → Prop := fun x vs H Q => ∃ l xs y, x = .ref l ∧ vs = [y] ∧ H l = some (.lst xs) ∧ xs.length < sizeLine ∧ Q .non (upd H l (.lst (xs ++ [y])))
theorem mt_append : MtM X "list.append" rAppend := by
  intro pins s σ H x vs v us Q I rx rv h
  obtain ⟨l, xs, y, rfl, rfl, hH, hz, q⟩ := h
  cases rx
  obtain ⟨u, rfl, ru⟩ := rv.one
  obtain ⟨z, its, n, r, hl, e⟩ := I.lstM hH
  refine call_meets F.slot_list_append ⟨_, e, rfl⟩ F.entry_list_append (F.args_list_append_2 _ _) (PySem.list_append l its.toArray n u (by rw [List.size_toArray]; omega)) ⟨e, ?_⟩
  refine ⟨.non, _, I.lset (its' := its ++ [u]) hH e (by simp) (r.append (.cons ru .nil)) ?_, rfl, q⟩
  rw [List.length_append, List.length_singleton]
  omega

def rExtend : V → List V → Hp → VK → Prop := fun x vs H Q => ∃ l b xs zs, x = .ref l ∧ vs = [.ref b] ∧ H l = some (.lst xs) ∧ H b = some (.lst zs) ∧ xs.length + zs.length ≤ sizeLine ∧ Q .non (upd H l (.lst (xs ++ zs)))
def rPop : V → List V → Hp → VK → Prop := fun x vs H Q => ∃ l xs y, x = .ref l ∧ vs = [] ∧ H l = some (.lst xs) ∧ xs[xs.length - 1]? = some y ∧ Q y (upd H l (.lst xs.dropLast))
def rPopAt : V → List V → Hp → VK → Prop := fun x vs H Q => ∃ l xs i k y, x = .ref l ∧ vs = [.int i] ∧ H l = some (.lst xs) ∧ -(2 ^ 63) ≤ i ∧ i < 2 ^ 63 ∧ seqIndex? i xs.length = some k ∧ xs[k]? = some y ∧ Q y (upd H l (.lst (xs.eraseIdx k)))
def rReverse : V → List V → Hp → VK → Prop := fun x vs H Q => ∃ l xs, x = .ref l ∧ vs = [] ∧ H l = some (.lst xs) ∧ Q .non (upd H l (.lst xs.reverse))
def rClear : V → List V → Hp → VK → Prop := fun x vs H Q => ∃ l xs, x = .ref l ∧ vs = [] ∧ H l = some (.lst xs) ∧ Q .non (upd H l (.lst []))
/-! ### list + list, list += list, list * int -/
def rCat : R2 := fun x y H Q => ∃ l b xs zs, x = .ref l ∧ y = .ref b ∧ H l = some (.lst xs) ∧ H b = some (.lst zs) ∧ xs.length + zs.length ≤ sizeLine ∧ ∀ p, H p = none → Q (.ref p) (upd H p (.lst (xs ++ zs)))
/-- a list times an int (a negative one is nothing) -/
def rRep : R2 := fun x y H Q => ∃ l k xs, x = .ref l ∧ y = .int k ∧ H l = some (.lst xs) ∧ -(2 ^ 63) ≤ k ∧ k < 2 ^ 63 ∧ xs.length * k.toNat ≤ sizeLine ∧
  ∀ p, H p = none → Q (.ref p) (upd H p (.lst (List.replicate k.toNat xs).flatten))
/-! ### del xs[i] -/
end

/-! ### xs[a:b] = ys -/
section
variable {prog : Program} {w : World} {A : Around} {E : Value → Shared → Prop} {s : Shared}
set_option maxRecDepth 100000 in
end

section
variable {X : Cx}
end
end L2

namespace Att
open PySem PySem.W PySem.Calls PyProof.Rows

/-! ### the script -/
theorem ints_of_wellAll {P : Params} {h : Heap} : ∀ (ns : List Int) (vs : List Value), WellAll P h vs (ns.map WData.int) → IntsAre vs ns := by
  intro ns
  induction ns with
  | nil =>
    intro vs w
    rw [List.map_nil] at w
    cases w
    exact .nil
  | cons n ns ih =>
    intro vs w
    rw [List.map_cons] at w
    cases w with
    | cons a b =>
      cases a
      exact .cons _ _ (ih _ b)

theorem script_of {l : OpenLaw} {n : Nat} (hn : l.most = some n) {P : Params} {h : Heap} {args : List WData} {vals : List Value}
    (hpre : l.row.toRowW.claim.pre args = true) (hwl : WellAll P h vals args) :
    ∃ a vs ns, vals = [Value.ref a] ∧ args = [WData.list (ns.map WData.int)] ∧ h.get? a = some { cls := .type "list", data := .seq vs.toArray } ∧ IntsAre vs ns ∧ ns.length ≤ n := by
  have hsh : WShape.hasAll [] args [.list .int] = true := (pre_splitW hpre).1
  have hc : l.pre.holds [] { args := args } = true := (pre_splitW hpre).2
  obtain ⟨d, r, rfl, h1, h2⟩ := hasAllW_cons hsh
  obtain rfl := hasAllW_nil h2
  obtain ⟨xs, rfl, h3⟩ := hasW_list h1
  obtain ⟨ns, rfl⟩ := items_int h3
  have hlen : ns.length ≤ n := by
    unfold OpenLaw.pre at hc
    have h4 : (WTm.not (.lt (.lit (.int (n : Int))) (.len (.arg 0)))).holds [] { args := [.list (ns.map .int)] } = true := by
      have h4 := (holds_andW hc).1
      rw [hn] at h4
      exact h4
    have h5 := condW_of h4 (w_not (w_lt w_lit (w_len_list (w_arg rfl))))
    rw [List.length_map] at h5
    refine Nat.le_of_not_lt fun q => ?_
    have q' : (n : Int) < ((ns.length : Nat) : Int) := by omega
    first
      | (rw [decide_eq_true q'] at h5; exact absurd h5 (by decide))
      | (simp at h5; omega)
  cases hwl with
  | cons w1 w2 =>
    cases w2
    cases w1 with
    | list ho hall => exact ⟨_, _, ns, rfl, rfl, ho, ints_of_wellAll ns _ hall, hlen⟩

theorem post_true (l : OpenLaw) (args : List WData) : l.row.toRowW.claim.post args (.bool true) args = true :=
  postW_of (r := l.row.toRowW) (X := (true == true))
    (show WShape.has [] (.bool true) .bool = true by first | rfl | decide | simp [WShape.has, WShape.arms, WShape.armsAll])
    (show (WTm.eq .res (.lit (.bool true))).value [] { args := args, res := some (.bool true), after := args } = some (.bool (true == true)) from w_eq_bool (w_res rfl) w_lit) rfl

/-! ### the attachment: holds_open's last premise (the goal 'hc' behind k_head) from a wpAny of the law's body -/
/-- the same from a codeAny of the CALL (for a layer whose function contracts speak of calls) -/
theorem attach_call {l : OpenLaw} {n : Nat} {q : Program} {loose : List Str} {XP : (Str → Option Value) → Heap → Prop} {YP : World → Heap → Prop} {d : DefRec}
    (hn : l.most = some n) (hdf : d.params.defaults = [])
    (call : ∀ (w : World) (s₀ s₁ : Shared) (mg mb : Str → Option Value) (fa : Addr) (o : Obj) (pm cd doc : Value) (a : Addr) (vs : List Value) (ns : List Int),
      Ground q loose [] XP w s₀ mg mb s₁.heap → YP w s₁.heap →
      s₁.heap.get? fa = some o → o.data = .func (docDef d.name d.params d.body d.scope pm cd doc) → s₁.heap.CodeRec cd d.name → mg d.name = some (.ref fa) →
      s₁.heap.get? a = some { cls := .type "list", data := .seq vs.toArray } → IntsAre vs ns → ns.length ≤ n → s₁.gens = #[] →
      codeAny (model l.prog w) callerA (.call (.ref fa) ⟨[.ref a], []⟩) (fun r s' => r = .ok (.ret (.bool true)) ∧ OldK s₁.heap s'.heap ∧ s'.os = s₁.os ∧ AllBare s'.gens) s₁) :
    WalkO q loose XP YP l.row.toRowW d [] (fun f vs => PySem.call f vs) := by
  intro w s₀ s₁ mg mb G Y fa o pm cd doc dV kV ho hd hcd hD hmg hg args vals as hpre hlay hrd hwl hlo
  obtain rfl : dV = .none := Dflts.none hD hdf
  obtain rfl : kV = .none := Dflts.noKw hD
  obtain ⟨a, vs, ns, rfl, rfl, hobj, hints, hlen⟩ := script_of hn hpre hwl
  refine enter_call (codeAny_mono (call w s₀ s₁ mg mb fa o pm cd doc a vs ns G Y ho (fd_plain hd) hcd hmg hobj hints hlen hg) fun r s' hq => ?_)
  obtain ⟨rfl, h2, h3, h4⟩ := hq
  exact ⟨.inl ⟨.bool true, .bool true, [], rfl, fun _ => rfl, .bool true, post_true l _, fun _ => ⟨List.Pairwise.nil, fun _ hm => (nomatch hm)⟩⟩, h2, h3, h4⟩

/-! ### rules over ANY heap (no ledger) from facts about the written part K: the library's own take a ledger (News) for what they write -/
section
variable {prog : Program} {w : World} {A : Around} {E : Value → Shared → Prop} {s : Shared} {K : Frag}

/-! the whole heap as the ledger: makes every rule that writes through a ledger a rule over any heap -/
def noObjs (h : Heap) : Heap := { h with objs := #[] }
def ledger (h : Heap) (L d : Addr) : List (Addr × Obj) := (List.range h.objs.size).filterMap fun a => if a = L ∨ a = d then none else (h.get? a).map fun o => (a, o)
end
end Att

namespace L2
open PySem PySem.Spec PyProof.Rows

theorem vals_ints : ∀ {vs : List Value} {ns : List Int}, IntsAre vs ns → Vals (ns.map V.int) vs
  | _, _, .nil => .nil
  | _, _, .cons n t h => .cons ⟨t, rfl⟩ (vals_ints h)

/-- nothing is tracked but the script, known to the object (or it is an object of the module) -/
def Only (H : Hp) : Prop := ∀ b, H b = none ∨ ∃ o xs, H b = some (.frz o (.lst xs))

/-- THE HEAD: the law's promise, at the heap behind the top. F, the promise of the law's def, may use that base is part of the heap (so K.In base, base.Ns mainGlobals mg stand in Mod) -/
theorem law_call {P : Program} {w : World} {K : PySem.W.Frag} {mg mb : Str → Option Value} {CX : CXT} {k : Nat} {fa a : Addr} {fd : FuncData} {x : Str} {sp : Sp} {s₁ : Shared} {vs : List Value} {ns : List Int}
    (KX : K.In s₁.heap) (hns : s₁.heap.Ns mainGlobals mg) (hb : s₁.heap.Ns builtinsNs mb) (hbb : ∀ x : Str, x ≠ "__name__" → mb x = bootBuiltins x) (hlim : s₁.heap.NoLimit) (hg : s₁.gens = #[])
    (ha : s₁.heap.get? a = some { cls := .type "list", data := .seq vs.toArray }) (hi : IntsAre vs ns) (hl : ns.length ≤ sizeLine) (hr : Room k callerA)
    (F : ∀ base : Heap, K.In base → base.Ns mainGlobals mg → FnOk P w K mg base CX k fa fd [x] sp) (hbind : ∀ (s : Shared) (u : Value), BindsTo s fd ⟨[u], []⟩ [(x, u)])
    (hsp : ∀ H : Hp, Only H → SqL K H a (ns.map V.int) → sp [.ref a] H (fun v _ => v = .bl true) fun _ _ _ => False)
    (hCX : ∀ H e s', CX [] H s₁ (fun _ _ _ => False) e s' → False) :
    codeAny (model P w) callerA (.call (.ref fa) ⟨[.ref a], []⟩) (fun r s' => r = .ok (.ret (.bool true)) ∧ OldK s₁.heap s'.heap ∧ s'.os = s₁.os ∧ AllBare s'.gens) s₁ := by
  have rv := vals_ints hi
  have lenV := hi.length
  -- from an abstract heap in which nothing but the script may be tracked
  have core : ∀ H : Hp, Only H → SqL K H a (ns.map V.int) → HOk P w H s₁.heap → (∀ b, H b ≠ none → b = a) → (H a ≠ none → K.lookup a = none) →
      codeAny (model P w) callerA (.call (.ref fa) ⟨[.ref a], []⟩) (fun r s' => r = .ok (.ret (.bool true)) ∧ OldK s₁.heap s'.heap ∧ s'.os = s₁.os ∧ AllBare s'.gens) s₁ := by
    intro H hO hS hok hA hK
    have base_of : ∀ {b : Addr} {o : Obj}, s₁.heap.get? b = some o → H b = none → (hidT s₁.heap H).get? b = some o := fun e n => hidT_get e n
    have noA : ∀ {b : Addr} {o : Obj} {es : Array DictEntry} {ep : Nat}, s₁.heap.get? b = some o → o.data = .dict es ep → H b = none := fun {b o es ep} e d => by
      cases q : H b with
      | none => rfl
      | some u =>
        have e' : b = a := hA b (by rw [q]; simp)
        subst e'
        rw [ha] at e; cases e
        have d' : Data.seq vs.toArray _ = Data.dict es ep := d
        cases d'
    have nsK : ∀ {b : Addr} {m : Str → Option Value}, s₁.heap.Ns b m → (hidT s₁.heap H).Ns b m := fun {b m} ⟨o, es, ep, e, d, r⟩ => ⟨o, es, ep, base_of e (noA e d), d, r⟩
    have hKb : K.In (hidT s₁.heap H) := fun b o e => base_of (KX b o e) (by
      cases q : H b with
      | none => rfl
      | some u =>
        have e' : b = a := hA b (by rw [q]; simp)
        subst e'
        rw [hK (by rw [q]; simp)] at e; cases e)
    have hM : Mod K mg (hidT s₁.heap H) := ⟨hKb, nsK hns, ⟨mb, nsK hb, hbb⟩, let ⟨mc, h1, h2⟩ := hlim; ⟨mc, nsK h1, h2⟩⟩
    have e0 : Env0 P w K mg (hidT s₁.heap H) callerA [] s₁ H := ⟨rfl, hM, fun b o e => of_hidT e, Nat.le_of_eq (hidT_size _ _), trivial, fun b hb => absurd (show b ∈ ([] : List Addr) from hb) (by simp), hok, .of_eq hg⟩
    refine codeAny_mono ((F _ hKb (nsK hns)).run callerA [] s₁ H ⟨[.ref a], []⟩ [.ref a] [.ref a] _ _ hr e0 (hbind s₁ (.ref a)) (.cons rfl .nil) (hsp H hO hS)) fun r s' h => ?_
    cases r with
    | error e => exact (hCX H e s' h).elim
    | ok fl =>
      cases fl with
      | next => exact False.elim h
      | brk => exact False.elim h
      | cont => exact False.elim h
      | ret u =>
        obtain ⟨v, H', os, bare, un, hok', r', q⟩ := h
        have q' : v = .bl true := q
        subst q'
        obtain rfl : u = Value.bool true := r'
        refine ⟨rfl, OldK.of_keep fun b o e => ?_, os, bare⟩
        cases q : H b with
        | none => exact un.keep b o e q (by intro z; exact absurd (show b ∈ ([] : List Addr) from z) (by simp)) (by simp)
        | some u =>
          rcases hO b with z | ⟨ob, xs, z⟩
          · rw [q] at z; cases z
          · have z2 := un.frzs b ob _ z
            obtain ⟨e1, _⟩ := hok b _ z
            obtain ⟨e2, _⟩ := hok' b _ z2
            rw [e] at e1; cases e1
            exact e2
  cases hk : K.lookup a with
  | some o =>
    -- the script is one of the module's own objects
    have e := KX a o hk
    rw [ha] at e
    cases e
    refine core (fun _ => none) (fun _ => .inl rfl) (.inr ⟨_, vs.toArray, _, hk, rfl, rfl, rfl, by rw [List.size_toArray, lenV]; exact hl, by simpa using rv⟩) (fun b u z => by have z' : (none : Option HO) = some u := z; cases z') (fun b z => absurd rfl z) fun z => absurd rfl z
  | none =>
    refine core (fun b => if b = a then some (.frz { cls := .type "list", data := .seq vs.toArray } (.lst (ns.map V.int))) else none) (fun b => ?_) (.inl (.inr ⟨{ cls := .type "list", data := .seq vs.toArray }, if_pos rfl⟩)) (fun b u z => ?_) (fun b z => ?_) fun _ => hk
    · by_cases hb : b = a
      · exact .inr ⟨_, _, if_pos hb⟩
      · exact .inl (if_neg hb)
    · by_cases hb : b = a
      · have z' := (if_pos hb).symm.trans z
        cases z'
        subst hb
        exact ⟨ha, by rw [List.length_map]; exact hl, vs, _, rv, ha⟩
      · have z' := (if_neg hb).symm.trans z
        cases z'
    · by_cases hb : b = a
      · exact hb
      · exact absurd (if_neg hb) z
end L2

namespace L2
open PySem PySem.Spec PyProof.Rows

abbrev KOf {K : PySem.W.Frag} {h : Heap} (_ : K.In h) : PySem.W.Frag := K

/-- the goal that k_head leaves (case hc), from the law's promise. F gives the function object fd (K's own) once, then the promise over every base -/
theorem walk_of {l : PySem.W.OpenLaw} {n k : Nat} {q : Program} {loose : List Str} {XP : (Str → Option Value) → Heap → Prop} {YP : World → Heap → Prop} {d : DefRec} {K : Params → PySem.W.Frag} {CX : World → CXT} {sp : World → Sp} {x : Str}
    (hn : l.most = some n) (hn2 : n ≤ sizeLine) (hdf : d.params.defaults = []) (hr : Room k callerA)
    (hY : ∀ (w : World) (h : Heap), YP w h → (K w.params).In h)
    (F : ∀ (w : World) (mg : Str → Option Value) (fa : Addr) (h : Heap), (K w.params).In h → h.Ns mainGlobals mg → mg d.name = some (.ref fa) →
      ∃ fd : FuncData, (∀ (s : Shared) (u : Value), BindsTo s fd ⟨[u], []⟩ [(x, u)]) ∧
        ∀ base : Heap, (K w.params).In base → base.Ns mainGlobals mg → FnOk l.prog w (K w.params) mg base (CX w) k fa fd [x] (sp w))
    (hsp : ∀ (w : World) (H : Hp) (a : Addr) (ns : List Int), ns.length ≤ n → Only H → SqL (K w.params) H a (ns.map V.int) → sp w [.ref a] H (fun v _ => v = .bl true) fun _ _ _ => False)
    (hCX : ∀ (w : World) (H : Hp) (s : Shared) (e : Value) (s' : Shared), CX w [] H s (fun _ _ _ => False) e s' → False) :
    PySem.W.WalkO q loose XP YP l.row.toRowW d [] (fun f vs => PySem.call f vs) := by
  refine Att.attach_call hn hdf fun w s₀ s₁ mg mb fa o pm cd doc a vs ns G Y ho hd hcd hmg hobj hints hlen hg => ?_
  have KX := hY w _ Y
  obtain ⟨fd, hb, hF⟩ := F w mg fa _ KX G.T.g hmg
  exact law_call KX G.T.g G.T.b G.T.builtins G.T.nolimit hg hobj hints (Nat.le_trans hlen hn2) hr hF hb (fun H hO hS => hsp w H a ns hlen hO hS) fun H e s' => hCX w H s₁ e s'
end L2


/-! SHORT WORDS over the layer: a def of the text, its body, what a loop and a test want. -/
namespace L2
open PySem PySem.Spec PyProof.Rows

/-! ### the text by places -/
/-- the j-th statement of a class's body -/
def inClass (s : Stmt) (j : Nat) : Stmt := match s with
  | .ClassDef _ _ _ body _ _ _ _ _ _ _ => body.getD j (.Pass ⟨0, 0, 0, 0⟩)
  | _ => .Pass ⟨0, 0, 0, 0⟩
def defArgs (s : Stmt) : Arguments := match s with
  | .FunctionDef _ a _ _ _ _ _ _ _ _ => a
  | _ => { posonlyargs := [], args := [], vararg := none, kwonlyargs := [], kw_defaults := [], kwarg := none, defaults := [] }
def defBody (s : Stmt) : List Stmt := match s with
  | .FunctionDef _ _ b _ _ _ _ _ _ _ => b
  | _ => []
def defScope (s : Stmt) : Scope := match s with
  | .FunctionDef _ _ _ _ _ _ sc _ _ _ => sc
  | _ => { kind := .function, names := [], isGenerator := false, isCoroutine := false }

/-! ### no exception leaves a def -/
abbrev CX0 : CXT := fun _ _ _ _ _ _ => False
abbrev E0 : XK := fun _ _ _ => False
/-! ### a def (or method) of the text as it stands behind the top -/
structure Fun (K : PySem.W.Frag) (x qual : Str) (st : Stmt) (f : Addr) (fd : FuncData) : Prop where
  ex : ∃ (oc : Value) (od : Option Addr) (kV doc pm : Value) (an : Option Addr) (cdv ct : Value) (osl : Array (Option Value)),
    fd = PySem.W.fnOf x qual (defArgs st) (defBody st) (defScope st) .none kV doc pm an cdv ct ∧ K.lookup f = some ⟨oc, od, .func fd, osl⟩ ∧ PySem.W.codeIn K cdv qual = true
  kp : PySem.W.keepIn K (.ref f) = true
section
variable {P : Program} {w : World} {K : PySem.W.Frag} {mg : Str → Option Value} {base : Heap}
/-- THE RULE for a def: its body as a term of rules, and the reading of that term -/
theorem Fun.ok {x qual : Str} {st : Stmt} {f : Addr} {fd : FuncData} {N ps : List Str} {k : Nat} {sp : Sp} (F : Fun K x qual st f fd) (S : FnScope N ps (defScope st)) (len : ∀ vs H Q E, sp vs H Q E → vs.length = ps.length)
    (hbody : ∀ (cdv : Value) (A : Around) (outer : List Env) (s : Shared) (H : Hp) (vs : List V) (Q : VK) (E : XK), Room k (A.deeper (envOfC qual (defScope st) s.heap.objs.size f cdv)) → sp vs H Q E →
      ∃ t, PSs (cxOf CX0 P w K mg base N qual (defScope st) f cdv A outer s H E).nox (defBody st) t ∧ t { nx := fun _ H' => Q .non H', rt := Q } (start N vs) H) : FnOk P w K mg base CX0 (k + 1) f fd ps sp := by
  obtain ⟨oc, od, kV, doc, pm, an, cdv, ct, osl, rfl, lk, hcd⟩ := F.ex
  refine fn_of lk hcd S len fun A outer s H vs Q E hr hsp => ?_
  obtain ⟨t, h, q⟩ := hbody cdv A outer s H vs Q E hr hsp
  exact ⟨t, h.nox, q⟩
/-- how its arguments bind (no defaults): h is «fun _ _ _ _ _ _ us hl => match us, hl with | [_, _], _ => rfl», one _ a parameter -/
theorem Fun.binds {x qual : Str} {st : Stmt} {f : Addr} {fd : FuncData} {ps : List Str} (F : Fun K x qual st f fd)
    (h : ∀ (kV doc pm : Value) (an : Option Addr) (cdv ct : Value) (us : List Value), us.length = ps.length → bindArgs (PySem.W.fnOf x qual (defArgs st) (defBody st) (defScope st) .none kV doc pm an cdv ct) ⟨us, []⟩ = pure (ps.zip us)) : Binds K fd ps [] := by
  obtain ⟨oc, od, kV, doc, pm, an, cdv, ct, osl, rfl, lk, hcd⟩ := F.ex
  exact .all (h kV doc pm an cdv ct)
theorem fun_mk {x qual : Str} {st : Stmt} {f : Addr} {oc : Value} {od an : Option Addr} {osl : Array (Option Value)} {kV doc pm cdv ct : Value} (l : K.lookup f = some ⟨oc, od, .func (PySem.W.fnOf x qual (defArgs st) (defBody st) (defScope st) .none kV doc pm an cdv ct), osl⟩)
    (c : PySem.W.codeIn K cdv qual = true) (k : PySem.W.keepIn K (.ref f) = true) : Fun K x qual st f (PySem.W.fnOf x qual (defArgs st) (defBody st) (defScope st) .none kV doc pm an cdv ct) := ⟨⟨oc, od, kV, doc, pm, an, cdv, ct, osl, rfl, l, c⟩, k⟩
end
theorem small1000 {n : Nat} (h : n ≤ 1000) : n < sizeLine := Nat.lt_of_le_of_lt h (by decide)

/-! ### expressions in short: the name that stands in the i-th slot -/
section
variable {X : Cx}
theorem pv (i : Nat) {x : Str} {pos : Pos} (hN : X.N[i]? = some x := by rfl) (hv : Vis X.env.scope x := by first | exact Or.inl rfl | exact Or.inr (Or.inl rfl) | exact Or.inr (Or.inr rfl)) (hd : (x == ("__debug__" : Str)) = false := by decide)
    (hcd : (x == ("__classdict__" : Str)) = false := by decide) : PE X (.Name x pos) (tVar i) := pe_var hN hv hd hcd
end

/-! ### tests -/
theorem iteF {A B : Prop} (h : B) : if false = true then A else B := by
  rw [if_neg Bool.false_ne_true]
  exact h
theorem iteT {A B : Prop} (h : A) : if true = true then A else B := by
  rw [if_pos rfl]
  exact h
theorem ite2 {c A B : Prop} [Decidable c] (h1 : c → A) (h2 : ¬ c → B) : if c then A else B := by
  by_cases h : c
  · rw [if_pos h]
    exact h1 h
  · rw [if_neg h]
    exact h2 h
/-! ### heaps -/
/-- all that was tracked is as it was -/
def Same (H H' : Hp) : Prop := ∀ b o, H b = some o → H' b = some o
theorem Same.refl (H : Hp) : Same H H := fun _ _ h => h
theorem Same.trans {H H1 H2 : Hp} (a : Same H H1) (b : Same H1 H2) : Same H H2 := fun c o h => b c o (a c o h)
theorem Same.free {H H' : Hp} (e : Same H H') {l : Addr} (h : H' l = Option.none) : H l = Option.none := by
  cases q : H l with
  | none => rfl
  | some o =>
    rw [e l o q] at h
    cases h
theorem Same.seq {K : PySem.W.Frag} {H H' : Hp} {a : Addr} {xs : List V} (e : Same H H') (h : SqL K H a xs) : SqL K H' a xs := by
  rcases h with (h | ⟨o, h⟩) | h
  · exact .inl (.inl (e _ _ h))
  · exact .inl (.inr ⟨o, e _ _ h⟩)
  · exact .inr h

end L2

set_option Elab.async false
set_option linter.all false
set_option maxRecDepth 100000
/-! OC 1: list comprehensions over the layer -/
namespace L2
open PySem PySem.Spec PyProof.Rows

/-- one turn of a list comprehension of one clause, any target -/
theorem comp_turns {prog : Program} {w : World} {A : Around} {R : Result → Shared → Prop} {s : Shared} {elt target iter : Expr} {ifs : List Expr} {scope : Scope} {pos : Pos} {it acc : Value} {env : Env} (J : Nat → Shared → Prop)
    (turn : ∀ n s, J n s → wpAny (model prog w) A (pyNext it) (fun r s1 => match r with
      | none => R (.ok .next) s1
      | some v => wpAny (model prog w) A (letOwnedTupleGo target it v) (fun _ s1 => wpAny (model prog w) A (assign target env v) (fun _ s2 =>
          wpAny (model prog w) A (forIn ifs true fun c r => if r = true then do let ok ← isTrue c env (eval c env); pure (ForInStep.yield ok) else pure (ForInStep.yield r)) (fun ok s3 =>
            if ok = true then wpAny (model prog w) A (eval elt env) (fun x s4 =>
              wpAny (model prog w) A (call (.builtin "list.append") [acc, x]) (fun _ s5 => ∃ m, m < n ∧ J m s5) (fun _ _ => False) s4) (fun _ _ => False) s3
            else ∃ m, m < n ∧ J m s3) (fun _ _ => False) s2) (fun _ _ => False) s1) (fun _ _ => False) s1) (fun _ _ => False) s)
    (n : Nat) (h : J n s) :
    codeAny (model prog w) A (.compLoop (.ListComp elt [⟨target, iter, ifs, 0⟩] scope pos) 0 it acc env) R s := by
  refine codeAny_loop rfl J (fun n s hI => ?_) n h
  show wpAny _ A ((compTurn (.ListComp elt [⟨target, iter, ifs, 0⟩] scope pos) 0 it acc env).onRaise (fun x => do noteFrame x env; theTreesLotGoes x)) _ _ s
  refine wpAny_noted (wpAny_mono (E := fun _ _ => False) ?_ (fun _ _ q => q) fun _ _ q => q.elim)
  rw [compTurn_list]
  refine wpAny_bind (wpAny_standAt (wpAny_bind (thn (turn n s hI) fun r s1 h1 => ?_)))
  cases r with
  | none => exact wpAny_pure h1
  | some v =>
    refine wpAny_bind (thn h1 fun _ s1 h1 => ?_)
    refine wpAny_bind (thn h1 fun _ s2 h2 => wpAny_bind (thn h2 fun ok s3 h3 => ?_))
    cases ok with
    | false => exact wpAny_pure ⟨rfl, h3⟩
    | true => exact wpAny_bind (wpAny_bind (thn h3 fun x s4 h4 => wpAny_bind (thn h4 fun _ s5 h5 => wpAny_pure (wpAny_pure ⟨rfl, h5⟩))))

/-- the cells that a comprehension's block closes over -/
theorem closure_ok {env : Env} : ∀ (names : List (Str × NameKind)) (acc : List (Str × Addr)), (∀ y ∈ names, y.2 = .free → ∃ c, env.cells.lookup y.1 = some c) →
    ∃ cl : List (Str × Addr), (forIn names acc (fun (y : Str × NameKind) (r : List (Str × Addr)) => if (y.2 == NameKind.free) = true then do let a ← cellOf env y.1; pure (ForInStep.yield ((y.1, a) :: r)) else pure (ForInStep.yield r)) : Sem _) = pure cl ∧
      ∀ x, (∀ c, cl.lookup x = some c → acc.lookup x = some c ∨ env.cells.lookup x = some c) ∧ ((acc.lookup x).isSome = true ∨ (x, NameKind.free) ∈ names → (cl.lookup x).isSome = true)
  | [], acc, _ => ⟨acc, rfl, fun x => ⟨fun c h => .inl h, fun h => h.elim id fun z => nomatch z⟩⟩
  | (n, k) :: r, acc, hf => by
    by_cases hk : k = .free
    · subst hk
      obtain ⟨c, hc⟩ := hf (n, .free) List.mem_cons_self rfl
      obtain ⟨cl, e, q⟩ := closure_ok r ((n, c) :: acc) fun y hy => hf y (List.mem_cons_of_mem _ hy)
      refine ⟨cl, ?_, fun x => ⟨fun d hd => ?_, fun hx => ?_⟩⟩
      · rw [List.forIn_cons]
        have e1 : cellOf env n = pure c := by unfold cellOf; simp only [hc]
        simp only [beq_self_eq_true, if_true, e1]
        exact e
      · rcases (q x).1 d hd with z | z
        · by_cases hx : x = n
          · subst hx; rw [List.lookup_cons_self] at z; cases z; exact .inr hc
          · rw [List.lookup_cons, beq_eq_false_iff_ne.mpr hx] at z; exact .inl z
        · exact .inr z
      · refine (q x).2 ?_
        by_cases hxn : x = n
        · subst hxn; exact .inl (by rw [List.lookup_cons_self]; rfl)
        · rcases hx with z | z
          · exact .inl (by rw [List.lookup_cons, beq_eq_false_iff_ne.mpr hxn]; exact z)
          · rcases List.mem_cons.mp z with z | z
            · cases z; exact absurd rfl hxn
            · exact .inr z
    · obtain ⟨cl, e, q⟩ := closure_ok r acc fun y hy => hf y (List.mem_cons_of_mem _ hy)
      refine ⟨cl, ?_, fun x => ⟨(q x).1, fun hx => (q x).2 ?_⟩⟩
      · rw [List.forIn_cons]
        have hb : (k == NameKind.free) = false := by simpa using hk
        simp only [hb, Bool.false_eq_true, if_false]
        exact e
      · rcases hx with z | z
        · exact .inl z
        · rcases List.mem_cons.mp z with z | z
          · cases z; exact absurd rfl hk
          · exact .inr z
theorem closure_at {env : Env} {scope : Scope} (hf : ∀ y ∈ scope.names, y.2 = .free → ∃ c, env.cells.lookup y.1 = some c) :
    ∃ cl, closureFor scope env = pure cl ∧ (∀ x c, cl.lookup x = some c → env.cells.lookup x = some c) ∧ ∀ x, (x, NameKind.free) ∈ scope.names → ∃ c, cl.lookup x = some c := by
  obtain ⟨cl, e, q⟩ := closure_ok scope.names [] hf
  refine ⟨cl, ?_, fun x c h => ?_, fun x hx => Option.isSome_iff_exists.mp ((q x).2 (.inr hx))⟩
  · unfold closureFor
    exact (congrArg (· >>= fun r => pure r) e).trans rfl
  · rcases (q x).1 c h with z | z
    · simp at z
    · exact z

/-- the block's context -/
abbrev Cx.comp (X : Cx) (N : List Str) (scope : Scope) (cl : List (Str × Addr)) (C : Addr) (fp : List Addr) (s : Shared) (H : Hp) : Cx :=
  { X with N := N, s₀ := s, H₀ := H, env := compEnvC scope cl C X.env, outer := X.stack, stack := X.stack, ex := fp, fn := fun _ => false, pn := [], xe := fun _ _ => False }

/-- the tests of a clause -/
structure PTs (X : Cx) (ifs : List Expr) (t : TT)  : Prop where
  go : ∀ (pins : List (Addr × Obj)) (s : Shared) (σ : St) (H : Hp) (Q : Bool → Hp → Prop), Inv X pins σ H s → t σ H Q →
    wpAny (model X.prog X.w) X.A (forIn ifs true fun c r => if r = true then do let ok ← isTrue c X.env (eval c X.env); pure (ForInStep.yield ok) else pure (ForInStep.yield r)) (TP X pins σ Q) X.xe s
instance {X : Cx} {ifs : List Expr} {t : TT} : CoeFun (PTs X ifs t) (fun _ => ∀ (pins : List (Addr × Obj)) (s : Shared) (σ : St) (H : Hp) (Q : Bool → Hp → Prop), Inv X pins σ H s → t σ H Q →
    wpAny (model X.prog X.w) X.A (forIn ifs true fun c r => if r = true then do let ok ← isTrue c X.env (eval c X.env); pure (ForInStep.yield ok) else pure (ForInStep.yield r)) (TP X pins σ Q) X.xe s) := ⟨PTs.go⟩
def tYes : TT := fun _ H Q => Q true H
theorem pts_nil {X : Cx} : PTs X [] tYes := ⟨fun _ _ _ H _ I h => wpAny_tests_nil ⟨H, I, h⟩⟩
def compSt (own : Nat) (js : List Nat) (σ : St) : St := List.replicate own none ++ js.map fun j => (σ[j]?).join
/-- the block's turns: p the list, R what is wanted of the heap behind -/
def CompGo (J : It) (p : Addr) (σ0 : St) (H0 : Hp) (g : TG) (tt : TT) (te : TE) (R : Hp → Prop) : Prop :=
  ∃ W : Nat → Nat → St → Hp → Prop, (∃ m, W 0 m σ0 H0) ∧ ∀ i m σ' H', W i m σ' H' →
    (J.stop i H' ∧ R H') ∨ (J.go i H' ∧ ∀ x H2, J.yld i H' x H2 → g x σ' H2 fun σ3 H3 => tt σ3 H3 fun b H4 =>
      if b = true then te σ3 H4 fun v H5 => ∃ ys, H5 p = some (.lst ys) ∧ ys.length < sizeLine ∧ ∃ m', m' < m ∧ W (i + 1) m' σ3 (upd H5 p (.lst (ys ++ [v])))
      else ∃ m', m' < m ∧ W (i + 1) m' σ3 H4)
def tComp (wi : TI) (own : Nat) (js : List Nat) (g : TG) (tt : TT) (te : TE) : TE := fun σ H Q => wi σ H fun J H1 => ∀ p, H1 p = none → CompGo J p (compSt own js σ) (upd H1 p (.lst [])) g tt te (Q (.ref p))
/-- the slots of the free names -/
inductive Frees (N : List Str) : List Str → List Nat → Prop where
  | nil : Frees N [] []
  | cons {y : Str} {j : Nat} {ys : List Str} {js : List Nat} (h : N[j]? = some y) (r : Frees N ys js) : Frees N (y :: ys) (j :: js)
theorem Frees.at {N : List Str} : ∀ {ys : List Str} {js : List Nat}, Frees N ys js → ∀ (i : Nat) (y : Str), ys[i]? = some y → ∃ j, js[i]? = some j ∧ N[j]? = some y
  | _, _, .nil, _, _, e => by simp at e
  | _, _, .cons (j := j) h _, 0, _, e => by simp at e; subst e; exact ⟨j, rfl, h⟩
  | _, _, .cons _ r, i + 1, y, e => by
    obtain ⟨j, h1, h2⟩ := r.at i y (by simpa using e)
    exact ⟨j, by simpa using h1, h2⟩
theorem Frees.length {N : List Str} : ∀ {ys : List Str} {js : List Nat}, Frees N ys js → ys.length = js.length
  | _, _, .nil => rfl
  | _, _, .cons _ r => by simp [r.length]
theorem lookup_map_names {f : Str → NameKind → NameKind} : ∀ {names : List (Str × NameKind)} {x : Str}, (names.map fun y => (y.1, f y.1 y.2)).lookup x = (names.lookup x).map (f x)
  | [], _ => rfl
  | (n, k) :: r, x => by
    by_cases h : x = n
    · subst h; rw [List.map_cons, List.lookup_cons_self, List.lookup_cons_self]; rfl
    · have hb : (x == n) = false := beq_eq_false_iff_ne.mpr h
      rw [List.map_cons, List.lookup_cons, List.lookup_cons, hb]
      exact lookup_map_names
def relK (env : Env) (n : Str) (k : NameKind) : NameKind := if (k == .free && env.scope.kind == .function && env.kindOf n == some .cell) = true then .cell else k
theorem relabel_look (scope : Scope) (env : Env) (x : Str) : (relabel scope env).names.lookup x = (scope.names.lookup x).map (relK env x) := by
  have e : (relabel scope env).names = scope.names.map fun y => (y.1, relK env y.1 y.2) := by
    unfold relabel
    refine List.map_congr_left fun y _ => ?_
    obtain ⟨n, k⟩ := y
    show (if (k == .free && env.scope.kind == .function && env.kindOf n == some .cell) = true then (n, NameKind.cell) else (n, k)) = (n, relK env n k)
    unfold relK
    split <;> rfl
  rw [e, lookup_map_names]

section
variable {X : Cx} {elt target iter : Expr} {ifs : List Expr} {scope : Scope} {own ys : List Str} {js : List Nat} {wi : TI} {g : TG} {tt : TT} {te : TE} {pos : Pos}
/-- the block: from the iterator on -/
theorem comp_block {pins : List (Addr × Obj)} {σ : St} {H : Hp} {s2 : Shared} {it : Addr} {fp : List Addr} {tn : Nat → Heap → Prop} {J : It} {Q : VK} {E : Value → Shared → Prop} {cl : List (Str × Addr)} {RR : Value → Addr → Result → Shared → Prop}
    (hc : X.calm = true) (I : Inv X pins σ H s2) (T : Turn X.prog X.w X.K target J fp it tn) (st : tn 0 s2.heap) (fpk : ∀ b ∈ fp, FpOk X pins H b)
    (hkind : scope.kind = .function) (hcell : ∀ y ∈ scope.names, y.2 ≠ .cell) (fr : Frees X.N ys js) (hys : ∀ y ∈ ys, X.env.kindOf y = some .cell)
    (hcl1 : ∀ x c, cl.lookup x = some c → X.env.cells.lookup x = some c) (hcl2 : ∀ x, (x, NameKind.free) ∈ scope.names → ∃ c, cl.lookup x = some c)
    (hvis : ∀ y ∈ ys, (relabel scope X.env).names.lookup y = some .cell)
    (hg : ∀ cl C fp s H, PG (X.comp (own ++ ys) scope cl C fp s H) target g) (ht : ∀ cl C fp s H, PTs (X.comp (own ++ ys) scope cl C fp s H) ifs tt) (he : ∀ cl C fp s H, PE (X.comp (own ++ ys) scope cl C fp s H) elt te)
    (h : ∀ p, H p = none → ∃ W : Nat → Nat → St → Hp → Prop, (∃ m, W 0 m (compSt own.length js σ) (upd H p (.lst []))) ∧ ∀ i m σ' H', W i m σ' H' →
      (J.stop i H' ∧ Q (.ref p) H') ∨ (J.go i H' ∧ ∀ x H2, J.yld i H' x H2 → g x σ' H2 fun σ3 H3 => tt σ3 H3 fun b H4 =>
        if b = true then te σ3 H4 fun v H5 => ∃ ys, H5 p = some (.lst ys) ∧ ys.length < sizeLine ∧ ∃ m', m' < m ∧ W (i + 1) m' σ3 (upd H5 p (.lst (ys ++ [v])))
        else ∃ m', m' < m ∧ W (i + 1) m' σ3 H4))
    (hRR : ∀ D C (H' : Hp) (s' : Shared), Inv X pins σ H' s' → Q (.ref D) H' → (∃ m, s'.heap.Ns C m) → H' C = none → C ≠ X.env.locals → X.s₀.heap.objs.size ≤ C → (∀ x c, X.env.cells.lookup x = some c → c ≠ C) → (∀ p ∈ X.pn ++ pins, p.1 ≠ C) → RR (.ref D) C (.ok .next) s') :
    wpAny (model X.prog X.w) X.A (newList []) (fun acc s3 => wpAny (model X.prog X.w) X.A (newFunctionEnv scope X.env.globals cl [] X.env.qual none .none (some X.env)) (fun cenv s4 =>
      codeAny (model X.prog X.w) X.A (.compStart (.ListComp elt [⟨target, iter, ifs, 0⟩] scope pos) 0 (.ref it) acc { cenv with scope := relabel scope X.env }) (RR acc cenv.locals) s4) E s3) E s2 := by
  refine wpAny_newObj_type (wpAny_newFunctionEnv hcell (by intro y hy; simp at hy) (fun h1 hns1 hsb1 => ?_) hkind)
  have hnp : H s2.heap.objs.size = none := I.hok.fresh (Nat.le_refl _)
  have I3 : Inv X pins σ (upd H s2.heap.objs.size (.lst [])) { s2 with heap := s2.heap.push { cls := .type "list", data := .seq ([] : List Value).toArray }, toks := s2.toks } :=
    I.lnew (its := []) (ys := []) .nil (Nat.zero_le _)
  obtain ⟨W, ⟨m0, w0⟩, turn⟩ := h _ hnp
  clear h
  generalize hH0 : upd H s2.heap.objs.size (.lst []) = H0 at I3 w0
  generalize hp : s2.heap.objs.size = p at *
  have eS : ({ s2 with heap := s2.heap.push { cls := .type "list", data := .seq ([] : List Value).toArray }, toks := s2.toks } : Shared) = { s2 with heap := s2.heap.push { cls := .type "list", data := .seq ([] : List Value).toArray } } := rfl
  rw [eS] at I3
  clear eS
  generalize hs3 : ({ s2 with heap := s2.heap.push { cls := .type "list", data := .seq ([] : List Value).toArray } } : Shared) = s3 at *
  have heap3 : s3.heap = s2.heap.push { cls := .type "list", data := .seq ([] : List Value).toArray } := by rw [← hs3]
  have old3 : ∀ b o, s2.heap.get? b = some o → s3.heap.get? b = some o := fun b o e => by rw [heap3]; exact Heap.get?_push_of_some _ e
  generalize hC : s3.heap.objs.size = C at *
  have st3 : tn 0 s3.heap := T.keep _ _ _ st fun b _ o e => old3 b o e
  have fp3 : ∀ b ∈ fp, b < C := fun b hb => by
    obtain ⟨o, e, _⟩ := T.obj _ _ st3 b hb
    have := Heap.lt_size e
    rw [hC] at this; exact this
  have nH0 : ∀ b ∈ fp, H0 b = none := fun b hb => by
    obtain ⟨o, e, _⟩ := T.obj _ _ st b hb
    rw [← hH0, upd_ne (fun z => by have := Heap.lt_size e; rw [hp, z] at this; exact Nat.lt_irrefl _ this)]
    exact (fpk b hb).1
  have old1 : ∀ b o, s3.heap.get? b = some o → h1.get? b = some o := fun b o e =>
    hsb1.extBut b o (fun z => by have := Heap.lt_size e; rw [hC, z] at this; exact Nat.lt_irrefl _ this) (Heap.get?_push_of_some _ e)
  have nstk : ∀ b ∈ fp, b ∉ frs X.stack := fun b hb z => by
    rcases List.mem_cons.mp (I.stkSub b z) with e | e
    · exact (fpk b hb).2.1 e
    · exact (fpk b hb).2.2.1 e
  have ncC : ∀ x c, X.env.cells.lookup x = some c → c ≠ C := fun x c e z => by
    obtain ⟨v, o, ho, _⟩ := I3.cell x c e
    have := Heap.lt_size ho
    rw [hC, z] at this; exact Nat.lt_irrefl _ this
  have LC : C ≠ X.env.locals := fun z => by have := I3.lt; rw [hC, z] at this; exact Nat.lt_irrefl _ this
  have sC : X.s₀.heap.objs.size ≤ C := by rw [← hC]; exact I3.sz
  have rl : ∀ x k, (compEnvC scope cl C X.env).kindOf x = some k → (k = .cell ∨ k = .free) → (x, NameKind.free) ∈ scope.names := fun x k e hk => by
    have e' : (relabel scope X.env).names.lookup x = some k := e
    rw [relabel_look] at e'
    cases q : scope.names.lookup x with
    | none => rw [q] at e'; cases e'
    | some k0 =>
      rw [q] at e'
      have m0 := PySem.mem_of_lookup q
      have n0 := hcell _ m0
      have : relK X.env x k0 = k := Option.some.inj e'
      unfold relK at this
      split at this
      · rename_i z
        have : k0 = .free := by
          simp only [Bool.and_eq_true, beq_iff_eq] at z
          exact z.1.1
        rw [← this]; exact m0
      · rcases hk with hk | hk
        · exact absurd (this.trans hk) n0
        · rw [← hk, ← this]; exact m0
  -- the inner invariant at the block's entry
  let Y := X.comp (own ++ ys) scope cl C fp s3 H0
  have okY : Y.Ok := by
    refine ⟨I.ok.mod, ?_, I.ok.glob, I.ok.blt, ?_, fun x y c e1 e2 => I.ok.inj x y c (hcl1 x c e1) (hcl1 y c e2), fun x hx => ?_, fun x c z => (nomatch z), I.ok.hd, I.ok.frames, .inl rfl, fun b hb => ⟨?_, fun x c e => (fpk b hb).2.2.2.2.1 x c (hcl1 x c e)⟩, fun b o e => I3.bs b o e, ?_, fun b o e hb => ?_, nstk, I3.stack, I3.stkFree⟩
    · exact hkind
    · exact Nat.le_of_eq hC
    · rcases hx with hx | hx
      · exact hcl2 x (rl x _ hx (.inl rfl))
      · exact hcl2 x (rl x _ hx (.inr rfl))
    · exact Nat.ne_of_lt (fp3 b hb)
    · exact Nat.le_trans I.ok.bsz I3.sz
    · rcases (fpk b hb).2.2.2.1 with z | z
      · exact I.ok.noex b o e z
      · exact absurd (Nat.lt_of_lt_of_le (Heap.lt_size e) (Nat.le_trans I.ok.bsz z)) (Nat.lt_irrefl _)
  have I4 : Inv Y [] (compSt own.length js σ) H0 { s3 with heap := h1, toks := s3.toks + ([] : List (Str × Value)).length } := by
    refine ⟨okY, rfl, I3.bare, Un.kept old1, ⟨_, hns1, fun i x v e1 e2 e3 => ?_⟩, fun x c e => ?_, ?_, fun x c e => I3.freeC x c (hcl1 x c e), fun p hp => absurd (show p ∈ ([] : List (Addr × Obj)) from hp) (by simp), I3.hok.kept old1, ?_⟩
    · have e1 : (own ++ ys)[i]? = some x := e1
      have hi : own.length ≤ i := Nat.le_of_not_lt fun lt => by
        unfold compSt at e2
        rw [List.getElem?_append_left (by simpa using lt), List.getElem?_replicate] at e2
        split at e2 <;> cases e2
      rw [List.getElem?_append_right hi] at e1
      obtain ⟨j, hj, hN⟩ := fr.at _ _ e1
      unfold compSt at e2
      rw [List.getElem?_append_right (by simpa using hi), List.length_replicate, List.getElem?_map, hj] at e2
      have e2 : (σ[j]?).join = some v := Option.some.inj e2
      have e2' : σ[j]? = some (some v) := by
        cases q : σ[j]? with
        | none => rw [q] at e2; cases e2
        | some z => rw [q] at e2; rw [show z = some v from e2]
      have my := List.mem_of_getElem? e1
      have hk := hys x my
      obtain ⟨m, hn, hl⟩ := I3.loc
      obtain ⟨u, r, q⟩ := hl j x v hN e2' (.inr (.inl hk))
      refine ⟨u, r, ?_⟩
      rcases q with ⟨k, _⟩ | ⟨_, c, e, z⟩
      · rw [hk] at k; cases k
      · obtain ⟨c', e'⟩ := hcl2 x (rl x _ (hvis x my) (.inl rfl))
        have : c' = c := by have := hcl1 x c' e'; rw [e] at this; exact (Option.some.inj this).symm
        subst this
        refine .inr ⟨?_, c', e', ?_⟩
        · exact .inl (hvis x my)
        · obtain ⟨o, ho, hd⟩ := z
          exact ⟨o, old1 _ _ ho, hd⟩
    · obtain ⟨v, o, ho, hd⟩ := I3.cell x c (hcl1 x c e)
      exact ⟨v, o, old1 _ _ ho, hd⟩
    · exact I3.hok.fresh (Nat.le_of_eq hC)
    · unfold compSt
      show _ = (own ++ ys).length
      rw [List.length_append, List.length_replicate, List.length_map, List.length_append, fr.length]
  have stat : ∀ {H' : Hp}, (∀ b ∈ fp, H' b = none) → ∀ b ∈ fp, FpOk Y [] H' b := fun hn b hb =>
    ⟨hn b hb, Nat.ne_of_lt (fp3 b hb), nstk b hb, .inl hb, fun x c e => (fpk b hb).2.2.2.2.1 x c (hcl1 x c e), fun p hp => absurd (show p ∈ ([] : List (Addr × Obj)) from hp) (by simp)⟩
  have fin : ∀ {σ' : St} {H' : Hp} {s' : Shared}, Inv Y [] σ' H' s' → Q (.ref p) H' → RR (.ref p) C (.ok .next) s' := fun {σ' H' s'} I' q => by
    have back : Inv X pins σ H' s' := I3.call' (ch := fp) I'.os I'.base I'.hok I'.bare fun b hb => ⟨(fpk b hb).2.2.2.1, (fpk b hb).2.1, (fpk b hb).2.2.2.2.1, (fpk b hb).2.2.2.2.2⟩
    obtain ⟨m, hn, _⟩ := I'.loc
    exact hRR p C H' s' back q ⟨m, hn⟩ I'.free LC sC ncC fun q hq z => by
      have := Heap.lt_size (I3.pin q hq).1
      rw [hC, z] at this; exact Nat.lt_irrefl _ this
  have loop : ∀ s4 : Shared, s4 = { s3 with heap := h1, toks := s3.toks + ([] : List (Str × Value)).length } →
      codeAny (model X.prog X.w) X.A (.compLoop (.ListComp elt [⟨target, iter, ifs, 0⟩] scope pos) 0 (.ref it) (.ref p) (compEnvC scope cl C X.env)) (RR (.ref p) C) s4 := by
    rintro s4 rfl
    refine comp_turns (fun n s' => ∃ i σ' H', Inv Y [] σ' H' s' ∧ tn i s'.heap ∧ (∀ b ∈ fp, H' b = none) ∧ W i n σ' H') ?_ m0 ⟨0, _, _, I4, T.keep _ _ _ st3 fun b _ o e => old1 b o e, nH0, w0⟩
    rintro n s5 ⟨i, σ5, H5, I5, st5, fr5, w5⟩
    rcases turn i n σ5 H5 w5 with ⟨stop, qn⟩ | ⟨go, step⟩
    · refine thn (T.done Y rfl rfl rfl hc i [] s5 σ5 H5 (fun _ _ => False) I5 (stat fr5) st5 stop) fun r s6 ⟨hr, I6⟩ => ?_
      subst hr
      exact fin I6 qn
    · refine thn (T.item Y rfl rfl rfl hc i [] s5 σ5 H5 (fun _ _ => False) I5 (stat fr5) st5 go) fun r s6 ⟨u, hr, h6⟩ => ?_
      subst hr
      refine thn h6 fun _ s7 ⟨x, H7, I7, r7, y7, st7, fr7⟩ => ?_
      have I7' := I7.pinned (stat fr7) (T.obj _ _ st7)
      have again : ∀ {σ9 : St} {H9 : Hp} {s9 : Shared} {m' : Nat}, Inv Y ([] ++ pinsAt fp s7.heap) σ9 H9 s9 → m' < n → W (i + 1) m' σ9 H9 → ∃ m, m < n ∧ ∃ i σ' H', Inv Y [] σ' H' s9 ∧ tn i s9.heap ∧ (∀ b ∈ fp, H' b = none) ∧ W i m σ' H' := fun {σ9 H9 s9 m'} I9 hm w9 => by
        refine ⟨m', hm, i + 1, σ9, H9, I9.unpinned, T.keep _ _ _ st7 fun b hb o e => (I9.pin (b, o) (List.mem_append_right _ (List.mem_append_right _ (mem_pinsAt hb e)))).1, fun b hb => ?_, w9⟩
        obtain ⟨o, e, d⟩ := T.obj _ _ st7 b hb
        exact (I9.pin (b, o) (List.mem_append_right _ (List.mem_append_right _ (mem_pinsAt hb e)))).2.1
      refine thn (hg cl C fp s3 H0 _ s7 σ5 H7 x u _ I7' r7 (step x H7 y7)) fun _ s8 ⟨σ8, H8, I8, q8⟩ => ?_
      refine thn (ht cl C fp s3 H0 _ s8 σ8 H8 _ I8 q8) fun b s9 ⟨H9, I9, q9⟩ => ?_
      cases b with
      | false =>
        obtain ⟨m', hm, w9⟩ := q9
        exact again I9 hm w9
      | true =>
        refine thn (he cl C fp s3 H0 _ s9 σ8 H9 _ I9 q9) fun y s10 ⟨v, H10, I10, r10, zs, e10, z10, m', hm, w10⟩ => ?_
        refine thn (mt_append (X := Y) _ s10 σ8 H10 (.ref p) [v] (.ref p) [y] (fun _ H' => H' = upd H10 p (.lst (zs ++ [v]))) I10 rfl (.cons r10 .nil) ⟨p, zs, v, rfl, rfl, e10, z10, rfl⟩) fun _ s11 ⟨_, H11, I11, _, q11⟩ => ?_
        subst q11
        exact again I11 hm w10
  have st4 : tn 0 h1 := T.keep _ _ _ st3 fun b _ o e => old1 b o e
  exact codeAny_compStart_list (loop _ rfl) (T.self _ 0 _ _ _ st4 (loop _ rfl))
end

section
variable {X : Cx} {elt target iter : Expr} {ifs : List Expr} {scope : Scope} {own ys : List Str} {js : List Nat} {wi : TI} {g : TG} {tt : TT} {te : TE} {pos : Pos}
/-- what a comprehension's scope must have -/
structure CompSc (X : Cx) (scope : Scope) (ys : List Str) : Prop where
  kind : scope.kind = .function
  cell : ∀ y ∈ scope.names, y.2 ≠ .cell
  loc : ∀ y ∈ scope.names, y.2 = .local → scope.names.lookup y.1 = some .local
  free : ∀ y ∈ scope.names, y.2 = .free → X.env.kindOf y.1 = some .cell
  cap : ∀ y ∈ ys, X.env.kindOf y = some .cell
  vis : ∀ y ∈ ys, (relabel scope X.env).names.lookup y = some .cell
/-- all of it, decided over the def's scope -/
def compScB (sc scope : Scope) (ys : List Str) : Bool :=
  scope.kind == .function && sc.kind == .function && (scope.names.all fun y => y.2 != .cell && (y.2 != .local || scope.names.lookup y.1 == some .local) && (y.2 != .free || sc.names.lookup y.1 == some .cell)) &&
    ys.all fun y => sc.names.lookup y == some .cell && scope.names.lookup y == some .free
theorem compSc_of {sc : Scope} (hsc : X.env.scope = sc) (h : compScB sc scope ys = true) : CompSc X scope ys := by
  unfold compScB at h
  simp only [Bool.and_eq_true, List.all_eq_true, beq_iff_eq, bne_iff_ne, Bool.or_eq_true, ne_eq] at h
  obtain ⟨⟨⟨h1, h0⟩, h2⟩, h3⟩ := h
  subst hsc
  refine ⟨h1, fun y hy => (h2 y hy).1.1, fun y hy e => ?_, fun y hy e => ?_, fun y hy => (h3 y hy).1, fun y hy => ?_⟩
  · rcases (h2 y hy).1.2 with z | z
    · exact absurd e z
    · exact z
  · rcases (h2 y hy).2 with z | z
    · exact absurd e z
    · exact z
  · rw [relabel_look, (h3 y hy).2]
    show some (relK X.env y .free) = _
    have z : X.env.kindOf y = some .cell := (h3 y hy).1
    unfold relK
    rw [z, h0]
    rfl
/-- [elt for target in iter if ..] -/
theorem pe_comp (hc : X.calm = true) (hi : PI X target iter wi) (S : CompSc X scope ys) (fr : Frees X.N ys js)
    (hg : ∀ cl C fp s H, PG (X.comp (own ++ ys) scope cl C fp s H) target g) (ht : ∀ cl C fp s H, PTs (X.comp (own ++ ys) scope cl C fp s H) ifs tt) (he : ∀ cl C fp s H, PE (X.comp (own ++ ys) scope cl C fp s H) elt te)
    (hs : ∀ x, foldedSetIterable iter X.env x = pure x := by intro _; rfl) : PE X (.ListComp elt [⟨target, iter, ifs, 0⟩] scope pos) (tComp wi own.length js g tt te) := by
  refine ⟨?_⟩
  intro pins s σ H Q I h
  rw [eval_ListComp]
  obtain ⟨cl, e, c1, c2⟩ := closure_at (env := X.env) (scope := scope) fun y hy hf => I.ok.has y.1 (.inl (S.free y hy hf))
  refine wpAny_comprehension_free (use := none) rfl hs e S.kind S.loc (thn (hi pins s σ H _ I h) fun v s1 h1 => thn h1 fun itv s2 h2 => ?_)
  obtain ⟨it, fp, tn, J, H2, e, I2, T, st2, f2, q2⟩ := h2
  subst e
  refine comp_block (Q := Q) (RR := fun acc C => compPost (model X.prog X.w) X.A X.xe none (EP X pins σ Q) acc C) hc I2 T st2 f2 S.kind S.cell fr S.cap c1 c2 S.vis hg ht he q2 ?_
  intro D C H' s' I' q hm n1 n2 n3 n4 n5
  obtain ⟨m, hn⟩ := hm
  exact ⟨m, hn, fun h' hs' => ⟨.ref D, H', I'.turned (fun b o hb e => (hs'.2 b hb).trans e) n1 n2 (.inr n3) n4 n5, rfl, q⟩⟩
/-- name = [elt for ..] -/
theorem ps_setcomp {i : Nat} {x : Str} {pos' spos : Pos} (hN : X.N.Nodup) (hix : X.N[i]? = some x) (hx : X.env.scope.names.lookup x = some .local) (hc : X.calm = true) (hi : PI X target iter wi) (S : CompSc X scope ys) (fr : Frees X.N ys js)
    (hg : ∀ cl C fp s H, PG (X.comp (own ++ ys) scope cl C fp s H) target g) (ht : ∀ cl C fp s H, PTs (X.comp (own ++ ys) scope cl C fp s H) ifs tt) (he : ∀ cl C fp s H, PE (X.comp (own ++ ys) scope cl C fp s H) elt te)
    (hsw : swapsWith (.ListComp elt [⟨target, iter, ifs, 0⟩] scope pos) (some (.Name x pos')) spos.line X.env = pure true := by rfl)
    (hs : ∀ x, foldedSetIterable iter X.env x = pure x := by intro _; rfl) : PS X (.Assign [.Name x pos'] (.ListComp elt [⟨target, iter, ifs, 0⟩] scope pos) spos) (fun D σ H => tComp wi own.length js g tt te σ H fun v H1 => D.nx (σ.set i (some v)) H1) := by
  refine ⟨?_⟩
  intro pins s σ H D I h
  rw [exec_Assign_Name_used _ _ _ _ hsw]
  refine wpAny_bind (wpAny_standAt (wpAny_bind ?_))
  show wpAny _ X.A (do let _ ← comprehension (.ListComp elt [⟨target, iter, ifs, 0⟩] scope pos) scope X.env _ (newList []) false (eval iter X.env) (some (assign (.Name x pos') X.env))) _ _ s
  obtain ⟨cl, e, c1, c2⟩ := closure_at (env := X.env) (scope := scope) fun y hy hf => I.ok.has y.1 (.inl (S.free y hy hf))
  refine wpAny_bind (thn (wpAny_comprehension_free (use := some (assign (.Name x pos') X.env)) (Q := fun _ s' => SP X pins D .next s') rfl hs e S.kind S.loc
    (thn (hi pins s σ H _ I h) fun v s1 h1 => thn h1 fun itv s2 h2 => ?_)) fun _ s' hq => wpAny_pure (wpAny_pure hq))
  obtain ⟨it, fp, tn, J, H2, e, I2, T, st2, f2, q2⟩ := h2
  subst e
  refine comp_block (Q := fun v H1 => D.nx (σ.set i (some v)) H1) (RR := fun acc C => compPost (model X.prog X.w) X.A X.xe (some (assign (.Name x pos') X.env)) (fun _ s' => SP X pins D .next s') acc C) hc I2 T st2 f2 S.kind S.cell fr S.cap c1 c2 S.vis hg ht he q2 ?_
  intro B C H' s' I' q hm n1 n2 n3 n4 n5
  obtain ⟨m, hn⟩ := hm
  show wpAny _ X.A (assign (.Name x pos') X.env (.ref B)) _ _ _
  refine wpAny_assign_Name (store_ok2 I' hN hix (.inl hx) (v := .ref B) rfl (fun s2 I2 hsb => ?_) (.inr hx))
  obtain ⟨a, hsb, ha⟩ := hsb
  have ne : C ≠ a := by
    rcases ha with z | z
    · rw [z]; exact n2
    · exact Ne.symm (n4 x a z)
  exact ⟨m, hn.sameBut hsb ne, fun h' hs' => ⟨_, H', I2.turned (fun b o hb e => (hs'.2 b hb).trans e) n1 n2 (.inr n3) n4 n5, q⟩⟩
end
end L2

set_option Elab.async false
set_option linter.all false
set_option maxRecDepth 100000
/-! OC 2: further rules over the layer -/
namespace L2
open PySem PySem.Spec PyProof.Rows
section
variable {X : Cx} {x : Str} {p pos : Pos} {e : Expr} {es : List Expr} {t : TA}

/-! ### names of the module -/
def GInt (mg : Str → Option Value) (x : Str) (i : Int) : Prop := ∃ t, mg x = some (.int i t)
theorem pe_gint {i : Int} (hg : Gl X x) (hm : GInt X.mg x i) (hd : (x == ("__debug__" : Str)) = false := by decide) : PE X (.Name x pos) (tC (.int i)) := by
  obtain ⟨t, hm⟩ := hm
  exact pe_glob (v := .int i) hg hm ⟨t, rfl⟩ hd
/-! ### a def that is called by its name -/
structure Cal (P : Program) (w : World) (K : PySem.W.Frag) (mg : Str → Option Value) (base : Heap) (CX : CXT) (k : Nat) (x : Str) (ps : List Str) (sp : Sp) : Prop where
  ex : ∃ f fd, FnOk P w K mg base CX k f fd ps sp ∧ mg x = some (.ref f) ∧ PySem.W.keepIn K (.ref f) = true ∧ Binds K fd ps []
theorem pe_callC {CX : CXT} {k n : Nat} {ps : List Str} {sp : Sp} {E : XK} (C : Cal X.prog X.w X.K X.mg X.base CX k x ps sp) (hr : Room n X.A) (hg : Gl X x) (ha : PA X (e :: es) t) (hx : Passes CX X E) (hk : k ≤ n := by first | decide | omega) (hdb : (x == ("__debug__" : Str)) = false := by decide)
    (he : starEach (e :: es) X.env = (false, eval e X.env) :: starEach es X.env := by rfl) (hpl : (backTo pos (starEach es X.env)).any (·.1) = false := by rfl) : PE X (.Call (.Name x p) (e :: es) [] pos) (tCall sp [] E t) := by
  obtain ⟨f, fd, F, hm, kp, hb⟩ := C.ex
  exact pe_call F (hr.mono hk) hg hm kp hb .nil hx ha hdb he hpl
/-! ### displays of constants -/
inductive Consts : List Expr → List V → Prop where
  | nil : Consts [] []
  | int {i j pos es vs} (r : Consts es vs) : Consts (.Constant (.int i) j pos :: es) (.int i :: vs)
  | str {x j pos es vs} (r : Consts es vs) : Consts (.Constant (.str x) j pos :: es) (.str x :: vs)
theorem pa_consts : ∀ {es : List Expr} {vs : List V}, Consts es vs → PA X es (fun _ H Q => Q vs H)
  | _, _, .nil => ⟨fun pos pins s σ H Q I h => pa_nil pos pins s σ H Q I h⟩
  | _, _, .int r => ⟨fun pos pins s σ H Q I h => pa_cons pe_int (pa_consts r) (by rfl) pos pins s σ H Q I h⟩
  | _, _, .str r => ⟨fun pos pins s σ H Q I h => pa_cons pe_str (pa_consts r) (by rfl) pos pins s σ H Q I h⟩

/-! ### isinstance -/
def rIsi (K : PySem.W.Frag) : List V → Hp → VK → Prop := fun xs H Q =>
  (∃ x n t b, xs = [x, .ty n] ∧ TyOf K H x t ∧ PySem.W.kitOne K t (.type n) = some b ∧ Q (.bl b) H) ∨ ∃ x C t b, xs = [x, .ref C] ∧ TyOf K H x t ∧ PySem.W.kitOne K t (.ref C) = some b ∧ Q (.bl b) H
theorem call_isiK (K : PySem.W.Frag) (hK : X.K = K) : CallR X (.builtin "isinstance") (rIsi K) := by
  subst hK
  intro pins s σ H xs us Q I r h
  rcases h with ⟨x, n, t, b, rfl, ty, e, q⟩ | ⟨x, C, t, b, rfl, ty, e, q⟩
  · obtain ⟨u, w', rfl, ru, rw'⟩ := vals2 r
    cases rw'
    exact isinst_ok I ru ty e fun tk => ⟨.bl b, H, I.tok tk, rfl, q⟩
  · obtain ⟨u, w', rfl, ru, rw'⟩ := vals2 r
    cases rw'
    exact isinst_ok I ru ty e fun tk => ⟨.bl b, H, I.tok tk, rfl, q⟩
theorem call_isi : CallR X (.builtin "isinstance") (rIsi X.K) := call_isiK X.K rfl

/-! ### rules for inside a block: the written part by its own name -/
/-! ### slices of texts -/
def rSlS : V → Option Int → Option Int → Hp → VK → Prop := fun x lo hi H Q => ∃ z, x = .str z ∧ z.length ≤ sizeLine ∧ Q (.str (Txt.slice z lo hi)) H
/-! ### join -/
def rJoin (K : PySem.W.Frag) : V → List V → Hp → VK → Prop := fun x vs H Q => ∃ z l ys, x = .str z ∧ vs = [.ref l] ∧ SqL K H l (ys.map V.str) ∧ (ys.map (·.length)).sum + ys.length * z.length ≤ 16777216 ∧ Q (.str (Txt.join z ys)) H
/-! ### index of a flat value -/
def FirstAt (xs : List V) (y : V) (j : Nat) : Prop := (∃ z, xs[j]? = some z ∧ eqV z y = true) ∧ ∀ (m : Nat) (z : V), m < j → xs[m]? = some z → eqV z y = false
def rIndex (S : Hp → Addr → List V → Prop) : V → List V → Hp → VK → Prop := fun x vs H Q => ∃ l xs y j, x = .ref l ∧ vs = [y] ∧ S H l xs ∧ flatV y = true ∧ xs.all flatV = true ∧ FirstAt xs y j ∧ Q (.int (j : Nat)) H
end
end L2

set_option Elab.async false
set_option linter.all false
set_option maxRecDepth 100000
/-! OC 3: the script, a state that draws from it -/
namespace L2
open PySem PySem.Spec PyProof.Rows
theorem bt_len : bootBuiltins "len" = some (.builtin "len") := PySem.boot_len
theorem bt_abs : bootBuiltins "abs" = some (.builtin "abs") := by decide +kernel
theorem bt_isinstance : bootBuiltins "isinstance" = some (.builtin "isinstance") := by decide +kernel
theorem bt_int : bootBuiltins "int" = some (.type "int") := by decide +kernel
theorem bt_bool : bootBuiltins "bool" = some (.type "bool") := by decide +kernel
theorem bt_tuple : bootBuiltins "tuple" = some (.type "tuple") := by decide +kernel
theorem small {n : Nat} (h : n ≤ 1000) : n ≤ sizeLine := Nat.le_of_lt (small1000 h)
theorem same_new {H : Hp} {p : Addr} (h : H p = none) (o : HO) : Same H (upd H p o) := fun b u q => by rw [upd_ne (ne_of_none q h)]; exact q

/-- the script: frozen, or an object of the module -/
def Scr (K : PySem.W.Frag) (H : Hp) (a : Addr) (ns : List Int) : Prop :=
  (∃ o, H a = some (.frz o (.lst (ns.map V.int)))) ∨
    ∃ (o : Obj) (its : Array Value) (n : Nat), K.lookup a = some o ∧ o.cls = .type "list" ∧ o.dict = none ∧ o.data = .seq its n ∧ its.size ≤ sizeLine ∧ Vals (ns.map V.int) its.toList
theorem Scr.sq {K : PySem.W.Frag} {H : Hp} {a : Addr} {ns : List Int} (h : Scr K H a ns) : SqL K H a (ns.map V.int) := by
  rcases h with h | h
  · exact .inl (.inr h)
  · exact .inr h
theorem Scr.of {K : PySem.W.Frag} {H : Hp} {a : Addr} {ns : List Int} (hO : Only H) (h : SqL K H a (ns.map V.int)) : Scr K H a ns := by
  rcases h with (h | h) | h
  · rcases hO a with z | ⟨o, xs, z⟩
    · rw [h] at z; cases z
    · rw [h] at z; cases z
  · exact .inl h
  · exact .inr h
/-- all but the list at st is as it was (there may be more) -/
def Keep (st : Addr) (H H' : Hp) : Prop := ∀ b o, b ≠ st → H b = some o → H' b = some o
theorem Keep.refl (st : Addr) (H : Hp) : Keep st H H := fun _ _ _ e => e
theorem Keep.trans {st : Addr} {H H1 H2 : Hp} (a : Keep st H H1) (b : Keep st H1 H2) : Keep st H H2 := fun c o n e => b c o n (a c o n e)
theorem Keep.same {st : Addr} {H H1 : Hp} (a : Same H H1) : Keep st H H1 := fun c o _ e => a c o e
theorem Keep.upd {st : Addr} {H : Hp} {o : HO} : Keep st H (upd H st o) := fun c u n e => by rw [upd_ne n]; exact e
theorem Keep.new {st p : Addr} {H : Hp} (o : HO) (h : H p = none) : Keep st H (L2.upd H p o) := Keep.same (same_new h o)
theorem Scr.keep {K : PySem.W.Frag} {H H' : Hp} {a st : Addr} {ns : List Int} {xs : List V} (h : Scr K H a ns) (hst : H st = some (.lst xs)) (k : Keep st H H') : Scr K H' a ns := by
  rcases h with ⟨o, h⟩ | h
  · exact .inl ⟨o, k a _ (fun z => by rw [z, hst] at h; cases h) h⟩
  · exact .inr h
/-- a state that draws: the script, how many cells were taken, what is left of a great one -/
def Draw (K : PySem.W.Frag) (H : Hp) (st : Addr) : Prop := ∃ a ns k c, H st = some (.lst [.ref a, .int k, .int c]) ∧ Scr K H a ns ∧ ns.length ≤ 63 ∧ 0 ≤ k ∧ 0 ≤ c
/-- behind draws: the state draws still, all else is as it was -/
structure Drawn (K : PySem.W.Frag) (st : Addr) (H H' : Hp) : Prop where
  draw : Draw K H' st
  keep : Keep st H H'
theorem Drawn.trans {K : PySem.W.Frag} {st : Addr} {H H1 H2 : Hp} (a : Drawn K st H H1) (b : Drawn K st H1 H2) : Drawn K st H H2 := ⟨b.draw, a.keep.trans b.keep⟩
theorem Draw.refl {K : PySem.W.Frag} {st : Addr} {H : Hp} (d : Draw K H st) : Drawn K st H H := ⟨d, Keep.refl st H⟩
theorem Draw.ne {K : PySem.W.Frag} {st b : Addr} {H : Hp} (d : Draw K H st) (h : H b = none) : st ≠ b := by
  obtain ⟨a, ns, k, c, e, _⟩ := d
  exact ne_of_none e h
theorem Draw.same {K : PySem.W.Frag} {st : Addr} {H H' : Hp} (d : Draw K H st) (h : Same H H') : Draw K H' st := by
  obtain ⟨a, ns, k, c, e, s, r⟩ := d
  exact ⟨a, ns, k, c, h _ _ e, s.keep e (Keep.same h), r⟩
/-- a new object laid -/
theorem Draw.new {K : PySem.W.Frag} {st p : Addr} {H : Hp} (d : Draw K H st) (h : H p = none) (o : HO) : Drawn K st H (upd H p o) := ⟨d.same (same_new h o), Keep.new o h⟩
/-- another list written -/
theorem Draw.put {K : PySem.W.Frag} {st p : Addr} {H : Hp} {xs ys : List V} (d : Draw K H st) (hp : H p = some (.lst xs)) (n : p ≠ st) : Draw K (upd H p (.lst ys)) st := by
  obtain ⟨a, ns, k, c, e, s, r⟩ := d
  refine ⟨a, ns, k, c, (by rw [upd_ne (Ne.symm n)]; exact e), ?_, r⟩
  rcases s with ⟨o, s⟩ | s
  · exact .inl ⟨o, by rw [upd_ne (fun z => by rw [z, hp] at s; cases s)]; exact s⟩
  · exact .inr s

/-- what _law_mixed, _law_take promise -/
def spMixed : Sp := fun vs H Q _ => ∃ c k : Int, vs = [.int c, .int k] ∧ ∀ r : Int, 0 ≤ r → Q (.int r) H
def spTake (K : PySem.W.Frag) : Sp := fun vs H Q _ => ∃ (st : Addr) (many : Int), vs = [.ref st, .int many] ∧ 0 < many ∧ many < 1073741824 ∧ Draw K H st ∧ ∀ (r : Int) (H' : Hp), 0 ≤ r → r < many → Drawn K st H H' → Q (.int r) H'
/-- law(script) is True -/
def spLaw (K : PySem.W.Frag) : Sp := fun vs H Q _ => ∃ (a : Addr) (ns : List Int), vs = [.ref a] ∧ Scr K H a ns ∧ ns.length ≤ 63 ∧ ∀ H', Q (.bl true) H'
theorem atI_int {ns : List Int} {k : Int} (h0 : 0 ≤ k) (h : k < (ns.length : Int)) : ∃ v : Int, atI (ns.map V.int) k = some (.int v) := by
  have hk : k.toNat < ns.length := by omega
  have q : atI (ns.map V.int) ((k.toNat : Nat) : Int) = some (.int ns[k.toNat]) := atI_nat (by rw [List.getElem?_map, List.getElem?_eq_getElem hk] <;> rfl)
  rw [show ((k.toNat : Nat) : Int) = k by omega] at q
  exact ⟨_, q⟩

theorem tyes {σ : St} {H : Hp} {A B : Hp → Prop} (h : A H) : tYes σ H fun b H4 => if b = true then A H4 else B H4 := by
  show if true = true then A H else B H
  exact iteT h
/-! ### a comprehension over a range: the block's own name in slot 0, the captured ones behind -/
def CompW (n : Nat) (fs : St) (Pv : Nat → List V → Hp → Prop) (i m : Nat) (σ : St) (H : Hp) : Prop := i ≤ n ∧ m = n - i ∧ (∃ v, σ = v :: fs) ∧ ∃ ys, Pv i ys H
theorem CompW.next {n : Nat} {fs : St} {Pv : Nat → List V → Hp → Prop} {i : Nat} {v : Option V} {H : Hp} {ys : List V} (hi : i < n) (h : Pv (i + 1) ys H) : ∃ m', m' < n - i ∧ CompW n fs Pv (i + 1) m' (v :: fs) H :=
  ⟨n - (i + 1), by omega, by omega, rfl, ⟨v, rfl⟩, ys, h⟩
theorem comp_rng {lo : Int} {n : Nat} {fs : St} {tt : TT} {te : TE} {R : Hp → Prop} {p : Addr} {H0 : Hp} (Pv : Nat → List V → Hp → Prop) (h0 : Pv 0 [] H0)
    (hs : ∀ i ys H, i < n → Pv i ys H → tt (some (.int (lo + (i : Nat))) :: fs) H fun b H4 =>
      if b = true then te (some (.int (lo + (i : Nat))) :: fs) H4 fun v H5 => ∃ ys, H5 p = some (.lst ys) ∧ ys.length < sizeLine ∧ ∃ m', m' < n - i ∧ CompW n fs Pv (i + 1) m' (some (.int (lo + (i : Nat))) :: fs) (upd H5 p (.lst (ys ++ [v])))
      else ∃ m', m' < n - i ∧ CompW n fs Pv (i + 1) m' (some (.int (lo + (i : Nat))) :: fs) H4)
    (hd : ∀ ys H, Pv n ys H → R H) : CompGo (Itr lo n) p (none :: fs) H0 (gName 0) tt te R := by
  refine ⟨CompW n fs Pv, ⟨n, Nat.zero_le _, rfl, ⟨_, rfl⟩, [], h0⟩, fun i m σ' H' w => ?_⟩
  obtain ⟨hi, rfl, ⟨v, rfl⟩, ys, hp⟩ := w
  by_cases hlt : i < n
  · refine .inr ⟨hlt, fun x H2 y => ?_⟩
    obtain ⟨rfl, rfl⟩ := y
    exact hs i ys _ hlt hp
  · have : i = n := by omega
    subst this
    exact .inl ⟨Nat.le_refl _, hd ys H' hp⟩
theorem kit_of {K : PySem.W.Frag} {t : Value} {n : String} {b : Bool} (h : PySem.W.subIn K t (.type n) = some b) (h1 : (t == Value.type n) = false := by decide) (h2 : PySem.W.kitMeta n = true := by decide +kernel) : PySem.W.kitOne K t (.type n) = some b := by
  unfold PySem.W.kitOne PySem.W.kitCls
  rw [h1]
  simp only [Bool.false_eq_true, if_false, h2, if_true]
  exact h
/-- the values of a written tuple -/
def absVs : List Value → List V
  | [] => []
  | u :: r => (absV u).getD .non :: absVs r
end L2

set_option Elab.async false
set_option linter.all false
set_option maxRecDepth 100000
/-! OC 4: own exceptions with an __init__: made, raised, in flight, caught -/
namespace L2
open PySem PySem.Spec PySem.W PyProof.Rows
section
variable {prog : Program} {w : World} {A : Around} {K : Frag} {E : Value → Shared → Prop} {h : Heap} {g : Array GenState} {d : PySem.Drawn} {t : Nat} {os : OsState} {R : Result → Shared → Prop}
variable {nm q : Str} {C N f : Addr} {bs bm bmB : List Value} {hdct : Bool} {sn : List Str} {sub : List Value} {ab : Bool} {col : Option Bool} {dd : Option Addr} {k0 k1 k2 k3 k5 : Option Value} {B newId initId : String}
abbrev excObj (C tp : Addr) : Obj := { cls := .ref C, data := .fields #[.ref tp, .none, .none, .none, .bool false, .none] }
abbrev excHeap (h : Heap) (C : Addr) (rest : List Value) : Heap := (h.push { cls := .type "tuple", data := .seq rest.toArray }).push (excObj C h.objs.size)
/-- what of the text's top an own exception class must have: its place in the line of classes, its attributes' ways -/
structure ExCls (K : Frag) (C : Addr) : Prop where
  cd : ∃ cd, clsIn K C = some cd ∧ cd.hasDict = true ∧ ∀ self, refuseLoop self "__setattr__" cd.mro = pure ()
  obj : mroIn K C (.type "object") = some true
  base : mroIn K C (.type "BaseException") = some true
  sa : findIn K (.ref C) "__setattr__" = some (some (.builtin "object.__setattr__"))
  ga : findIn K (.ref C) "__getattribute__" = some (some (.builtin "BaseException.__getattribute__"))
  noHook : findIn K (.ref C) "__getattr__" = some none

section
variable {s : Shared} {x : Addr} {ox : Obj} {od : Option Obj} {name : Str} {v : Value} {expr : Bool} {Q : Value → Shared → Prop}
end
end
end L2

set_option Elab.async false
set_option linter.all false
set_option maxRecDepth 100000
/-! OC 5: an exception in flight, over the layer -/
namespace L2
open PySem PySem.Spec PyProof.Rows
/-- an own exception: its class, its dict -/
def ExO (x C : Addr) (od : Option Addr) : HO := .ext fun h => ∃ o vs, h.get? x = some o ∧ o.cls = .ref C ∧ o.dict = od ∧ o.data = .fields vs ∧ 6 ≤ vs.size
/-- .. that was not raised yet -/
def ExN (x C : Addr) (od : Option Addr) : HO := .ext fun h => ∃ o vs, h.get? x = some o ∧ o.cls = .ref C ∧ o.dict = od ∧ o.data = .fields vs ∧ 6 ≤ vs.size ∧ vs[1]? = some .none
/-- its dict -/
def XdO (dx : Addr) (fs : List (Str × V)) : HO := .ext fun h => ∃ mA, h.Ns1 dx mA ∧ (∀ f, RelO (fs.lookup f) (mA f)) ∧ PySem.Within mA (fs.map (·.1))
section
variable {P : Program} {w : World} {H : Hp} {h : Heap} {x C dx : Addr} {od : Option Addr} {fs : List (Str × V)}
theorem ExO.ok {o : Obj} {vs : Array Value} (e : h.get? x = some o) (hc : o.cls = .ref C) (hd : o.dict = od) (hf : o.data = .fields vs) (hz : 6 ≤ vs.size) : ObjOk P w H h x (ExO x C od) :=
  ⟨⟨o, vs, e, hc, hd, hf, hz⟩, ⟨o, e⟩, fun h1 h2 ⟨o, vs, e, r⟩ k => ⟨o, vs, k o e, r⟩⟩
theorem ExN.ok {o : Obj} {vs : Array Value} (e : h.get? x = some o) (hc : o.cls = .ref C) (hd : o.dict = od) (hf : o.data = .fields vs) (hz : 6 ≤ vs.size) (h1 : vs[1]? = some .none) : ObjOk P w H h x (ExN x C od) :=
  ⟨⟨o, vs, e, hc, hd, hf, hz, h1⟩, ⟨o, e⟩, fun g1 g2 ⟨o, vs, e, r⟩ k => ⟨o, vs, k o e, r⟩⟩
theorem ExN.get (ok : HOk P w H h) (e : H x = some (ExN x C od)) : ∃ o vs, h.get? x = some o ∧ o.cls = .ref C ∧ o.dict = od ∧ o.data = .fields vs ∧ 6 ≤ vs.size ∧ vs[1]? = some .none := (ok x _ e).1
theorem ExO.get (ok : HOk P w H h) (e : H x = some (ExO x C od)) : ∃ o vs, h.get? x = some o ∧ o.cls = .ref C ∧ o.dict = od ∧ o.data = .fields vs ∧ 6 ≤ vs.size := (ok x _ e).1
theorem XdO.ok {mA : Str → Option Value} (n : h.Ns1 dx mA) (r : ∀ f, RelO (fs.lookup f) (mA f)) (wi : PySem.Within mA (fs.map (·.1))) : ObjOk P w H h dx (XdO dx fs) := by
  obtain ⟨o, es, ep, e, q⟩ := id n
  exact ⟨⟨mA, n, r, wi⟩, ⟨o, e⟩, fun h1 h2 ⟨mA, n, r⟩ k => ⟨mA, n.at k, r⟩⟩
theorem XdO.get (ok : HOk P w H h) (e : H dx = some (XdO dx fs)) : ∃ mA, h.Ns1 dx mA ∧ (∀ f, RelO (fs.lookup f) (mA f)) ∧ PySem.Within mA (fs.map (·.1)) := (ok dx _ e).1
end

/-! ### attributes of an exception -/
def tFldX (K : PySem.W.Frag) (ta : TE) (f : Str) : TE := fun σ H Q => ta σ H fun y H1 => ∃ a C d fs v, y = .ref a ∧ H1 a = some (ExO a C (some d)) ∧ H1 d = some (XdO d fs) ∧ ExCls K C ∧ NoAttr K C f ∧ fs.lookup f = some v ∧ Q v H1
def sFldX (K : PySem.W.Frag) (ta tv : TE) (f : Str) : TS := fun D σ H => tv σ H fun y H1 => ta σ H1 fun u H2 => ∃ a C od, u = .ref a ∧ H2 a = some (ExN a C od) ∧ ExCls K C ∧ NoAttr K C f ∧
  ((od = none ∧ ∀ d, H2 d = none → D.nx σ (upd (upd H2 d (XdO d [(f, y)])) a (ExN a C (some d)))) ∨ ∃ d fs, od = some d ∧ H2 d = some (XdO d fs) ∧ fs.length < 1000 ∧ D.nx σ (upd H2 d (XdO d (putF f y fs))))
section
variable {X : Cx} {o e value : Expr} {f : Str} {pos pos' : Pos} {ta tv : TE}
end

/-! ### in flight -/
/-- records of ours that no one else holds: not the frame, no cell, not pinned, younger than the entry -/
def Ours (X : Cx) (pins : List (Addr × Obj)) (H : Hp) (T : Addr) : Prop := H T = none ∧ X.s₀.heap.objs.size ≤ T ∧ T ≠ X.env.locals ∧ ∀ p ∈ X.pn ++ pins, p.1 ≠ T
/-- the traceback of the exception at x: none yet, or a record of ours; fl tells where it is in flight -/
def Tb (X : Cx) (pins : List (Addr × Obj)) (H : Hp) (x : Addr) (h : Heap) : Prop :=
  ∃ oe vs, h.get? x = some oe ∧ oe.data = .fields vs ∧ (vs[1]? = some .none ∨ ∃ T oT ts fl, vs[1]? = some (.ref T) ∧ T ≠ x ∧ Ours X pins H T ∧ h.get? T = some oT ∧ oT.data = .fields ts ∧ ts[3]? = some fl ∧ (fl = .none ∨ fl = rawInt X.env.locals))
/-- .. it is there -/
def TbAt (X : Cx) (pins : List (Addr × Obj)) (H : Hp) (x : Addr) (fl : Value) (h : Heap) : Prop :=
  ∃ oe vs T oT ts, h.get? x = some oe ∧ oe.data = .fields vs ∧ vs[1]? = some (.ref T) ∧ T ≠ x ∧ Ours X pins H T ∧ h.get? T = some oT ∧ oT.data = .fields ts ∧ ts[3]? = some fl
theorem TbAt.tb {X : Cx} {pins : List (Addr × Obj)} {H : Hp} {x : Addr} {fl : Value} {h : Heap} (t : TbAt X pins H x fl h) (hf : fl = .none ∨ fl = rawInt X.env.locals) : Tb X pins H x h := by
  obtain ⟨oe, vs, T, oT, ts, e, d, h1, r1, r2, r3, r4, r5⟩ := t
  exact ⟨oe, vs, e, d, .inr ⟨T, oT, ts, fl, h1, r1, r2, r3, r4, r5, hf⟩⟩
section
variable {X : Cx} {pins : List (Addr × Obj)} {σ : St} {H : Hp} {s : Shared} {h' : Heap} {x C : Addr} {od : Option Addr}
/-- the exception, records of ours and the frames' slots have changed, nothing else -/
theorem Inv.flight (I : Inv X pins σ H s) (hx : H x = some (ExO x C od)) {ch : List Addr} (hch : ∀ b ∈ ch, Ours X pins H b) (ncell : ∀ b ∈ ch, ∀ y c, X.env.cells.lookup y = some c → c ≠ b)
    (keep : ∀ b o, b ≠ x → b ∉ ch → b ∉ frs X.stack → s.heap.get? b = some o → h'.get? b = some o) (slot : ∀ b o, b ≠ x → b ∉ ch → s.heap.get? b = some o → ∃ sl, h'.get? b = some { o with slots := sl })
    (hx' : ∃ o vs, h'.get? x = some o ∧ o.cls = .ref C ∧ o.dict = od ∧ o.data = .fields vs ∧ 6 ≤ vs.size) : Inv X pins σ H { s with heap := h' } := by
  have nx : ∀ b, H b = none → b ≠ x := fun b n z => by rw [z, hx] at n; cases n
  have nst : ∀ b, b ≠ X.env.locals → b ∉ X.fs → b ∉ frs X.stack := fun b h1 h2 z => (List.mem_cons.mp (I.stkSub b z)).elim h1 h2
  have nch : ∀ b u, H b = some u → b ∉ ch := fun b u e z => by rw [(hch b z).1] at e; cases e
  have nfr : ∀ b u, H b = some u → b ∉ frs X.stack := fun b u e z => by rw [I.stkFree b z] at e; cases e
  refine I.step (g' := s.gens) (d' := s.drawn) (t' := s.toks) (ch := ch) (fun b hb => ⟨.inr (hch b hb).2.1, (hch b hb).2.2.1, ncell b hb, (hch b hb).2.2.2⟩)
    (fun b o hL hf hc e n => keep b o (nx b n) hc (nst b hL hf) e) (fun b o hL hf hc e n => slot b o (nx b n) hc e) (fun b o hc e n => n) (fun b o hc e => ?_) (fun _ _ e => e) (fun _ _ _ e => e) (fun b ps e => ⟨#[], by rw [e]; simp⟩) (fun m hm => ?_) (fun b u e => ?_) I.bare
  · by_cases z : b = x
    · subst z; obtain ⟨o, _, g, _⟩ := hx'; exact ⟨o, g⟩
    · obtain ⟨sl, q⟩ := slot b o z hc e; exact ⟨_, q⟩
  · obtain ⟨o, es, ep, ho, hd, r⟩ := hm
    obtain ⟨sl, q⟩ := slot _ o (nx _ I.free) (fun z => (hch _ z).2.2.1 rfl) ho
    exact ⟨_, es, ep, q, hd, r⟩
  · by_cases z : b = x
    · subst z; rw [hx] at e; cases e
      obtain ⟨o, vs, g, r1, r2, r3, r4⟩ := hx'
      exact ExO.ok g r1 r2 r3 r4
    · refine (I.hok b u e).stay (fun c v hc q => ?_) (fun _ q => q) fun _ _ q => q
      rcases hc with hc | hc
      · rw [hc] at q ⊢; exact keep b v z (nch b u e) (nfr b u e) q
      · exact keep c v (fun z2 => by rw [z2, hx] at hc; cases hc) (nch c _ hc) (nfr c _ hc) q

theorem Ours.ncell {T : Addr} {oT : Obj} {ts : Array Value} (I : Inv X pins σ H s) (g : s.heap.get? T = some oT) (d : oT.data = .fields ts) : ∀ b ∈ [T], ∀ y c, X.env.cells.lookup y = some c → c ≠ b := fun b hb y c e z => by
  rw [List.mem_singleton.mp hb] at z
  obtain ⟨v, o, ho, hd⟩ := I.cell y c e
  rw [z, g] at ho; cases ho; rw [d] at hd; cases hd
end

/-! ### how an exception lies behind a call; within a body -/
def CXE (P : Program) (w : World) : CXT := fun outer H s E e s' => ∃ x C d H', e = .ref x ∧ s'.os = s.os ∧ AllBare s'.gens ∧ Un (frs outer) [] H H' s.heap s'.heap ∧ HOk P w H' s'.heap ∧ H' x = some (ExO x C (some d)) ∧
  (∃ oe vs T oT ts, s'.heap.get? x = some oe ∧ oe.data = .fields vs ∧ vs[1]? = some (.ref T) ∧ T ≠ x ∧ H' T = none ∧ s.heap.objs.size ≤ T ∧ s'.heap.get? T = some oT ∧ oT.data = .fields ts ∧ ts[3]? = some .none) ∧ E (.ref C) (some d) H'
theorem cxe_none {P : Program} {w : World} {outer : List Env} {H : Hp} {s : Shared} {e : Value} {s' : Shared} (h : CXE P w outer H s (fun _ _ _ => False) e s') : False := by
  obtain ⟨_, _, _, _, _, _, _, _, _, _, _, z⟩ := h
  exact z
def FlyW (X : Cx) (E : XK) : Value → Shared → Prop := fun e s1 => ∃ x C d pins σ H, e = .ref x ∧ Inv X pins σ H s1 ∧ H x = some (ExO x C (some d)) ∧ Tb X pins H x s1.heap ∧ E (.ref C) (some d) H
/-- a body from which exceptions fly -/
abbrev Cx.exc (X : Cx) (E : XK) : Cx := X.wish (FlyW X E)
section
variable {X : Cx} {E : XK}
theorem passN {P : Program} {w : World} : Passes (CXE P w) X E0 := fun _ _ _ _ _ _ _ h => (cxe_none h).elim
end
section
variable {P : Program} {w : World} {K : PySem.W.Frag} {mg : Str → Option Value} {base : Heap}
/-- a def from which no exception comes, whatever lies behind calls -/
theorem Fun.okN {CX : CXT} {x qual : Str} {st : Stmt} {f : Addr} {fd : FuncData} {N ps : List Str} {k : Nat} {sp : Sp} (F : Fun K x qual st f fd) (S : FnScope N ps (defScope st)) (len : ∀ vs H Q E, sp vs H Q E → vs.length = ps.length)
    (hbody : ∀ (cdv : Value) (A : Around) (outer : List Env) (s : Shared) (H : Hp) (vs : List V) (Q : VK) (E : XK), Room k (A.deeper (envOfC qual (defScope st) s.heap.objs.size f cdv)) → sp vs H Q E →
      ∃ t, PSs (cxOf CX P w K mg base N qual (defScope st) f cdv A outer s H E).nox (defBody st) t ∧ t { nx := fun _ H' => Q .non H', rt := Q } (start N vs) H) : FnOk P w K mg base CX (k + 1) f fd ps sp := by
  obtain ⟨oc, od, kV, doc, pm, an, cdv, ct, osl, rfl, lk, hcd⟩ := F.ex
  refine fn_of lk hcd S len fun A outer s H vs Q E hr hsp => ?_
  obtain ⟨t, h, q⟩ := hbody cdv A outer s H vs Q E hr hsp
  exact ⟨t, h.nox, q⟩
end
end L2

set_option Elab.async false
set_option linter.all false
set_option maxRecDepth 100000
/-! OC 6: raise and try over the layer -/
namespace L2
open PySem PySem.Spec PyProof.Rows
abbrev bmValue : List Value := [.type "ValueError", .type "Exception", .type "BaseException", .type "object"]
/-- an own exception class under ValueError, with an __init__ of its own -/
structure ExMk (K : PySem.W.Frag) (C f : Addr) : Prop where
  cls : ∃ nm q N bs bm hdct sn sub ab col dd k0 k1 k2 k3 k5, K.lookup C = some (excClassObj nm q C N bs bm hdct sn sub ab col dd k0 k1 k2 k3 k5 "ValueError.__new__") ∧ ∀ h, K.In h → OwnTail h bmValue bm
  init : PySem.W.findIn K (.ref C) "__init__" = some (some (.ref f))
  fn : PySem.W.typeIn K (.ref f) = some (.type "function")
  kp : PySem.W.keepIn K (.ref C) = true
  ec : ExCls K C
section
variable {X : Cx} {pins : List (Addr × Obj)} {σ : St} {H : Hp} {s : Shared}
end
def tRaise (C : Addr) (sp : Sp) (E : XK) (t : TA) : TS := fun _ σ H => t σ H fun vs H1 => vs.length ≤ sizeLine ∧ ∀ x, H1 x = none →
  sp (.ref x :: vs) (upd H1 x (ExN x C none)) (fun v H2 => v = .non ∧ ∃ d, H2 x = some (ExN x C (some d)) ∧ E (.ref C) (some d) (upd H2 x (ExO x C (some d)))) E
section
variable {X : Cx} {E : XK} {k : Nat} {f C : Addr} {fd : FuncData} {ps : List Str} {sp : Sp} {x : Str} {np cpos pos : Pos} {e : Expr} {es : List Expr} {t : TA}
end
end L2

set_option Elab.async false
set_option linter.all false
set_option maxRecDepth 100000
/-! OC 7: try .. except C as e -/
namespace L2
open PySem PySem.Spec PyProof.Rows
section
variable {X : Cx} {pins : List (Addr × Obj)} {σ : St} {H : Hp} {s : Shared}
/-- within an except suite -/
abbrev Cx.mark (X : Cx) (v : Value) : Cx := { X with A := X.A.mark (some v), calm := false, xe := fun _ _ => False }
theorem Inv.mark (I : Inv X pins σ H s) (v : Value) : Inv (X.mark v) pins σ H s :=
  ⟨⟨I.ok.mod, I.ok.kind, I.ok.glob, I.ok.blt, I.ok.above, I.ok.inj, I.ok.has, I.ok.cab, fun z => (nomatch z), I.ok.frames, I.ok.stk, I.ok.exf, I.ok.bs, I.ok.bsz, I.ok.noex, I.ok.exfs, I.ok.funs, I.ok.frf⟩, I.os, I.bare, I.base, I.loc, I.cell, I.free, I.freeC, I.pin, I.hok, I.len⟩
/-- the pins of a state as pins of the context -/
abbrev Cx.pinned (X : Cx) (pn : List (Addr × Obj)) : Cx := { X with pn := pn }
end
/-- the class at CE takes exceptions of the class at C -/
structure Mch (K : PySem.W.Frag) (C CE : Addr) : Prop where
  sub : PySem.W.subIn K (.ref C) (.ref CE) = some true
  ty : PySem.W.typeIn K (.ref CE) = some (.type "type")
  cl : (PySem.W.clsIn K CE).isSome = true
  base : PySem.W.subIn K (.ref CE) (.type "BaseException") = some true
/-- what a suite wants behind it: the name gone -/
def behind (D : Ends) (i : Nat) : Ends := { nx := fun σ H => D.nx (σ.set i none) H, rt := D.rt, bk := fun σ H => D.bk (σ.set i none) H, ct := fun σ H => D.ct (σ.set i none) H }
def tTry (K : PySem.W.Frag) (N i : Nat) (CE : Addr) (tb : XK → TS) (th : TS) : TS := fun D σ H =>
  tb (fun cls dx H1 => ∃ C d, cls = .ref C ∧ dx = some d ∧ Mch K C CE ∧ ∀ (x : Addr) (σ1 : St), H1 x = some (ExO x C (some d)) → σ1.length = N → th (behind D i) (σ1.set i (some (.ref x))) H1) D σ H
section
variable {X : Cx}
end
end L2

set_option Elab.async false
set_option linter.all false
set_option maxRecDepth 100000
/-! OC 8: == of lists and tuples that are alike, division by great numbers, methods and makers by name -/
namespace L2
open PySem PySem.Spec PyProof.Rows
/-- alike, at most n deep -/
def EqD (K : PySem.W.Frag) (H : Hp) : Nat → V → V → Prop
  | 0, x, y => flatV x = true ∧ x = y
  | n + 1, x, y => (flatV x = true ∧ x = y) ∨ ∃ a b xs ys, x = .ref a ∧ y = .ref b ∧ ((SqL K H a xs ∧ SqL K H b ys) ∨ (SqT K H a xs ∧ SqT K H b ys)) ∧ Paired (EqD K H n) xs ys
theorem EqD.flat {K : PySem.W.Frag} {H : Hp} {x : V} (h : flatV x = true) : ∀ n, EqD K H n x x
  | 0 => ⟨h, rfl⟩
  | _ + 1 => .inl ⟨h, rfl⟩
theorem eqV_same : ∀ {x : V}, flatV x = true → eqV x x = true
  | .non, _ => rfl
  | .bl b, _ => beq_self_eq_true b
  | .int i, _ => beq_self_eq_true i
  | .str z, _ => beq_self_eq_true z
theorem Paired.get {α β : Type} {F : α → β → Prop} : ∀ {xs : List α} {ys : List β}, Paired F xs ys → ∀ (j : Nat) (x : α) (y : β), xs[j]? = some x → ys[j]? = some y → F x y
  | _, _, .nil, j, x, y, h, _ => by simp at h
  | _, _, .cons r t, 0, x, y, h, q => by simp at h q; subst h; subst q; exact r
  | _, _, .cons r t, j + 1, x, y, h, q => Paired.get t j x y (by simpa using h) (by simpa using q)
theorem Paired.len {α β : Type} {F : α → β → Prop} : ∀ {xs : List α} {ys : List β}, Paired F xs ys → xs.length = ys.length
  | _, _, .nil => rfl
  | _, _, .cons _ t => by simp [Paired.len t]
theorem Paired.imp {α β : Type} {F G : α → β → Prop} (h : ∀ x y, F x y → G x y) : ∀ {xs : List α} {ys : List β}, Paired F xs ys → Paired G xs ys
  | _, _, .nil => .nil
  | _, _, .cons r t => .cons (h _ _ r) (Paired.imp h t)
theorem all_true (n : Nat) : (List.range n).all (fun _ => true) = true := List.all_eq_true.mpr fun _ _ => rfl
section
variable {X : Cx} {pins : List (Addr × Obj)} {σ : St} {H : Hp} {s : Shared}
theorem vals_pair {K : PySem.W.Frag} {xs ys : List V} {us vs : List Value} {R : V → V → Prop} (p : Paired R xs ys) (r : Vals xs us) (q : Vals ys vs) (P : Value → Value → Prop) (h : ∀ x y u v, R x y → RelV x u → RelV y v → P u v) :
    us.toArray.size = vs.toArray.size ∧ ∀ j (h1 : j < us.toArray.size) (h2 : j < vs.toArray.size), P us.toArray[j] vs.toArray[j] := by
  refine ⟨?_, fun j h1 h2 => ?_⟩
  · have e1 := r.length; have e2 := q.length; have e3 := Paired.len p
    simp only [List.size_toArray]; omega
  · have l1 : j < us.length := by simpa using h1
    have l2 : j < vs.length := by simpa using h2
    have e1 := r.length; have e2 := q.length
    have g1 : xs[j]? = some xs[j] := List.getElem?_eq_getElem (by omega)
    have g2 : ys[j]? = some ys[j] := List.getElem?_eq_getElem (by omega)
    simp only [List.getElem_toArray]
    exact h _ _ _ _ (Paired.get p j _ _ g1 g2) (Paired.get r j _ _ g1 (List.getElem?_eq_getElem l1)) (Paired.get q j _ _ g2 (List.getElem?_eq_getElem l2))
theorem eqD_at (I : Inv X pins σ H s) : ∀ (n : Nat) (x y : V) (u v : Value) (A : Around), EqD X.K H n x y → RelV x u → RelV y v → A.units + n ≤ cLine → SeqAt.EqAt A s u v true
  | 0, x, y, u, v, A, ⟨f, e⟩, ru, rv, _ => by subst e; rw [← eqV_same f]; exact eqAt_V ru rv f f
  | n + 1, x, y, u, v, A, .inl ⟨f, e⟩, ru, rv, _ => by subst e; rw [← eqV_same f]; exact eqAt_V ru rv f f
  | n + 1, x, y, u, v, A, .inr ⟨a, b, xs, ys, ex, ey, hs, p⟩, ru, rv, hu => by
    subst ex ey
    cases ru; cases rv
    by_cases hab : a = b
    · subst hab; exact SeqAt.EqAt.same _
    refine SeqAt.EqAt.of_refs hab ?_
    rcases hs with ⟨ha, hb⟩ | ⟨ha, hb⟩
    · obtain ⟨us, r, pa, _⟩ := I.list ha
      obtain ⟨vs, q, pb, _⟩ := I.list hb
      obtain ⟨sz, he⟩ := vals_pair (K := X.K) p r q (fun u v => SeqAt.EqAt A.in1 s u v true) fun x y u v e ru rv => eqD_at I n x y u v A.in1 e ru rv (by show A.units + 1 + n ≤ _; omega)
      have := SeqAt.RcAt.lists (e := fun _ => true) pa.isList pb.isList sz (by omega) he
      rwa [all_true] at this
    · obtain ⟨us, r, pa, _⟩ := I.tuple ha
      obtain ⟨vs, q, pb, _⟩ := I.tuple hb
      obtain ⟨sz, he⟩ := vals_pair (K := X.K) p r q (fun u v => SeqAt.EqAt A.in1 s u v true) fun x y u v e ru rv => eqD_at I n x y u v A.in1 e ru rv (by show A.units + 1 + n ≤ _; omega)
      have := SeqAt.RcAt.tuples (e := fun _ => true) pa pb (by omega) he
      rw [all_true, sz, beq_self_eq_true] at this
      exact this
/-- x == y of lists, tuples alike -/
def rEqD (K : PySem.W.Frag) (k : Bool) : R2 := fun x y H Q => ∃ a b xs ys n, x = .ref a ∧ y = .ref b ∧ ((SqL K H a xs ∧ SqL K H b ys) ∨ (SqT K H a xs ∧ SqT K H b ys)) ∧ Paired (EqD K H n) xs ys ∧ n ≤ 100 ∧ Q (.bl k) H
theorem op_neD {k : Nat} (hr : Room k X.A) : OpR X (compareOp .NotEq) (rEqD X.K false) := by
  intro pins s σ H x y v u Q I rx ry h
  obtain ⟨a, b, xs, ys, n, rfl, rfl, hs, p, hn, q⟩ := h
  cases rx; cases ry
  have hu := hr.un
  rcases hs with ⟨ha, hb⟩ | ⟨ha, hb⟩
  · obtain ⟨us, r, pa, _⟩ := I.list ha
    obtain ⟨vs, q', pb, _⟩ := I.list hb
    obtain ⟨sz, he⟩ := vals_pair (K := X.K) p r q' (fun u v => SeqAt.EqAt X.A.in1 s u v true) fun x y u v e ru rv => eqD_at I n x y u v X.A.in1 e ru rv (by show X.A.units + 1 + n ≤ _; omega)
    have := SeqAt.RcNeAt.lists (e := fun _ => true) pa.isList pb.isList sz (by omega) he
    rw [all_true] at this
    exact this _ _ _ _ ⟨.bl false, H, I, rfl, q⟩
  · obtain ⟨us, r, pa, _⟩ := I.tuple ha
    obtain ⟨vs, q', pb, _⟩ := I.tuple hb
    obtain ⟨sz, he⟩ := vals_pair (K := X.K) p r q' (fun u v => SeqAt.EqAt X.A.in1 s u v true) fun x y u v e ru rv => eqD_at I n x y u v X.A.in1 e ru rv (by show X.A.units + 1 + n ≤ _; omega)
    have := SeqAt.RcNeAt.tuples (e := fun _ => true) pa pb (by omega) he
    rw [all_true, sz, beq_self_eq_true] at this
    exact this _ _ _ _ ⟨.bl false, H, I, rfl, q⟩
theorem EqD.ints {K : PySem.W.Frag} {H : Hp} : ∀ (ns : List Int), Paired (EqD K H 0) (ns.map V.int) (ns.map V.int)
  | [] => .nil
  | n :: r => .cons ⟨rfl, rfl⟩ (EqD.ints r)
/-- division by a number of up to some two thousand figures -/
def CDivB (i j : Int) : Prop := 0 < j ∧ j.natAbs.log2 < 8000
theorem op_fdivB : OpR X (binaryOp .FloorDiv) (rI CDivB fun i j => .int (i / j)) := opI fun i j _ _ _ _ _ hc q => by
  rw [← Int.fdiv_eq_ediv_of_nonneg i (by have := hc.1; omega)] at q
  exact floordiv_int (by have := hc.1; omega) q (.inl (PyProof.noPylong_of_log2 (by have := hc.2; omega)))
/-! ### a cut: what holds behind a statement, however it ended -/
def tCut (t : TS) : TS := fun D σ H => ∃ P : St → Hp → Prop, t { D with nx := P } σ H ∧ ∀ σ' H', P σ' H' → D.nx σ' H'
theorem ps_cut {st : Stmt} {t : TS} (h : PS X st t) : PS X st (tCut t) := by
  refine ⟨?_⟩
  intro pins s σ H D I hw
  obtain ⟨P, h1, h2⟩ := hw
  refine wpAny_mono (h pins s σ H _ I h1) (fun f s' q => ?_) fun _ _ z => z
  cases f with
  | next => obtain ⟨σ1, H1, I1, q⟩ := q; exact ⟨σ1, H1, I1, h2 _ _ q⟩
  | brk => exact q
  | cont => exact q
  | ret u => exact q
/-! ### methods and makers by name -/
structure CalM (P : Program) (w : World) (K : PySem.W.Frag) (mg : Str → Option Value) (base : Heap) (CX : CXT) (k : Nat) (C : Addr) (m : Str) (ps : List Str) (sp : Sp) : Prop where
  ex : ∃ f fd, FnOk P w K mg base CX k f fd ps sp ∧ Cls K C ∧ Meth K C m f ∧ Binds K fd ps []
end
section
variable {X : Cx} {o e : Expr} {es : List Expr} {m : Str} {apos pos : Pos} {ta : TE} {t : TA} {E : XK} {C : Addr}
/-- a class that is made by its name -/
structure CalK (P : Program) (w : World) (K : PySem.W.Frag) (mg : Str → Option Value) (base : Heap) (CX : CXT) (k : Nat) (x : Str) (C : Addr) (ps : List Str) (sp : Sp) : Prop where
  ex : ∃ f fd, Mk K C f ∧ FnOk P w K mg base CX k f fd ps sp ∧ mg x = some (.ref C) ∧ Binds K fd ps []
/-- an own exception that is made by its name -/
structure CalX (P : Program) (w : World) (K : PySem.W.Frag) (mg : Str → Option Value) (base : Heap) (k : Nat) (x : Str) (C : Addr) (ps : List Str) (sp : Sp) : Prop where
  ex : ∃ f fd, ExMk K C f ∧ FnOk P w K mg base (CXE P w) k f fd ps sp ∧ mg x = some (.ref C) ∧ Binds K fd ps []
end
end L2

set_option Elab.async false
set_option linter.all false
set_option maxRecDepth 100000
/-! OC 9: how a list is read as a sheet, in Lean; what the reader's defs promise -/
namespace L2
open PySem
abbrev Bad := Nat × Str
abbrev Hds := List (Int × Int)
inductive Nd where
  | mk (kind : Int) (place : Nat) (own : List Int) (parts : List Nd)
def takeM (ns : List Int) (p : Nat) : Except Bad Int := match ns[p]? with
  | some n => .ok n
  | none => .error (p, "end")
def withinM (ns : List Int) (p : Nat) (lo hi : Int) : Except Bad Int := match ns[p]? with
  | some n => if n < lo ∨ hi < n then .error (p, "range") else .ok n
  | none => .error (p, "end")
def headsM (ns : List Int) : Nat → Int → Nat → Except Bad Hds
  | 0, _, _ => .ok []
  | n + 1, most, p => match withinM ns p 0 most with
    | .error b => .error b
    | .ok a => match withinM ns (p + 1) a 12 with
      | .error b => .error b
      | .ok c => match headsM ns n 4 (p + 2) with
        | .error b => .error b
        | .ok r => .ok ((a, c) :: r)
def headsAllM (ns : List Int) : Except Bad Hds := match withinM ns 0 1 16 with
  | .error b => .error b
  | .ok n => headsM ns n.toNat 0 1
def oneM (r : Except Bad Int) : Except Bad (List Int) := match r with
  | .ok n => .ok [n]
  | .error b => .error b
def ownM (ns : List Int) (heads : Hds) (boxes k : Int) (p : Nat) : Except Bad (List Int) :=
  if k = 0 then oneM (takeM ns p) else if k = 1 ∨ k = 2 then oneM (withinM ns p 0 (boxes - 1)) else if k = 3 then oneM (withinM ns p 1 12) else if k = 4 then oneM (withinM ns p 2 12) else if k = 6 then oneM (withinM ns p 0 ((heads.length : Int) - 1)) else .ok []
def partsN : List Int := [1, 2, 2, 2, 2, 2, 2, 2, 2, 2, 3, 1, 0]
def dueM (heads : Hds) (k : Int) (own : List Int) : Int :=
  if k = 0 ∨ k = 1 then 0 else if k = 2 then 1 else if k = 3 then own.headD 0 else if k = 4 then 1 + own.headD 0 else if k = 5 then 2 else if k = 6 then (heads.getD (own.headD 0).toNat (0, 0)).1 else partsN.getD (k - 7).toNat 0
def partsM (f : Nat → Except Bad (Nd × Nat)) : Nat → Nat → Except Bad (List Nd × Nat)
  | 0, p => .ok ([], p)
  | n + 1, p => match f p with
    | .error b => .error b
    | .ok a => match partsM f n a.2 with
      | .error b => .error b
      | .ok r => .ok (a.1 :: r.1, r.2)
def nodeM (ns : List Int) (heads : Hds) (boxes : Int) : Nat → Nat → Except Bad (Nd × Nat)
  | 0, p => .error (p, "deep")
  | d + 1, p => match withinM ns p 0 19 with
    | .error b => .error b
    | .ok k => match ownM ns heads boxes k (p + 1) with
      | .error b => .error b
      | .ok own => match partsM (nodeM ns heads boxes d) (dueM heads k own).toNat (p + 1 + own.length) with
        | .error b => .error b
        | .ok r => .ok (.mk k p own r.1, r.2)
def bodiesM (ns : List Int) (heads : Hds) : Hds → Nat → Except Bad (List Nd × Nat)
  | [], p => .ok ([], p)
  | h :: r, p => match nodeM ns heads h.2 10 p with
    | .error b => .error b
    | .ok a => match bodiesM ns heads r a.2 with
      | .error b => .error b
      | .ok z => .ok (a.1 :: z.1, z.2)
def functionsM (ns : List Int) : Except Bad (Hds × List Nd) := match headsAllM ns with
  | .error b => .error b
  | .ok hs => match bodiesM ns hs hs (1 + 2 * hs.length) with
    | .error b => .error b
    | .ok r => if r.2 < ns.length then .error (r.2, "over") else .ok (hs, r.1)
/-! ### at the heap -/
def NodeAt (H : Hp) : Nat → V → Nd → Prop
  | 0, _, _ => False
  | d + 1, v, .mk k p own ps => ∃ t o q vs, v = .ref t ∧ H t = some (.tup [.int k, .int p, .ref o, .ref q]) ∧ H o = some (.tup (own.map V.int)) ∧ H q = some (.tup vs) ∧ Paired (NodeAt H d) vs ps
def FnAt (H : Hp) (v : V) (f : (Int × Int) × Nd) : Prop := ∃ t b, v = .ref t ∧ H t = some (.tup [.int f.1.1, .int f.1.2, b]) ∧ NodeAt H 10 b f.2
def FnsAt (H : Hp) (l : Addr) (r : Hds × List Nd) : Prop := ∃ rs, H l = some (.lst rs) ∧ r.1.length = r.2.length ∧ Paired (FnAt H) rs (r.1.zip r.2)
def HeadAt (H : Hp) (v : V) (h : Int × Int) : Prop := ∃ t, v = .ref t ∧ H t = some (.tup [.int h.1, .int h.2])
def HeadsAt (H : Hp) (hd : Addr) (hs : Hds) : Prop := ∃ rs, H hd = some (.lst rs) ∧ Paired (HeadAt H) rs hs
def LookO (CL dx a : Addr) (p : Nat) : HO := .ins CL dx [("numbers", .ref a), ("place", .int p)]
/-- tuples stay -/
def Tups (H H' : Hp) : Prop := ∀ b xs, H b = some (.tup xs) → H' b = some (.tup xs)
theorem Tups.same {H H' : Hp} (h : Same H H') : Tups H H' := fun _ _ e => h _ _ e
theorem Tups.keep {lk CL dx a : Addr} {p : Nat} {H H' : Hp} (e : H lk = some (LookO CL dx a p)) (k : Keep lk H H') : Tups H H' := fun b xs q => k b _ (fun z => by rw [z, e] at q; cases q) q
theorem NodeAt.tups {H H' : Hp} (h : Tups H H') : ∀ {d : Nat} {v : V} {n : Nd}, NodeAt H d v n → NodeAt H' d v n
  | 0, _, _, z => z.elim
  | d + 1, v, .mk k p own ps, ⟨t, o, q, vs, e, h1, h2, h3, r⟩ => ⟨t, o, q, vs, e, h _ _ h1, h _ _ h2, h _ _ h3, Paired.imp (fun _ _ z => NodeAt.tups h z) r⟩
theorem HeadAt.tups {H H' : Hp} (h : Tups H H') {v : V} {n : Int × Int} : HeadAt H v n → HeadAt H' v n := fun ⟨t, e, q⟩ => ⟨t, e, h _ _ q⟩
theorem FnAt.tups {H H' : Hp} (h : Tups H H') {v : V} {n : (Int × Int) × Nd} : FnAt H v n → FnAt H' v n := fun ⟨t, b, e, q, z⟩ => ⟨t, b, e, h _ _ q, z.tups h⟩
theorem HeadsAt.keep {lk CL dx a hd : Addr} {p : Nat} {H H' : Hp} {hs : Hds} (e : H lk = some (LookO CL dx a p)) (k : Keep lk H H') (h : HeadsAt H hd hs) : HeadsAt H' hd hs := by
  obtain ⟨rs, q, r⟩ := h
  exact ⟨rs, k hd _ (fun z => by rw [z, e] at q; cases q) q, Paired.imp (fun _ _ z => z.tups (.keep e k)) r⟩
theorem FnsAt.same {l : Addr} {r : Hds × List Nd} {H H' : Hp} (h : Same H H') : FnsAt H l r → FnsAt H' l r := fun ⟨rs, q, e, z⟩ => ⟨rs, h _ _ q, e, Paired.imp (fun _ _ y => y.tups (.same h)) z⟩
/-- two readings of one node are alike -/
theorem pair_all {α β γ : Type} {F : α → γ → Prop} {G : β → γ → Prop} {R : α → β → Prop} (h : ∀ x y z, F x z → G y z → R x y) : ∀ {xs : List α} {ys : List β} {zs : List γ}, Paired F xs zs → Paired G ys zs → Paired R xs ys
  | _, _, _, .nil, .nil => .nil
  | _, _, _, .cons a t, .cons b u => .cons (h _ _ _ a b) (pair_all h t u)
theorem EqD.intsN {K : PySem.W.Frag} {H : Hp} {n : Nat} : ∀ (ns : List Int), Paired (EqD K H n) (ns.map V.int) (ns.map V.int)
  | [] => .nil
  | i :: r => .cons (EqD.flat rfl n) (EqD.intsN r)
theorem NodeAt.eq {K : PySem.W.Frag} {H : Hp} : ∀ {d : Nat} {v v' : V} {n : Nd}, NodeAt H d v n → NodeAt H d v' n → EqD K H (2 * d) v v'
  | 0, _, _, _, z, _ => z.elim
  | d + 1, v, v', .mk k p own ps, ⟨t, o, q, vs, e, h1, h2, h3, r⟩, ⟨t', o', q', vs', e', h1', h2', h3', r'⟩ =>
    .inr ⟨t, t', _, _, e, e', .inr ⟨.of h1, .of h1'⟩, .cons (EqD.flat rfl _) (.cons (EqD.flat rfl _) (.cons (.inr ⟨o, o', _, _, rfl, rfl, .inr ⟨.of h2, .of h2'⟩, EqD.intsN own⟩)
      (.cons (.inr ⟨q, q', _, _, rfl, rfl, .inr ⟨.of h3, .of h3'⟩, pair_all (F := NodeAt H d) (G := NodeAt H d) (R := EqD K H (2 * d)) (fun _ _ _ a b => NodeAt.eq a b) r r'⟩) .nil)))⟩
theorem FnAt.eq {K : PySem.W.Frag} {H : Hp} {v v' : V} {n : (Int × Int) × Nd} : FnAt H v n → FnAt H v' n → EqD K H 21 v v' := fun ⟨t, b, e, q, z⟩ ⟨t', b', e', q', z'⟩ =>
  .inr ⟨t, t', _, _, e, e', .inr ⟨.of q, .of q'⟩, .cons (EqD.flat rfl _) (.cons (EqD.flat rfl _) (.cons (NodeAt.eq z z') .nil))⟩
/-! ### what the defs promise -/
def Tells {α : Type} (r : Except Bad α) (ok : α → Prop) (bad : Nat → Str → Prop) : Prop := (∀ a, r = .ok a → ok a) ∧ ∀ p w, r = .error (p, w) → bad p w
def Fails (CN lk : Addr) (H : Hp) (E : XK) (p : Nat) (w : Str) : Prop := ∀ d H', Keep lk H H' → H' d = some (XdO d [("place", .int p), ("word", .str w)]) → E (.ref CN) (some d) H'
theorem Fails.keep {CN lk : Addr} {H H1 : Hp} {E : XK} {p : Nat} {w : Str} (f : Fails CN lk H E p w) (k : Keep lk H H1) : Fails CN lk H1 E p w := fun d H' k' e => f d H' (k.trans k') e
def Looks (CL : Addr) (H : Hp) (lk dx a : Addr) (p : Nat) (ns : List Int) : Prop := H lk = some (LookO CL dx a p) ∧ H a = some (.lst (ns.map V.int))
theorem Looks.go {CL lk dx a : Addr} {p p' : Nat} {ns : List Int} {H H' : Hp} (l : Looks CL H lk dx a p ns) (k : Keep lk H H') (e : H' lk = some (LookO CL dx a p')) : Looks CL H' lk dx a p' ns :=
  ⟨e, k a _ (fun z => by have := l.1; rw [← z, l.2] at this; cases this) l.2⟩
def spInitX (C : Addr) : Sp := fun vs H Q _ => ∃ x y z, vs = [.ref x, y, z] ∧ H x = some (ExN x C none) ∧
  ∀ d H', d ≠ x → H d = none → (∀ b o, b ≠ x → H b = some o → H' b = some o) → H' x = some (ExN x C (some d)) → H' d = some (XdO d [("place", y), ("word", z)]) → Q .non H'
def spInitL (CL : Addr) : Sp := fun vs H Q _ => ∃ x dx a, vs = [.ref x, .ref a] ∧ H x = some (.ins CL dx []) ∧ ∀ H', Keep x H H' → H' x = some (LookO CL dx a 0) → Q .non H'
def spWhole : Sp := fun vs H Q _ => ∃ i : Int, vs = [.int i] ∧ Q (.bl true) H
def spTk (CL CN : Addr) : Sp := fun vs H Q E => ∃ lk dx a p ns, vs = [.ref lk] ∧ Looks CL H lk dx a p ns ∧ Tells (takeM ns p) (fun n => Q (.int n) (upd H lk (LookO CL dx a (p + 1)))) (Fails CN lk H E)
def spWithin (CL CN : Addr) : Sp := fun vs H Q E => ∃ lk dx a p ns lo hi, vs = [.ref lk, .int lo, .int hi] ∧ Looks CL H lk dx a p ns ∧ Tells (withinM ns p lo hi) (fun n => Q (.int n) (upd H lk (LookO CL dx a (p + 1)))) (Fails CN lk H E)
def spHeads (CL CN : Addr) : Sp := fun vs H Q E => ∃ lk dx a ns, vs = [.ref lk] ∧ Looks CL H lk dx a 0 ns ∧
  Tells (headsAllM ns) (fun hs => ∀ hd H', Keep lk H H' → H' lk = some (LookO CL dx a (1 + 2 * hs.length)) → HeadsAt H' hd hs → Q (.ref hd) H') (Fails CN lk H E)
def spOwn (CL CN : Addr) : Sp := fun vs H Q E => ∃ lk dx a p ns hd hs boxes k, vs = [.ref lk, .int k, .ref hd, .int boxes] ∧ Looks CL H lk dx a p ns ∧ HeadsAt H hd hs ∧
  Tells (ownM ns hs boxes k p) (fun own => ∀ t H', Keep lk H H' → H' lk = some (LookO CL dx a (p + own.length)) → H' t = some (.tup (own.map V.int)) → Q (.ref t) H') (Fails CN lk H E)
def OwnOk (heads : Hds) (k : Int) (own : List Int) : Prop := 0 ≤ k ∧ k ≤ 19 ∧ (k = 3 ∨ k = 4 ∨ k = 6 → ∃ n, own = [n] ∧ 0 ≤ n ∧ (k = 6 → n < heads.length) ∧ (k ≠ 6 → n ≤ 12))
def HdsOk (hs : Hds) : Prop := ∀ h ∈ hs, 0 ≤ h.1 ∧ h.1 ≤ 4
def spDue : Sp := fun vs H Q _ => ∃ k t own hd hs, vs = [.int k, .ref t, .ref hd] ∧ H t = some (.tup (own.map V.int)) ∧ HeadsAt H hd hs ∧ OwnOk hs k own ∧ Q (.int (dueM hs k own)) H
def spNode (CL CN : Addr) (d : Nat) : Sp := fun vs H Q E => ∃ lk dx a p ns hd hs boxes, vs = [.ref lk, .ref hd, .int boxes, .int (11 - (d : Int))] ∧ Looks CL H lk dx a p ns ∧ HeadsAt H hd hs ∧ HdsOk hs ∧
  Tells (nodeM ns hs boxes d p) (fun r => ∀ v H', Keep lk H H' → H' lk = some (LookO CL dx a r.2) → NodeAt H' d v r.1 → Q v H') (Fails CN lk H E)
def spFns (CN : Addr) : Sp := fun vs H Q E => ∃ a ns, vs = [.ref a] ∧ H a = some (.lst (ns.map V.int)) ∧
  Tells (functionsM ns) (fun r => ∀ l H', Same H H' → H l = none → FnsAt H' l r → Q (.ref l) H') (fun p w => ∀ d H', Same H H' → H' d = some (XdO d [("place", .int p), ("word", .str w)]) → E (.ref CN) (some d) H')
def spWrong : Sp := fun vs H Q _ => ∃ a ns, vs = [.ref a] ∧ H a = some (.lst (ns.map V.int)) ∧
  Tells (functionsM ns) (fun _ => ∀ H', Same H H' → Q .non H') (fun p w => ∀ t H', Same H H' → H' t = some (.tup [.int (p : Nat), .str w]) → Q (.ref t) H')
/-! ### lemmas -/
def joinM {α : Type} (done : List α) (r : Except Bad (List α)) : Except Bad (List α) := match r with
  | .ok r => .ok (done ++ r)
  | .error b => .error b
def joinP {α : Type} (done : List α) (r : Except Bad (List α × Nat)) : Except Bad (List α × Nat) := match r with
  | .ok r => .ok (done ++ r.1, r.2)
  | .error b => .error b
theorem Keep.fresh {lk hd : Addr} {H H' : Hp} {o : HO} (k : Keep lk H H') (h : H hd = none) : Keep lk H (L2.upd H' hd o) := fun b u nb e => by rw [upd_ne (ne_of_none e h)]; exact k b u nb e
theorem Tups.upd {b : Addr} {ys : List V} {H : Hp} {o : HO} (h : H b = some (.lst ys)) : Tups H (L2.upd H b o) := fun c xs e => by rw [upd_ne (fun z => by rw [z, h] at e; cases e)]; exact e
theorem Tups.trans {H H1 H2 : Hp} (a : Tups H H1) (b : Tups H1 H2) : Tups H H2 := fun c xs e => b c xs (a c xs e)
theorem Tups.new {b : Addr} {H : Hp} {o : HO} (h : H b = none) : Tups H (L2.upd H b o) := .same (same_new h o)
/-- the raise of a refusal -/
theorem raised {C lk : Addr} {H H1 : Hp} {E E' : XK} {p : Nat} {w : Str} (f : Fails C lk H E p w) (k : Keep lk H H1) : ∀ x, H1 x = none →
    spInitX C [.ref x, .int (p : Int), .str w] (upd H1 x (ExN x C none)) (fun v H2 => v = .non ∧ ∃ d, H2 x = some (ExN x C (some d)) ∧ E (.ref C) (some d) (upd H2 x (ExO x C (some d)))) E' := by
  intro x hx
  refine ⟨x, _, _, rfl, upd_same, fun d H' dx hd kp ex ed => ⟨rfl, d, ex, f d _ (fun b o nb e => ?_) ?_⟩⟩
  · have e1 := k b o nb e
    have nx : b ≠ x := ne_of_none e1 hx
    rw [upd_ne nx]
    exact kp b o nx (by rw [upd_ne nx]; exact e1)
  · rw [upd_ne dx]; exact ed
end L2

set_option Elab.async false
set_option linter.all false
set_option maxRecDepth 100000
/-! OC 10: numbers that a law draws are a sheet -/
namespace L2
open PySem
/-- zs stands in ns at p -/
def Sub (ns : List Int) : Nat → List Int → Prop
  | _, [] => True
  | p, z :: zs => ns[p]? = some z ∧ Sub ns (p + 1) zs
theorem Sub.append {ns : List Int} : ∀ {xs ys : List Int} {p : Nat}, Sub ns p (xs ++ ys) → Sub ns p xs ∧ Sub ns (p + xs.length) ys
  | [], _, _, h => ⟨trivial, h⟩
  | x :: xs, ys, p, h => by
    have q := Sub.append h.2
    refine ⟨⟨h.1, q.1⟩, ?_⟩
    rw [show p + (x :: xs).length = p + 1 + xs.length by simp; omega]
    exact q.2
theorem Sub.behind : ∀ (zs pre : List Int), Sub (pre ++ zs) pre.length zs
  | [], _ => trivial
  | z :: zs, pre => by
    refine ⟨by simp, ?_⟩
    have := Sub.behind zs (pre ++ [z])
    simpa using this
theorem Sub.self (ns : List Int) : Sub ns 0 ns := Sub.behind ns []
def OwnFit (hs : Hds) (boxes k : Int) (own : List Int) : Prop :=
  (k = 0 ∧ ∃ n, own = [n]) ∨ ((k = 1 ∨ k = 2) ∧ ∃ n, own = [n] ∧ 0 ≤ n ∧ n ≤ boxes - 1) ∨ (k = 3 ∧ ∃ n, own = [n] ∧ 1 ≤ n ∧ n ≤ 12) ∨ (k = 4 ∧ ∃ n, own = [n] ∧ 2 ≤ n ∧ n ≤ 12) ∨ (k = 6 ∧ ∃ n, own = [n] ∧ 0 ≤ n ∧ n ≤ (hs.length : Int) - 1) ∨ ((k = 5 ∨ 7 ≤ k) ∧ own = [])
theorem withinM_at {ns : List Int} {p : Nat} {lo hi n : Int} (h : ns[p]? = some n) (h0 : lo ≤ n) (h1 : n ≤ hi) : withinM ns p lo hi = .ok n := by
  unfold withinM
  rw [h]
  exact if_neg (by omega)
theorem own_fit {ns : List Int} {hs : Hds} {boxes k : Int} {own : List Int} {p : Nat} (f : OwnFit hs boxes k own) (s : Sub ns p own) : ownM ns hs boxes k p = .ok own := by
  unfold ownM
  rcases f with ⟨rfl, n, rfl⟩ | ⟨hk, n, rfl, a, b⟩ | ⟨rfl, n, rfl, a, b⟩ | ⟨rfl, n, rfl, a, b⟩ | ⟨rfl, n, rfl, a, b⟩ | ⟨hk, rfl⟩
  · rw [if_pos rfl]; unfold takeM; rw [s.1]; rfl
  · rw [if_neg (by omega), if_pos hk, withinM_at s.1 a b]; rfl
  · rw [if_neg (by decide), if_neg (by decide), if_pos rfl, withinM_at s.1 a b]; rfl
  · rw [if_neg (by decide), if_neg (by decide), if_neg (by decide), if_pos rfl, withinM_at s.1 a b]; rfl
  · rw [if_neg (by decide), if_neg (by decide), if_neg (by decide), if_neg (by decide), if_pos rfl, withinM_at s.1 a b]; rfl
  · rw [if_neg (by omega), if_neg (by omega), if_neg (by omega), if_neg (by omega), if_neg (by omega)]
/-- zs is a node, at most d deep -/
def PN (hs : Hds) (boxes : Int) (d : Nat) (zs : List Int) : Prop := ∀ ns p, Sub ns p zs → ∃ nd, nodeM ns hs boxes d p = .ok (nd, p + zs.length)
def PP (hs : Hds) (boxes : Int) (d n : Nat) (zs : List Int) : Prop := ∀ ns p, Sub ns p zs → ∃ nds, partsM (nodeM ns hs boxes d) n p = .ok (nds, p + zs.length)
theorem partsM_snoc {f : Nat → Except Bad (Nd × Nat)} : ∀ {n p q z : Nat} {r : List Nd} {a : Nd}, partsM f n p = .ok (r, q) → f q = .ok (a, z) → partsM f (n + 1) p = .ok (r ++ [a], z)
  | 0, p, q, z, r, a, h, e => by
    cases h
    unfold partsM
    rw [e]; rfl
  | n + 1, p, q, z, r, a, h, e => by
    unfold partsM at h ⊢
    cases e1 : f p with
    | error b => rw [e1] at h; cases h
    | ok x =>
      rw [e1] at h; simp only at h ⊢
      cases e2 : partsM f n x.2 with
      | error b => rw [e2] at h; cases h
      | ok y =>
        rw [e2] at h; cases h
        have := partsM_snoc (show partsM f n x.2 = .ok (y.1, y.2) from e2) e
        rw [this]; rfl
theorem PP.zero {hs : Hds} {boxes : Int} {d : Nat} : PP hs boxes d 0 [] := fun ns p _ => ⟨[], rfl⟩
theorem PP.snoc {hs : Hds} {boxes : Int} {d n : Nat} {xs ys : List Int} (a : PP hs boxes d n xs) (b : PN hs boxes d ys) : PP hs boxes d (n + 1) (xs ++ ys) := fun ns p s => by
  obtain ⟨s1, s2⟩ := Sub.append s
  obtain ⟨r, e1⟩ := a ns p s1
  obtain ⟨x, e2⟩ := b ns _ s2
  refine ⟨r ++ [x], ?_⟩
  rw [partsM_snoc e1 e2, List.length_append, Nat.add_assoc]
theorem PN.of {hs : Hds} {boxes k : Int} {d : Nat} {own zs : List Int} (h0 : 0 ≤ k) (h1 : k ≤ 19) (f : OwnFit hs boxes k own) (h : PP hs boxes d (dueM hs k own).toNat zs) : PN hs boxes (d + 1) (k :: own ++ zs) := fun ns p s => by
  obtain ⟨s1, s2⟩ := Sub.append (xs := k :: own) s
  obtain ⟨nds, e⟩ := h ns _ s2
  refine ⟨.mk k p own nds, ?_⟩
  unfold nodeM
  rw [withinM_at s1.1 h0 h1]; simp only
  rw [own_fit f s1.2]; simp only
  rw [show p + 1 + own.length = p + (k :: own).length by simp; omega, e]
  simp only
  rw [List.length_append, Nat.add_assoc]
def Leaf (boxes : Int) (zs : List Int) : Prop := (∃ x, zs = [1, x] ∧ 0 ≤ x ∧ x < boxes) ∨ zs = [19] ∨ ∃ n, zs = [0, n]
theorem Leaf.len {boxes : Int} {zs : List Int} (l : Leaf boxes zs) : zs.length ≤ 2 := by
  rcases l with ⟨x, rfl, _⟩ | rfl | ⟨n, rfl⟩ <;> simp
theorem Leaf.pn {hs : Hds} {boxes : Int} {zs : List Int} (l : Leaf boxes zs) (d : Nat) : PN hs boxes (d + 1) zs := by
  rcases l with ⟨x, rfl, a, b⟩ | rfl | ⟨n, rfl⟩
  · exact PN.of (own := [x]) (zs := []) (by decide) (by decide) (.inr (.inl ⟨.inl rfl, x, rfl, a, by omega⟩)) PP.zero
  · exact PN.of (own := []) (zs := []) (by decide) (by decide) (.inr (.inr (.inr (.inr (.inr ⟨.inr (by decide), rfl⟩))))) PP.zero
  · exact PN.of (own := [n]) (zs := []) (by decide) (by decide) (.inl ⟨rfl, n, rfl⟩) PP.zero
structure HdsGood (hs : Hds) : Prop where
  lo : 1 ≤ hs.length
  hi : hs.length ≤ 16
  all : ∀ (i : Nat) (h : Int × Int), hs[i]? = some h → 0 ≤ h.1 ∧ h.1 ≤ 4 ∧ h.1 ≤ h.2 ∧ h.2 ≤ 12 ∧ (i = 0 → h.1 = 0)
theorem HdsGood.ok {hs : Hds} (g : HdsGood hs) : HdsOk hs := fun h m => by
  obtain ⟨i, e⟩ := List.getElem?_of_mem m
  have := g.all i h e
  omega
def flat : Hds → List Int
  | [] => []
  | h :: r => h.1 :: h.2 :: flat r
theorem headsM_flat {ns : List Int} : ∀ {hs : Hds} {most : Int} {p : Nat}, (∀ (i : Nat) (h : Int × Int), hs[i]? = some h → 0 ≤ h.1 ∧ h.1 ≤ 4 ∧ h.1 ≤ h.2 ∧ h.2 ≤ 12 ∧ (i = 0 → h.1 ≤ most)) → Sub ns p (flat hs) → headsM ns hs.length most p = .ok hs
  | [], _, _, _, _ => rfl
  | h :: r, most, p, a, s => by
    obtain ⟨a0, a1, a2, a3, a4⟩ := a 0 h rfl
    unfold headsM
    show (match withinM ns p 0 most with | .error b => _ | .ok a => _) = _
    rw [withinM_at s.1 a0 (a4 rfl)]; simp only
    rw [withinM_at s.2.1 a2 a3]; simp only
    rw [headsM_flat (most := 4) (fun i x e => by have := a (i + 1) x (by simpa using e); omega) s.2.2]
theorem HdsGood.heads {ns : List Int} {hs : Hds} {p : Nat} (g : HdsGood hs) (s : Sub ns p (flat hs)) : headsM ns hs.length 0 p = .ok hs := headsM_flat (fun i h e => by have := g.all i h e; omega) s
def PB (hs todo : Hds) (zs : List Int) : Prop := ∀ ns p, Sub ns p zs → ∃ nds, nds.length = todo.length ∧ bodiesM ns hs todo p = .ok (nds, p + zs.length)
theorem bodiesM_snoc {ns : List Int} {hs : Hds} : ∀ {todo : Hds} {h : Int × Int} {p q z : Nat} {r : List Nd} {a : Nd}, bodiesM ns hs todo p = .ok (r, q) → nodeM ns hs h.2 10 q = .ok (a, z) → bodiesM ns hs (todo ++ [h]) p = .ok (r ++ [a], z)
  | [], h, p, q, z, r, a, e, f => by
    cases e
    show (match nodeM ns hs h.2 10 p with | .error b => _ | .ok a => _) = _
    rw [f]; rfl
  | x :: todo, h, p, q, z, r, a, e, f => by
    unfold bodiesM at e
    show (match nodeM ns hs x.2 10 p with | .error b => _ | .ok a => _) = _
    cases e1 : nodeM ns hs x.2 10 p with
    | error b => rw [e1] at e; cases e
    | ok y =>
      rw [e1] at e; simp only at e ⊢
      cases e2 : bodiesM ns hs todo y.2 with
      | error b => rw [e2] at e; cases e
      | ok u =>
        rw [e2] at e; cases e
        have := bodiesM_snoc (show bodiesM ns hs todo y.2 = .ok (u.1, u.2) from e2) f
        show (match bodiesM ns hs (todo ++ [h]) y.2 with | .error b => _ | .ok a => _) = _
        rw [this]; rfl
theorem PB.zero {hs : Hds} : PB hs [] [] := fun ns p _ => ⟨[], rfl, rfl⟩
theorem PB.snoc {hs todo : Hds} {h : Int × Int} {xs ys : List Int} (a : PB hs todo xs) (b : PN hs h.2 10 ys) : PB hs (todo ++ [h]) (xs ++ ys) := fun ns p s => by
  obtain ⟨s1, s2⟩ := Sub.append s
  obtain ⟨r, l, e1⟩ := a ns p s1
  obtain ⟨x, e2⟩ := b ns _ s2
  refine ⟨r ++ [x], ?_, ?_⟩
  · simp [l]
  · rw [bodiesM_snoc e1 e2, List.length_append, Nat.add_assoc]
def SheetOk (ns : List Int) : Prop := ns.length ≤ 100000 ∧ ∃ r, functionsM ns = .ok r
theorem HeadsAt.ne {K : PySem.W.Frag} {H : Hp} {hd st : Addr} {hs : Hds} (h : HeadsAt H hd hs) (D : Draw K H st) : hd ≠ st := fun z => by
  obtain ⟨a, ns, k, c, e, _⟩ := D
  obtain ⟨rs, e', pr⟩ := h
  rw [z, e] at e'
  cases e'
  cases pr with
  | cons _ t =>
    cases t with
    | cons h _ => obtain ⟨_, q, _⟩ := h; cases q
def tableN : List Int := [0, 0, 0, 0, 0, 2, 0, 1, 2, 2, 2, 2, 2, 2, 2, 2, 2, 3, 1, 0]
/-! ### what the drawing defs promise -/
def spTakeB (K : PySem.W.Frag) : Sp := fun vs H Q _ => ∃ (st : Addr) (many : Int), vs = [.ref st, .int many] ∧ 0 < many ∧ many < 2 ^ 256 ∧ Draw K H st ∧ ∀ (r : Int) (H' : Hp), 0 ≤ r → r < many → Drawn K st H H' → Q (.int r) H'
theorem divB {j : Int} (h0 : 0 < j) (h1 : j < 2 ^ 256) : CDivB i j := by
  refine ⟨h0, ?_⟩
  have : j.natAbs.log2 < 256 := (Nat.log2_lt (by omega)).mpr (by omega)
  omega
def spHeadsL (K : PySem.W.Frag) : Sp := fun vs H Q _ => ∃ st, vs = [.ref st] ∧ Draw K H st ∧ ∀ hd H' hs, Drawn K st H H' → HeadsAt H' hd hs → HdsGood hs → Q (.ref hd) H'
def spNumber (K : PySem.W.Frag) : Sp := fun vs H Q _ => ∃ st, vs = [.ref st] ∧ Draw K H st ∧ ∀ (n : Int) H', Drawn K st H H' → Q (.int n) H'
def spLeaf (K : PySem.W.Frag) : Sp := fun vs H Q _ => ∃ st boxes, vs = [.ref st, .int boxes] ∧ boxes ≤ 12 ∧ Draw K H st ∧ ∀ l zs H', Drawn K st H H' → H l = none → H' l = some (.lst (zs.map V.int)) → Leaf boxes zs → Q (.ref l) H'
def spHead (K : PySem.W.Frag) : Sp := fun vs H Q _ => ∃ st hd hs boxes, vs = [.ref st, .ref hd, .int boxes] ∧ boxes ≤ 12 ∧ Draw K H st ∧ HeadsAt H hd hs ∧ HdsGood hs ∧
  ∀ t l k own many H', Drawn K st H H' → H l = none → H' t = some (.tup [.ref l, .int many]) → H' l = some (.lst (((k :: own : List Int)).map V.int)) → own.length ≤ 1 → 0 ≤ k → k ≤ 19 → (k < 3 ∧ own = [] ∨ OwnFit hs boxes k own ∧ (k < 3 → own ≠ []) ∧ many = dueM hs k own) → 0 ≤ many → many ≤ 13 → Q (.ref t) H'
theorem Drawn.free {K : PySem.W.Frag} {st p : Addr} {H H' : Hp} (d : Drawn K st H H') (h : H' p = none) : H p = none := by
  cases e : H p with
  | none => rfl
  | some o =>
    by_cases z : p = st
    · obtain ⟨a, ns, k, c, e', _⟩ := d.draw
      rw [z, e'] at h; cases h
    · rw [d.keep p o z e] at h; cases h
/-- all but two lists is as it was -/
def Keep2 (st rm : Addr) (H H' : Hp) : Prop := ∀ b o, b ≠ st → b ≠ rm → H b = some o → H' b = some o
theorem Keep2.refl (st rm : Addr) (H : Hp) : Keep2 st rm H H := fun _ _ _ _ e => e
theorem Keep2.trans {st rm : Addr} {H H1 H2 : Hp} (a : Keep2 st rm H H1) (b : Keep2 st rm H1 H2) : Keep2 st rm H H2 := fun c o n m e => b c o n m (a c o n m e)
theorem Keep2.one {st rm : Addr} {H H1 : Hp} (a : Keep st H H1) : Keep2 st rm H H1 := fun c o n _ e => a c o n e
theorem Keep2.two {st rm : Addr} {H : Hp} {o : HO} : Keep2 st rm H (L2.upd H rm o) := fun c u _ m e => by rw [upd_ne m]; exact e
theorem Keep2.same {st rm : Addr} {H H1 : Hp} (a : Same H H1) : Keep2 st rm H H1 := fun c o _ _ e => a c o e
theorem Keep2.free {st rm p : Addr} {H H' : Hp} {o1 o2 : HO} (k : Keep2 st rm H H') (h1 : H' st = some o1) (h2 : H' rm = some o2) (h : H' p = none) : H p = none := by
  cases e : H p with
  | none => rfl
  | some o =>
    by_cases z : p = st
    · rw [z, h1] at h; cases h
    · by_cases z2 : p = rm
      · rw [z2, h2] at h; cases h
      · rw [k p o z z2 e] at h; cases h
def spNodeL (K : PySem.W.Frag) (d : Nat) : Sp := fun vs H Q _ => ∃ st hd hs boxes rm r, vs = [.ref st, .ref hd, .int boxes, .int (11 - (d : Int)), .ref rm] ∧ 1 ≤ d ∧ d ≤ 10 ∧ boxes ≤ 12 ∧ Draw K H st ∧ HeadsAt H hd hs ∧ HdsGood hs ∧ H rm = some (.lst [.int (r : Nat)]) ∧ r ≤ 1000 ∧ rm ≠ hd ∧
  ∀ l zs (r' : Nat) H', Keep2 st rm H H' → Draw K H' st → H' rm = some (.lst [.int r']) → r' ≤ r → zs.length + 2 * r' ≤ 2 + 2 * r → H' l = some (.lst (zs.map V.int)) → H l = none → PN hs boxes d zs → Q (.ref l) H'
def spSheet (K : PySem.W.Frag) : Sp := fun vs H Q _ => ∃ st most, vs = [.ref st, .int most] ∧ 0 < most ∧ most ≤ 1000 ∧ Draw K H st ∧ ∀ l ns H', Drawn K st H H' → H' l = some (.lst (ns.map V.int)) → SheetOk ns → Q (.ref l) H'
/-! ### a comprehension over a tuple or a list -/
def CW (n : Nat) (Pv : Nat → St → Hp → Prop) (i m : Nat) (σ : St) (H : Hp) : Prop := i ≤ n ∧ m = n - i ∧ Pv i σ H
theorem CW.next {n : Nat} {Pv : Nat → St → Hp → Prop} {i : Nat} {σ : St} {H : Hp} (hi : i < n) (h : Pv (i + 1) σ H) : ∃ m', m' < n - i ∧ CW n Pv (i + 1) m' σ H := ⟨n - (i + 1), by omega, by omega, rfl, h⟩
theorem comp_tup {K : PySem.W.Frag} {a p : Addr} {xs : List V} {g : TG} {tt : TT} {te : TE} {R : Hp → Prop} {σ0 : St} {H0 : Hp} (Pv : Nat → St → Hp → Prop) (h0 : Pv 0 σ0 H0) (hl : ∀ i σ H, i ≤ xs.length → Pv i σ H → SqT K H a xs)
    (hs : ∀ i x σ H, i < xs.length → xs[i]? = some x → Pv i σ H → g x σ H fun σ3 H3 => tt σ3 H3 fun b H4 =>
      if b = true then te σ3 H4 fun v H5 => ∃ ys, H5 p = some (.lst ys) ∧ ys.length < sizeLine ∧ ∃ m', m' < xs.length - i ∧ CW xs.length Pv (i + 1) m' σ3 (upd H5 p (.lst (ys ++ [v])))
      else ∃ m', m' < xs.length - i ∧ CW xs.length Pv (i + 1) m' σ3 H4)
    (hd : ∀ σ H, Pv xs.length σ H → R H) : CompGo (Itt K a) p σ0 H0 g tt te R := by
  refine ⟨CW xs.length Pv, ⟨_, Nat.zero_le _, rfl, h0⟩, fun i m σ' H' w => ?_⟩
  obtain ⟨hi, rfl, hp⟩ := w
  have q := hl i σ' H' hi hp
  by_cases hlt : i < xs.length
  · refine .inr ⟨⟨xs, xs[i], q, by simp [hlt]⟩, fun x H2 y => ?_⟩
    obtain ⟨e, y⟩ := y
    subst e
    exact hs i x σ' _ hlt (y xs q) hp
  · have e : i = xs.length := by omega
    subst e
    exact .inl ⟨⟨xs, q, Nat.le_refl _⟩, hd σ' H' hp⟩
/-! ### what stands where in a sheet -/
def tableM : List Int := [0, 0, 1, 0, 0, 2, 0, 1, 2, 2, 2, 2, 2, 2, 2, 2, 2, 3, 1, 0]
end L2

set_option Elab.async false
set_option linter.all false
set_option maxRecDepth 100000
/-! OC 11: own exceptions and classes, read off the fragment -/
namespace L2
open PySem PySem.Spec PyProof.Rows PySem.W
theorem fn_false {P : Program} {w : World} {K : Frag} {mg : Str → Option Value} {base : Heap} {CX : CXT} {k : Nat} {f : Addr} {fd : FuncData} {ps : List Str} : FnOk P w K mg base CX k f fd ps (fun _ _ _ _ => False) :=
  ⟨fun _ _ _ _ z => z.elim, fun _ _ _ _ _ _ _ _ _ _ _ _ _ z => z.elim⟩
/-- parts of a text -/
def sAt (l : List Stmt) (k : Nat) : Stmt := l.getD k (.Pass ⟨0, 0, 0, 0⟩)
def inBody : Stmt → List Stmt
  | .For _ _ b _ _ => b
  | .While _ b _ _ => b
  | .If _ b _ _ => b
  | _ => []
def inElse : Stmt → List Stmt
  | .If _ _ e _ => e
  | _ => []
end L2

set_option Elab.async false
set_option linter.all false
set_option maxRecDepth 100000
/-! OC 12: reversed(..) of a tuple -/
namespace L2
open PySem PySem.Spec PyProof.Rows
namespace Rv
theorem owner : Manifest.owners.lookup (String.ofList ['d', 'e', 's', 'r', 'e', 'v', 'e', 'r'].reverse) = some Manifest.sig_reversed := by kernel_rfl
theorem slot_init : Slot "reversed" "__init__" "object.__init__" :=
  .of (owner := "object") (n := "__init__") (by rw [typeLookup_type, builtinLookup_eq_fast]; kernel_rfl) (by decide +kernel) (by decide +kernel) (by decide +kernel)
    (by first | exact .inl (by decide +kernel) | exact .inr (by decide +kernel)) (by rw [isSubtype_type]; kernel_rfl)
theorem called : TypeCalled "reversed" "reversed.__new__" "object.__init__" :=
  ⟨by decide +kernel, by decide +kernel, ⟨_, _, F.mro_reversed⟩, F.made_reversed, by decide +kernel, by rw [isSubtype_type]; kernel_rfl, slot_init⟩
end Rv
end L2

set_option Elab.async false
set_option linter.all false
set_option maxRecDepth 100000
/-! OC 13: reversed(..) of a tuple, walked -/
namespace L2
open PySem PySem.Spec PyProof.Rows
section
variable {prog : Program} {w : World} {A : Around} {E : Value → Shared → Prop} {s : Shared}
def revT (l : Addr) (i : Int) : Obj := { cls := .type "reversed", data := .fields #[.ref l, rawInt i] }
def IsRevT (h : Heap) (a l : Addr) (i : Int) : Prop := ∃ o, h.get? a = some o ∧ o.cls = .type "reversed" ∧ o.data = .fields #[.ref l, rawInt i]
theorem IsRevT.typeIs {a l : Addr} {i : Int} (x : IsRevT s.heap a l i) : s.TypeIs (.ref a) "reversed" := let ⟨o, ho, hc, _⟩ := x; ⟨o, ho, hc⟩
theorem IsRevT.at {h h' : Heap} {a l : Addr} {i : Int} (x : IsRevT h a l i) (e : ∀ o, h.get? a = some o → h'.get? a = some o) : IsRevT h' a l i := let ⟨o, ho, r⟩ := x; ⟨o, e _ ho, r⟩
end
/-- the tuple at a, of n items, from its end -/
def Itv (K : PySem.W.Frag) (a : Addr) (n : Nat) : It :=
  ⟨fun i H => ∃ xs x, SqT K H a xs ∧ xs.length = n ∧ xs.reverse[i]? = some x, fun i H x H' => H' = H ∧ ∀ xs, SqT K H a xs → xs.reverse[i]? = some x, fun i H => (∃ xs, SqT K H a xs ∧ xs.length = n) ∧ n ≤ i⟩
def iRev (K : PySem.W.Frag) (ta : TA) : TI := fun σ H R => ta σ H fun vs H1 => ∃ a xs, vs = [.ref a] ∧ SqT K H1 a xs ∧ R (Itv K a xs.length) H1
end L2

set_option Elab.async false
set_option linter.all false
set_option maxRecDepth 100000
/-! OC 14: the nodes of a node, in their order -/
namespace L2
open PySem
mutual
def pre : Nd → List Nd
  | .mk k p own ps => .mk k p own ps :: preL ps
def preL : List Nd → List Nd
  | [] => []
  | a :: r => pre a ++ preL r
end
theorem NodeAt.more {H : Hp} : ∀ {d : Nat} {v : V} {n : Nd}, NodeAt H d v n → NodeAt H (d + 1) v n
  | 0, _, _, z => z.elim
  | d + 1, v, .mk k p own ps, ⟨t, o, q, vs, e, h1, h2, h3, r⟩ => ⟨t, o, q, vs, e, h1, h2, h3, Paired.imp (fun _ _ z => NodeAt.more z) r⟩
theorem NodeAt.up {H : Hp} {d : Nat} {v : V} {n : Nd} (h : NodeAt H d v n) : ∀ {e : Nat}, d ≤ e → NodeAt H e v n := fun {e} le => by
  induction le with
  | refl => exact h
  | step _ ih => exact ih.more
def spNodesIn : Sp := fun vs H Q _ => ∃ v nd, vs = [v] ∧ NodeAt H 10 v nd ∧ (pre nd).length ≤ 1000000 ∧ ∀ l us H', Same H H' → H l = none → H' l = some (.lst us) → Paired (NodeAt H' 10) us (pre nd) → Q (.ref l) H'
def spNodes (CN : Addr) : Sp := fun vs H Q E => ∃ a ns, vs = [.ref a] ∧ H a = some (.lst (ns.map V.int)) ∧ ns.length ≤ 1000000 ∧
  Tells (functionsM ns) (fun r => ∀ l us H', Same H H' → H l = none → H' l = some (.lst us) → Paired (NodeAt H' 10) us (preL r.2) → Q (.ref l) H') (fun p w => ∀ d H', Same H H' → H' d = some (XdO d [("place", .int p), ("word", .str w)]) → E (.ref CN) (some d) H')
theorem Paired.append {α β : Type} {F : α → β → Prop} : ∀ {xs zs : List α} {ys ws : List β}, Paired F xs ys → Paired F zs ws → Paired F (xs ++ zs) (ys ++ ws)
  | _, _, _, _, .nil, q => q
  | _, _, _, _, .cons r t, q => .cons r (Paired.append t q)
theorem Paired.take {α β : Type} {F : α → β → Prop} : ∀ {xs : List α} {ys : List β} (n : Nat), Paired F xs ys → Paired F (xs.take n) (ys.take n)
  | _, _, 0, _ => by simp; exact .nil
  | _, _, n + 1, .nil => by simp; exact .nil
  | _, _, n + 1, .cons r t => by rw [List.take_succ_cons, List.take_succ_cons]; exact .cons r (Paired.take n t)
theorem Same.fresh {H H' : Hp} {p : Addr} {o : HO} (s : Same H H') (h : H p = none) : Same H (upd H' p o) := fun b u e => by rw [upd_ne (ne_of_none e h)]; exact s b u e
section
open PySem.Spec PyProof.Rows
variable {X : Cx} {e : Expr} {st : Option Expr} {te : TE} {ts : TO} {p2 pos : Pos}
/-- xs[::-1] of a list -/
def tRevL (K : PySem.W.Frag) (te : TE) (ts : TO) : TE := fun σ H Q => te σ H fun x H1 => ts σ H1 fun k H2 => k = some (-1) ∧ ∃ a xs, x = .ref a ∧ SqL K H2 a xs ∧ ∀ p, H2 p = none → Q (.ref p) (upd H2 p (.lst xs.reverse))
/-- xs != [] -/
def rNeNil (K : PySem.W.Frag) : R2 := fun x y H Q => ∃ a b xs, x = .ref a ∧ y = .ref b ∧ SqL K H a xs ∧ SqL K H b [] ∧ Q (.bl (!xs.isEmpty)) H
end
/-- the nodes stand in ns one behind the other, from p to z -/
def Cov (ns : List Int) : Nat → List Nd → Nat → Prop
  | p, [], z => p = z
  | p, .mk k q own _ :: r, z => q = p ∧ ns[p]? = some k ∧ Sub ns (p + 1) own ∧ Cov ns (p + 1 + own.length) r z
theorem Cov.append {ns : List Int} : ∀ {xs ys : List Nd} {p q z : Nat}, Cov ns p xs q → Cov ns q ys z → Cov ns p (xs ++ ys) z
  | [], _, _, _, _, h, h' => by cases h; exact h'
  | .mk k q own ps :: r, _, _, _, _, ⟨a, b, c, d⟩, h' => ⟨a, b, c, Cov.append d h'⟩
end L2

set_option Elab.async false
set_option linter.all false
set_option maxRecDepth 100000
/-! OC 15: a list gone through with a stack of what waits, instead of calls within calls -/
namespace L2
open PySem
/-- what waits: how deep it may still go, its function's boxes; the next one first -/
def stackM (ns : List Int) (hs : Hds) : List (Nat × Int) → Nat → Except Bad Nat
  | [], p => .ok p
  | x :: r, p => match nodeM ns hs x.2 x.1 p with
    | .error b => .error b
    | .ok a => stackM ns hs r a.2
/-- what wrong tells -/
def wrongM (ns : List Int) : Option Bad := match functionsM ns with
  | .error b => some b
  | .ok _ => none
/-- the bounds of a node's own number -/
def Lim (hs : Hds) (boxes k lo hi : Int) : Prop := (k = 1 ∨ k = 2) ∧ lo = 0 ∧ hi = boxes - 1 ∨ (k = 3 ∨ k = 4) ∧ lo = k - 2 ∧ hi = 12 ∨ ¬ (k = 1 ∨ k = 2 ∨ k = 3 ∨ k = 4) ∧ lo = 0 ∧ hi = (hs.length : Int) - 1
end L2

set_option Elab.async false
set_option linter.all false
set_option maxRecDepth 100000
/-! OC 16: range(a, b, -1) -/
namespace L2
open PySem PySem.Spec PyProof.Rows
/-- lo, lo - 1, .. (n of them) -/
def Itd (lo : Int) (n : Nat) : It := ⟨fun i _ => i < n, fun i H x H' => H' = H ∧ x = .int (lo - i), fun i _ => n ≤ i⟩
def iDown (ta : TA) : TI := fun σ H R => ta σ H fun vs H1 => ∃ i j : Int, vs = [.int i, .int j, .int (-1)] ∧ (-(2 ^ 62) ≤ i ∧ i < 2 ^ 62 ∧ -(2 ^ 62) ≤ j ∧ j < 2 ^ 62) ∧ R (Itd i (i - j).toNat) H1
end L2

set_option Elab.async false
set_option linter.all false
set_option maxRecDepth 100000
namespace L2
open PySem PySem.Spec PyProof.Rows

/-! ### lists of pairs as tables -/
section
variable {κ : Type} [DecidableEq κ]
def valV (kvs : List (κ × V)) (k : κ) : Option V := (kvs.find? fun kv => decide (kv.1 = k)).map (·.2)
/-- in its place, or at the end -/
def putK (kvs : List (κ × V)) (k : κ) (v : V) : List (κ × V) :=
  if (kvs.any fun kv => decide (kv.1 = k)) = true then kvs.map (fun kv => if kv.1 = k then (kv.1, v) else kv) else kvs ++ [(k, v)]
def dropK (kvs : List (κ × V)) (k : κ) : List (κ × V) := kvs.filter fun kv => decide (kv.1 ≠ k)

theorem valV_pos {p : κ × V} {r : List (κ × V)} {k : κ} (e : p.1 = k) : valV (p :: r) k = some p.2 := by simp [valV, List.find?_cons, e]
theorem valV_neg {p : κ × V} {r : List (κ × V)} {k : κ} (e : ¬ p.1 = k) : valV (p :: r) k = valV r k := by simp [valV, List.find?_cons, e]
theorem valV_any (k : κ) : ∀ kvs : List (κ × V), (kvs.any fun kv => decide (kv.1 = k)) = (valV kvs k).isSome
  | [] => rfl
  | p :: r => by
    rw [List.any_cons]
    by_cases e : p.1 = k
    · simp only [valV_pos e, decide_eq_true e, Bool.true_or, Option.isSome_some]
    · rw [valV_neg e, decide_eq_false e, Bool.false_or]; exact valV_any k r
theorem RelO.isSome_eq {o : Option V} {u : Option Value} (r : RelO o u) : o.isSome = u.isSome := by
  cases o with
  | none => cases u with
    | none => rfl
    | some _ => exact (show False from r).elim
  | some _ => cases u with
    | none => exact (show False from r).elim
    | some _ => rfl
theorem RelO.getD {o : Option V} {u : Option Value} {d : V} {d' : Value} (r : RelO o u) (rd : RelV d d') : RelV (o.getD d) (u.getD d') := by
  cases o with
  | none => cases u with
    | none => exact rd
    | some _ => exact (show False from r).elim
  | some _ => cases u with
    | none => exact (show False from r).elim
    | some _ => exact r

/-- raw tables of the same keys -/
theorem KV.val {kvs : List (κ × V)} {vs : List (κ × Value)} (r : KV kvs vs) (k : κ) : RelO (valV kvs k) (valueAt vs k) := by
  unfold KV at r
  induction r with
  | nil => exact True.intro
  | @cons p q ps qs h t ih =>
    obtain ⟨h1, h2⟩ := h
    by_cases e : p.1 = k
    · have e' : q.1 = k := h1.symm.trans e
      have b : valueAt (q :: qs) k = some q.2 := by simp [valueAt, List.find?_cons, e']
      rw [valV_pos e, b]; exact h2
    · have e' : ¬ q.1 = k := fun z => e (h1.trans z)
      have b : valueAt (q :: qs) k = valueAt qs k := by simp [valueAt, List.find?_cons, e']
      rw [valV_neg e, b]; exact ih
theorem KV.any {kvs : List (κ × V)} {vs : List (κ × Value)} (r : KV kvs vs) (k : κ) : (kvs.any fun kv => decide (kv.1 = k)) = vs.any fun kv => decide (kv.1 = k) := by
  unfold KV at r
  induction r with
  | nil => rfl
  | cons h t ih => rw [List.any_cons, List.any_cons, ih, h.1]
theorem KV.repl {kvs : List (κ × V)} {vs : List (κ × Value)} (r : KV kvs vs) (k : κ) {y : V} {u : Value} (ry : RelV y u) :
    KV (kvs.map fun kv => if kv.1 = k then (kv.1, y) else kv) (vs.map fun kv => if kv.1 = k then (kv.1, u) else kv) := by
  unfold KV at r ⊢
  induction r with
  | nil => exact .nil
  | @cons p q ps qs h t ih =>
    rw [List.map_cons, List.map_cons]
    refine .cons ?_ ih
    obtain ⟨h1, h2⟩ := h
    by_cases e : p.1 = k
    · rw [if_pos e, if_pos (h1.symm.trans e)]; exact ⟨h1, ry⟩
    · rw [if_neg e, if_neg (fun z => e (h1.trans z))]; exact ⟨h1, h2⟩
theorem KV.put {kvs : List (κ × V)} {vs : List (κ × Value)} (r : KV kvs vs) (k : κ) {y : V} {u : Value} (ry : RelV y u) : KV (putK kvs k y) (stored vs k u) := by
  unfold putK stored
  rw [r.any k]
  by_cases e : (vs.any fun kv => decide (kv.1 = k)) = true
  · rw [if_pos e, if_pos e]; exact r.repl k ry
  · rw [if_neg e, if_neg e]; exact Paired.snoc r ⟨rfl, ry⟩
theorem KV.drop {kvs : List (κ × V)} {vs : List (κ × Value)} (r : KV kvs vs) (k : κ) : KV (dropK kvs k) (without vs k) := by
  unfold KV at r ⊢
  unfold dropK without
  induction r with
  | nil => exact .nil
  | @cons p q ps qs h t ih =>
    obtain ⟨h1, h2⟩ := h
    rw [List.filter_cons, List.filter_cons]
    by_cases e : p.1 = k
    · have a : ¬ decide (p.1 ≠ k) = true := by simp [e]
      have b : ¬ decide (q.1 ≠ k) = true := by simp [h1.symm.trans e]
      rw [if_neg a, if_neg b]; exact ih
    · have e' : ¬ q.1 = k := fun z => e (h1.trans z)
      have a : decide (p.1 ≠ k) = true := by simp [e]
      have b : decide (q.1 ≠ k) = true := by simp [e']
      rw [if_pos a, if_pos b]; exact .cons ⟨h1, h2⟩ ih
theorem KV.keys {kvs : List (κ × V)} {vs : List (κ × Value)} (r : KV kvs vs) : kvs.map (·.1) = vs.map (·.1) := by
  unfold KV at r
  induction r with
  | nil => rfl
  | cons h t ih => rw [List.map_cons, List.map_cons, ih, h.1]
theorem KV.length {kvs : List (κ × V)} {vs : List (κ × Value)} (r : KV kvs vs) : kvs.length = vs.length := Paired.length r
end


/-! ### a tracked dict, its keys ints and texts or tuples of these -/
/-- raw entries of a dict with tuple keys -/
abbrev KT (H : Hp) : List (List Key × V) → List (List Key × Addr × Value) → Prop := Paired fun p q => p.1 = q.1 ∧ H q.2.1 = some (.tup (p.1.map kV)) ∧ RelV p.2 q.2.2
theorem KT.val {H : Hp} {kvs : List (List Key × V)} {xs : List (List Key × Addr × Value)} (r : KT H kvs xs) (k : List Key) : RelO (valV kvs k) ((atKey xs k).map (·.2)) := by
  induction r with
  | nil => exact True.intro
  | @cons p q ps qs h t ih =>
    obtain ⟨h1, _, h2⟩ := h
    by_cases e : p.1 = k
    · have e' : q.1 = k := h1.symm.trans e
      have b : atKey (q :: qs) k = some q.2 := by simp [atKey, List.find?_cons, e']
      rw [valV_pos e, b]; exact h2
    · have e' : ¬ q.1 = k := fun z => e (h1.trans z)
      have b : atKey (q :: qs) k = atKey qs k := by simp [atKey, List.find?_cons, e']
      rw [valV_neg e, b]; exact ih
theorem KT.repl {H : Hp} {kvs : List (List Key × V)} {xs : List (List Key × Addr × Value)} (r : KT H kvs xs) (k : List Key) {y : V} {u : Value} (ry : RelV y u) :
    KT H (kvs.map fun kv => if kv.1 = k then (kv.1, y) else kv) (xs.map (putAt k u)) := by
  induction r with
  | nil => exact .nil
  | @cons p q ps qs h t ih =>
    rw [List.map_cons, List.map_cons]
    refine .cons ?_ ih
    obtain ⟨h1, h2, h3⟩ := h
    unfold putAt
    by_cases e : p.1 = k
    · rw [if_pos e, if_pos (h1.symm.trans e)]; exact ⟨h1, h2, ry⟩
    · rw [if_neg e, if_neg (fun z => e (h1.trans z))]; exact ⟨h1, h2, h3⟩
theorem KT.put {H : Hp} {kvs : List (List Key × V)} {xs : List (List Key × Addr × Value)} (r : KT H kvs xs) (k : List Key) {b : Addr} {y : V} {u : Value} (hb : H b = some (.tup (k.map kV))) (ry : RelV y u) :
    KT H (putK kvs k y) (storedH xs k b u) := by
  have e : (kvs.any fun kv => decide (kv.1 = k)) = (atKey xs k).isSome := by
    rw [valV_any, (r.val k).isSome_eq, Option.isSome_map]
  unfold putK storedH
  rw [e]
  by_cases q : (atKey xs k).isSome = true
  · rw [if_pos q, if_pos q]; exact r.repl k ry
  · rw [if_neg q, if_neg q]; exact Paired.snoc r ⟨rfl, hb, ry⟩
theorem KT.keeps {H H' : Hp} {kvs : List (List Key × V)} {xs : List (List Key × Addr × Value)} (r : KT H kvs xs) (ht : ∀ b ys, H b = some (.tup ys) → H' b = some (.tup ys)) : KT H' kvs xs :=
  Paired.mapP r fun _ _ z => ⟨z.1, ht _ _ z.2.1, z.2.2⟩

section
variable {P : Program} {w : World} {H : Hp} {h : Heap} {a : Addr}
end

/-- what the dict at a holds at the key y -/
def DGet (H : Hp) (a : Addr) (y : V) (r : Option V) : Prop :=
  (∃ kvs k, Rd H a (.dK kvs) ∧ y = kV k ∧ r = valV kvs k) ∨ ∃ kvs k b, Rd H a (.dT kvs) ∧ y = .ref b ∧ H b = some (.tup (k.map kV)) ∧ r = valV kvs k
/-- the heap behind a[y] = v -/
def DPut (H : Hp) (a : Addr) (y v : V) (H' : Hp) : Prop :=
  (∃ kvs k, H a = some (.dK kvs) ∧ y = kV k ∧ kvs.length < sizeLine ∧ H' = upd H a (.dK (putK kvs k v))) ∨
  ∃ kvs k b, H a = some (.dT kvs) ∧ y = .ref b ∧ H b = some (.tup (k.map kV)) ∧ kvs.length < sizeLine ∧ H' = upd H a (.dT (putK kvs k v))
theorem DGet.k {H : Hp} {a : Addr} {kvs : List (Key × V)} {k : Key} (e : H a = some (.dK kvs)) : DGet H a (kV k) (valV kvs k) := .inl ⟨kvs, k, .inl e, rfl, rfl⟩
theorem DGet.t {H : Hp} {a b : Addr} {kvs : List (List Key × V)} {k : List Key} (e : H a = some (.dT kvs)) (eb : H b = some (.tup (k.map kV))) : DGet H a (.ref b) (valV kvs k) := .inr ⟨kvs, k, b, .inl e, rfl, eb, rfl⟩
theorem DPut.k {H : Hp} {a : Addr} {kvs : List (Key × V)} {k : Key} {v : V} (e : H a = some (.dK kvs)) (hl : kvs.length < sizeLine) : DPut H a (kV k) v (upd H a (.dK (putK kvs k v))) := .inl ⟨kvs, k, e, rfl, hl, rfl⟩
theorem DPut.t {H : Hp} {a b : Addr} {kvs : List (List Key × V)} {k : List Key} {v : V} (e : H a = some (.dT kvs)) (eb : H b = some (.tup (k.map kV))) (hl : kvs.length < sizeLine) :
    DPut H a (.ref b) v (upd H a (.dT (putK kvs k v))) := .inr ⟨kvs, k, b, e, rfl, eb, hl, rfl⟩


section
variable {X : Cx} {pins : List (Addr × Obj)} {σ : St} {H : Hp} {s : Shared} {a : Addr} {y v : V} {u r : Value} {o : Option V} {A : Around} {E : Value → Shared → Prop}

theorem Inv.big (I : Inv X pins σ H s) : sysModules < s.heap.objs.size := by
  have h : mainGlobals < s.heap.objs.size := (I.mod.glob.keeps I.bk).lt
  exact Nat.lt_trans (by decide) h

end

section
variable {X : Cx} {pins : List (Addr × Obj)} {σ : St} {H : Hp} {s : Shared} {a : Addr} {kvs : List (Key × V)} {k : Key} {u : Value} {A : Around} {E : Value → Shared → Prop}
end


/-! ### readings and rules -/
/-- the element of a subscription, not a slice -/
def NoSl (i : Expr) : Prop := ∀ ov iv, subscripted i false ov iv = operate [ov, iv] (getItem ov iv)
/-- d[y] -/
def tDGet (td ty : TE) : TE := fun σ H Q => td σ H fun x H1 => ty σ H1 fun y H2 => ∃ a v, x = .ref a ∧ DGet H2 a y (some v) ∧ Q v H2
/-- y in d, y not in d -/
def tDIn (ty td : TE) : TE := fun σ H Q => ty σ H fun y H1 => td σ H1 fun x H2 => ∃ a o, x = .ref a ∧ DGet H2 a y o ∧ Q (.bl o.isSome) H2
def tDNotIn (ty td : TE) : TE := fun σ H Q => ty σ H fun y H1 => td σ H1 fun x H2 => ∃ a o, x = .ref a ∧ DGet H2 a y o ∧ Q (.bl (!o.isSome)) H2
/-- d[y] = v -/
def sDPut (td ty tv : TE) : TS := fun D σ H => tv σ H fun v H1 => td σ H1 fun x H2 => ty σ H2 fun y H3 => ∃ a H4, x = .ref a ∧ DPut H3 a y v H4 ∧ D.nx σ H4
/-- d[y] op= v -/
def sDAug (td ty tv : TE) (rd : V → V → Hp → VK → Prop) : TS := fun D σ H => td σ H fun x H1 => ty σ H1 fun y H2 => ∃ a v, x = .ref a ∧ DGet H2 a y (some v) ∧
  tv σ H2 fun y2 H3 => rd v y2 H3 fun z H4 => ∃ H5, DPut H4 a y z H5 ∧ D.nx σ H5
/-- del d[y] -/
def sDDel (td ty : TE) : TS := fun D σ H => td σ H fun x H1 => ty σ H1 fun y H2 => ∃ a kvs k, x = .ref a ∧ H2 a = some (.dK kvs) ∧ y = kV k ∧ (valV kvs k).isSome = true ∧ D.nx σ (upd H2 a (.dK (dropK kvs k)))

section
variable {X : Cx} {o i e value : Expr} {pos pos' tpos : Pos} {td ty tv : TE}
end


/-! ### displays -/
/-- {}, to be a dict of the kind that is wanted -/
def tDNewK : TE := fun _ H Q => ∀ p, H p = none → Q (.ref p) (upd H p (.dK []))
def tDNewT : TE := fun _ H Q => ∀ p, H p = none → Q (.ref p) (upd H p (.dT []))
section
variable {X : Cx} {pos : Pos}
end

/-- the pairs of a display, from the left -/
def tPairs : List (TE × TE) → St → Hp → (List (V × V) → Hp → Prop) → Prop
  | [], _, H, Q => Q [] H
  | (tk, tv) :: r, σ, H, Q => tk σ H fun x H1 => tv σ H1 fun y H2 => tPairs r σ H2 fun ps H3 => Q ((x, y) :: ps) H3
abbrev VV : List (V × V) → List (Value × Value) → Prop := Paired fun p q => RelV p.1 q.1 ∧ RelV p.2 q.2
def PPs (X : Cx) (pos : Pos) (keys : List (Option Expr)) (values : List Expr) (trs : List (TE × TE)) : Prop :=
  ∀ (pins : List (Addr × Obj)) (s : Shared) (σ : St) (H : Hp) (Q : List (V × V) → Hp → Prop), Inv X pins σ H s → tPairs trs σ H Q →
    wpAny (model X.prog X.w) X.A (evalPairs (pairTrees keys values X.env pos)) (fun vs s' => ∃ ps H', Inv X pins σ H' s' ∧ VV ps vs ∧ Q ps H') X.xe s
def mergeK (kvs more : List (Key × V)) : List (Key × V) := more.foldl (fun acc kv => putK acc kv.1 kv.2) kvs
/-- {k: v, ..} with keys ints and texts; the new dict stands empty while the pairs are made -/
def tDisp (trs : List (TE × TE)) : TE := fun σ H Q => ∀ p, H p = none → tPairs trs σ (upd H p (.dK [])) fun ps H2 => H2 p = some (.dK []) ∧ ∃ kvs : List (Key × V), ps = kvs.map (fun kv => (kV kv.1, kv.2)) ∧ kvs.length ≤ 15 ∧ Q (.ref p) (upd H2 p (.dK (mergeK [] kvs)))
/-! ### methods -/
/-- a method call o.m(e) of a built-in, with one argument: what must be seen of the text -/
structure M1 (X : Cx) (o : Expr) (m : Str) (apos : Pos) (e : Expr) (cpos : Pos) : Prop where
  base : attributeBase o m X.env (eval o X.env) = eval o X.env
  few : ((backTo cpos (starEach [e] X.env)).all (fun x => !x.1) && (backToKw cpos (keywordEach [] X.env)).all (fun x => x.1.isSome)
    && decide (([e] : List Expr).length + ([] : List Keyword).length + (if ([] : List Keyword).isEmpty then 0 else 1) < 30)) = true
  line : (apos.endLine == cpos.line) = true
  trees : backTo cpos (starEach [e] X.env) = [(false, eval e X.env)]
structure M2 (X : Cx) (o : Expr) (m : Str) (apos : Pos) (e f : Expr) (cpos : Pos) : Prop where
  base : attributeBase o m X.env (eval o X.env) = eval o X.env
  few : ((backTo cpos (starEach [e, f] X.env)).all (fun x => !x.1) && (backToKw cpos (keywordEach [] X.env)).all (fun x => x.1.isSome)
    && decide (([e, f] : List Expr).length + ([] : List Keyword).length + (if ([] : List Keyword).isEmpty then 0 else 1) < 30)) = true
  line : (apos.endLine == cpos.line) = true
  trees : backTo cpos (starEach [e, f] X.env) = [(false, eval e X.env), (false, eval f X.env)]

/-- a is a dict, whatever its keys -/
def IsD (H : Hp) (a : Addr) : Prop := (∃ kvs, Rd H a (.dK kvs)) ∨ ∃ kvs, Rd H a (.dT kvs)
section
variable {X : Cx} {pins : List (Addr × Obj)} {σ : St} {H : Hp} {s : Shared} {a : Addr} {y d : V} {u r : Value} {o : Option V} {A : Around} {E : Value → Shared → Prop}
end

def tDGet1 (td ty : TE) : TE := fun σ H Q => td σ H fun x H1 => ∃ a, x = .ref a ∧ IsD H1 a ∧ ty σ H1 fun y H2 => ∃ o, DGet H2 a y o ∧ Q (o.getD .non) H2
def tDGet2 (td ty tx : TE) : TE := fun σ H Q => td σ H fun x H1 => ∃ a, x = .ref a ∧ IsD H1 a ∧ ty σ H1 fun y H2 => tx σ H2 fun z H3 => ∃ o, DGet H3 a y o ∧ Q (o.getD z) H3
/-- d.pop(k): there; d.pop(k, x): there or not -/
def tDPop1 (td ty : TE) : TE := fun σ H Q => td σ H fun x H1 => ∃ a, x = .ref a ∧ IsD H1 a ∧ ty σ H1 fun y H2 => ∃ kvs k v, H2 a = some (.dK kvs) ∧ y = kV k ∧ valV kvs k = some v ∧ Q v (upd H2 a (.dK (dropK kvs k)))
def tDPop2 (td ty tx : TE) : TE := fun σ H Q => td σ H fun x H1 => ∃ a, x = .ref a ∧ IsD H1 a ∧ ty σ H1 fun y H2 => tx σ H2 fun z H3 => ∃ kvs k, H3 a = some (.dK kvs) ∧ y = kV k ∧
  (∀ v, valV kvs k = some v → Q v (upd H3 a (.dK (dropK kvs k)))) ∧ (valV kvs k = none → Q z H3)
section
variable {X : Cx} {o e f : Expr} {apos cpos : Pos} {td ty tx : TE}
end

/-! ### dict(d): a copy -/
section
variable {X : Cx} {pins : List (Addr × Obj)} {σ : St} {H : Hp} {s : Shared} {a : Addr} {kvs : List (Key × V)} {A : Around} {E : Value → Shared → Prop}
end


section
variable {X : Cx} {pins : List (Addr × Obj)} {σ : St} {H : Hp} {s : Shared} {a : Addr} {y : V} {u : Value} {A : Around} {E : Value → Shared → Prop}
end
end L2
namespace L2
open PySem PySem.Spec PyProof.Rows
section
variable {X : Cx}
end
end L2

set_option Elab.async false
set_option linter.all false
set_option maxRecDepth 100000
/-! OC: a drawing state that is a dict; products and quotients of great numbers -/
namespace L2
open PySem PySem.Spec PyProof.Rows
section
variable {X : Cx}
def CMulB (i j : Int) : Prop := i.natAbs < 2 ^ 2000 ∧ j.natAbs < 2 ^ 2000
theorem op_mulB : OpR X (binaryOp .Mult) (rI CMulB fun i j => .int (i * j)) := opI fun i j _ _ _ _ _ hc q => by
  refine mul_int q ?_
  exact IntMulOk.of_le (PyProof.Rows.intBits_le hc.1) (PyProof.Rows.intBits_le hc.2) (by decide)
def CDivZ (i j : Int) : Prop := j ≠ 0 ∧ j.natAbs < 2 ^ 2000
theorem op_fdivZ : OpR X (binaryOp .FloorDiv) (rI CDivZ fun i j => .int (i.fdiv j)) := opI fun i j _ _ _ _ _ hc q => by
  have h : j.natAbs.log2 < 2000 := (Nat.log2_lt (by have := hc.1; omega)).mpr hc.2
  exact floordiv_int hc.1 q (.inl (PyProof.noPylong_of_log2 (by omega)))
end
/-- the state's dict -/
abbrev stD (a : Addr) (k c : Int) : List (Key × V) := [(.inr "script", .ref a), (.inr "at", .int k), (.inr "left", .int c)]
theorem Scr.keepD {K : PySem.W.Frag} {H H' : Hp} {a st : Addr} {ns : List Int} {xs : List (Key × V)} (h : Scr K H a ns) (hst : H st = some (.dK xs)) (k : Keep st H H') : Scr K H' a ns := by
  rcases h with ⟨o, h⟩ | h
  · exact .inl ⟨o, k a _ (fun z => by rw [z, hst] at h; cases h) h⟩
  · exact .inr h
/-- a state that draws: the script, how many cells were taken, what is left of a great one -/
def DrawD (K : PySem.W.Frag) (H : Hp) (st : Addr) : Prop := ∃ a ns k c, H st = some (.dK (stD a k c)) ∧ Scr K H a ns ∧ ns.length ≤ 63 ∧ 0 ≤ k ∧ 0 ≤ c
structure DrawnD (K : PySem.W.Frag) (st : Addr) (H H' : Hp) : Prop where
  draw : DrawD K H' st
  keep : Keep st H H'
theorem DrawnD.trans {K : PySem.W.Frag} {st : Addr} {H H1 H2 : Hp} (a : DrawnD K st H H1) (b : DrawnD K st H1 H2) : DrawnD K st H H2 := ⟨b.draw, a.keep.trans b.keep⟩
theorem DrawD.refl {K : PySem.W.Frag} {st : Addr} {H : Hp} (d : DrawD K H st) : DrawnD K st H H := ⟨d, Keep.refl st H⟩
theorem DrawD.ne {K : PySem.W.Frag} {st b : Addr} {H : Hp} (d : DrawD K H st) (h : H b = none) : st ≠ b := by
  obtain ⟨a, ns, k, c, e, _⟩ := d
  exact ne_of_none e h
theorem DrawD.same {K : PySem.W.Frag} {st : Addr} {H H' : Hp} (d : DrawD K H st) (h : Same H H') : DrawD K H' st := by
  obtain ⟨a, ns, k, c, e, s, r⟩ := d
  exact ⟨a, ns, k, c, h _ _ e, s.keepD e (Keep.same h), r⟩
theorem DrawD.drawn {K : PySem.W.Frag} {st : Addr} {H H' : Hp} (d : DrawD K H st) (h : Same H H') : DrawnD K st H H' := ⟨d.same h, Keep.same h⟩
/-- a new object laid -/
theorem DrawD.new {K : PySem.W.Frag} {st p : Addr} {H : Hp} (d : DrawD K H st) (h : H p = none) (o : HO) : DrawnD K st H (upd H p o) := d.drawn (same_new h o)
/-- another list written -/
theorem DrawD.put {K : PySem.W.Frag} {st p : Addr} {H : Hp} {xs ys : List V} (d : DrawD K H st) (hp : H p = some (.lst xs)) : DrawD K (upd H p (.lst ys)) st := by
  obtain ⟨a, ns, k, c, e, s, r⟩ := d
  refine ⟨a, ns, k, c, (by rw [upd_ne (fun z => by rw [z, hp] at e; cases e)]; exact e), ?_, r⟩
  rcases s with ⟨o, s⟩ | s
  · exact .inl ⟨o, by rw [upd_ne (fun z => by rw [z, hp] at s; cases s)]; exact s⟩
  · exact .inr s
/-- what the defs that draw promise -/
def spBegin (K : PySem.W.Frag) : Sp := fun vs H Q _ => ∃ (a : Addr) (ns : List Int), vs = [.ref a] ∧ Scr K H a ns ∧ ns.length ≤ 63 ∧ ∀ st H', H st = none → Same H H' → DrawD K H' st → Q (.ref st) H'
def spTakeD (K : PySem.W.Frag) : Sp := fun vs H Q _ => ∃ (st : Addr) (many : Int), vs = [.ref st, .int many] ∧ 0 < many ∧ many < 1073741824 ∧ DrawD K H st ∧ ∀ (r : Int) (H' : Hp), 0 ≤ r → r < many → DrawnD K st H H' → Q (.int r) H'
/-- a def of the state alone that draws a number within bounds -/
def spIntD (K : PySem.W.Frag) (B : Int → Prop) : Sp := fun vs H Q _ => ∃ (st : Addr), vs = [.ref st] ∧ DrawD K H st ∧ ∀ (r : Int) (H' : Hp), B r → DrawnD K st H H' → Q (.int r) H'
theorem inV_ints (k : Int) : ∀ ns : List Int, inV (.int k) (ns.map V.int) = decide (k ∈ ns)
  | [] => rfl
  | n :: r => by
    have ih := inV_ints k r
    unfold inV at ih ⊢
    rw [List.map_cons, List.any_cons, ih]
    by_cases h : n = k
    · subst h; simp [eqV]
    · have h2 : ¬ k = n := fun z => h z.symm
      simp [eqV, h, h2]
theorem vt {a b : Int} (c : decide (V.int a = V.int b) = true) : a = b := by
  have := of_decide_eq_true c
  injection this
theorem vf {a b : Int} (c : ¬ decide (V.int a = V.int b) = true) : a ≠ b := fun e => c (decide_eq_true (by rw [e]))
theorem df {c : Prop} [Decidable c] (h : ¬ decide c = true) : ¬ c := of_decide_eq_false (Bool.eq_false_iff.mpr h)
theorem atI_mem {ns : List Int} {k : Int} (h0 : 0 ≤ k) (h : k < (ns.length : Int)) : ∃ v : Int, v ∈ ns ∧ atI (ns.map V.int) k = some (.int v) := by
  have hk : k.toNat < ns.length := by omega
  have q : atI (ns.map V.int) ((k.toNat : Nat) : Int) = some (.int ns[k.toNat]) := atI_nat (by rw [List.getElem?_map, List.getElem?_eq_getElem hk] <;> rfl)
  rw [show ((k.toNat : Nat) : Int) = k by omega] at q
  exact ⟨_, List.getElem_mem hk, q⟩
end L2

set_option Elab.async false
set_option linter.all false
set_option maxRecDepth 100000
/-! OC: trees of nodes whatever their places; the numbers that they write -/
namespace L2
open PySem PySem.Spec PyProof.Rows
inductive Tr where
  | mk (kind : Int) (own : List Int) (parts : List Tr)
mutual
def preT : Tr → List Tr
  | .mk k own ps => .mk k own ps :: preTs ps
def preTs : List Tr → List Tr
  | [] => []
  | a :: r => preT a ++ preTs r
end
mutual
def nums : Tr → List Int
  | .mk k own ps => k :: (own ++ numsL ps)
def numsL : List Tr → List Int
  | [] => []
  | a :: r => nums a ++ numsL r
end
def headN : Tr → List Int
  | .mk k own _ => k :: own
mutual
theorem nums_pre : ∀ t : Tr, (preT t).flatMap headN = nums t
  | .mk k own ps => by
    rw [preT, List.flatMap_cons, nums_preL ps, nums]; rfl
theorem nums_preL : ∀ ts : List Tr, (preTs ts).flatMap headN = numsL ts
  | [] => by simp [preTs, numsL]
  | a :: r => by rw [preTs, List.flatMap_append, nums_pre a, nums_preL r, numsL]
end
mutual
theorem pre_nums : ∀ t : Tr, (preT t).length ≤ (nums t).length
  | .mk k own ps => by
    have := pre_numsL ps
    simp [preT, nums]; omega
theorem pre_numsL : ∀ ts : List Tr, (preTs ts).length ≤ (numsL ts).length
  | [] => by simp [preTs, numsL]
  | a :: r => by
    have := pre_nums a
    have := pre_numsL r
    simp [preTs, numsL]; omega
end
/-- a node at the heap, at most d deep, whatever its places -/
def TrAt (H : Hp) : Nat → V → Tr → Prop
  | 0, _, _ => False
  | d + 1, v, .mk k own ps => ∃ t pl o q vs, v = .ref t ∧ H t = some (.tup [.int k, .int pl, .ref o, .ref q]) ∧ H o = some (.tup (own.map V.int)) ∧ H q = some (.tup vs) ∧ Paired (TrAt H d) vs ps
theorem TrAt.tups {H H' : Hp} (h : Tups H H') : ∀ {d : Nat} {v : V} {n : Tr}, TrAt H d v n → TrAt H' d v n
  | 0, _, _, z => z.elim
  | d + 1, v, .mk k own ps, ⟨t, pl, o, q, vs, e, h1, h2, h3, r⟩ => ⟨t, pl, o, q, vs, e, h _ _ h1, h _ _ h2, h _ _ h3, Paired.imp (fun _ _ z => TrAt.tups h z) r⟩
theorem TrAt.more {H : Hp} : ∀ {d : Nat} {v : V} {n : Tr}, TrAt H d v n → TrAt H (d + 1) v n
  | 0, _, _, z => z.elim
  | d + 1, v, .mk k own ps, ⟨t, pl, o, q, vs, e, h1, h2, h3, r⟩ => ⟨t, pl, o, q, vs, e, h1, h2, h3, Paired.imp (fun _ _ z => TrAt.more z) r⟩
theorem TrAt.up {H : Hp} {d : Nat} {v : V} {n : Tr} (h : TrAt H d v n) : ∀ {e : Nat}, d ≤ e → TrAt H e v n := fun {e} le => by
  induction le with
  | refl => exact h
  | step _ ih => exact ih.more
/-- a thing is like itself -/
theorem TrAt.refl {K : PySem.W.Frag} {H : Hp} : ∀ {d : Nat} {v : V} {n : Tr}, TrAt H d v n → EqD K H (2 * d) v v
  | 0, _, _, z => z.elim
  | d + 1, v, .mk k own ps, ⟨t, pl, o, q, vs, e, h1, h2, h3, r⟩ =>
    .inr ⟨t, t, _, _, e, e, .inr ⟨.of h1, .of h1⟩, .cons (EqD.flat rfl _) (.cons (EqD.flat rfl _) (.cons (.inr ⟨o, o, _, _, rfl, rfl, .inr ⟨.of h2, .of h2⟩, EqD.intsN own⟩)
      (.cons (.inr ⟨q, q, _, _, rfl, rfl, .inr ⟨.of h3, .of h3⟩, pair_all (F := TrAt H d) (G := TrAt H d) (R := fun x y => x = y → EqD K H (2 * d) x y) (fun x y z a _ e => by subst e; exact TrAt.refl a) r r |> fun p => by
        have diag : ∀ {xs : List V}, Paired (fun x y => x = y → EqD K H (2 * d) x y) xs xs → Paired (EqD K H (2 * d)) xs xs := by
          intro xs p
          induction xs with
          | nil => exact .nil
          | cons a t ih => cases p with
            | cons h u => exact .cons (h rfl) (ih u)
        exact diag p⟩) .nil)))⟩
mutual
def bare : Nd → Tr
  | .mk k _ own ps => .mk k own (bareL ps)
def bareL : List Nd → List Tr
  | [] => []
  | a :: r => bare a :: bareL r
end
theorem NodeAt.bare {H : Hp} : ∀ {d : Nat} {v : V} {n : Nd}, NodeAt H d v n → TrAt H d v (L2.bare n)
  | 0, _, _, z => z.elim
  | d + 1, v, .mk k p own ps, ⟨t, o, q, vs, e, h1, h2, h3, r⟩ => by
    refine ⟨t, p, o, q, vs, e, h1, h2, h3, ?_⟩
    have go : ∀ {xs : List V} {ys : List Nd}, Paired (NodeAt H d) xs ys → Paired (TrAt H d) xs (bareL ys) := by
      intro xs ys p
      induction p with
      | nil => exact .nil
      | cons h t ih => exact .cons (NodeAt.bare h) ih
    exact go r
/-! ### functions -/
abbrev Fn := (Int × Int) × Tr
def FTAt (H : Hp) (d : Nat) (v : V) (f : Fn) : Prop := ∃ t b, v = .ref t ∧ H t = some (.tup [.int f.1.1, .int f.1.2, b]) ∧ TrAt H d b f.2
theorem FTAt.tups {H H' : Hp} (h : Tups H H') {d : Nat} {v : V} {n : Fn} : FTAt H d v n → FTAt H' d v n := fun ⟨t, b, e, q, z⟩ => ⟨t, b, e, h _ _ q, z.tups h⟩
theorem FTAt.up {H : Hp} {d e : Nat} (le : d ≤ e) {v : V} {n : Fn} : FTAt H d v n → FTAt H e v n := fun ⟨t, b, e, q, z⟩ => ⟨t, b, e, q, z.up le⟩
theorem FTAt.refl {K : PySem.W.Frag} {H : Hp} {d : Nat} {v : V} {n : Fn} : FTAt H d v n → EqD K H (2 * d + 1) v v := fun ⟨t, b, e, q, z⟩ =>
  .inr ⟨t, t, _, _, e, e, .inr ⟨.of q, .of q⟩, .cons (EqD.flat rfl _) (.cons (EqD.flat rfl _) (.cons z.refl .nil))⟩
theorem FTAt.same {K : PySem.W.Frag} {H : Hp} {d : Nat} : ∀ {vs : List V} {fs : List Fn}, Paired (FTAt H d) vs fs → Paired (EqD K H (2 * d + 1)) vs vs
  | _, _, .nil => .nil
  | _, _, .cons h t => .cons h.refl (FTAt.same t)
def headsW (fs : List Fn) : List Int := fs.flatMap fun f => [f.1.1, f.1.2]
def bodiesW (fs : List Fn) : List Int := fs.flatMap fun f => nums f.2
/-- what functions write -/
def wr (fs : List Fn) : List Int := (fs.length : Int) :: (headsW fs ++ bodiesW fs)
/-! ### extend with a tuple -/
section

end
section
variable {X : Cx}
def rExtendT : V → List V → Hp → VK → Prop := fun x vs H Q => ∃ l b xs zs, x = .ref l ∧ vs = [.ref b] ∧ H l = some (.lst xs) ∧ H b = some (.tup zs) ∧ xs.length + zs.length ≤ sizeLine ∧ Q .non (upd H l (.lst (xs ++ zs)))
end
/-! ### a sheet is what its functions write -/
/-- functions, their places left out -/
def fnsOf (r : Hds × List Nd) : List Fn := r.1.zip (bareL r.2)
/-! ### an all and a pick have their number -/
mutual
def okT : Tr → Prop
  | .mk k own ps => (k = 3 ∨ k = 4 → own ≠ []) ∧ okTs ps
def okTs : List Tr → Prop
  | [] => True
  | a :: r => okT a ∧ okTs r
end
def okF (fs : List Fn) : Prop := ∀ f ∈ fs, okT f.2
end L2

set_option Elab.async false
set_option linter.all false
set_option maxRecDepth 100000
/-! OC: rows (a list of lists of ints), and what the kinds from add to new do -/
namespace L2
open PySem PySem.Spec PyProof.Rows
structure RowsAt (H : Hp) (rp : Addr) (rs : List Addr) (rows : List (List Int)) : Prop where
  here : H rp = some (.lst (rs.map V.ref))
  nd : rs.Nodup
  len : rs.length = rows.length
  row : ∀ (n : Nat) (r : Addr) (xs : List Int), rs[n]? = some r → rows[n]? = some xs → H r = some (.lst (xs.map V.int))
theorem RowsAt.is {H : Hp} {rp : Addr} {rs : List Addr} {rows : List (List Int)} (h : RowsAt H rp rs rows) {n : Nat} {r : Addr} (e : rs[n]? = some r) : ∃ xs, rows[n]? = some xs ∧ H r = some (.lst (xs.map V.int)) := by
  have hn : n < rs.length := (List.getElem?_eq_some_iff.mp e).1
  exact ⟨_, List.getElem?_eq_getElem (by rw [← h.len]; exact hn), h.row n r _ e (List.getElem?_eq_getElem (by rw [← h.len]; exact hn))⟩
theorem RowsAt.mem {H : Hp} {rp : Addr} {rs : List Addr} {rows : List (List Int)} (h : RowsAt H rp rs rows) {r : Addr} (e : r ∈ rs) : ∃ xs : List Int, H r = some (.lst (xs.map V.int)) := by
  obtain ⟨n, hn⟩ := List.mem_iff_getElem?.mp e
  obtain ⟨xs, _, q⟩ := h.is hn
  exact ⟨xs, q⟩
theorem RowsAt.out {H : Hp} {rp : Addr} {rs : List Addr} {rows : List (List Int)} (h : RowsAt H rp rs rows) : rp ∉ rs := by
  intro e
  obtain ⟨xs, q⟩ := h.mem e
  rw [h.here] at q
  injection q with q
  injection q with q
  cases rs with
  | nil => cases e
  | cons a t =>
    cases xs with
    | nil => cases q
    | cons x u => rw [List.map_cons, List.map_cons] at q; injection q with q _; cases q
/-- all but some addresses is as it was -/
def KeepL (as : List Addr) (H H' : Hp) : Prop := ∀ b o, b ∉ as → H b = some o → H' b = some o
theorem KeepL.same {as : List Addr} {H H' : Hp} (h : Same H H') : KeepL as H H' := fun b o _ e => h b o e
theorem KeepL.refl (as : List Addr) (H : Hp) : KeepL as H H := fun _ _ _ e => e
theorem KeepL.trans {as : List Addr} {H H1 H2 : Hp} (a : KeepL as H H1) (b : KeepL as H1 H2) : KeepL as H H2 := fun c o n e => b c o n (a c o n e)
theorem KeepL.upd {as : List Addr} {H : Hp} {a : Addr} {o : HO} (h : a ∈ as) : KeepL as H (upd H a o) := fun c u n e => by
  have z : c ≠ a := fun z => n (by rw [z]; exact h)
  rw [upd_ne z]; exact e
theorem RowsAt.keep {H H' : Hp} {rp : Addr} {rs : List Addr} {rows : List (List Int)} (h : RowsAt H rp rs rows) (k : ∀ b o, b ∈ rp :: rs → H b = some o → H' b = some o) : RowsAt H' rp rs rows :=
  ⟨k _ _ (List.mem_cons_self ..) h.here, h.nd, h.len, fun n r xs e q => k _ _ (List.mem_cons_of_mem _ (List.mem_iff_getElem?.mpr ⟨n, e⟩)) (h.row n r xs e q)⟩
theorem RowsAt.same {H H' : Hp} {rp : Addr} {rs : List Addr} {rows : List (List Int)} (h : RowsAt H rp rs rows) (k : Same H H') : RowsAt H' rp rs rows := h.keep fun b o _ e => k b o e
theorem RowsAt.set {H : Hp} {rp r : Addr} {rs : List Addr} {rows : List (List Int)} {n : Nat} (h : RowsAt H rp rs rows) (e : rs[n]? = some r) (ys : List Int) : RowsAt (upd H r (.lst (ys.map V.int))) rp rs (rows.set n ys) := by
  have hm : r ∈ rs := List.mem_iff_getElem?.mpr ⟨n, e⟩
  have hp : rp ≠ r := fun z => h.out (by rw [z]; exact hm)
  refine ⟨by rw [upd_ne hp]; exact h.here, h.nd, by rw [List.length_set]; exact h.len, fun m q xs em ex => ?_⟩
  by_cases hmn : m = n
  · subst hmn
    rw [e] at em
    cases em
    have hl : m < rows.length := by rw [← h.len]; exact (List.getElem?_eq_some_iff.mp e).1
    rw [List.getElem?_set_self hl] at ex
    cases ex
    exact upd_same
  · rw [List.getElem?_set_ne (Ne.symm hmn)] at ex
    have hq : q ≠ r := by
      intro z
      subst z
      have h1 := (List.getElem?_eq_some_iff.mp em)
      have h2 := (List.getElem?_eq_some_iff.mp e)
      obtain ⟨l1, g1⟩ := h1
      obtain ⟨l2, g2⟩ := h2
      exact hmn ((List.getElem_inj h.nd).mp (g1.trans g2.symm))
    rw [upd_ne hq]
    exact h.row m q xs em ex
theorem RowsAt.push {H : Hp} {rp q : Addr} {rs : List Addr} {rows : List (List Int)} (h : RowsAt H rp rs rows) (hq : H q = none) :
    RowsAt (upd (upd H q (.lst [])) rp (.lst ((rs ++ [q]).map V.ref))) rp (rs ++ [q]) (rows ++ [[]]) := by
  have hnr : q ∉ rs := fun e => by
    obtain ⟨xs, z⟩ := h.mem e
    rw [hq] at z; cases z
  have hnp : q ≠ rp := fun e => by
    have := h.here
    rw [← e, hq] at this; cases this
  refine ⟨upd_same, ?_, by rw [List.length_append, List.length_append, h.len] <;> rfl, fun n r xs e ex => ?_⟩
  · rw [List.nodup_append]
    exact ⟨h.nd, List.nodup_cons.mpr ⟨List.not_mem_nil, List.nodup_nil⟩, fun a ha b hb => by rw [List.mem_singleton] at hb; rw [hb]; exact fun z => hnr (z ▸ ha)⟩
  · by_cases hn : n < rs.length
    · rw [List.getElem?_append_left hn] at e
      rw [List.getElem?_append_left (by rw [← h.len]; exact hn)] at ex
      have hm : r ∈ rs := List.mem_iff_getElem?.mpr ⟨n, e⟩
      have z1 : r ≠ rp := fun z => h.out (by rw [← z]; exact hm)
      have z2 : r ≠ q := fun z => hnr (by rw [← z]; exact hm)
      rw [upd_ne z1, upd_ne z2]
      exact h.row n r xs e ex
    · have hl : n < (rs ++ [q]).length := (List.getElem?_eq_some_iff.mp e).1
      rw [List.length_append, List.length_singleton] at hl
      have hn' : n = rs.length := by omega
      subst hn'
      rw [List.getElem?_append_right (Nat.le_refl _), Nat.sub_self] at e
      rw [List.getElem?_append_right (by rw [h.len] <;> exact Nat.le_refl _), h.len, Nat.sub_self] at ex
      cases e; cases ex
      rw [upd_ne hnp]
      exact upd_same
/-- rows alike -/
theorem RowsAt.eq {K : PySem.W.Frag} {H : Hp} {a b : Addr} {ra rb : List Addr} {rows : List (List Int)} (h : RowsAt H a ra rows) (g : RowsAt H b rb rows) : Paired (EqD K H 1) (ra.map V.ref) (rb.map V.ref) := by
  have l1 := h.len
  have r1 := h.row
  have l2 := g.len
  have r2 := g.row
  clear h g
  induction rows generalizing ra rb with
  | nil =>
    cases ra with
    | nil => cases rb with
      | nil => exact .nil
      | cons _ _ => cases l2
    | cons _ _ => cases l1
  | cons xs t ih =>
    cases ra with
    | nil => cases l1
    | cons p ra => cases rb with
      | nil => cases l2
      | cons q rb =>
        refine .cons (.inr ⟨p, q, _, _, rfl, rfl, .inl ⟨SqL.of (r1 0 p xs rfl rfl), SqL.of (r2 0 q xs rfl rfl)⟩, EqD.ints xs⟩) (ih ?_ ?_ ?_ ?_)
        · exact Nat.succ.inj l1
        · exact fun n r ys e z => r1 (n + 1) r ys e z
        · exact Nat.succ.inj l2
        · exact fun n r ys e z => r2 (n + 1) r ys e z
theorem atI_at {α : Type} {xs : List α} {k : Int} {v : α} (h0 : 0 ≤ k) (h : xs[k.toNat]? = some v) : atI xs k = some v := by
  have := atI_nat h
  rwa [show ((k.toNat : Nat) : Int) = k by omega] at this
theorem upd_none {H : Hp} {r t : Addr} {o : HO} (h : upd H r o t = none) : t ≠ r ∧ H t = none := by
  by_cases e : t = r
  · subst e; rw [upd_same] at h; cases h
  · rw [upd_ne e] at h; exact ⟨e, h⟩
/-! ### what the deeds come to: a tuple, and the rows behind -/
abbrev G100 : Int := 10000000000000000000000000000000000000000000000000000000000000000000000000000000000000000000000000000
def wV (v : Int) : List V := if v ≥ G100 ∨ v ≤ -G100 then [.str "great", .int 0] else [.non, .int v]
def reckV (k a b : Int) : List V :=
  if k = 8 then wV (a + b) else if k = 9 then wV (a - b) else if k = 10 then wV (a * b) else if k = 13 then [.non, .int (if a < b then 1 else 0)] else if k = 14 then [.non, .int (if a = b then 1 else 0)]
  else if b = 0 then [.str "zero", .int 0] else if k = 11 then [.non, .int (a.fdiv b)] else [.non, .int (a.fmod b)]
/-- values: up to three -/
def rowM (k v0 v1 v2 : Int) (rows : List (List Int)) : List V × List (List Int) :=
  if v0 < 0 ∨ v0 ≥ rows.length then ([.str "row", .int 0], rows)
  else if k = 18 then ([.non, .int (rows.getD v0.toNat []).length], rows)
  else if k = 15 then ([.non, .int v1], rows.set v0.toNat (rows.getD v0.toNat [] ++ [v1]))
  else if v1 < 0 ∨ v1 ≥ (rows.getD v0.toNat []).length then ([.str "place", .int 0], rows)
  else if k = 17 then ([.non, .int v2], rows.set v0.toNat ((rows.getD v0.toNat []).set v1.toNat v2))
  else ([.non, .int ((rows.getD v0.toNat []).getD v1.toNat 0)], rows)
def worthM (k v0 v1 v2 : Int) (rows : List (List Int)) : List V × List (List Int) :=
  if k = 19 then ([.non, .int rows.length], rows ++ [[]]) else if k ≥ 15 then rowM k v0 v1 v2 rows else (reckV k v0 v1, rows)
/-- how many values a kind wants -/
def arity (k : Int) : Nat := if k = 19 then 0 else if k = 18 then 1 else if k = 17 then 3 else 2
def spDWithin : Sp := fun vs H Q _ => ∃ v : Int, vs = [.int v] ∧ ∀ p H', H p = none → H' = upd H p (.tup (wV v)) → Q (.ref p) H'
def spReck : Sp := fun vs H Q _ => ∃ k a b : Int, vs = [.int k, .int a, .int b] ∧ a.natAbs < 2 ^ 2000 ∧ b.natAbs < 2 ^ 2000 ∧ ∀ p H', H p = none → H' = upd H p (.tup (reckV k a b)) → Q (.ref p) H'
/-- behind a deed: the tuple at p, the rows rs' of which the new ones are new, all else as it was -/
structure Deed (H H' : Hp) (p rp : Addr) (rs rs' : List Addr) (o : List V × List (List Int)) : Prop where
  new : H p = none
  told : H' p = some (.tup o.1)
  rows : RowsAt H' rp rs' o.2
  keep : KeepL (rp :: rs) H H'
  more : rs' = rs ∨ ∃ q, H q = none ∧ q ≠ p ∧ rs' = rs ++ [q]
def spRow : Sp := fun vs H Q _ => ∃ (k v0 v1 v2 : Int) (vp rp : Addr) (vals : List Int) (rs : List Addr) (rows : List (List Int)), vs = [.int k, .ref vp, .ref rp] ∧ H vp = some (.lst (vals.map V.int)) ∧
  vals = [v0, v1, v2].take (arity k) ∧ 15 ≤ k ∧ k ≤ 18 ∧ vp ∉ rp :: rs ∧ RowsAt H rp rs rows ∧ (∀ xs ∈ rows, xs.length < sizeLine) ∧ ∀ p H', Deed H H' p rp rs rs (rowM k v0 v1 v2 rows) → Q (.ref p) H'
def spWorth : Sp := fun vs H Q _ => ∃ (k v0 v1 v2 : Int) (vp rp : Addr) (vals : List Int) (rs : List Addr) (rows : List (List Int)), vs = [.int k, .ref vp, .ref rp] ∧ H vp = some (.lst (vals.map V.int)) ∧
  vals = [v0, v1, v2].take (arity k) ∧ 8 ≤ k ∧ k ≤ 19 ∧ vp ∉ rp :: rs ∧ RowsAt H rp rs rows ∧ (∀ xs ∈ rows, xs.length < sizeLine) ∧ rows.length < sizeLine ∧ (k ≤ 14 → v0.natAbs < 2 ^ 2000 ∧ v1.natAbs < 2 ^ 2000) ∧
  ∀ p H' rs', Deed H H' p rp rs rs' (worthM k v0 v1 v2 rows) → Q (.ref p) H'
/-- a display of rows, made one by one -/
theorem RowsAt.nil {H : Hp} {rp : Addr} (h : H rp = some (.lst [])) : RowsAt H rp [] [] := ⟨h, List.nodup_nil, rfl, fun n r xs e _ => by simp at e⟩
theorem RowsAt.three {H : Hp} {a b c p : Addr} {xa xb xc : List Int} (ha : H a = none) (hb : upd H a (.lst (xa.map V.int)) b = none) (hc : upd (upd H a (.lst (xa.map V.int))) b (.lst (xb.map V.int)) c = none)
    (hp : upd (upd (upd H a (.lst (xa.map V.int))) b (.lst (xb.map V.int))) c (.lst (xc.map V.int)) p = none) :
    Same H (upd (upd (upd (upd H a (.lst (xa.map V.int))) b (.lst (xb.map V.int))) c (.lst (xc.map V.int))) p (.lst ([a, b, c].map V.ref))) ∧
    RowsAt (upd (upd (upd (upd H a (.lst (xa.map V.int))) b (.lst (xb.map V.int))) c (.lst (xc.map V.int))) p (.lst ([a, b, c].map V.ref))) p [a, b, c] [xa, xb, xc] := by
  have s1 := same_new ha (.lst (xa.map V.int))
  have s2 := same_new hb (.lst (xb.map V.int))
  have s3 := same_new hc (.lst (xc.map V.int))
  have s4 := same_new hp (.lst ([a, b, c].map V.ref))
  refine ⟨((s1.trans s2).trans s3).trans s4, upd_same, ?_, rfl, ?_⟩
  · obtain ⟨n1, _⟩ := upd_none hb
    obtain ⟨n2, h2⟩ := upd_none hc
    obtain ⟨n3, _⟩ := upd_none h2
    simp [Ne.symm n1, Ne.symm n2, Ne.symm n3]
  · intro n r xs e q
    match n, e, q with
    | 0, e, q => cases e; cases q; exact s4 _ _ (s3 _ _ (s2 _ _ upd_same))
    | 1, e, q => cases e; cases q; exact s4 _ _ (s3 _ _ upd_same)
    | 2, e, q => cases e; cases q; exact s4 _ _ upd_same
/-- a deed's value: the fault's word, or the number -/
def IsV (v : V) (o : List V) : Prop := (∃ z, v = .str z ∧ o = [.str z, .int 0]) ∨ ∃ i, v = .int i ∧ o = [.non, .int i]
structure Deed2 (H H' : Hp) (v : V) (rp : Addr) (rs rs' : List Addr) (o : List V × List (List Int)) : Prop where
  told : IsV v o.1
  rows : RowsAt H' rp rs' o.2
  keep : KeepL (rp :: rs) H H'
  more : rs' = rs ∨ ∃ q, H q = none ∧ rs' = rs ++ [q]
def spDeed : Sp := fun vs H Q _ => ∃ (k v0 v1 v2 : Int) (vp rp : Addr) (vals : List Int) (rs : List Addr) (rows : List (List Int)), vs = [.int k, .ref vp, .ref rp] ∧ H vp = some (.lst (vals.map V.int)) ∧
  vals = [v0, v1, v2].take (arity k) ∧ 8 ≤ k ∧ k ≤ 19 ∧ vp ∉ rp :: rs ∧ RowsAt H rp rs rows ∧ (∀ xs ∈ rows, xs.length < sizeLine) ∧ rows.length < sizeLine ∧ (k ≤ 14 → v0.natAbs < 2 ^ 2000 ∧ v1.natAbs < 2 ^ 2000) ∧
  ∀ v H' rs', Deed2 H H' v rp rs rs' (worthM k v0 v1 v2 rows) → Q v H'
theorem DrawD.neL {K : PySem.W.Frag} {st b : Addr} {H : Hp} {xs : List V} (d : DrawD K H st) (h : H b = some (.lst xs)) : b ≠ st := by
  obtain ⟨a, ns, k, c, e, _⟩ := d
  intro z
  rw [z, e] at h
  cases h
theorem RowsAt.drawn {K : PySem.W.Frag} {H H' : Hp} {st rp : Addr} {rs : List Addr} {rows : List (List Int)} (R : RowsAt H rp rs rows) (d : DrawD K H st) (k : Keep st H H') : RowsAt H' rp rs rows :=
  R.keep fun b o hb e => by
    refine k b o ?_ e
    rcases List.mem_cons.mp hb with z | z
    · rw [z]; exact d.neL R.here
    · obtain ⟨xs, q⟩ := R.mem z
      exact d.neL q
theorem RowsAt.other {H : Hp} {rp l : Addr} {o : HO} {rs : List Addr} {rows : List (List Int)} (R : RowsAt H rp rs rows) (h : l ∉ rp :: rs) : RowsAt (upd H l o) rp rs rows :=
  R.keep fun b o hb e => by
    have z : b ≠ l := fun z => h (by rw [← z]; exact hb)
    rw [upd_ne z]; exact e
theorem RowsAt.snoc {H : Hp} {rp q : Addr} {rs : List Addr} {rows : List (List Int)} {zs : List Int} (h : RowsAt H rp rs rows) (hq : H q = some (.lst (zs.map V.int))) (hn : q ∉ rp :: rs) :
    RowsAt (upd H rp (.lst (rs.map V.ref ++ [V.ref q]))) rp (rs ++ [q]) (rows ++ [zs]) := by
  have hnr : q ∉ rs := fun e => hn (List.mem_cons_of_mem _ e)
  have hnp : q ≠ rp := fun e => hn (by rw [e]; exact List.mem_cons_self ..)
  have e1 : (rs ++ [q]).map V.ref = rs.map V.ref ++ [V.ref q] := by rw [List.map_append] <;> rfl
  refine ⟨by rw [e1]; exact upd_same, ?_, by rw [List.length_append, List.length_append, h.len] <;> rfl, fun n r xs e ex => ?_⟩
  · rw [List.nodup_append]
    exact ⟨h.nd, List.nodup_cons.mpr ⟨List.not_mem_nil, List.nodup_nil⟩, fun a ha b hb => by rw [List.mem_singleton] at hb; rw [hb]; exact fun z => hnr (z ▸ ha)⟩
  · by_cases hn : n < rs.length
    · rw [List.getElem?_append_left hn] at e
      rw [List.getElem?_append_left (by rw [← h.len]; exact hn)] at ex
      have hm : r ∈ rs := List.mem_iff_getElem?.mpr ⟨n, e⟩
      have z1 : r ≠ rp := fun z => h.out (by rw [← z]; exact hm)
      rw [upd_ne z1]
      exact h.row n r xs e ex
    · have hl : n < (rs ++ [q]).length := (List.getElem?_eq_some_iff.mp e).1
      rw [List.length_append, List.length_singleton] at hl
      have hn' : n = rs.length := by omega
      subst hn'
      rw [List.getElem?_append_right (Nat.le_refl _), Nat.sub_self] at e
      rw [List.getElem?_append_right (by rw [h.len] <;> exact Nat.le_refl _), h.len, Nat.sub_self] at ex
      cases e; cases ex
      rw [upd_ne hnp]
      exact hq
end L2

set_option Elab.async false
set_option linter.all false
set_option maxRecDepth 100000
/-! OC: range(a, b, 2), range(a, b, 3) -/
namespace L2
open PySem PySem.Spec PyProof.Rows
/-- lo, lo + c, .. (n of them) -/
def Itp (lo c : Int) (n : Nat) : It := ⟨fun i _ => i < n, fun i H x H' => H' = H ∧ x = .int (lo + i * c), fun i _ => n ≤ i⟩
def iStep (ta : TA) : TI := fun σ H R => ta σ H fun vs H1 => ∃ (i j c : Int) (n : Nat), vs = [.int i, .int j, .int c] ∧ (-(2 ^ 62) ≤ i ∧ i < 2 ^ 62 ∧ -(2 ^ 62) ≤ j ∧ j < 2 ^ 62) ∧ (c = 2 ∨ c = 3) ∧ Builtin.Range.rangeSize i j c = (n : Int) ∧ R (Itp i c n) H1
end L2

set_option Elab.async false
set_option linter.all false
set_option maxRecDepth 100000
/-! OC: all of a list of truths; isinstance with a tuple of classes -/
namespace L2
open PySem PySem.Spec PyProof.Rows
section
variable {X : Cx}
/-- isinstance(x, (c, ..)) of a list or a tuple -/
def rIsiT (K : PySem.W.Frag) : List V → Hp → VK → Prop := fun xs H Q => ∃ (a tp : Addr) (ns : List String) (b : Bool) (T : String), xs = [.ref a, .ref tp] ∧ H tp = some (.tup (ns.map V.ty)) ∧ ((T = "list" ∧ ∃ ys, SqL K H a ys) ∨ (T = "tuple" ∧ ∃ ys, SqT K H a ys)) ∧ PySem.W.kitAny K (.type T) (ns.map Value.type) = some b ∧ Q (.bl b) H
end
end L2

set_option Elab.async false
set_option linter.all false
set_option maxRecDepth 100000
/-! OC: for i, x in enumerate(xs) -/
namespace L2
open PySem PySem.Spec PyProof.Rows
/-- (0, x0), (1, x1), .. : each a new tuple -/
def Ite (K : PySem.W.Frag) (a : Addr) : It :=
  ⟨fun i H => ∃ xs x, SqL K H a xs ∧ xs[i]? = some x, fun i H y H' => ∃ t x, y = .ref t ∧ H t = none ∧ H' = upd H t (.tup [.int (i : Nat), x]) ∧ ∀ xs, SqL K H a xs → xs[i]? = some x, fun i H => ∃ xs, SqL K H a xs ∧ xs.length ≤ i⟩
def iEnum (K : PySem.W.Frag) (ta : TA) : TI := fun σ H R => ta σ H fun vs H1 => ∃ a xs, vs = [.ref a] ∧ SqL K H1 a xs ∧ R (Ite K a) H1
end L2

set_option Elab.async false
set_option linter.all false
set_option maxRecDepth 100000
/-! OC: codes: heads, rows, what a code is -/
namespace L2
open PySem
def RowOk (op n nf nr : Int) : Prop :=
  op = 0 ∨ (op = 1 ∨ op = 2) ∧ 0 ≤ n ∧ n < 12 ∨ (op = 4 ∨ op = 5) ∧ 0 ≤ n ∧ n < nr ∨ op = 6 ∧ 0 ≤ n ∧ n < nf ∨ op = 10 ∧ 8 ≤ n ∧ n ≤ 19 ∨ op = 11 ∧ 2 ≤ n ∧ n ≤ 12 ∨ (op = 3 ∨ op = 7 ∨ op = 8 ∨ op = 9) ∧ n = 0
def HeadOk (s p b fn nr : Int) : Prop := 0 ≤ s ∧ s < nr ∧ 0 ≤ p ∧ p ≤ 4 ∧ (fn = 0 → p = 0) ∧ p ≤ b ∧ b ≤ 12
/-- cut into lists of k each -/
def grp (k : Nat) (ns : List Int) : List (List Int) := (List.range ((ns.length + (k - 1)) / k)).map fun i => (ns.drop (i * k)).take k
def TupAt (H : Hp) (v : V) (zs : List Int) : Prop := ∃ t, v = .ref t ∧ H t = some (.tup (zs.map V.int))
def GrpAt (H : Hp) (l : Addr) (gs : List (List Int)) : Prop := ∃ rs, H l = some (.lst rs) ∧ Paired (TupAt H) rs gs
theorem TupAt.upd {H : Hp} {v : V} {zs : List Int} {p : Addr} {xs : List V} {o : HO} (h : TupAt H v zs) (hp : H p = some (.lst xs)) : TupAt (upd H p o) v zs := by
  obtain ⟨t, rfl, e⟩ := h
  have ne : t ≠ p := fun z => by rw [z, hp] at e; cases e
  exact ⟨t, rfl, by rw [upd_ne ne]; exact e⟩
theorem TupAt.same {H H' : Hp} {v : V} {zs : List Int} (h : TupAt H v zs) (s : Same H H') : TupAt H' v zs := by
  obtain ⟨t, rfl, e⟩ := h
  exact ⟨t, rfl, s _ _ e⟩
theorem GrpAt.same {H H' : Hp} {l : Addr} {gs : List (List Int)} (h : GrpAt H l gs) (s : Same H H') : GrpAt H' l gs := by
  obtain ⟨rs, e, p⟩ := h
  exact ⟨rs, s _ _ e, p.mono fun _ _ x => x.same s⟩
def headNums (ns : List Int) : List Int := (ns.drop 1).take (3 * (ns.headD 0).toNat)
def rowNums (ns : List Int) : List Int := ns.drop (1 + 3 * (ns.headD 0).toNat)
def isHead (g : List Int) (i nr : Nat) : Prop := ∃ s p b, g = [s, p, b] ∧ HeadOk s p b i nr
def isRow (g : List Int) (nf nr : Nat) : Prop := ∃ op n, g = [op, n] ∧ RowOk op n nf nr
/-- a list is a code of these heads and rows -/
structure CodeOk (ns : List Int) : Prop where
  big : ∃ n ms, ns = n :: ms ∧ 1 ≤ n ∧ n ≤ 16 ∧ 3 * n + 2 ≤ ms.length ∧ (ms.length - 3 * n.toNat) % 2 = 0
  heads : ∀ i g, (grp 3 (headNums ns))[i]? = some g → isHead g i ((rowNums ns).length / 2)
  rows : ∀ g ∈ grp 2 (rowNums ns), isRow g (ns.headD 0).toNat ((rowNums ns).length / 2)
theorem Paired.yonder {α β : Type} {F : α → β → Prop} : ∀ {xs : List α} {ys : List β}, Paired F xs ys → ∀ {j : Nat} {x : α}, xs[j]? = some x → ∃ y, ys[j]? = some y ∧ F x y
  | _, _, .nil, j, x, h => by cases h
  | _, _, .cons r t, 0, x, h => by cases h; exact ⟨_, rfl, r⟩
  | _, _, .cons r t, j + 1, x, h => Paired.yonder t (by simpa using h)
def spIsHead : Sp := fun vs H Q _ => ∃ t s p b fn nr, vs = [.ref t, .int fn, .int nr] ∧ H t = some (.tup [.int s, .int p, .int b]) ∧ ∀ r, (r = true ↔ HeadOk s p b fn nr) → Q (.bl r) H
def spIsRow : Sp := fun vs H Q _ => ∃ t op n nf nr, vs = [.ref t, .int nf, .int nr] ∧ H t = some (.tup [.int op, .int n]) ∧ ∀ r H', Same H H' → (r = true ↔ RowOk op n nf nr) → Q (.bl r) H'
def spAlone : Sp := fun vs H Q _ => ∃ op : Int, vs = [.int op] ∧ ∀ r H', Same H H' → (r = true ↔ op = 3 ∨ op = 7 ∨ op = 8 ∨ op = 9) → Q (.bl r) H'
def spGrouped : Sp := fun vs H Q _ => ∃ (a : Addr) (ns : List Int) (k : Nat), vs = [.ref a, .int k] ∧ (k = 2 ∨ k = 3) ∧ H a = some (.lst (ns.map V.int)) ∧ ns.length ≤ 1000000 ∧ ∀ l H', Same H H' → H l = none → GrpAt H' l (grp k ns) → Q (.ref l) H'
def spHeadsIn : Sp := fun vs H Q _ => ∃ (a : Addr) (ns : List Int), vs = [.ref a] ∧ H a = some (.lst (ns.map V.int)) ∧ ns.length ≤ 1000000 ∧ (∃ n ms, ns = n :: ms ∧ 0 ≤ n ∧ n ≤ 16) ∧ ∀ l H', Same H H' → H l = none → GrpAt H' l (grp 3 (headNums ns)) → Q (.ref l) H'
def spRowsIn : Sp := fun vs H Q _ => ∃ (a : Addr) (ns : List Int), vs = [.ref a] ∧ H a = some (.lst (ns.map V.int)) ∧ ns.length ≤ 1000000 ∧ (∃ n ms, ns = n :: ms ∧ 0 ≤ n ∧ n ≤ 16) ∧ ∀ l H', Same H H' → H l = none → GrpAt H' l (grp 2 (rowNums ns)) → Q (.ref l) H'
def spWholes : Sp := fun vs H Q _ => ∃ (a : Addr) (ns : List Int), vs = [.ref a] ∧ H a = some (.lst (ns.map V.int)) ∧ ns.length ≤ 1000000 ∧ ∀ H', Same H H' → Q (.bl true) H'
def spIsCode : Sp := fun vs H Q _ => ∃ (a : Addr) (ns : List Int), vs = [.ref a] ∧ H a = some (.lst (ns.map V.int)) ∧ ns.length ≤ 1000000 ∧ ∀ r H', Same H H' → (r = true ↔ CodeOk ns) → Q (.bl r) H'
end L2

set_option Elab.async false
set_option linter.all false
set_option maxRecDepth 100000
/-! OC: what may be a list or a tuple: gone through, put behind a list -/
namespace L2
open PySem PySem.Spec PyProof.Rows
section
variable {X : Cx} {tg : Expr}
def Sq (K : PySem.W.Frag) (H : Hp) (a : Addr) (xs : List V) : Prop := SqL K H a xs ∨ SqT K H a xs
def iSeq (K : PySem.W.Frag) (tl : TE) : TI := fun σ H R => tl σ H fun x H1 => ∃ a, x = .ref a ∧ ((∃ xs, SqL K H1 a xs) ∧ R (Itl K a) H1 ∨ (∃ xs, SqT K H1 a xs) ∧ R (Itt K a) H1)
def rExtendU : V → List V → Hp → VK → Prop := fun x vs H Q => rExtend x vs H Q ∨ rExtendT x vs H Q
end
abbrev Wk (J : It) (g : TG) (tb : TS) (D : Ends) (σ : St) (H : Hp) : Prop := ∃ W : Nat → Nat → St → Hp → Prop, (∃ m, W 0 m σ H) ∧ ∀ i m σ H, W i m σ H →
      (J.stop i H ∧ D.nx σ H) ∨ (J.go i H ∧ ∃ N : St → Hp → Prop, (∀ σ' H', N σ' H' → ∃ m', m' < m ∧ W (i + 1) m' σ' H') ∧ ∀ x H', J.yld i H x H' → g x σ H' fun σ2 H2 => tb { D with nx := N, ct := N, bk := D.nx } σ2 H2)
theorem Same.seqT {K : PySem.W.Frag} {H H' : Hp} {a : Addr} {xs : List V} (e : Same H H') (h : SqT K H a xs) : SqT K H' a xs := by
  rcases h with (h | ⟨o, h⟩) | h
  · exact .inl (.inl (e _ _ h))
  · exact .inl (.inr ⟨o, e _ _ h⟩)
  · exact .inr h
/-- a list or a tuple of whole numbers -/
def SeqI (H : Hp) (v : V) (zs : List Int) : Prop := ∃ t, v = .ref t ∧ (H t = some (.lst (zs.map V.int)) ∨ H t = some (.tup (zs.map V.int)))
theorem SeqI.same {H H' : Hp} {v : V} {zs : List Int} (h : SeqI H v zs) (s : Same H H') : SeqI H' v zs := by
  obtain ⟨t, rfl, e | e⟩ := h
  · exact ⟨t, rfl, .inl (s _ _ e)⟩
  · exact ⟨t, rfl, .inr (s _ _ e)⟩
theorem Sq.same {K : PySem.W.Frag} {H H' : Hp} {a : Addr} {xs : List V} (e : Same H H') (h : Sq K H a xs) : Sq K H' a xs := h.imp (e.seq ·) (Same.seqT e ·)
def spHeadsOf : Sp := fun vs H Q _ => ∃ (a : Addr) (ns : List Int), vs = [.ref a] ∧ H a = some (.lst (ns.map V.int)) ∧ ns.length ≤ 1000000 ∧ CodeOk ns ∧ ∀ l H', Same H H' → H l = none → GrpAt H' l (grp 3 (headNums ns)) → Q (.ref l) H'
def spRowsOf : Sp := fun vs H Q _ => ∃ (a : Addr) (ns : List Int), vs = [.ref a] ∧ H a = some (.lst (ns.map V.int)) ∧ ns.length ≤ 1000000 ∧ CodeOk ns ∧ ∀ l H', Same H H' → H l = none → GrpAt H' l (grp 2 (rowNums ns)) → Q (.ref l) H'
def spJoined (K : PySem.W.Frag) : Sp := fun vs H Q _ => ∃ (a : Addr) (gs : List (List Int)) (xs : List V) (k : Nat), vs = [.ref a, .int k] ∧ Sq K H a xs ∧ Paired (SeqI H) xs gs ∧ (∀ g ∈ gs, g.length = k) ∧ gs.length ≤ 1000 ∧ k ≤ 3 ∧
  ∀ l H', Same H H' → H l = none → H' l = some (.lst (gs.flatten.map V.int)) → Q (.ref l) H'
/-- the list of these heads and rows -/
def codeL (hs rs : List (List Int)) : List Int := (hs.length : Int) :: (hs.flatten ++ rs.flatten)
def spCodeOf (K : PySem.W.Frag) : Sp := fun vs H Q _ => ∃ (a b : Addr) (hs rs : List (List Int)) (xs ys : List V), vs = [.ref a, .ref b] ∧ Sq K H a xs ∧ Paired (SeqI H) xs hs ∧ (∀ g ∈ hs, g.length = 3) ∧ hs.length ≤ 1000 ∧ Sq K H b ys ∧ Paired (SeqI H) ys rs ∧ (∀ g ∈ rs, g.length = 2) ∧ rs.length ≤ 1000 ∧ CodeOk (codeL hs rs) ∧
  ∀ l H', Same H H' → H l = none → H' l = some (.lst ((codeL hs rs).map V.int)) → Q (.ref l) H'
theorem fl_len {k : Nat} : ∀ {gs : List (List Int)}, (∀ g ∈ gs, g.length = k) → gs.flatten.length = gs.length * k
  | [], _ => by simp
  | g :: gs, h => by
    rw [List.flatten_cons, List.length_append, h g (List.mem_cons_self ..), fl_len (fun x hx => h x (List.mem_cons_of_mem _ hx)), List.length_cons, Nat.add_mul, Nat.one_mul, Nat.add_comm]
end L2

set_option Elab.async false
set_option linter.all false
set_option maxRecDepth 100000
/-! OC: pens of four: the script, how many cells were taken, what is left of a great one, how often was mixed -/
namespace L2
open PySem
def Pen (K : PySem.W.Frag) (H : Hp) (st : Addr) : Prop := ∃ a ns k c t, H st = some (.lst [.ref a, .int k, .int c, .int t]) ∧ Scr K H a ns ∧ ns.length ≤ 63 ∧ 0 ≤ k ∧ 0 ≤ c
structure Penned (K : PySem.W.Frag) (st : Addr) (H H' : Hp) : Prop where
  pen : Pen K H' st
  keep : Keep st H H'
theorem Penned.trans {K : PySem.W.Frag} {st : Addr} {H H1 H2 : Hp} (a : Penned K st H H1) (b : Penned K st H1 H2) : Penned K st H H2 := ⟨b.pen, a.keep.trans b.keep⟩
theorem Pen.refl {K : PySem.W.Frag} {st : Addr} {H : Hp} (d : Pen K H st) : Penned K st H H := ⟨d, Keep.refl st H⟩
theorem Pen.ne {K : PySem.W.Frag} {st b : Addr} {H : Hp} (d : Pen K H st) (h : H b = none) : st ≠ b := by
  obtain ⟨a, ns, k, c, t, e, _⟩ := d
  exact ne_of_none e h
theorem Pen.same {K : PySem.W.Frag} {st : Addr} {H H' : Hp} (d : Pen K H st) (h : Same H H') : Pen K H' st := by
  obtain ⟨a, ns, k, c, t, e, s, r⟩ := d
  exact ⟨a, ns, k, c, t, h _ _ e, s.keep e (Keep.same h), r⟩
theorem Pen.new {K : PySem.W.Frag} {st p : Addr} {H : Hp} (d : Pen K H st) (h : H p = none) (o : HO) : Penned K st H (upd H p o) := ⟨d.same (same_new h o), Keep.new o h⟩
theorem Pen.put {K : PySem.W.Frag} {st p : Addr} {H : Hp} {xs ys : List V} (d : Pen K H st) (hp : H p = some (.lst xs)) (n : p ≠ st) : Pen K (upd H p (.lst ys)) st := by
  obtain ⟨a, ns, k, c, t, e, s, r⟩ := d
  refine ⟨a, ns, k, c, t, (by rw [upd_ne (Ne.symm n)]; exact e), ?_, r⟩
  rcases s with ⟨o, s⟩ | s
  · exact .inl ⟨o, by rw [upd_ne (fun z => by rw [z, hp] at s; cases s)]; exact s⟩
  · exact .inr s
theorem Penned.lst {K : PySem.W.Frag} {st p : Addr} {H H' : Hp} {o : HO} (h : Penned K st H H') (hp : H p = some o) (n : p ≠ st) : H' p = some o := h.keep _ _ n hp
def spPen (K : PySem.W.Frag) : Sp := fun vs H Q _ => ∃ (a : Addr) (ns : List Int), vs = [.ref a] ∧ Scr K H a ns ∧ ns.length ≤ 63 ∧ ∀ st H', H st = none → Same H H' → Pen K H' st → Q (.ref st) H'
def spTake4 (K : PySem.W.Frag) : Sp := fun vs H Q _ => ∃ (st : Addr) (many : Int), vs = [.ref st, .int many] ∧ 0 < many ∧ many < 1073741824 ∧ Pen K H st ∧ ∀ (r : Int) (H' : Hp), 0 ≤ r → r < many → Penned K st H H' → Q (.int r) H'
def spInt4 (K : PySem.W.Frag) (B : Int → Prop) : Sp := fun vs H Q _ => ∃ (st : Addr), vs = [.ref st] ∧ Pen K H st ∧ ∀ (r : Int) (H' : Hp), B r → Penned K st H H' → Q (.int r) H'
end L2
namespace L2
open PySem
def needT : List Int := [2, 2, 2, 2, 2, 2, 2, 2, 2, 3, 1, 0]
def needT2 : List Int := [0, 0, 1, 1, 0, 1, 0, 1, 1, 0, 0, 1]
def Heads3 (hs : List (List Int)) : Prop := ∀ g ∈ hs, g.length = 3
structure OpFit (op n nf : Int) : Prop where
  lo : 0 ≤ op
  hi : op ≤ 11
  call : op = 6 → 0 ≤ n ∧ n < nf
  deed : op = 10 → 8 ≤ n ∧ n ≤ 19
def spNeeds : Sp := fun vs H Q _ => ∃ (op n : Int) (hd : Addr) (hs : List (List Int)), vs = [.int op, .int n, .ref hd] ∧ GrpAt H hd hs ∧ Heads3 hs ∧ OpFit op n hs.length ∧ ∀ (r : Int) H', Same H H' → Q (.int r) H'
def spRow4 (K : PySem.W.Frag) : Sp := fun vs H Q _ => ∃ (st hd : Addr) (h many : Int) (hs : List (List Int)), vs = [.ref st, .int h, .int many, .ref hd] ∧ Pen K H st ∧ 0 < many ∧ many ≤ 24 ∧ GrpAt H hd hs ∧ Heads3 hs ∧ 1 ≤ hs.length ∧ hs.length ≤ 16 ∧ hd ≠ st ∧
  ∀ t op n H', Penned K st H H' → H' t = some (.tup [.int op, .int n]) → RowOk op n hs.length many → Q (.ref t) H'
def spHeight : Sp := fun vs H Q _ => ∃ (op n h : Int) (hd : Addr) (hs : List (List Int)), vs = [.int op, .int n, .ref hd, .int h] ∧ GrpAt H hd hs ∧ Heads3 hs ∧ OpFit op n hs.length ∧ ∀ (r : Int) H', Same H H' → Q (.int r) H'
theorem GrpAt.keep {H H' : Hp} {l st : Addr} {gs : List (List Int)} {xs : List V} (h : GrpAt H l gs) (ne : l ≠ st) (hst : H st = some (.lst xs)) (k : Keep st H H') : GrpAt H' l gs := by
  obtain ⟨rs, e, p⟩ := h
  refine ⟨rs, k _ _ ne e, Paired.imp (fun v g x => ?_) p⟩
  obtain ⟨t, rfl, et⟩ := x
  exact ⟨t, rfl, k _ _ (fun z => by rw [z, hst] at et; cases et) et⟩
theorem Pen.more {K : PySem.W.Frag} {H H' : Hp} {st : Addr} (d : Pen K H st) (g : Same H H') : Penned K st H H' := ⟨d.same g, Keep.same g⟩
theorem inI {k : Int} {ns : List Int} (c : (if false = true then !inV (.int k) (ns.map V.int) else inV (.int k) (ns.map V.int)) = true) : k ∈ ns := by
  have e : inV (.int k) (ns.map V.int) = true := c
  rw [inV_ints] at e
  exact of_decide_eq_true e
theorem mem2 {k a b : Int} : k ∈ [a, b] ↔ k = a ∨ k = b := by simp
theorem Pen.is {K : PySem.W.Frag} {H : Hp} {st : Addr} (d : Pen K H st) : ∃ xs, H st = some (.lst xs) := by
  obtain ⟨a, ns, k, c, t, e, _⟩ := d
  exact ⟨_, e⟩
end L2
namespace L2
open PySem
theorem Paired.set {α β : Type} {F : α → β → Prop} : ∀ {xs : List α} {ys : List β} (i : Nat) {x : α} {y : β}, Paired F xs ys → F x y → Paired F (xs.set i x) (ys.set i y)
  | _, _, _, _, _, .nil, _ => .nil
  | _, _, 0, _, _, .cons r t, h => .cons h t
  | _, _, i + 1, _, _, .cons r t, h => .cons r (Paired.set i t h)
theorem GrpAt.put {H : Hp} {l p : Addr} {gs : List (List Int)} {xs ys : List V} (h : GrpAt H l gs) (hp : H p = some (.lst xs)) (ne : l ≠ p) : GrpAt (upd H p (.lst ys)) l gs := by
  obtain ⟨rs, e, pr⟩ := h
  exact ⟨rs, by rw [upd_ne ne]; exact e, Paired.imp (fun _ _ x => x.upd hp) pr⟩
theorem GrpAt.push {H : Hp} {l : Addr} {gs : List (List Int)} {rs : List V} {v : V} {g : List Int} (e : H l = some (.lst rs)) (pr : Paired (TupAt H) rs gs) (tv : TupAt H v g) : GrpAt (upd H l (.lst (rs ++ [v]))) l (gs ++ [g]) :=
  ⟨_, upd_same, Paired.append (Paired.imp (fun _ _ x => x.upd e) pr) (.cons (tv.upd e) .nil)⟩
structure CodeParts (hs rs : List (List Int)) : Prop where
  h1 : 1 ≤ hs.length
  h16 : hs.length ≤ 16
  r1 : 1 ≤ rs.length
  r24 : rs.length ≤ 24
  heads : ∀ i g, hs[i]? = some g → isHead g i rs.length
  rows : ∀ g ∈ rs, isRow g hs.length rs.length
def spCode4 (K : PySem.W.Frag) : Sp := fun vs H Q _ => ∃ st, vs = [.ref st] ∧ Pen K H st ∧
  ∀ t hd rw hs rs H', Penned K st H H' → H' t = some (.tup [.ref hd, .ref rw]) → GrpAt H' hd hs → GrpAt H' rw rs → H hd = none → H rw = none → hd ≠ rw → CodeParts hs rs → Q (.ref t) H'
theorem GrpAt.pen {K : PySem.W.Frag} {H H' : Hp} {l st : Addr} {gs : List (List Int)} (h : GrpAt H l gs) (ne : l ≠ st) (d : Pen K H st) (k : Penned K st H H') : GrpAt H' l gs := by
  obtain ⟨xs, e⟩ := d.is
  exact h.keep ne e k.keep
theorem Penned.free {K : PySem.W.Frag} {st b : Addr} {H H' : Hp} (h : Penned K st H H') (e : H' b = none) : H b = none := by
  cases z : H b with
  | none => rfl
  | some o => rw [h.keep b o (Ne.symm (h.pen.ne e)) z] at e; cases e
end L2
namespace L2
open PySem
section
variable {X : Cx}
end
def spListL : Sp := fun vs H Q _ => ∃ (hd rw : Addr) (hs rs : List (List Int)), vs = [.ref hd, .ref rw] ∧ GrpAt H hd hs ∧ GrpAt H rw rs ∧ (∀ g ∈ hs, g.length = 3) ∧ (∀ g ∈ rs, g.length = 2) ∧ hs.length ≤ 1000 ∧ rs.length ≤ 1000 ∧ ∀ f H', Same H H' → H f = none → H' f = some (.lst ((codeL hs rs).map V.int)) → Q (.ref f) H'
def spTuples : Sp := fun vs H Q _ => ∃ (l : Addr) (gs : List (List Int)) (k : Nat), vs = [.ref l, .int k] ∧ GrpAt H l gs ∧ (∀ g ∈ gs, g.length = k) ∧ ∀ H', Same H H' → Q (.bl true) H'
end L2

set_option Elab.async false
set_option linter.all false
set_option maxRecDepth 100000
/-! OC: what was put together is cut again -/
namespace L2
open PySem
theorem grp_cons {k : Nat} (hk : k = 2 ∨ k = 3) {g rest : List Int} (hg : g.length = k) : grp k (g ++ rest) = g :: grp k rest := by
  unfold grp
  have e : ((g ++ rest).length + (k - 1)) / k = (rest.length + (k - 1)) / k + 1 := by
    rw [List.length_append, hg]
    rcases hk with rfl | rfl <;> omega
  rw [e, List.range_succ_eq_map, List.map_cons, List.map_map, Nat.zero_mul, List.drop_zero]
  congr 1
  · rw [List.take_append_of_le_length (by omega), List.take_of_length_le (by omega)]
  · refine List.map_congr_left fun i _ => ?_
    show ((g ++ rest).drop ((i + 1) * k)).take k = _
    rw [Nat.add_mul, Nat.one_mul, Nat.add_comm, ← List.drop_drop, ← hg, List.drop_left]
theorem grp_flat {k : Nat} (hk : k = 2 ∨ k = 3) : ∀ {gs : List (List Int)}, (∀ g ∈ gs, g.length = k) → grp k gs.flatten = gs
  | [], _ => by
    unfold grp
    rcases hk with rfl | rfl <;> rfl
  | g :: gs, h => by
    rw [List.flatten_cons, grp_cons hk (h g (List.mem_cons_self ..)), grp_flat hk fun x hx => h x (List.mem_cons_of_mem _ hx)]
theorem CodeParts.h3 {hs rs : List (List Int)} (c : CodeParts hs rs) : ∀ g ∈ hs, g.length = 3 := fun g hg => by
  obtain ⟨j, hj⟩ := List.mem_iff_getElem?.mp hg
  obtain ⟨_, _, _, rfl, _⟩ := c.heads j g hj
  rfl
theorem CodeParts.r2 {hs rs : List (List Int)} (c : CodeParts hs rs) : ∀ g ∈ rs, g.length = 2 := fun g hg => by
  obtain ⟨_, _, rfl, _⟩ := c.rows g hg
  rfl
theorem CodeParts.headNums {hs rs : List (List Int)} (c : CodeParts hs rs) : headNums (codeL hs rs) = hs.flatten := by
  show List.take (3 * ((hs.length : Int)).toNat) (hs.flatten ++ rs.flatten) = _
  have := fl_len c.h3
  rw [Int.toNat_natCast, List.take_append_of_le_length (by omega), List.take_of_length_le (by omega)]
theorem CodeParts.rowNums {hs rs : List (List Int)} (c : CodeParts hs rs) : rowNums (codeL hs rs) = rs.flatten := by
  show List.drop (1 + 3 * ((hs.length : Int)).toNat) ((hs.length : Int) :: (hs.flatten ++ rs.flatten)) = _
  have := fl_len c.h3
  rw [Int.toNat_natCast, Nat.add_comm, List.drop_succ_cons, show 3 * hs.length = hs.flatten.length by omega, List.drop_left]
theorem CodeParts.ok {hs rs : List (List Int)} (c : CodeParts hs rs) : CodeOk (codeL hs rs) := by
  have l3 := fl_len c.h3
  have l2 := fl_len c.r2
  have a1 := c.h1
  have a2 := c.h16
  have a3 := c.r1
  have nr : (L2.rowNums (codeL hs rs)).length / 2 = rs.length := by rw [c.rowNums, l2]; omega
  refine ⟨⟨_, _, rfl, by omega, by omega, ?_, ?_⟩, fun i g hg => ?_, fun g hg => ?_⟩
  · rw [List.length_append, l3, l2]; omega
  · rw [List.length_append, l3, l2, Int.toNat_natCast]; omega
  · rw [c.headNums, grp_flat (.inr rfl) c.h3] at hg
    rw [nr]
    exact c.heads i g hg
  · rw [c.rowNums, grp_flat (.inl rfl) c.r2] at hg
    rw [nr]
    exact c.rows g hg
theorem CodeParts.not {hs rs : List (List Int)} (c : CodeParts hs rs) : ¬ CodeOk (codeL hs rs ++ [7]) := fun z => by
  obtain ⟨n, ms, e, _, _, _, h⟩ := z.big
  have l3 := fl_len c.h3
  have l2 := fl_len c.r2
  unfold codeL at e
  rw [List.cons_append] at e
  injection e with e1 e2
  subst e1 e2
  rw [List.length_append, List.length_append, l3, l2, Int.toNat_natCast] at h
  simp only [List.length_cons, List.length_nil] at h
  omega
end L2

set_option Elab.async false
set_option linter.all false
set_option maxRecDepth 100000
/-! OC: a comprehension over what may be a list or a tuple; heads and rows handed in -/
namespace L2
open PySem
/-- a list of whole numbers other than p -/
def Lst4 (p : Addr) (H : Hp) (v : V) (g : List Int) : Prop := ∃ t, v = .ref t ∧ t ≠ p ∧ H t = some (.lst (g.map V.int))
theorem Lst4.next {p l : Addr} {H : Hp} {zs : List V} {gs : List (List Int)} {g : List Int} {o : HO} {i : Nat} (h : Paired (Lst4 p H) zs (gs.take i)) (hg : gs[i]? = some g) (hl : H l = none) (nl : l ≠ p) : Paired (Lst4 p (upd (upd H l (.lst (g.map V.int))) p o)) (zs ++ [.ref l]) (gs.take (i + 1)) := by
  have e : gs.take (i + 1) = gs.take i ++ [g] := by rw [List.take_succ, hg] <;> rfl
  rw [e]
  refine Paired.append (Paired.imp (fun v g' x => ?_) h) (.cons ⟨l, rfl, nl, ?_⟩ .nil)
  · obtain ⟨t, e, n, q⟩ := x
    refine ⟨t, e, n, ?_⟩
    rw [upd_ne n]; exact same_new hl _ _ _ q
  · rw [upd_ne nl]; exact upd_same
/-- a list of two: heads and rows, lists or tuples of such -/
def Handed (K : PySem.W.Frag) (H : Hp) (ha : Addr) (hs rs : List (List Int)) : Prop := ∃ l1 l2 xs ys, H ha = some (.lst [.ref l1, .ref l2]) ∧ Sq K H l1 xs ∧ Paired (SeqI H) xs hs ∧ Sq K H l2 ys ∧ Paired (SeqI H) ys rs
theorem Handed.same {K : PySem.W.Frag} {H H' : Hp} {ha : Addr} {hs rs : List (List Int)} (h : Handed K H ha hs rs) (g : Same H H') : Handed K H' ha hs rs := by
  obtain ⟨l1, l2, xs, ys, e, q1, p1, q2, p2⟩ := h
  exact ⟨l1, l2, xs, ys, g _ _ e, Sq.same g q1, Paired.imp (fun _ _ x => x.same g) p1, Sq.same g q2, Paired.imp (fun _ _ x => x.same g) p2⟩
theorem GrpAt.eq {K : PySem.W.Frag} {H : Hp} {rv rw : List V} {gs : List (List Int)} (pr : Paired (TupAt H) rv gs) (pw : Paired (TupAt H) rw gs) : Paired (EqD K H 1) rv rw := by
  induction pr generalizing rw with
  | nil => cases pw; exact .nil
  | cons r t ih =>
    cases pw with
    | cons r' t' =>
      obtain ⟨u, rfl, e⟩ := r
      obtain ⟨u', rfl, e'⟩ := r'
      exact .cons (.inr ⟨u, u', _, _, rfl, rfl, .inr ⟨SqT.of e, SqT.of e'⟩, EqD.ints _⟩) (ih t')
end L2

set_option Elab.async false
set_option linter.all false
set_option maxRecDepth 100000
/-! OC: isinstance of an own exception -/
namespace L2
open PySem PySem.W PySem.Spec PySem.Calls PyProof.Rows
section
variable {prog : Program} {w : World} {A : Around} {E : Value → Shared → Prop} {K : Frag} {C : Addr} {s : Shared} {x : Addr} {ox od : Obj}
end
/-- what of the class an isinstance wants -/
structure IsCls (K : Frag) (C : Addr) : Prop where
  ha : findIn K (.ref C) "__class__" = some (some (.builtin "object.__class__"))
  hn : specialIn K (.builtin "object.__class__") "__get__" = some (some (.builtin "getset_descriptor.__get__"))
  htk : takesIn K (.builtin "object.__class__") = some true
/-- isinstance(e, c) of an exception e of the class at C -/
def rIsX (K : Frag) : List V → Hp → VK → Prop := fun xs H Q => ∃ x C dx fs b, H x = some (ExO x C (some dx)) ∧ H dx = some (XdO dx fs) ∧ ExCls K C ∧ IsCls K C ∧
  ((∃ n, xs = [.ref x, .ty n] ∧ kitOne K (.ref C) (.type n) = some b) ∨ ∃ D, xs = [.ref x, .ref D] ∧ kitOne K (.ref C) (.ref D) = some b) ∧ Q (.bl b) H
/-- x != y of things alike: flat ones, lists, tuples -/
def rNeF (K : Frag) : R2 := fun x y H Q => rEqD K false x y H Q ∨ (scal x y = true ∧ x = y ∧ Q (.bl false) H)
theorem op_neF {X : Cx} {k : Nat} (hr : Room k X.A) : OpR X (compareOp .NotEq) (rNeF X.K) := by
  intro pins s σ H x y v u Q I rx ry h
  rcases h with h | ⟨f, rfl, q⟩
  · exact op_neD hr pins s σ H x y v u Q I rx ry h
  · refine op_ne pins s σ H x x v u Q I rx ry ⟨f, ?_⟩
    rw [decide_eq_true (rfl : x = x)]
    exact q
end L2

set_option Elab.async false
set_option linter.all false
set_option maxRecDepth 100000
/-! OC: a list cut into names: (a, b, c) = a list of three -/
namespace L2
open PySem PySem.Spec PyProof.Rows
section
variable {pg : Program} {wd : World} {B : Around} {xs : Value → Shared → Prop}
theorem drawL {j l : Addr} {us : Array Value} (ne : l ≠ j) : ∀ (m k : Nat) (t : Shared) (R : List Value → Shared → Prop), t.heap.IsListIter j l k → t.heap.IsList l us → k + m ≤ us.size →
    (∀ g, g.IsListIter j l (k + m) → Heap.SameBut j t.heap g → R ((us.toList.drop k).take m) { t with heap := g }) → wpAny (model pg wd) B (draw (.ref j) m) R xs t
  | 0, k, t, R, a, _, _, q => by
    show wpAny _ _ (pure []) R xs t
    exact wpAny_pure (by simpa using q t.heap a (Heap.SameBut.refl ..))
  | m + 1, k, t, R, a, b, c, q => by
    have kl : k < us.size := by omega
    show wpAny _ _ (pyNext (.ref j) >>= _) R xs t
    refine wpAny_bind (wpAny_pyNext_list_item a b (x := us[k]) (by simp [kl]) fun g1 a1 b1 => ?_)
    refine wpAny_bind (wpAny_holding (drawL ne m (k + 1) _ _ a1 (b.extBut b1.extBut ne) (by omega) fun g2 a2 b2 => wpAny_pure ?_))
    have e : us.toList.drop k = us[k] :: us.toList.drop (k + 1) := by simp [List.drop_eq_getElem_cons, kl]
    have z := q g2 (by rw [show k + (m + 1) = k + 1 + m by omega]; exact a2) (b1.trans b2)
    rw [e, List.take_succ_cons] at z
    exact z
theorem unpItems {t : Shared} {l : Addr} {us : Array Value} {R : List Value → Shared → Prop} (hh : B.handled = none) (b : t.heap.IsList l us)
    (q : ∀ g, Heap.ExtBut t.heap.objs.size t.heap g → R us.toList { t with heap := g }) : wpAny (model pg wd) B (unpackItems (.ref l) us.size none) R xs t := by
  have ne : l ≠ t.heap.objs.size := by obtain ⟨o, e, _⟩ := b; exact Nat.ne_of_lt (Heap.lt_size e)
  unfold unpackItems
  refine wpAny_bind ?_
  unfold notIterableAtAll
  refine wpAny_bind (wpAny_specialOf b.typeIs PySem.slot_list_iter.lookup (wpAny_pure ?_))
  rw [if_neg Bool.false_ne_true]
  refine wpAny_bind (wpAny_holding (wpAny_pyIter_list b (wpAny_bind (wpAny_holding (drawL ne us.size 0 _ _ ⟨_, Heap.get?_push_size _ rfl, rfl, rfl⟩ (b.push _) (by omega) fun g1 a1 s1 => ?_)))))
  have e : List.take us.size (List.drop 0 us.toList) = us.toList := by rw [List.drop_zero]; exact List.take_of_length_le (by simp)
  rw [e, if_neg (by simp)]
  refine wpAny_bind (wpAny_holding (wpAny_pyNext_list_end hh a1 ((b.push _).extBut s1.extBut ne) (by simp) fun g2 e2 => ?_))
  rw [if_neg (by simp)]
  exact wpAny_pure (q g2 fun c o hc z => e2 c o hc (s1.extBut c o hc (Heap.get?_push_of_some _ z)))
end
section
variable {X : Cx} {pos : Pos}
/-- (a, b, ..) = a list of that length -/
def gLst (K : PySem.W.Frag) (n : Nat) (t : TGs) : TG := fun v σ H Q => ∃ a xs, v = .ref a ∧ SqL K H a xs ∧ xs.length = n ∧ t xs σ H Q
theorem pg_lst {es : List Expr} {k : Nat} {t : TGs} {n : Nat} (hc : X.calm = true) (h : PGs X es t) (hn : (assignEach es X.env).length = n := by rfl) (hst : (assignEach es X.env).findIdx? (·.1) = none := by rfl) : PG X (.Tuple es k pos) (gLst X.K n t) := by
  refine ⟨?_⟩
  intro pins s σ H v u Q I r hw
  obtain ⟨a, zs, rfl, hq, hl, hw⟩ := hw
  cases r
  obtain ⟨us, rv, hp, _⟩ := I.list hq
  have e : (assignEach es X.env).length = us.toArray.size := by rw [hn, ← hl, rv.length]; simp
  have go : wpAny (model X.prog X.w) X.A (unpack (.ref a) (assignEach es X.env)) (fun _ s' => ∃ σ' H', Inv X pins σ' H' s' ∧ Q σ' H') X.xe s := by
    unfold unpack
    rw [e, hst]
    refine wpAny_bind (wpAny_holding (unpItems (I.ok.hd hc) hp.isList fun g hx => ?_))
    have I1 : Inv X pins σ H { s with heap := g } := I.kept (t' := s.toks) fun b o z => hx b o (Nat.ne_of_lt (Heap.lt_size z)) z
    exact h pins _ σ H zs _ Q I1 (by simpa using rv) hw
  rw [PyProof.Rows.assign_Tuple]
  exact wpAny_bind (wpAny_standAt go)
end
end L2

set_option Elab.async false
set_option linter.all false
set_option maxRecDepth 100000
/-! OC: jumps gone after: as many steps as there are rows -/
namespace L2
open PySem
/-- rows as pairs -/
abbrev Prs := List (Int × Int)
def prL (rs : Prs) : List (List Int) := rs.map fun r => [r.1, r.2]
def jmp (rs : Prs) (i : Nat) : Prop := ∃ n, rs[i]? = some (4, n)
instance (rs : Prs) (i : Nat) : Decidable (jmp rs i) :=
  match h : rs[i]? with
  | none => isFalse fun ⟨n, e⟩ => by rw [h] at e; cases e
  | some (op, n) => if e : op = 4 then isTrue ⟨n, by rw [h, e]⟩ else isFalse fun ⟨m, z⟩ => by rw [h] at z; cases z; exact e rfl
def stp (rs : Prs) (i : Nat) : Nat := match rs[i]? with
  | some (op, n) => if op = 4 then n.toNat else i
  | none => i
def its (rs : Prs) : Nat → Nat → Nat
  | 0, i => i
  | k + 1, i => stp rs (its rs k i)
def JOk (rs : Prs) : Prop := ∀ (i : Nat) (n : Int), rs[i]? = some (4, n) → 0 ≤ n ∧ n < rs.length
def mnt (rs : Prs) (i : Nat) : Option Nat := if its rs rs.length i < rs.length ∧ ¬ jmp rs (its rs rs.length i) then some (its rs rs.length i) else none
def oI : Option Nat → V
  | none => .non
  | some n => .int (n : Nat)
theorem jmp.lt {rs : Prs} {i : Nat} (h : jmp rs i) : i < rs.length := by
  obtain ⟨n, e⟩ := h
  exact (List.getElem?_eq_some_iff.mp e).1
def spMeant : Sp := fun vs H Q _ => ∃ (l : Addr) (rs : Prs) (i : Nat), vs = [.ref l, .int i] ∧ GrpAt H l (prL rs) ∧ JOk rs ∧ 0 < rs.length ∧ rs.length ≤ 1000 ∧ i ≤ rs.length ∧ Q (oI (mnt rs i)) H
end L2
namespace L2
open PySem
def spCellJ (K : PySem.W.Frag) : Sp := fun vs H Q _ => ∃ (a : Addr) (ns : List Int) (k : Int), vs = [.ref a, .int k] ∧ Scr K H a ns ∧ 0 ≤ k ∧ ∀ r : Int, Q (.int r) H
/-- rows as they are drawn -/
def spRowsJ (K : PySem.W.Frag) : Sp := fun vs H Q _ => ∃ (st : Addr), vs = [.ref st] ∧ Draw K H st ∧ ∀ l rs H', Drawn K st H H' → H l = none → GrpAt H' l (prL rs) → JOk rs → 0 < rs.length → rs.length ≤ 40 → Q (.ref l) H'
theorem Draw.more {K : PySem.W.Frag} {H H' : Hp} {st : Addr} (d : Draw K H st) (g : Same H H') : Drawn K st H H' := ⟨d.same g, Keep.same g⟩
theorem GrpAt.drawn {K : PySem.W.Frag} {H H' : Hp} {l st : Addr} {gs : List (List Int)} (h : GrpAt H l gs) (ne : l ≠ st) (d : Draw K H st) (k : Drawn K st H H') : GrpAt H' l gs := by
  obtain ⟨a, ns, j, c, e, _⟩ := d
  exact h.keep ne e k.keep
end L2

set_option Elab.async false
set_option linter.all false
set_option maxRecDepth 100000
/-! OC: trees that are fixed, and their values -/
namespace L2
open PySem
/-- a number of at most a hundred figures -/
def Few (v : Int) : Prop := -G100 < v ∧ v < G100
theorem Few.big {v : Int} (h : Few v) : v.natAbs < 2 ^ 2000 := by
  have : v.natAbs < (10000000000000000000000000000000000000000000000000000000000000000000000000000000000000000000000000000 : Nat) := by
    unfold Few G100 at h
    omega
  exact Nat.lt_trans this (by decide)
/-- what two values come to, or none -/
instance (v : Int) : Decidable (Few v) := inferInstanceAs (Decidable (_ ∧ _))
def rk (k a b : Int) : Option Int :=
  if k = 8 then (if Few (a + b) then some (a + b) else none) else if k = 9 then (if Few (a - b) then some (a - b) else none) else if k = 10 then (if Few (a * b) then some (a * b) else none)
  else if k = 13 then some (if a < b then 1 else 0) else if k = 14 then some (if a = b then 1 else 0) else if b = 0 then none else if k = 11 then some (a.fdiv b) else some (a.fmod b)
theorem wV_rk (v : Int) : (Few v ∧ wV v = [.non, .int v]) ∨ (¬ Few v ∧ wV v = [.str "great", .int 0]) := by
  unfold wV
  by_cases h : v ≥ G100 ∨ v ≤ -G100
  · rw [if_pos h]
    exact .inr ⟨fun z => by unfold Few at z; omega, rfl⟩
  · rw [if_neg h]
    exact .inl ⟨by unfold Few; omega, rfl⟩
theorem reck_rk (k a b : Int) : (∃ v, rk k a b = some v ∧ reckV k a b = [.non, .int v]) ∨ (rk k a b = none ∧ ∃ z, reckV k a b = [.str z, .int 0]) := by
  have two : ∀ v : Int, (∃ u, (if Few v then some v else none) = some u ∧ wV v = [.non, .int u]) ∨ ((if Few v then some v else none) = none ∧ ∃ z, wV v = [.str z, .int 0]) := fun v => by
    rcases wV_rk v with ⟨h, e⟩ | ⟨h, e⟩
    · exact .inl ⟨v, if_pos h, e⟩
    · exact .inr ⟨if_neg h, _, e⟩
  unfold rk reckV
  by_cases h8 : k = 8
  · simp only [if_pos h8]; exact two _
  by_cases h9 : k = 9
  · simp only [if_neg h8, if_pos h9]; exact two _
  by_cases h10 : k = 10
  · simp only [if_neg h8, if_neg h9, if_pos h10]; exact two _
  simp only [if_neg h8, if_neg h9, if_neg h10]
  by_cases h13 : k = 13
  · simp only [if_pos h13]; exact .inl ⟨_, rfl, rfl⟩
  by_cases h14 : k = 14
  · simp only [if_neg h13, if_pos h14]; exact .inl ⟨_, rfl, rfl⟩
  simp only [if_neg h13, if_neg h14]
  by_cases hb : b = 0
  · rw [if_pos hb, if_pos hb]; exact .inr ⟨rfl, _, rfl⟩
  by_cases h11 : k = 11
  · simp only [if_neg hb, if_pos h11]; exact .inl ⟨_, rfl, rfl⟩
  · simp only [if_neg hb, if_neg h11]; exact .inl ⟨_, rfl, rfl⟩
theorem fdiv_few {a b : Int} (ha : Few a) : Few (a.fdiv b) := by
  have e := Int.natAbs_fdiv_le_natAbs a b
  unfold Few at *
  omega
theorem fmod_few {a b : Int} (hb : Few b) (h0 : b ≠ 0) : Few (a.fmod b) := by
  unfold Few at *
  rcases Int.lt_or_gt_of_ne h0 with h | h
  · have h1 := Int.emod_nonneg a h0
    have h2 := Int.emod_lt_of_neg a h
    rw [Int.fmod_eq_emod]
    split
    · omega
    · omega
  · have h1 := Int.fmod_nonneg_of_pos a h
    have h2 := Int.fmod_lt_of_pos a h
    omega
theorem rk_few {k a b v : Int} (ha : Few a) (hb : Few b) (h : rk k a b = some v) : Few v := by
  have one : ∀ p : Prop, [Decidable p] → Few (if p then 1 else 0) := fun p _ => by
    unfold Few
    split <;> decide
  have two : ∀ u : Int, (if Few u then some u else none) = some v → Few v := fun u z => by
    split at z
    · cases z; assumption
    · cases z
  unfold rk at h
  split at h
  · exact two _ h
  split at h
  · exact two _ h
  split at h
  · exact two _ h
  split at h
  · cases h; exact one _
  split at h
  · cases h; exact one _
  split at h
  · cases h
  rename_i h0
  split at h
  · cases h; exact fdiv_few ha
  · cases h; exact fmod_few hb h0
mutual
/-- the value of a tree that is fixed -/
def valT : Tr → Option Int
  | .mk k own ps => if k = 0 then own.head? else if k < 8 ∨ 14 < k then none else
    match valTs ps with
    | [some a, some b] => rk k a b
    | _ => none
def valTs : List Tr → List (Option Int)
  | [] => []
  | a :: r => valT a :: valTs r
end
/-- a tree that may be asked: a number's own number is of at most a hundred figures, what counts has two parts -/
def FxOk : Nat → Tr → Prop
  | 0, _ => False
  | d + 1, .mk k own ps => (k = 0 → ∃ n, own = [n] ∧ Few n) ∧ (8 ≤ k → k ≤ 14 → ps.length = 2) ∧ ∀ p, p ∈ ps → FxOk d p
theorem val_few : ∀ (d : Nat) (t : Tr) (v : Int), FxOk d t → valT t = some v → Few v
  | 0, _, _, h, _ => h.elim
  | d + 1, .mk k own ps, v, ⟨h0, h2, hp⟩, e => by
    unfold valT at e
    split at e
    · rename_i hk
      obtain ⟨n, rfl, fn⟩ := h0 hk
      cases e
      exact fn
    split at e
    · cases e
    rename_i hk
    have l2 := h2 (by omega) (by omega)
    match ps, l2, hp, e with
    | [p, q], _, hp, e =>
      simp only [valTs] at e
      split at e
      · rename_i a b z
        injection z with z1 z2
        injection z2 with z2 _
        exact rk_few (val_few d p a (hp p (by simp)) z1) (val_few d q b (hp q (by simp)) z2) e
      · cases e
theorem val_two {k : Int} {own : List Int} (k0 : k ≠ 0) (k8 : 8 ≤ k) (k14 : k ≤ 14) (p1 p2 : Tr) : valT (.mk k own [p1, p2]) = match [valT p1, valT p2] with
    | [some a, some b] => rk k a b
    | _ => none := by
  show (if k = 0 then own.head? else if k < 8 ∨ 14 < k then none else match valTs [p1, p2] with
    | [some a, some b] => rk k a b
    | _ => none) = _
  rw [if_neg k0, if_neg (by omega)]
  rfl
theorem FxOk.more : ∀ {d : Nat} {t : Tr}, FxOk d t → FxOk (d + 1) t
  | 0, _, h => h.elim
  | d + 1, .mk k own ps, ⟨h0, h2, hp⟩ => ⟨h0, h2, fun p z => (hp p z).more⟩
theorem FxOk.up {d e : Nat} {t : Tr} (h : FxOk d t) (le : d ≤ e) : FxOk e t := by
  induction le with
  | refl => exact h
  | step _ ih => exact ih.more
def oZ : Option Int → V
  | none => .non
  | some n => .int n
def spFixed (d : Nat) : Sp := fun vs H Q _ => ∃ (v : V) (t : Tr), vs = [v] ∧ TrAt H d v t ∧ FxOk d t ∧ ∀ H', Same H H' → Q (oZ (valT t)) H'
/-- a state that draws, with two numbers more -/
def Draw5 (K : PySem.W.Frag) (H : Hp) (st : Addr) : Prop := ∃ a ns k c x y, H st = some (.lst [.ref a, .int k, .int c, .int x, .int y]) ∧ Scr K H a ns ∧ ns.length ≤ 63 ∧ 0 ≤ k ∧ 0 ≤ c
structure Drawn5 (K : PySem.W.Frag) (st : Addr) (H H' : Hp) : Prop where
  draw : Draw5 K H' st
  keep : Keep st H H'
theorem Drawn5.trans {K : PySem.W.Frag} {st : Addr} {H H1 H2 : Hp} (a : Drawn5 K st H H1) (b : Drawn5 K st H1 H2) : Drawn5 K st H H2 := ⟨b.draw, a.keep.trans b.keep⟩
theorem Draw5.refl {K : PySem.W.Frag} {st : Addr} {H : Hp} (d : Draw5 K H st) : Drawn5 K st H H := ⟨d, Keep.refl st H⟩
theorem Draw5.is {K : PySem.W.Frag} {H : Hp} {st : Addr} (d : Draw5 K H st) : ∃ xs, H st = some (.lst xs) := by
  obtain ⟨a, ns, k, c, x, y, e, _⟩ := d
  exact ⟨_, e⟩
theorem Draw5.ne {K : PySem.W.Frag} {st b : Addr} {H : Hp} (d : Draw5 K H st) (h : H b = none) : st ≠ b := by
  obtain ⟨xs, e⟩ := d.is
  exact ne_of_none e h
theorem Draw5.same {K : PySem.W.Frag} {st : Addr} {H H' : Hp} (d : Draw5 K H st) (h : Same H H') : Draw5 K H' st := by
  obtain ⟨a, ns, k, c, x, y, e, s, r⟩ := d
  exact ⟨a, ns, k, c, x, y, h _ _ e, s.keep e (Keep.same h), r⟩
theorem Draw5.more {K : PySem.W.Frag} {H H' : Hp} {st : Addr} (d : Draw5 K H st) (g : Same H H') : Drawn5 K st H H' := ⟨d.same g, Keep.same g⟩
theorem Draw5.new {K : PySem.W.Frag} {st p : Addr} {H : Hp} (d : Draw5 K H st) (h : H p = none) (o : HO) : Drawn5 K st H (upd H p o) := d.more (same_new h o)
theorem Draw5.put {K : PySem.W.Frag} {st p : Addr} {H : Hp} {xs ys : List V} (d : Draw5 K H st) (hp : H p = some (.lst xs)) (n : p ≠ st) : Draw5 K (upd H p (.lst ys)) st := by
  obtain ⟨a, ns, k, c, x, y, e, s, r⟩ := d
  refine ⟨a, ns, k, c, x, y, (by rw [upd_ne (Ne.symm n)]; exact e), ?_, r⟩
  rcases s with ⟨o, s⟩ | s
  · exact .inl ⟨o, by rw [upd_ne (fun z => by rw [z, hp] at s; cases s)]; exact s⟩
  · exact .inr s
theorem Drawn5.free {K : PySem.W.Frag} {st b : Addr} {H H' : Hp} (h : Drawn5 K st H H') (e : H' b = none) : H b = none := by
  cases z : H b with
  | none => rfl
  | some o => rw [h.keep b o (Ne.symm (h.draw.ne e)) z] at e; cases e
theorem Drawn5.tups {K : PySem.W.Frag} {st : Addr} {H H' : Hp} (d : Draw5 K H st) (h : Drawn5 K st H H') : Tups H H' := by
  obtain ⟨xs, e⟩ := d.is
  exact fun b vs z => h.keep b _ (fun y => by rw [y, e] at z; cases z) z
def spTake5 (K : PySem.W.Frag) : Sp := fun vs H Q _ => ∃ (st : Addr) (many : Int), vs = [.ref st, .int many] ∧ 0 < many ∧ many < 1073741824 ∧ Draw5 K H st ∧ ∀ (r : Int) (H' : Hp), 0 ≤ r → r < many → Drawn5 K st H H' → Q (.int r) H'
def spInt5 (K : PySem.W.Frag) (B : Int → Prop) : Sp := fun vs H Q _ => ∃ (st : Addr), vs = [.ref st] ∧ Draw5 K H st ∧ ∀ (r : Int) (H' : Hp), B r → Drawn5 K st H H' → Q (.int r) H'
/-- a tree drawn -/
def spTree5 (K : PySem.W.Frag) (d : Nat) (B : Tr → Prop) : Sp := fun vs H Q _ => ∃ (st : Addr), vs = [.ref st] ∧ Draw5 K H st ∧ ∀ v t H', Drawn5 K st H H' → TrAt H' d v t → FxOk d t → B t → Q v H'
def spNode5 (K : PySem.W.Frag) (d : Nat) : Sp := fun vs H Q _ => ∃ (st : Addr), vs = [.ref st, .int (6 - (d : Int))] ∧ d ≤ 5 ∧ Draw5 K H st ∧ ∀ v t H', Drawn5 K st H H' → TrAt H' (d + 2) v t → FxOk (d + 2) t → Q v H'
def spWorked : Sp := fun vs H Q _ => ∃ k a b : Int, vs = [.int k, .int a, .int b] ∧ 8 ≤ k ∧ k ≤ 14 ∧ Few a ∧ Few b ∧ ∀ H', Same H H' → Q (oZ (rk k a b)) H'
def spNodeS (K : PySem.W.Frag) : Nat → Sp
  | 0 => fun _ _ _ _ => False
  | d + 1 => spNode5 K d
theorem fn_none {P : Program} {w : World} {K : PySem.W.Frag} {mg : Str → Option Value} {base : Heap} {CX : CXT} {k : Nat} {f : Addr} {fd : FuncData} {ps : List Str} {sp : Sp} (h : ∀ vs H Q E, ¬ sp vs H Q E) : FnOk P w K mg base CX k f fd ps sp :=
  ⟨fun _ _ _ _ z => (h _ _ _ _ z).elim, fun _ _ _ _ _ _ _ _ _ _ _ _ _ z => (h _ _ _ _ z).elim⟩
end L2



set_option Elab.async false
set_option linter.all false
set_option maxRecDepth 100000
namespace OcL
open PySem L2
def top (i : Nat) : Stmt := PySem.Challenge.pw_ownchain_k34_values_that_are_fixed.main.body.getD i (.Pass ⟨0, 0, 0, 0⟩)
abbrev s_within : Stmt := top 13
theorem sc_within : FnScope ["value"] ["value"] (defScope s_within) := ⟨rfl, rfl, rfl, by decide +kernel, rfl, by decide +kernel, by decide +kernel⟩
abbrev s_reckoned : Stmt := top 14
theorem sc_reckoned : FnScope ["kind", "first", "second"] ["kind", "first", "second"] (defScope s_reckoned) := ⟨rfl, rfl, rfl, by decide +kernel, rfl, by decide +kernel, by decide +kernel⟩
abbrev s_done_to_row : Stmt := top 15
theorem sc_done_to_row : FnScope ["kind", "values", "rows", "number", "row", "place"] ["kind", "values", "rows"] (defScope s_done_to_row) := ⟨rfl, rfl, rfl, by decide +kernel, rfl, by decide +kernel, by decide +kernel⟩
abbrev s_worth : Stmt := top 16
theorem sc_worth : FnScope ["kind", "values", "rows"] ["kind", "values", "rows"] (defScope s_worth) := ⟨rfl, rfl, rfl, by decide +kernel, rfl, by decide +kernel, by decide +kernel⟩
abbrev s_fixed : Stmt := top 18
theorem sc_fixed : FnScope ["node", "kind", "place", "numbers", "parts", "values", "fault", "value"] ["node"] (defScope s_fixed) := ⟨rfl, rfl, rfl, by decide +kernel, rfl, by decide +kernel, by decide +kernel⟩
abbrev s__law_cell : Stmt := top 20
theorem sc__law_cell : FnScope ["_law_script", "_law_k"] ["_law_script", "_law_k"] (defScope s__law_cell) := ⟨rfl, rfl, rfl, by decide +kernel, rfl, by decide +kernel, by decide +kernel⟩
abbrev s__law_take : Stmt := top 21
theorem sc__law_take : FnScope ["_law_state", "_law_most", "_law_script", "_law_at", "_law_left", "_law_cell_here", "_law_number_here"] ["_law_state", "_law_most"] (defScope s__law_take) := ⟨rfl, rfl, rfl, by decide +kernel, rfl, by decide +kernel, by decide +kernel⟩
abbrev s__law_number : Stmt := top 22
theorem sc__law_number : FnScope ["_law_state", "_law_way", "_law_great"] ["_law_state"] (defScope s__law_number) := ⟨rfl, rfl, rfl, by decide +kernel, rfl, by decide +kernel, by decide +kernel⟩
abbrev s__law_leaf : Stmt := top 23
theorem sc__law_leaf : FnScope ["_law_state"] ["_law_state"] (defScope s__law_leaf) := ⟨rfl, rfl, rfl, by decide +kernel, rfl, by decide +kernel, by decide +kernel⟩
abbrev s__law_other : Stmt := top 24
theorem sc__law_other : FnScope ["_law_state", "_law_kind", "_law_many", "_law_numbers"] ["_law_state"] (defScope s__law_other) := ⟨rfl, rfl, rfl, by decide +kernel, rfl, by decide +kernel, by decide +kernel⟩
abbrev s__law_node : Stmt := top 25
theorem sc__law_node : FnScope ["_law_state", "_law_deep", "_law_kind"] ["_law_state", "_law_deep"] (defScope s__law_node) := ⟨rfl, rfl, rfl, by decide +kernel, rfl, by decide +kernel, by decide +kernel⟩
abbrev s__law_worked : Stmt := top 26
theorem sc__law_worked : FnScope ["_law_kind", "_law_one", "_law_other_here", "_law_found"] ["_law_kind", "_law_one", "_law_other_here"] (defScope s__law_worked) := ⟨rfl, rfl, rfl, by decide +kernel, rfl, by decide +kernel, by decide +kernel⟩
abbrev s__law_due : Stmt := top 27
theorem sc__law_due : FnScope ["_law_node_here", "_law_kind", "_law_place", "_law_numbers", "_law_parts", "_law_one", "_law_other_here"] ["_law_node_here"] (defScope s__law_due) := ⟨rfl, rfl, rfl, by decide +kernel, rfl, by decide +kernel, by decide +kernel⟩
abbrev s_law : Stmt := top 28
theorem sc_law : FnScope ["_law_script", "_law_state", "_law_turn", "_law_node_here", "_law_right", "_law_again", "_law_found", "_law_other_here"] ["_law_script"] (defScope s_law) := ⟨rfl, rfl, rfl, by decide +kernel, rfl, by decide +kernel, by decide +kernel⟩
/-- what of the text's top is used -/
structure Txt (K : PySem.W.Frag) (mg : Str → Option Value) : Prop where
  n_len : mg "len" = none
  n_abs : mg "abs" = none
  n_range : mg "range" = none
  n_isinstance : mg "isinstance" = none
  n_int : mg "int" = none
  n_bool : mg "bool" = none
  n_tuple : mg "tuple" = none
  m_NUMBER : GInt mg "NUMBER" 0
  m_ADD : GInt mg "ADD" 8
  m_SUB : GInt mg "SUB" 9
  m_MUL : GInt mg "MUL" 10
  m_QUO : GInt mg "QUO" 11
  m_LESS : GInt mg "LESS" 13
  m_SAME : GInt mg "SAME" 14
  m_PUSH : GInt mg "PUSH" 15
  m_PUT : GInt mg "PUT" 17
  m_SIZE : GInt mg "SIZE" 18
  m_NEW : GInt mg "NEW" 19
  m_GREAT : GInt mg "GREAT" 10000000000000000000000000000000000000000000000000000000000000000000000000000000000000000000000000000
  kint : PySem.W.kitOne K (.type "int") (.type "bool") = some false
  knon : PySem.W.kitOne K (.type "NoneType") (.type "bool") = some false

section
variable {P : Program} {w : World} {K : PySem.W.Frag} {mg : Str → Option Value} {base : Heap} {f : Addr} {fd : FuncData}
set_option maxHeartbeats 4000000

theorem ok_within (T : Txt K mg) (F : Fun K "within" "within" s_within f fd) : FnOk P w K mg base (CXE P w) 1 f fd ["value"] spDWithin := by
  refine F.okN sc_within (fun vs H Q E h => ?_) (fun cdv A outer s H vs Q E hr h => ?_)
  · obtain ⟨v, rfl, _⟩ := h
    rfl
  obtain ⟨v, rfl, q⟩ := h
  refine ⟨_, (pss_cons (ps_if (PW.pt (pw_or (pt_cmpR op_ge (pv 0) (pe_gint rfl T.m_GREAT) (nomark _)) (pw_or1 (pt_cmpR op_le (pv 0) (pe_un un_neg (pe_gint rfl T.m_GREAT)) (nomark _))))) (pss_one (ps_ret (pe_tup (pa_consts (.str (.int .nil)))))) pss_nil)
      (pss_one (ps_ret (pe_tup (pa_cons pe_non (pa_cons (pv 0) pa_nil)))))), ?_⟩
  refine ⟨_, rfl, _, _, rfl, rfl, _, rfl, ?_⟩
  have hit : v ≥ G100 ∨ v ≤ -G100 → wV v = [.str "great", .int 0] := fun c => if_pos c
  refine ite2 (fun c => ?_) (fun c => ?_)
  · refine ⟨small (show 2 ≤ 1000 by decide), fun t ht => q _ _ ht ?_⟩
    rw [hit (.inl (of_decide_eq_true c))]
  refine ⟨_, rfl, _, rfl, _, _, rfl, rfl, _, rfl, ?_⟩
  refine ite2 (fun c2 => ?_) (fun c2 => ?_)
  · refine ⟨small (show 2 ≤ 1000 by decide), fun t ht => q _ _ ht ?_⟩
    rw [hit (.inr (of_decide_eq_true c2))]
  · refine ⟨_, rfl, small (show 2 ≤ 1000 by decide), fun t ht => q _ _ ht ?_⟩
    have c1' := of_decide_eq_false (Bool.eq_false_iff.mpr c)
    have c2' := of_decide_eq_false (Bool.eq_false_iff.mpr c2)
    have : wV v = [.non, .int v] := if_neg fun z => by rcases z with z | z; exact c1' z; exact c2' z
    rw [this]
theorem ok_reckoned (T : Txt K mg) (F : Fun K "reckoned" "reckoned" s_reckoned f fd) (Cwithin : Cal P w K mg base (CXE P w) 1 "within" ["value"] spDWithin) : FnOk P w K mg base (CXE P w) 2 f fd ["kind", "first", "second"] spReck := by
  refine F.okN sc_reckoned (fun vs H Q E h => ?_) (fun cdv A outer s H vs Q E hr h => ?_)
  · obtain ⟨k, a, b, rfl, _⟩ := h
    rfl
  obtain ⟨k, a, b, rfl, ha, hb, q⟩ := h
  refine ⟨_, (pss_cons (ps_if (pt_cmpR op_eq (pv 0) (pe_gint rfl T.m_ADD) (nomark _)) (pss_one (ps_ret (pe_callC Cwithin hr rfl (pa_cons (pe_op op_add (pv 1) (pv 2)) pa_nil) passN))) pss_nil)
      (pss_cons (ps_if (pt_cmpR op_eq (pv 0) (pe_gint rfl T.m_SUB) (nomark _)) (pss_one (ps_ret (pe_callC Cwithin hr rfl (pa_cons (pe_op op_sub (pv 1) (pv 2)) pa_nil) passN))) pss_nil)
      (pss_cons (ps_if (pt_cmpR op_eq (pv 0) (pe_gint rfl T.m_MUL) (nomark _)) (pss_one (ps_ret (pe_callC Cwithin hr rfl (pa_cons (pe_op op_mulB (pv 1) (pv 2)) pa_nil) passN))) pss_nil)
      (pss_cons (ps_if (pt_cmpR op_eq (pv 0) (pe_gint rfl T.m_LESS) (nomark _)) (pss_one (ps_ret (pe_tup (pa_cons pe_non (pa_cons (pe_ifExp (pt_cmpR op_lt (pv 1) (pv 2) (nomark _)) pe_int pe_int) pa_nil))))) pss_nil)
      (pss_cons (ps_if (pt_cmpR op_eq (pv 0) (pe_gint rfl T.m_SAME) (nomark _)) (pss_one (ps_ret (pe_tup (pa_cons pe_non (pa_cons (pe_ifExp (pt_cmpR op_eq (pv 1) (pv 2) (nomark _)) pe_int pe_int) pa_nil))))) pss_nil)
      (pss_cons (ps_if (pt_cmpR op_eq (pv 2) pe_int (nomark _)) (pss_one (ps_ret (pe_tup (pa_consts (.str (.int .nil)))))) pss_nil)
      (pss_cons (ps_if (pt_cmpR op_eq (pv 0) (pe_gint rfl T.m_QUO) (nomark _)) (pss_one (ps_ret (pe_tup (pa_cons pe_non (pa_cons (pe_op op_fdivZ (pv 1) (pv 2)) pa_nil))))) pss_nil)
      (pss_one (ps_ret (pe_tup (pa_cons pe_non (pa_cons (pe_op op_modN (pv 1) (pv 2)) pa_nil)))))))))))), ?_⟩
  refine ⟨_, rfl, rfl, _, rfl, ?_⟩
  refine ite2 (fun c8 => ?_) (fun c8 => ?_)
  · have e := vt c8
    subst e
    exact ⟨_, rfl, _, rfl, _, _, rfl, rfl, _, rfl, fun p H' hp e => q p H' hp e⟩
  have e8 := vf c8
  refine ⟨_, rfl, rfl, _, rfl, ?_⟩
  refine ite2 (fun c9 => ?_) (fun c9 => ?_)
  · have e := vt c9
    subst e
    exact ⟨_, rfl, _, rfl, _, _, rfl, rfl, _, rfl, fun p H' hp e => q p H' hp e⟩
  have e9 := vf c9
  refine ⟨_, rfl, rfl, _, rfl, ?_⟩
  refine ite2 (fun c10 => ?_) (fun c10 => ?_)
  · have e := vt c10
    subst e
    exact ⟨_, rfl, _, rfl, _, _, rfl, rfl, ⟨ha, hb⟩, _, rfl, fun p H' hp e => q p H' hp e⟩
  have e10 := vf c10
  refine ⟨_, rfl, rfl, _, rfl, ?_⟩
  refine ite2 (fun c13 => ?_) (fun c13 => ?_)
  · have e := vt c13
    subst e
    refine ⟨_, rfl, _, rfl, _, _, rfl, rfl, _, rfl, ?_⟩
    refine ite2 (fun cl => ?_) (fun cl => ?_)
    · refine ⟨small (show 2 ≤ 1000 by decide), fun t ht => q _ _ ht ?_⟩
      have : reckV 13 a b = [.non, .int (if a < b then 1 else 0)] := rfl
      rw [this, if_pos (of_decide_eq_true cl)]
    · refine ⟨small (show 2 ≤ 1000 by decide), fun t ht => q _ _ ht ?_⟩
      have : reckV 13 a b = [.non, .int (if a < b then 1 else 0)] := rfl
      rw [this, if_neg (of_decide_eq_false (Bool.eq_false_iff.mpr cl))]
  have e13 := vf c13
  refine ⟨_, rfl, rfl, _, rfl, ?_⟩
  refine ite2 (fun c14 => ?_) (fun c14 => ?_)
  · have e := vt c14
    subst e
    refine ⟨_, rfl, _, rfl, rfl, _, rfl, ?_⟩
    refine ite2 (fun cl => ?_) (fun cl => ?_)
    · refine ⟨small (show 2 ≤ 1000 by decide), fun t ht => q _ _ ht ?_⟩
      have : reckV 14 a b = [.non, .int (if a = b then 1 else 0)] := rfl
      rw [this, if_pos (vt cl)]
    · refine ⟨small (show 2 ≤ 1000 by decide), fun t ht => q _ _ ht ?_⟩
      have : reckV 14 a b = [.non, .int (if a = b then 1 else 0)] := rfl
      rw [this, if_neg (vf cl)]
  have e14 := vf c14
  have rest : reckV k a b = if b = 0 then [.str "zero", .int 0] else if k = 11 then [.non, .int (a.fdiv b)] else [.non, .int (a.fmod b)] := by
    unfold reckV
    rw [if_neg e8, if_neg e9, if_neg e10, if_neg e13, if_neg e14]
  refine ⟨_, rfl, rfl, _, rfl, ?_⟩
  refine ite2 (fun c0 => ?_) (fun c0 => ?_)
  · refine ⟨small (show 2 ≤ 1000 by decide), fun t ht => q _ _ ht ?_⟩
    rw [rest, if_pos (vt c0)]
  have e0 := vf c0
  rw [if_neg e0] at rest
  refine ⟨_, rfl, rfl, _, rfl, ?_⟩
  refine ite2 (fun c11 => ?_) (fun c11 => ?_)
  · refine ⟨_, rfl, _, rfl, _, _, rfl, rfl, ⟨e0, hb⟩, small (show 2 ≤ 1000 by decide), fun t ht => q _ _ ht ?_⟩
    rw [rest, if_pos (vt c11)]
  · refine ⟨_, rfl, _, rfl, _, _, rfl, rfl, e0, small (show 2 ≤ 1000 by decide), fun t ht => q _ _ ht ?_⟩
    rw [rest, if_neg (vf c11)]
theorem ok_row (T : Txt K mg) (F : Fun K "done_to_row" "done_to_row" s_done_to_row f fd) : FnOk P w K mg base (CXE P w) 1 f fd ["kind", "values", "rows"] spRow := by
  refine F.okN sc_done_to_row (fun vs H Q E h => ?_) (fun cdv A outer s H vs Q E hr h => ?_)
  · obtain ⟨k, v0, v1, v2, vp, rp, vals, rs, rows, rfl, _⟩ := h
    rfl
  obtain ⟨k, v0, v1, v2, vp, rp, vals, rs, rows, rfl, hv, ev, hk0, hk1, hout, hR, hlen, q⟩ := h
  refine ⟨_, (pss_cons (ps_set (i := 3) sc_done_to_row.nd rfl (Or.inl rfl) (pe_ix ix_list (pv 1) pe_int (fun _ _ => rfl)))
      (pss_cons (ps_if (PW.pt (pw_or (pt_cmpR op_lt (pv 3) pe_int (nomark _)) (pw_or1 (pt_cmpR op_ge (pv 3) (pe_callB call_len_seq rfl T.n_len bt_len (pa_cons (pv 2) pa_nil)) (nomark _))))) (pss_one (ps_ret (pe_tup (pa_consts (.str (.int .nil)))))) pss_nil)
      (pss_cons (ps_set (i := 4) sc_done_to_row.nd rfl (Or.inl rfl) (pe_ix ix_list (pv 2) (pv 3) (fun _ _ => rfl)))
      (pss_cons (ps_if (pt_cmpR op_eq (pv 0) (pe_gint rfl T.m_SIZE) (nomark _)) (pss_one (ps_ret (pe_tup (pa_cons pe_non (pa_cons (pe_callB call_len_seq rfl T.n_len bt_len (pa_cons (pv 4) pa_nil)) pa_nil))))) pss_nil)
      (pss_cons (ps_if (pt_cmpR op_eq (pv 0) (pe_gint rfl T.m_PUSH) (nomark _)) (pss_cons (ps_expr (pe_bm PySem.F.plainAttrs_list PySem.F.slot_list_append PySem.F.type_list_append mt_append (pv 4) (pa_cons (pe_ix ix_list (pv 1) pe_int (fun _ _ => rfl)) pa_nil)))
      (pss_one (ps_ret (pe_tup (pa_cons pe_non (pa_cons (pe_ix ix_list (pv 1) pe_int (fun _ _ => rfl)) pa_nil)))))) pss_nil)
      (pss_cons (ps_set (i := 5) sc_done_to_row.nd rfl (Or.inl rfl) (pe_ix ix_list (pv 1) pe_int (fun _ _ => rfl)))
      (pss_cons (ps_if (PW.pt (pw_or (pt_cmpR op_lt (pv 5) pe_int (nomark _)) (pw_or1 (pt_cmpR op_ge (pv 5) (pe_callB call_len_seq rfl T.n_len bt_len (pa_cons (pv 4) pa_nil)) (nomark _))))) (pss_one (ps_ret (pe_tup (pa_consts (.str (.int .nil)))))) pss_nil)
      (pss_cons (ps_if (pt_cmpR op_eq (pv 0) (pe_gint rfl T.m_PUT) (nomark _)) (pss_one (ps_asg (pe_ix ix_list (pv 1) pe_int (fun _ _ => rfl)) (pg_sub (pv 4) (pv 5) set_list))) pss_nil)
      (pss_one (ps_ret (pe_tup (pa_cons pe_non (pa_cons (pe_ix ix_list (pv 4) (pv 5) (fun _ _ => rfl)) pa_nil))))))))))))), ?_⟩
  have ar : (arity k = 1 ∧ k = 18) ∨ (arity k = 2 ∧ k ≠ 17 ∧ k ≠ 18) ∨ (arity k = 3 ∧ k = 17) := by
    unfold arity
    by_cases h18 : k = 18
    · subst h18; exact .inl ⟨rfl, rfl⟩
    · by_cases h17 : k = 17
      · subst h17; exact .inr (.inr ⟨rfl, rfl⟩)
      · rw [if_neg (show ¬ k = 19 by omega), if_neg h18, if_neg h17]; exact .inr (.inl ⟨rfl, h17, h18⟩)
  have a0 : atI (vals.map V.int) 0 = some (.int v0) := by
    rcases ar with ⟨e, _⟩ | ⟨e, _⟩ | ⟨e, _⟩ <;> rw [ev, e] <;> rfl
  have a1 : k ≠ 18 → atI (vals.map V.int) 1 = some (.int v1) := fun n => by
    rcases ar with ⟨e, z⟩ | ⟨e, _⟩ | ⟨e, _⟩
    · exact absurd z n
    · rw [ev, e] <;> rfl
    · rw [ev, e] <;> rfl
  have a2 : k = 17 → atI (vals.map V.int) 2 = some (.int v2) := fun n => by
    rcases ar with ⟨e, z⟩ | ⟨e, z, _⟩ | ⟨e, _⟩
    · omega
    · omega
    · rw [ev, e] <;> rfl
  refine ⟨_, rfl, vp, _, _, _, rfl, rfl, SqL.of hv, a0, ?_⟩
  refine ⟨_, rfl, _, _, rfl, rfl, _, rfl, ?_⟩
  have stay : ∀ (out : List V) (p : Addr), H p = none → Deed H (upd H p (.tup out)) p rp rs rs (out, rows) := fun out p hp =>
    ⟨hp, upd_same, hR.same (same_new hp _), KeepL.same (same_new hp _), .inl rfl⟩
  have bad : v0 < 0 ∨ v0 ≥ rows.length → rowM k v0 v1 v2 rows = ([.str "row", .int 0], rows) := fun z => if_pos z
  have hrl : ((rs.map V.ref).length : Int) = rows.length := by rw [List.length_map, hR.len]
  refine ite2 (fun c => ?_) (fun c => ?_)
  · exact ⟨small (show 2 ≤ 1000 by decide), fun t ht => q _ _ (by rw [bad (.inl (of_decide_eq_true c))]; exact stay _ _ ht)⟩
  refine ⟨_, rfl, _, rfl, rp, _, rfl, .inl (SqL.of hR.here), _, _, rfl, rfl, _, rfl, ?_⟩
  refine ite2 (fun c2 => ?_) (fun c2 => ?_)
  · exact ⟨small (show 2 ≤ 1000 by decide), fun t ht => q _ _ (by rw [bad (.inr (by have := of_decide_eq_true c2; rw [hrl] at this; exact this))]; exact stay _ _ ht)⟩
  have n0 : 0 ≤ v0 := by have := df c; omega
  have n1 : v0 < rows.length := by have := df c2; rw [hrl] at this; omega
  have good : rowM k v0 v1 v2 rows = (if k = 18 then ([.non, .int (rows.getD v0.toNat []).length], rows)
    else if k = 15 then ([.non, .int v1], rows.set v0.toNat (rows.getD v0.toNat [] ++ [v1]))
    else if v1 < 0 ∨ v1 ≥ (rows.getD v0.toNat []).length then ([.str "place", .int 0], rows)
    else if k = 17 then ([.non, .int v2], rows.set v0.toNat ((rows.getD v0.toNat []).set v1.toNat v2))
    else ([.non, .int ((rows.getD v0.toNat []).getD v1.toNat 0)], rows)) := if_neg (by omega)
  have hn : v0.toNat < rs.length := by rw [hR.len]; omega
  have er : rs[v0.toNat]? = some rs[v0.toNat] := List.getElem?_eq_getElem hn
  generalize rs[v0.toNat] = r at er
  obtain ⟨xs, ex, hr1⟩ := hR.is er
  have gx : rows.getD v0.toNat [] = xs := by rw [List.getD_eq_getElem?_getD, ex] <;> rfl
  rw [gx] at good
  have hxs : xs.length < sizeLine := hlen xs (List.mem_iff_getElem?.mpr ⟨_, ex⟩)
  have hrm : r ∈ rs := List.mem_iff_getElem?.mpr ⟨_, er⟩
  have hvr : vp ≠ r := fun z => hout (by rw [z]; exact List.mem_cons_of_mem _ hrm)
  have hxl : ((xs.map V.int).length : Int) = xs.length := by rw [List.length_map]
  refine ⟨_, rfl, _, rfl, rp, _, _, _, rfl, rfl, SqL.of hR.here, atI_at n0 (by rw [List.getElem?_map, er] <;> rfl), ?_⟩
  refine ⟨_, rfl, rfl, _, rfl, ?_⟩
  refine ite2 (fun c18 => ?_) (fun c18 => ?_)
  · refine ⟨_, rfl, r, _, rfl, .inl (SqL.of hr1), small (show 2 ≤ 1000 by decide), fun t ht => q _ _ ?_⟩
    rw [good, if_pos (vt c18), hxl]
    exact stay _ _ ht
  have e18 := vf c18
  rw [if_neg e18] at good
  refine ⟨_, rfl, rfl, _, rfl, ?_⟩
  refine ite2 (fun c15 => ?_) (fun c15 => ?_)
  · refine ⟨_, rfl, .inl ⟨rfl, _, SqL.of hr1⟩, _, rfl, vp, _, _, _, rfl, rfl, SqL.of hv, a1 e18, r, _, _, rfl, rfl, hr1, (by rw [List.length_map]; exact hxs), ?_⟩
    have e1 : xs.map V.int ++ [V.int v1] = (xs ++ [v1]).map V.int := by rw [List.map_append] <;> rfl
    have hR1 := hR.set er (xs ++ [v1])
    rw [← e1] at hR1
    have hv1 : upd H r (.lst (xs.map V.int ++ [V.int v1])) vp = some (.lst (vals.map V.int)) := by rw [upd_ne hvr]; exact hv
    refine ⟨_, rfl, vp, _, _, _, rfl, rfl, SqL.of hv1, a1 e18, small (show 2 ≤ 1000 by decide), fun t ht => q _ _ ?_⟩
    rw [good, if_pos (vt c15)]
    exact ⟨(upd_none ht).2, upd_same, hR1.same (same_new ht _), (KeepL.upd (List.mem_cons_of_mem _ hrm)).trans (KeepL.same (same_new ht _)), .inl rfl⟩
  have e15 := vf c15
  rw [if_neg e15] at good
  refine ⟨_, rfl, vp, _, _, _, rfl, rfl, SqL.of hv, a1 e18, ?_⟩
  refine ⟨_, rfl, _, _, rfl, rfl, _, rfl, ?_⟩
  refine ite2 (fun c => ?_) (fun c => ?_)
  · refine ⟨small (show 2 ≤ 1000 by decide), fun t ht => q _ _ ?_⟩
    rw [good, if_pos (.inl (of_decide_eq_true c))]
    exact stay _ _ ht
  refine ⟨_, rfl, _, rfl, r, _, rfl, .inl (SqL.of hr1), _, _, rfl, rfl, _, rfl, ?_⟩
  refine ite2 (fun c2 => ?_) (fun c2 => ?_)
  · refine ⟨small (show 2 ≤ 1000 by decide), fun t ht => q _ _ ?_⟩
    rw [good, if_pos (.inr (by have := of_decide_eq_true c2; rw [hxl] at this; exact this))]
    exact stay _ _ ht
  have p0 : 0 ≤ v1 := by have := df c; omega
  have p1 : v1 < xs.length := by have := df c2; rw [hxl] at this; omega
  rw [if_neg (by omega)] at good
  refine ⟨_, rfl, rfl, _, rfl, ?_⟩
  refine ite2 (fun c17 => ?_) (fun c17 => ?_)
  · have ei : ixN (xs.map V.int).length v1 = some v1.toNat := by
      unfold ixN
      rw [if_pos p0, if_pos (by rw [hxl]; exact p1)]
    have e1 : (xs.map V.int).set v1.toNat (.int v2) = (xs.set v1.toNat v2).map V.int := by rw [List.map_set]
    have hR1 := hR.set er (xs.set v1.toNat v2)
    rw [← e1] at hR1
    have hr2 : upd H r (.lst ((xs.map V.int).set v1.toNat (.int v2))) r = some (.lst ((xs.map V.int).set v1.toNat (.int v2))) := upd_same
    refine ⟨_, rfl, vp, _, _, _, rfl, rfl, SqL.of hv, a2 (vt c17), _, rfl, _, rfl, r, _, _, _, rfl, rfl, hr1, ei, ?_⟩
    refine ⟨_, rfl, _, rfl, r, _, _, _, rfl, rfl, SqL.of hr2, atI_at p0 (List.getElem?_set_self (by rw [List.length_map]; omega)), small (show 2 ≤ 1000 by decide), fun t ht => q _ _ ?_⟩
    rw [good, if_pos (vt c17)]
    exact ⟨(upd_none ht).2, upd_same, hR1.same (same_new ht _), (KeepL.upd (List.mem_cons_of_mem _ hrm)).trans (KeepL.same (same_new ht _)), .inl rfl⟩
  · have ev1 : xs[v1.toNat]? = some xs[v1.toNat] := List.getElem?_eq_getElem (by omega)
    have gd : xs.getD v1.toNat 0 = xs[v1.toNat] := by rw [List.getD_eq_getElem?_getD, ev1] <;> rfl
    refine ⟨_, rfl, _, rfl, r, _, _, _, rfl, rfl, SqL.of hr1, atI_at p0 (by rw [List.getElem?_map, ev1] <;> rfl), small (show 2 ≤ 1000 by decide), fun t ht => q _ _ ?_⟩
    rw [good, if_neg (vf c17), gd]
    exact stay _ _ ht
theorem ok_worth (T : Txt K mg) (F : Fun K "worth" "worth" s_worth f fd) (Cdone_to_row : Cal P w K mg base (CXE P w) 1 "done_to_row" ["kind", "values", "rows"] spRow) (Creckoned : Cal P w K mg base (CXE P w) 2 "reckoned" ["kind", "first", "second"] spReck) :
    FnOk P w K mg base (CXE P w) 3 f fd ["kind", "values", "rows"] spWorth := by
  refine F.okN sc_worth (fun vs H Q E h => ?_) (fun cdv A outer s H vs Q E hr h => ?_)
  · obtain ⟨k, v0, v1, v2, vp, rp, vals, rs, rows, rfl, _⟩ := h
    rfl
  obtain ⟨k, v0, v1, v2, vp, rp, vals, rs, rows, rfl, hv, ev, hk0, hk1, hout, hR, hlen, hmany, hb, q⟩ := h
  refine ⟨_, (pss_cons (ps_if (pt_cmpR op_eq (pv 0) (pe_gint rfl T.m_NEW) (nomark _)) (pss_cons (ps_expr (pe_bm PySem.F.plainAttrs_list PySem.F.slot_list_append PySem.F.type_list_append mt_append (pv 2) (pa_cons (pe_lst pa_nil) pa_nil)))
      (pss_one (ps_ret (pe_tup (pa_cons pe_non (pa_cons (pe_op op_sub (pe_callB call_len_seq rfl T.n_len bt_len (pa_cons (pv 2) pa_nil)) pe_int) pa_nil)))))) pss_nil)
      (pss_cons (ps_if (pt_cmpR op_ge (pv 0) (pe_gint rfl T.m_PUSH) (nomark _)) (pss_one (ps_ret (pe_callC Cdone_to_row hr rfl (pa_cons (pv 0) (pa_cons (pv 1) (pa_cons (pv 2) pa_nil))) passN))) pss_nil)
      (pss_one (ps_ret (pe_callC Creckoned hr rfl (pa_cons (pv 0) (pa_cons (pe_ix ix_list (pv 1) pe_int (fun _ _ => rfl)) (pa_cons (pe_ix ix_list (pv 1) pe_int (fun _ _ => rfl)) pa_nil))) passN))))), ?_⟩
  refine ⟨_, rfl, rfl, _, rfl, ?_⟩
  refine ite2 (fun c19 => ?_) (fun c19 => ?_)
  · have e := vt c19
    subst e
    refine ⟨_, rfl, .inl ⟨rfl, _, SqL.of hR.here⟩, small (Nat.zero_le _), fun l hl => ?_⟩
    have hlp : rp ≠ l := fun z => by rw [← z, hR.here] at hl; cases hl
    have h1 : upd H l (.lst []) rp = some (.lst (rs.map V.ref)) := by rw [upd_ne hlp]; exact hR.here
    have e1 : (rs ++ [l]).map V.ref = rs.map V.ref ++ [V.ref l] := by rw [List.map_append] <;> rfl
    have hR1 := hR.push hl
    rw [e1] at hR1
    refine ⟨rp, rs.map V.ref, .ref l, rfl, rfl, h1, (by rw [List.length_map, hR.len]; exact hmany), ?_⟩
    refine ⟨_, rfl, rp, _, rfl, .inl (SqL.of upd_same), _, _, rfl, rfl, small (show 2 ≤ 1000 by decide), fun t ht => q t _ (rs ++ [l]) ?_⟩
    have en : V.int ((((rs.map V.ref ++ [V.ref l]).length : Nat) : Int) - 1) = V.int rows.length := by rw [List.length_append, List.length_map, hR.len, List.length_singleton]; congr 1; omega
    show Deed H (upd _ t (HO.tup [V.non, V.int ((((rs.map V.ref ++ [V.ref l]).length : Nat) : Int) - 1)])) t rp rs (rs ++ [l]) (worthM 19 v0 v1 v2 rows)
    rw [en]
    have m19 : worthM 19 v0 v1 v2 rows = ([.non, .int rows.length], rows ++ [[]]) := rfl
    rw [m19]
    refine ⟨(upd_none (upd_none ht).2).2, upd_same, hR1.same (same_new ht _), ?_, .inr ⟨l, hl, Ne.symm (upd_none (upd_none ht).2).1, rfl⟩⟩
    exact ((KeepL.same (same_new hl _)).trans (KeepL.upd (List.mem_cons_self ..))).trans (KeepL.same (same_new ht _))
  have e19 := vf c19
  refine ⟨_, rfl, _, _, rfl, rfl, _, rfl, ?_⟩
  refine ite2 (fun c15 => ?_) (fun c15 => ?_)
  · have c15' := of_decide_eq_true c15
    refine ⟨_, rfl, _, rfl, _, rfl, k, v0, v1, v2, vp, rp, vals, rs, rows, rfl, hv, ev, c15', by omega, hout, hR, hlen, fun p H' d => q p H' rs ?_⟩
    have : worthM k v0 v1 v2 rows = rowM k v0 v1 v2 rows := by unfold worthM; rw [if_neg e19, if_pos c15']
    rw [this]
    exact d
  · have c15' := df c15
    have ar : arity k = 2 := by
      unfold arity
      rw [if_neg e19, if_neg (show ¬ k = 18 by omega), if_neg (show ¬ k = 17 by omega)]
    rw [ar] at ev
    have a0 : atI (vals.map V.int) 0 = some (.int v0) := by rw [ev] <;> rfl
    have a1 : atI (vals.map V.int) 1 = some (.int v1) := by rw [ev] <;> rfl
    obtain ⟨b0, b1⟩ := hb (by omega)
    refine ⟨_, rfl, _, rfl, vp, _, _, _, rfl, rfl, SqL.of hv, a0, _, rfl, vp, _, _, _, rfl, rfl, SqL.of hv, a1, k, v0, v1, rfl, b0, b1, fun p H' hp e => q p H' rs ?_⟩
    have : worthM k v0 v1 v2 rows = (reckV k v0 v1, rows) := by unfold worthM; rw [if_neg e19, if_neg c15']
    rw [this, e]
    exact ⟨hp, upd_same, hR.same (same_new hp _), KeepL.same (same_new hp _), .inl rfl⟩

theorem ok_fixed (d : Nat) (T : Txt K mg) (F : Fun K "fixed" "fixed" s_fixed f fd) (Cworth : Cal P w K mg base (CXE P w) 3 "worth" ["kind", "values", "rows"] spWorth) (Cfixed : Cal P w K mg base (CXE P w) (3 + d) "fixed" ["node"] (spFixed d)) : FnOk P w K mg base (CXE P w) (3 + d + 1) f fd ["node"] (spFixed (d + 1)) := by
  refine F.okN sc_fixed (fun vs H Q E h => ?_) (fun cdv A outer s H vs Q E hr h => ?_)
  · obtain ⟨v, t, rfl, _⟩ := h
    rfl
  obtain ⟨v, t, rfl, ht, fx, q⟩ := h
  cases t with
  | mk k own ps =>
  obtain ⟨t, pl, o, qa, vs, rfl, e1, e2, e3, pr⟩ := ht
  obtain ⟨h0, h2, hp⟩ := fx
  refine ⟨_, (pss_cons (ps_asg (pv 0) (pg_tup rfl (pgs_cons (pg_name (i := 1) sc_fixed.nd rfl (Or.inl rfl)) (pgs_cons (pg_name (i := 2) sc_fixed.nd rfl (Or.inl rfl)) (pgs_cons (pg_name (i := 3) sc_fixed.nd rfl (Or.inl rfl)) (pgs_cons (pg_name (i := 4) sc_fixed.nd rfl (Or.inl rfl)) pgs_nil))))))
      (pss_cons (ps_if (pt_cmpR op_eq (pv 1) (pe_gint rfl T.m_NUMBER) (nomark _)) (pss_one (ps_ret (pe_ix ix_tup (pv 3) pe_int (fun _ _ => rfl)))) pss_nil)
      (pss_cons (ps_if (PW.pt (pw_or (pt_cmpR op_lt (pv 1) (pe_gint rfl T.m_ADD) (nomark _)) (pw_or1 (pt_cmpR op_gt (pv 1) (pe_gint rfl T.m_SAME) (nomark _))))) (pss_one (ps_ret pe_non)) pss_nil)
      (pss_cons (ps_setcomp (i := 5) sc_fixed.nd rfl rfl  (own := ["part"]) (ys := []) rfl (pi_tup (pv 4)) (compSc_of (sc := defScope s_fixed) rfl (by decide +kernel)) .nil (fun _ _ _ _ _ => (pg_name (i := 0) (show List.Nodup [("part" : Str)] from (by decide +kernel)) rfl (Or.inl rfl))) (fun _ _ _ _ _ => pts_nil) (fun _ _ _ _ _ => (pe_callC Cfixed hr rfl (pa_cons (pv 0) pa_nil) passN)))
      (pss_cons (ps_if (pt_cmpR op_in_seq pe_non (pv 5) rfl) (pss_one (ps_ret pe_non)) pss_nil)
      (pss_cons (ps_asg (pe_callC Cworth hr rfl (pa_cons (pv 1) (pa_cons (pv 5) (pa_cons (pe_lst pa_nil) pa_nil))) passN) (pg_tup rfl (pgs_cons (pg_name (i := 6) sc_fixed.nd rfl (Or.inl rfl)) (pgs_cons (pg_name (i := 7) sc_fixed.nd rfl (Or.inl rfl)) pgs_nil))))
      (pss_one (ps_ret (pe_ifExp (pt_cmpR op_isN (pv 6) pe_non (nomark _)) (pv 7) pe_non))))))))), ?_⟩
  refine ⟨_, rfl, t, _, rfl, SqT.of e1, rfl, _, _, rfl, _, _, rfl, _, _, rfl, _, _, rfl, rfl, ?_⟩
  refine ⟨_, rfl, rfl, _, rfl, ite2 (fun c => ?_) (fun c => ?_)⟩
  · have k0 := vt c
    obtain ⟨n, rfl, fn⟩ := h0 k0
    have e : valT (.mk k [n] ps) = some n := by unfold valT; rw [if_pos k0] <;> rfl
    rw [e] at q
    exact ⟨_, rfl, o, _, _, _, rfl, rfl, SqT.of e2, rfl, q H (Same.refl H)⟩
  have k0 := vf c
  have none8 : k < 8 ∨ 14 < k → Q .non H := fun z => by
    have e : valT (.mk k own ps) = none := by unfold valT; rw [if_neg k0, if_pos z]
    rw [e] at q
    exact q H (Same.refl H)
  refine ⟨_, rfl, _, _, rfl, rfl, _, rfl, ite2 (fun c => iteT (none8 (.inl (of_decide_eq_true c)))) (fun c => ?_)⟩
  have k8 := df c
  refine ⟨_, rfl, _, _, rfl, rfl, _, rfl, ite2 (fun c => none8 (.inr (of_decide_eq_true c))) (fun c => ?_)⟩
  have k14 := df c
  have l2 := h2 (by omega) (by omega)
  obtain ⟨p1, p2, rfl⟩ : ∃ p1 p2, ps = [p1, p2] := by
    match ps, l2 with
    | [a, b], _ => exact ⟨a, b, rfl⟩
  have eV := val_two (own := own) k0 (by omega) (by omega) p1 p2
  have lv : vs.length = 2 := Paired.len pr
  refine ⟨_, rfl, qa, rfl, ⟨_, SqT.of e3⟩, fun p hp' => ?_⟩
  refine comp_tup (xs := vs) (fun i σ' H' => ∃ x, σ' = [x] ∧ Same H H' ∧ H' p = some (.lst ((([valT p1, valT p2].take i).map oZ)))) ⟨_, rfl, same_new hp' _, upd_same⟩ ?_ ?_ ?_
  · rintro i σ' H' _ ⟨x, rfl, g, _⟩
    exact Same.seqT g (SqT.of e3)
  · rintro i x σ' H' hi hx ⟨y, rfl, g, ez⟩
    obtain ⟨tx, hg, tt⟩ := Paired.yonder pr hx
    have fx := hp tx (List.mem_iff_getElem?.mpr ⟨_, hg⟩)
    dsimp only [gName, tYes]
    refine iteT ⟨_, rfl, x, tx, rfl, TrAt.tups (.same g) tt, fx, fun H2 g2 => ?_⟩
    have hv : [valT p1, valT p2][i]? = some (valT tx) := by
      match i, hg with
      | 0, hg => cases hg; rfl
      | 1, hg => cases hg; rfl
    refine ⟨_, g2 _ _ ez, small1000 (by rw [List.length_map]; exact Nat.le_trans (List.length_take_le' ..) (show 2 ≤ 1000 by decide)), CW.next hi ⟨_, rfl, (g.trans g2).fresh hp', ?_⟩⟩
    rw [upd_same, List.take_succ, hv, List.map_append] <;> rfl
  · rintro σ' H1 ⟨x, rfl, g1, ez⟩
    rw [lv] at ez
    have ez' : H1 p = some (.lst [oZ (valT p1), oZ (valT p2)]) := ez
    clear ez
    have f1 := hp p1 (by simp)
    have f2 := hp p2 (by simp)
    rw [eV] at q
    cases z1 : valT p1 with
    | none =>
      rw [z1] at q ez'
      cases z2 : valT p2 with
      | none =>
        rw [z2] at q ez'
        exact ⟨_, rfl, p, _, rfl, .inl (SqL.of ez'), rfl, rfl, _, rfl, ite2 (fun _ => q H1 g1) (fun c => absurd rfl c)⟩
      | some b =>
        rw [z2] at q ez'
        exact ⟨_, rfl, p, _, rfl, .inl (SqL.of ez'), rfl, rfl, _, rfl, ite2 (fun _ => q H1 g1) (fun c => absurd rfl c)⟩
    | some a =>
      rw [z1] at q ez'
      cases z2 : valT p2 with
      | none =>
        rw [z2] at q ez'
        exact ⟨_, rfl, p, _, rfl, .inl (SqL.of ez'), rfl, rfl, _, rfl, ite2 (fun _ => q H1 g1) (fun c => absurd rfl c)⟩
      | some b =>
        rw [z2] at q ez'
        refine ⟨_, rfl, p, _, rfl, .inl (SqL.of ez'), rfl, rfl, _, rfl, ite2 (fun c => nomatch c) (fun _ => ?_)⟩
        have fa := val_few d p1 a f1 z1
        have fb := val_few d p2 b f2 z2
        refine ⟨_, rfl, _, rfl, small (show 0 ≤ 1000 by decide), fun rp hrp => ?_⟩
        have s2 := same_new hrp (.lst [])
        have ar : [a, b] = [a, b, 0].take (arity k) := by
          have : arity k = 2 := by unfold arity; rw [if_neg (by omega), if_neg (by omega), if_neg (by omega)]
          rw [this] <;> rfl
        have np : p ≠ rp := fun z => by rw [z, hrp] at ez'; cases ez'
        have ew : worthM k a b 0 [] = (reckV k a b, []) := by unfold worthM; rw [if_neg (by omega), if_neg (by omega)]
        refine ⟨k, a, b, 0, p, rp, [a, b], [], [], rfl, s2 _ _ ez', ar, by omega, by omega, by simp [np], RowsAt.nil upd_same, fun xs hx => absurd hx (by simp), by decide, fun _ => ⟨fa.big, fb.big⟩, fun tp H3 rs' dd => ?_⟩
        have told := dd.told
        rw [ew] at told
        have g3 : Same H H3 := fun c o e => dd.keep c o (fun z => by
          have := List.mem_singleton.mp z
          subst this
          rw [g1 _ _ e] at hrp
          cases hrp) (s2 _ _ (g1 _ _ e))
        have q3 := q H3 g3
        clear q
        rcases reck_rk k a b with ⟨v, er, ev⟩ | ⟨er, z, ev⟩
        · rw [show (reckV k a b, ([] : List (List Int))).1 = reckV k a b from rfl, ev] at told
          refine ⟨tp, _, rfl, SqT.of told, rfl, _, _, rfl, _, _, rfl, rfl, ?_⟩
          have q4 : Q (oZ (rk k a b)) H3 := q3
          rw [er] at q4
          exact ⟨_, rfl, rfl, _, rfl, ite2 (fun _ => ⟨_, rfl, q4⟩) (fun c => absurd rfl c)⟩
        · rw [show (reckV k a b, ([] : List (List Int))).1 = reckV k a b from rfl, ev] at told
          refine ⟨tp, _, rfl, SqT.of told, rfl, _, _, rfl, _, _, rfl, rfl, ?_⟩
          have q4 : Q (oZ (rk k a b)) H3 := q3
          rw [er] at q4
          exact ⟨_, rfl, rfl, _, rfl, ite2 (fun c => nomatch c) (fun _ => q4)⟩
theorem ok_fixeds (T : Txt K mg) (F : Fun K "fixed" "fixed" s_fixed f fd) (Cworth : Cal P w K mg base (CXE P w) 3 "worth" ["kind", "values", "rows"] spWorth) (hm : mg "fixed" = some (.ref f)) (hk : PySem.W.keepIn K (.ref f) = true) (hb : Binds K fd ["node"] []) :
    ∀ d, FnOk P w K mg base (CXE P w) (3 + d) f fd ["node"] (spFixed d) := by
  intro d
  induction d with
  | zero => exact fn_none fun vs H Q E h => by obtain ⟨v, t, _, z, _⟩ := h; exact z.elim
  | succ d ih => exact ok_fixed d T F Cworth ⟨⟨_, _, ih, hm, hk, hb⟩⟩

theorem ok_cell (T : Txt K mg) (F : Fun K "_law_cell" "_law_cell" s__law_cell f fd) : FnOk P w K mg base (CXE P w) 1 f fd ["_law_script", "_law_k"] (spCellJ K) := by
  refine F.okN sc__law_cell (fun vs H Q E h => ?_) (fun cdv A outer s H vs Q E hr h => ?_)
  · obtain ⟨a, ns, k, rfl, _⟩ := h
    rfl
  obtain ⟨a, ns, k, rfl, hs, hk, q⟩ := h
  refine ⟨_, (pss_cons (ps_if (pt_cmpR op_lt (pv 1) (pe_callB call_len_seq rfl T.n_len bt_len (pa_cons (pv 0) pa_nil)) (nomark _)) (pss_one (ps_ret (pe_ix ix_list (pv 0) (pv 1) (fun _ _ => rfl)))) pss_nil)
      (pss_one (ps_ret pe_int))), ?_⟩
  have hlen : ((ns.map V.int).length : Int) = ns.length := by rw [List.length_map]
  refine ⟨_, rfl, _, rfl, a, _, rfl, .inl hs.sq, _, _, rfl, rfl, _, rfl, ite2 (fun ck => ?_) (fun ck => q 0)⟩
  have ck' := of_decide_eq_true ck
  rw [hlen] at ck'
  obtain ⟨v, hv⟩ := atI_int (ns := ns) hk ck'
  exact ⟨_, rfl, _, rfl, a, _, _, _, rfl, rfl, hs.sq, hv, q v⟩
theorem ok_take (T : Txt K mg) (F : Fun K "_law_take" "_law_take" s__law_take f fd) (C_law_cell : Cal P w K mg base (CXE P w) 1 "_law_cell" ["_law_script", "_law_k"] (spCellJ K)) : FnOk P w K mg base (CXE P w) 2 f fd ["_law_state", "_law_most"] (spTake5 K) := by
  refine F.okN sc__law_take (fun vs H Q E h => ?_) (fun cdv A outer s H vs Q E hr h => ?_)
  · obtain ⟨st, m, rfl, _⟩ := h
    rfl
  obtain ⟨st, m, rfl, hm0, hm1, D, q⟩ := h
  refine ⟨_, (pss_cons (ps_asg (pe_slice sl_list (pv 0) po_none (po_some pe_int)) (pg_lst rfl (pgs_cons (pg_name (i := 2) sc__law_take.nd rfl (Or.inl rfl)) (pgs_cons (pg_name (i := 3) sc__law_take.nd rfl (Or.inl rfl)) (pgs_cons (pg_name (i := 4) sc__law_take.nd rfl (Or.inl rfl)) pgs_nil)))))
      (pss_cons (ps_cut (ps_if (pt_cmpR op_eq (pv 4) pe_int (nomark _)) (pss_cons (ps_set (i := 5) sc__law_take.nd rfl (Or.inl rfl) (pe_callC C_law_cell hr rfl (pa_cons (pv 2) (pa_cons (pe_op op_mod (pv 3) pe_int) pa_nil)) passN))
      (pss_cons (ps_asg (pe_op op_add (pv 3) pe_int) (pg_sub (pv 0) pe_int set_list))
      (pss_one (ps_if (PW.pt (pw_and (pt_cmpR op_lt (pv 3) (pe_callB call_len_seq rfl T.n_len bt_len (pa_cons (pv 2) pa_nil)) (nomark _)) (pw_and1 (pt_cmpR op_ge (pv 5) (pe_op op_pow pe_int pe_int) (nomark _))))) (pss_one (ps_set (i := 4) sc__law_take.nd rfl (Or.inl rfl) (pv 5))) (pss_cons (ps_set (i := 6) sc__law_take.nd rfl (Or.inl rfl) (pe_op op_mod (pe_op op_mul (pe_op op_add (pe_op op_add (pe_op op_mod (pv 5) pe_int) (pe_op op_mul pe_int (pv 3))) pe_int) pe_int) pe_int))
      (pss_cons (ps_set (i := 6) sc__law_take.nd rfl (Or.inl rfl) (pe_op op_mod (pe_op op_add (pe_op op_add (pe_op op_mul (pv 6) (pv 6)) (pe_op op_mul pe_int (pv 6))) (pv 3)) pe_int))
      (pss_one (ps_ret (pe_op op_mod (pe_op op_fdivB (pv 6) pe_int) (pv 1)))))))))) pss_nil))
      (pss_cons (ps_asg (pe_op op_fdivB (pv 4) (pv 1)) (pg_sub (pv 0) pe_int set_list))
      (pss_one (ps_ret (pe_op op_mod (pv 4) (pv 1))))))), ?_⟩
  obtain ⟨a, ns, k, c, x3, x4, hst0, hs0, hl, hk, hc⟩ := D
  refine ⟨_, rfl, _, rfl, st, _, rfl, SqL.of hst0, fun lc hlc => ?_⟩
  have sl := same_new hlc (.lst (cutV [V.ref a, V.int k, V.int c, V.int x3, V.int x4] none (some 3)))
  have hst := sl _ _ hst0
  have hs : Scr K (upd H lc (.lst (cutV [V.ref a, V.int k, V.int c, V.int x3, V.int x4] none (some 3)))) a ns := hs0.keep hst0 (Keep.same sl)
  refine ⟨lc, _, rfl, SqL.of upd_same, rfl, _, _, rfl, _, _, rfl, _, _, rfl, rfl, ?_⟩
  generalize upd H lc (.lst (cutV [V.ref a, V.int k, V.int c, V.int x3, V.int x4] none (some 3))) = H0 at *
  refine ⟨fun σ' H' => ∃ (v5 v6 : Option V) (c' : Int), σ' = [some (.ref st), some (.int m), some (.ref a), some (.int k), some (.int c'), v5, v6] ∧ 0 ≤ c' ∧ ∃ k' c0, H' st = some (.lst [.ref a, .int k', .int c0, .int x3, .int x4]) ∧ Keep st H0 H' ∧ 0 ≤ k' ∧ 0 ≤ c0,
    ⟨_, rfl, rfl, _, rfl, ite2 (fun c0 => ?_) (fun c0 => ⟨_, _, c, rfl, hc, k, c, hst, Keep.refl _ _, hk, hc⟩)⟩, ?_⟩
  · refine ⟨_, rfl, _, rfl, _, _, rfl, rfl, (by decide : (0 : Int) < 63), a, ns, _, rfl, hs, Int.emod_nonneg _ (by decide), fun x => ?_⟩
    refine ⟨_, rfl, _, _, rfl, rfl, _, rfl, st, _, _, _, rfl, rfl, hst, rfl, ?_⟩
    have h1 : upd H0 st (.lst [.ref a, .int (k + 1), .int c, .int x3, .int x4]) st = some (.lst [.ref a, .int (k + 1), .int c, .int x3, .int x4]) := upd_same
    have k1 : Keep st H0 (upd H0 st (.lst [.ref a, .int (k + 1), .int c, .int x3, .int x4])) := Keep.upd
    have s1 : Scr K (upd H0 st (.lst [.ref a, .int (k + 1), .int c, .int x3, .int x4])) a ns := hs.keep hst k1
    have kH := (Keep.same (st := st) sl).trans k1
    have p1 : (0 : Int) < 2147483647 := by decide
    have p2 : (0 : Int) < 2147483629 := by decide
    have p4 : (0 : Int) < 2147483587 := by decide
    refine ⟨_, rfl, _, rfl, a, _, rfl, .inl s1.sq, _, _, rfl, rfl, _, rfl, ite2 (fun ca => ?_) (fun ca => iteF ?_)⟩
    · refine ⟨_, rfl, _, _, rfl, rfl, ⟨by decide, by decide, by decide⟩, _, _, rfl, rfl, _, rfl, ite2 (fun cb => ?_) (fun cb => ?_)⟩
      · have cb' : (10 : Int) ^ 18 ≤ x := of_decide_eq_true cb
        have x0 : 0 ≤ x := by
          have : (0 : Int) ≤ 10 ^ 18 := by decide
          omega
        exact ⟨_, rfl, _, _, x, rfl, x0, k + 1, c, upd_same, k1, by omega, hc⟩
      · refine ⟨_, rfl, _, _, rfl, rfl, p1, _, rfl, _, _, rfl, rfl, .inl ⟨by decide, by decide⟩, _, _, rfl, rfl, _, _, rfl, rfl, _, _, rfl, rfl, .inr ⟨by decide, by decide⟩, _, _, rfl, rfl, p2, ?_⟩
        generalize (x % 2147483647 + 31 * k + 17) * 48271 = A1
        have a1 := Int.emod_nonneg A1 (show (2147483629 : Int) ≠ 0 by decide)
        have a2 := Int.emod_lt_of_pos A1 p2
        generalize A1 % 2147483629 = A2 at *
        refine ⟨_, rfl, _, rfl, _, _, rfl, rfl, .inl ⟨by omega, by omega⟩, _, rfl, _, _, rfl, rfl, .inl ⟨by decide, by decide⟩, _, _, rfl, rfl, _, rfl, _, _, rfl, rfl, _, _, rfl, rfl, p4, ?_⟩
        refine ⟨_, rfl, _, _, rfl, rfl, ⟨by decide, by decide⟩, _, rfl, _, _, rfl, rfl, hm0, ?_⟩
        exact q _ _ (Int.emod_nonneg _ (by omega)) (Int.emod_lt_of_pos _ hm0) ⟨⟨a, ns, k + 1, c, x3, x4, h1, s1, hl, by omega, hc⟩, kH⟩
    · refine ⟨_, rfl, _, _, rfl, rfl, p1, _, rfl, _, _, rfl, rfl, .inl ⟨by decide, by decide⟩, _, _, rfl, rfl, _, _, rfl, rfl, _, _, rfl, rfl, .inr ⟨by decide, by decide⟩, _, _, rfl, rfl, p2, ?_⟩
      generalize (x % 2147483647 + 31 * k + 17) * 48271 = A1
      have a1 := Int.emod_nonneg A1 (show (2147483629 : Int) ≠ 0 by decide)
      have a2 := Int.emod_lt_of_pos A1 p2
      generalize A1 % 2147483629 = A2 at *
      refine ⟨_, rfl, _, rfl, _, _, rfl, rfl, .inl ⟨by omega, by omega⟩, _, rfl, _, _, rfl, rfl, .inl ⟨by decide, by decide⟩, _, _, rfl, rfl, _, rfl, _, _, rfl, rfl, _, _, rfl, rfl, p4, ?_⟩
      refine ⟨_, rfl, _, _, rfl, rfl, ⟨by decide, by decide⟩, _, rfl, _, _, rfl, rfl, hm0, ?_⟩
      exact q _ _ (Int.emod_nonneg _ (by omega)) (Int.emod_lt_of_pos _ hm0) ⟨⟨a, ns, k + 1, c, x3, x4, h1, s1, hl, by omega, hc⟩, kH⟩
  · rintro σ' H' ⟨v5, v6, c', rfl, hc', k', c0, e', kp, hk', hc0⟩
    refine ⟨_, rfl, _, rfl, _, _, rfl, rfl, divB hm0 (Int.lt_trans hm1 (by decide)), _, rfl, st, _, _, _, rfl, rfl, e', rfl, ?_⟩
    refine ⟨_, rfl, _, rfl, _, _, rfl, rfl, hm0, ?_⟩
    exact q _ _ (Int.emod_nonneg _ (by omega)) (Int.emod_lt_of_pos _ hm0) ⟨⟨a, ns, k', c' / m, x3, x4, upd_same, (hs.keep hst kp).keep e' Keep.upd, hl, hk', Int.ediv_nonneg hc' (by omega)⟩, (Keep.same sl).trans (kp.trans Keep.upd)⟩
theorem great_ok : ∀ v ∈ [(10 : Int) ^ (60 : Int).toNat - 1, 10 ^ (49 : Int).toNat, 10 ^ (50 : Int).toNat], 2 ≤ v ∧ v ≤ G100 / 1000 := by decide
theorem ok_number (T : Txt K mg) (F : Fun K "_law_number" "_law_number" s__law_number f fd) (C_law_take : Cal P w K mg base (CXE P w) 2 "_law_take" ["_law_state", "_law_most"] (spTake5 K)) : FnOk P w K mg base (CXE P w) 3 f fd ["_law_state"] (spInt5 K Few) := by
  refine F.okN sc__law_number (fun vs H Q E h => ?_) (fun cdv A outer s H vs Q E hr h => ?_)
  · obtain ⟨st, rfl, _⟩ := h
    rfl
  obtain ⟨st, rfl, D, q⟩ := h
  refine ⟨_, (pss_cons (ps_set (i := 1) sc__law_number.nd rfl (Or.inl rfl) (pe_callC C_law_take hr rfl (pa_cons (pv 0) (pa_cons pe_int pa_nil)) passN))
      (pss_cons (ps_if (pt_cmpR op_lt (pv 1) pe_int (nomark _)) (pss_one (ps_ret (pe_op op_sub (pe_callC C_law_take hr rfl (pa_cons (pv 0) (pa_cons pe_int pa_nil)) passN) pe_int))) pss_nil)
      (pss_cons (ps_set (i := 2) sc__law_number.nd rfl (Or.inl rfl) (pe_op op_sub (pe_ix ix_list (pe_lst (pa_cons (pe_op op_sub (pe_op op_pow pe_int pe_int) pe_int) (pa_cons (pe_op op_pow pe_int pe_int) (pa_cons (pe_op op_pow pe_int pe_int) pa_nil)))) (pe_op op_sub (pv 1) pe_int) (fun _ _ => rfl)) (pe_callC C_law_take hr rfl (pa_cons (pv 0) (pa_cons pe_int pa_nil)) passN)))
      (pss_one (ps_ret (pe_op op_mulB (pv 2) (pe_ix ix_list (pe_lst (pa_cons pe_int (pa_cons (pe_un un_neg pe_int) pa_nil))) (pe_callC C_law_take hr rfl (pa_cons (pv 0) (pa_cons pe_int pa_nil)) passN) (fun _ _ => rfl)))))))), ?_⟩
  refine ⟨_, rfl, st, 9, rfl, by decide, by decide, D, fun way H1 w0 w1 D1 => ?_⟩
  refine ⟨_, rfl, _, _, rfl, rfl, _, rfl, ite2 (fun c => ?_) (fun c => ?_)⟩
  · refine ⟨_, rfl, st, 9, rfl, by decide, by decide, D1.draw, fun r H2 r0 r1 D2 => ⟨_, _, rfl, rfl, q _ _ ?_ (D1.trans D2)⟩⟩
    unfold Few G100
    omega
  have c' := df c
  refine ⟨_, _, rfl, rfl, ⟨by decide, by decide, by decide⟩, _, _, rfl, rfl, _, _, rfl, rfl, ⟨by decide, by decide, by decide⟩, _, _, rfl, rfl, ⟨by decide, by decide, by decide⟩, small (show 3 ≤ 1000 by decide), fun o ho => ?_⟩
  have D2 := D1.draw.new ho (.lst ([(10 : Int) ^ (60 : Int).toNat - 1, 10 ^ (49 : Int).toNat, 10 ^ (50 : Int).toNat].map V.int))
  obtain ⟨v, vm, hv⟩ := atI_mem (ns := [(10 : Int) ^ (60 : Int).toNat - 1, 10 ^ (49 : Int).toNat, 10 ^ (50 : Int).toNat]) (k := way - 6) (by omega) (by show way - 6 < 3; omega)
  have vb : 2 ≤ v ∧ v ≤ G100 / 1000 := great_ok v vm
  refine ⟨_, rfl, _, _, rfl, rfl, o, _, _, _, rfl, rfl, SqL.of upd_same, hv, ?_⟩
  refine ⟨_, rfl, st, 3, rfl, by decide, by decide, D2.draw, fun r H3 r0 r1 D3 => ⟨_, _, rfl, rfl, ?_⟩⟩
  refine ⟨_, rfl, _, rfl, small (show 2 ≤ 1000 by decide), fun o2 ho2 => ?_⟩
  have D4 := D3.draw.new ho2 (.lst ([(1 : Int), -1].map V.int))
  refine ⟨_, rfl, st, 2, rfl, by decide, by decide, D4.draw, fun r' H5 r0' r1' D5 => ?_⟩
  have eo2 : H5 o2 = some (.lst ([(1 : Int), -1].map V.int)) := D5.keep _ _ (Ne.symm (D3.draw.ne ho2)) upd_same
  obtain ⟨u, um, hu⟩ := atI_mem (ns := [(1 : Int), -1]) r0' r1'
  have u' := mem2.mp um
  have fg : Few (v - r) := by
    unfold Few
    have : G100 / 1000 < G100 := by decide
    have : (0 : Int) < G100 := by decide
    omega
  have fu : Few u := by
    unfold Few
    have : (10 : Int) < G100 := by decide
    omega
  refine ⟨o2, _, _, _, rfl, rfl, SqL.of eo2, hu, _, _, rfl, rfl, ⟨fg.big, fu.big⟩, q _ _ ?_ (D1.trans (D2.trans (D3.trans (D4.trans D5))))⟩
  rcases u' with rfl | rfl
  · show Few ((v - r) * 1)
    rw [Int.mul_one]
    exact fg
  · show Few ((v - r) * -1)
    unfold Few at *
    omega
theorem ok_leaf (T : Txt K mg) (F : Fun K "_law_leaf" "_law_leaf" s__law_leaf f fd) (C_law_take : Cal P w K mg base (CXE P w) 2 "_law_take" ["_law_state", "_law_most"] (spTake5 K)) (C_law_number : Cal P w K mg base (CXE P w) 3 "_law_number" ["_law_state"] (spInt5 K Few)) : FnOk P w K mg base (CXE P w) 4 f fd ["_law_state"] (spTree5 K 1 fun _ => True) := by
  refine F.okN sc__law_leaf (fun vs H Q E h => ?_) (fun cdv A outer s H vs Q E hr h => ?_)
  · obtain ⟨st, rfl, _⟩ := h
    rfl
  obtain ⟨st, rfl, D, q⟩ := h
  refine ⟨_, (pss_one (ps_ret (pe_tup (pa_cons pe_int (pa_cons (pe_callC C_law_take hr rfl (pa_cons (pv 0) (pa_cons pe_int pa_nil)) passN) (pa_cons (pe_tup (pa_cons (pe_callC C_law_number hr rfl (pa_cons (pv 0) pa_nil) passN) pa_nil)) (pa_cons (pe_tup pa_nil) pa_nil))))))), ?_⟩
  refine ⟨_, rfl, st, 90, rfl, by decide, by decide, D, fun pl H1 p0 p1 D1 => ?_⟩
  refine ⟨_, rfl, st, rfl, D1.draw, fun n H2 fn D2 => ?_⟩
  refine ⟨small (show 1 ≤ 1000 by decide), fun o ho => ?_⟩
  refine ⟨small (show 0 ≤ 1000 by decide), fun e he => ?_⟩
  refine ⟨small (show 4 ≤ 1000 by decide), fun t ht => ?_⟩
  have s1 := same_new ho (.tup [.int n])
  have s2 := same_new he (.tup [])
  have s3 := same_new ht (.tup [.int 0, .int pl, .ref o, .ref e])
  have ss := s1.trans (s2.trans s3)
  exact q (.ref t) (.mk 0 [n] []) _ (D1.trans (D2.trans (D2.draw.more ss))) ⟨t, pl, o, e, [], rfl, upd_same, s3 _ _ (s2 _ _ upd_same), s3 _ _ upd_same, .nil⟩ ⟨fun _ => ⟨n, rfl, fn⟩, fun z => absurd z (by decide), fun p hp => absurd hp (by simp)⟩ trivial

def kinT : List Int := [1, 2, 3, 4, 5, 6, 7, 15, 16, 17, 18, 19]
def manT : List Int := [0, 0, 1, 2, 3, 2, 1, 1, 0, 0, 0, 0, 0, 0, 0, 2, 2, 3, 1, 0]
theorem kin_ok : ∀ k ∈ kinT, 0 ≤ k ∧ k < 20 ∧ k ≠ 0 ∧ (k < 8 ∨ 14 < k) := by decide
theorem man_ok : ∀ k ∈ manT, 0 ≤ k ∧ k ≤ 3 := by decide
theorem ok_other (T : Txt K mg) (F : Fun K "_law_other" "_law_other" s__law_other f fd) (C_law_take : Cal P w K mg base (CXE P w) 2 "_law_take" ["_law_state", "_law_most"] (spTake5 K)) (C_law_leaf : Cal P w K mg base (CXE P w) 4 "_law_leaf" ["_law_state"] (spTree5 K 1 fun _ => True)) : FnOk P w K mg base (CXE P w) 5 f fd ["_law_state"] (spTree5 K 2 fun t => valT t = none) := by
  refine F.okN sc__law_other (fun vs H Q E h => ?_) (fun cdv A outer s H vs Q E hr h => ?_)
  · obtain ⟨st, rfl, _⟩ := h
    rfl
  obtain ⟨st, rfl, D, q⟩ := h
  refine ⟨_, (pss_cons (ps_set (i := 1) sc__law_other.nd rfl (Or.inl rfl) (pe_ix ix_list (pe_lst (pa_consts (.int (.int (.int (.int (.int (.int (.int (.int (.int (.int (.int (.int .nil)))))))))))))) (pe_callC C_law_take hr rfl (pa_cons (pv 0) (pa_cons pe_int pa_nil)) passN) (fun _ _ => rfl)))
      (pss_cons (ps_set (i := 2) sc__law_other.nd rfl (Or.inl rfl) (pe_ix ix_list (pe_lst (pa_consts (.int (.int (.int (.int (.int (.int (.int (.int (.int (.int (.int (.int (.int (.int (.int (.int (.int (.int (.int (.int .nil)))))))))))))))))))))) (pv 1) (fun _ _ => rfl)))
      (pss_cons (ps_set (i := 3) sc__law_other.nd rfl (Or.inl rfl) (pe_tup pa_nil))
      (pss_cons (ps_cut (ps_if (pt_cmpR op_in_seq (pv 1) (pe_tup (pa_consts (.int (.int (.int (.int (.int .nil))))))) rfl) (pss_one (ps_set (i := 3) sc__law_other.nd rfl (Or.inl rfl) (pe_tup (pa_cons (pe_ix ix_list (pe_lst (pa_consts (.int (.int (.int (.int (.int (.int (.int .nil))))))))) (pv 1) (fun _ _ => rfl)) pa_nil)))) pss_nil))
      (pss_one (ps_ret (pe_tup (pa_cons (pv 1) (pa_cons (pe_callC C_law_take hr rfl (pa_cons (pv 0) (pa_cons pe_int pa_nil)) passN) (pa_cons (pv 3) (pa_cons (pe_callTy call_tuple_of rfl T.n_tuple bt_tuple (pa_cons (pe_comp (own := ["_law_k"]) (ys := ["_law_state"]) rfl (pi_range1 rfl T.n_range (pa_cons (pv 2) pa_nil)) (compSc_of (sc := defScope s__law_other) rfl (by decide +kernel)) (.cons (j := 0) rfl .nil) (fun _ _ _ _ _ => (pg_name (i := 0) (show List.Nodup [("_law_k" : Str), ("_law_state" : Str)] from (by decide +kernel)) rfl (Or.inl rfl))) (fun _ _ _ _ _ => pts_nil) (fun _ _ _ _ _ => (pe_callC C_law_leaf hr rfl (pa_cons (pv 1) pa_nil) passN))) pa_nil)) pa_nil))))))))))), ?_⟩
  refine ⟨small (show 12 ≤ 1000 by decide), fun o ho => ?_⟩
  have D1 := D.new ho (.lst (kinT.map V.int))
  refine ⟨_, rfl, st, 12, rfl, by decide, by decide, D1.draw, fun r H2 r0 r1 D2 => ?_⟩
  have eo : H2 o = some (.lst (kinT.map V.int)) := D2.keep _ _ (Ne.symm (D.ne ho)) upd_same
  obtain ⟨k, km, hv⟩ := atI_mem (ns := kinT) r0 r1
  obtain ⟨k0, k20, kn, ko⟩ := kin_ok k km
  refine ⟨o, _, _, _, rfl, rfl, SqL.of eo, hv, small (show 20 ≤ 1000 by decide), fun o2 ho2 => ?_⟩
  have D3 := D1.trans (D2.trans (D2.draw.new ho2 (.lst (manT.map V.int))))
  obtain ⟨m, mm, hv2⟩ := atI_mem (ns := manT) k0 k20
  obtain ⟨m0, m3⟩ := man_ok m mm
  refine ⟨_, rfl, o2, _, _, _, rfl, rfl, SqL.of upd_same, hv2, small (show 0 ≤ 1000 by decide), fun e he => ?_⟩
  have D4 := D3.trans (D3.draw.new he (.tup []))
  have ee : upd (upd H2 o2 (.lst (manT.map V.int))) e (.tup []) e = some (.tup (([] : List Int).map V.int)) := upd_same
  refine ⟨fun σ' H' => ∃ (nu : Addr) (own : List Int), σ' = [some (.ref st), some (.int k), some (.int m), some (.ref nu)] ∧ Drawn5 K st H H' ∧ H' nu = some (.tup (own.map V.int)), ⟨_, rfl, small (show 5 ≤ 1000 by decide), fun u hu => ⟨u, _, rfl, .inr (SqT.of upd_same), rfl, rfl, _, rfl, ite2 (fun c => ?_) (fun c => ?_)⟩⟩, ?_⟩
  · have c' : k ∈ [(1 : Int), 2, 3, 4, 6] := inI (ns := [1, 2, 3, 4, 6]) c
    have k7 : k < 7 := by
      have : k = 1 ∨ k = 2 ∨ k = 3 ∨ k = 4 ∨ k = 6 := by simpa using c'
      omega
    have D5 := D4.trans (D4.draw.new hu (.tup ([(1 : Int), 2, 3, 4, 6].map V.int)))
    refine ⟨small (show 7 ≤ 1000 by decide), fun o3 ho3 => ?_⟩
    have D6 := D5.trans (D5.draw.new ho3 (.lst ([(0 : Int), 0, 0, 2, 2, 0, 1].map V.int)))
    obtain ⟨v, vm, hv3⟩ := atI_mem (ns := [(0 : Int), 0, 0, 2, 2, 0, 1]) k0 k7
    refine ⟨_, rfl, o3, _, _, _, rfl, rfl, SqL.of upd_same, hv3, small (show 1 ≤ 1000 by decide), fun nu hnu => ?_⟩
    exact ⟨nu, [v], rfl, D6.trans (D6.draw.new hnu _), upd_same⟩
  · exact ⟨e, [], rfl, D4.trans (D4.draw.new hu _), same_new hu _ _ _ ee⟩
  rintro σ' H5 ⟨nu, own, rfl, D5, enu⟩
  refine ⟨_, rfl, _, rfl, st, 90, rfl, by decide, by decide, D5.draw, fun pl H6 p0 p1 D6 => ?_⟩
  have enu6 := D6.tups D5.draw _ _ enu
  refine ⟨_, rfl, _, rfl, _, rfl, by omega, by omega, fun p hp => ?_⟩
  have D7 := D6.draw.new hp (.lst [])
  have np : p ≠ st := Ne.symm (D6.draw.ne hp)
  refine comp_rng (lo := 0) (n := m.toNat) (fs := [some (.ref st)]) (fun j ys H' => Drawn5 K st H6 H' ∧ ∃ (zs : List V) (ts : List Tr), H' p = some (.lst zs) ∧ zs.length = j ∧ Paired (TrAt H' 1) zs ts ∧ ∀ t, t ∈ ts → FxOk 1 t) ⟨D7, [], [], upd_same, rfl, .nil, fun t ht => absurd ht (by simp)⟩ ?_ ?_
  · rintro j ys H8 hj ⟨D8, zs, ts, ez, lz, pz, fz⟩
    refine tyes ⟨_, rfl, st, rfl, D8.draw, fun v t H9 D9 tv ft _ => ?_⟩
    have ez9 := D9.keep _ _ np ez
    refine ⟨_, ez9, small1000 (by omega), CompW.next (ys := []) hj ⟨⟨D9.draw.put ez9 np, (D8.trans D9).keep.fresh hp⟩, zs ++ [v], ts ++ [t], upd_same, by rw [List.length_append, lz] <;> rfl, ?_, fun t' ht' => ?_⟩⟩
    · have tu : Tups H9 (upd H9 p (.lst (zs ++ [v]))) := Tups.upd ez9
      exact Paired.append (Paired.imp (fun _ _ x => (x.tups (D9.tups D8.draw)).tups tu) pz) (.cons (tv.tups tu) .nil)
    · rcases List.mem_append.mp ht' with z | z
      · exact fz t' z
      · rw [List.mem_singleton.mp z]; exact ft
  · rintro ys H8 ⟨D8, zs, ts, ez, lz, pz, fz⟩
    have enu8 := D8.tups D6.draw _ _ enu6
    refine ⟨p, zs, rfl, .inl ⟨SqL.of ez, fun qa hqa => ?_⟩⟩
    have s1 := same_new hqa (.tup zs)
    refine ⟨small (show 4 ≤ 1000 by decide), fun t ht => ?_⟩
    have s2 := same_new ht (.tup [.int k, .int pl, .ref nu, .ref qa])
    have ss := s1.trans s2
    have dd := D5.trans (D6.trans (D8.trans (D8.draw.more ss)))
    refine q (.ref t) (.mk k own ts) _ dd ⟨t, pl, nu, qa, zs, rfl, upd_same, ss _ _ enu8, s2 _ _ upd_same, Paired.imp (fun _ _ x => x.tups (.same ss)) pz⟩ ⟨fun z => absurd z kn, fun z1 z2 => by omega, fz⟩ ?_
    show valT (.mk k own ts) = none
    unfold valT
    rw [if_neg kn, if_pos ko]
theorem ok_node (d : Nat) (T : Txt K mg) (F : Fun K "_law_node" "_law_node" s__law_node f fd) (C_law_take : Cal P w K mg base (CXE P w) 2 "_law_take" ["_law_state", "_law_most"] (spTake5 K)) (C_law_leaf : Cal P w K mg base (CXE P w) 4 "_law_leaf" ["_law_state"] (spTree5 K 1 fun _ => True)) (C_law_other : Cal P w K mg base (CXE P w) 5 "_law_other" ["_law_state"] (spTree5 K 2 fun t => valT t = none))
    (C_law_node : Cal P w K mg base (CXE P w) (5 + d) "_law_node" ["_law_state", "_law_deep"] (spNodeS K d)) : FnOk P w K mg base (CXE P w) (5 + d + 1) f fd ["_law_state", "_law_deep"] (spNode5 K d) := by
  refine F.okN sc__law_node (fun vs H Q E h => ?_) (fun cdv A outer s H vs Q E hr h => ?_)
  · obtain ⟨st, rfl, _⟩ := h
    rfl
  obtain ⟨st, rfl, hd, D, q⟩ := h
  refine ⟨_, (pss_cons (ps_asg (pe_op op_sub (pe_ix ix_list (pv 0) pe_int (fun _ _ => rfl)) pe_int) (pg_sub (pv 0) pe_int set_list))
      (pss_cons (ps_if (PW.pt (pw_or (pt_cmpR op_eq (pv 1) pe_int (nomark _)) (pw_or (pt_cmpR op_lt (pe_ix ix_list (pv 0) pe_int (fun _ _ => rfl)) pe_int (nomark _)) (pw_or1 (pt_cmpR op_eq (pe_callC C_law_take hr rfl (pa_cons (pv 0) (pa_cons pe_int pa_nil)) passN) pe_int (nomark _)))))) (pss_cons (ps_if (PW.pt (pw_and (pt_cmpR op_eq (pe_ix ix_list (pv 0) pe_int (fun _ _ => rfl)) pe_int (nomark _)) (pw_and1 (pt_cmpR op_eq (pe_callC C_law_take hr rfl (pa_cons (pv 0) (pa_cons pe_int pa_nil)) passN) pe_int (nomark _))))) (pss_one (ps_ret (pe_callC C_law_other hr rfl (pa_cons (pv 0) pa_nil) passN))) pss_nil)
      (pss_one (ps_ret (pe_callC C_law_leaf hr rfl (pa_cons (pv 0) pa_nil) passN)))) pss_nil)
      (pss_cons (ps_set (i := 2) sc__law_node.nd rfl (Or.inl rfl) (pe_op op_add pe_int (pe_callC C_law_take hr rfl (pa_cons (pv 0) (pa_cons pe_int pa_nil)) passN)))
      (pss_one (ps_ret (pe_tup (pa_cons (pv 2) (pa_cons (pe_callC C_law_take hr rfl (pa_cons (pv 0) (pa_cons pe_int pa_nil)) passN) (pa_cons (pe_tup pa_nil) (pa_cons (pe_tup (pa_cons (pe_callC C_law_node hr rfl (pa_cons (pv 0) (pa_cons (pe_op op_add (pv 1) pe_int) pa_nil)) passN) (pa_cons (pe_callC C_law_node hr rfl (pa_cons (pv 0) (pa_cons (pe_op op_add (pv 1) pe_int) pa_nil)) passN) pa_nil))) pa_nil)))))))))), ?_⟩
  obtain ⟨a, ns, kk, c, x, y, hst, hs, hl, hk, hc⟩ := D
  refine ⟨_, rfl, st, _, _, _, rfl, rfl, SqL.of hst, rfl, _, _, rfl, rfl, _, rfl, st, _, _, _, rfl, rfl, hst, rfl, ?_⟩
  have e1 : upd H st (.lst [.ref a, .int kk, .int c, .int (x - 1), .int y]) st = some (.lst [.ref a, .int kk, .int c, .int (x - 1), .int y]) := upd_same
  have D1 : Drawn5 K st H (upd H st (.lst [.ref a, .int kk, .int c, .int (x - 1), .int y])) := ⟨⟨a, ns, kk, c, x - 1, y, e1, hs.keep hst Keep.upd, hl, hk, hc⟩, Keep.upd⟩
  have qL : ∀ v t H', Drawn5 K st H H' → TrAt H' 1 v t → FxOk 1 t → Q v H' := fun v t H' dd tv ft => q v t H' dd (tv.up (by omega)) (FxOk.up ft (by omega))
  have qO : ∀ v t H', Drawn5 K st H H' → TrAt H' 2 v t → FxOk 2 t → Q v H' := fun v t H' dd tv ft => q v t H' dd (tv.up (by omega)) (FxOk.up ft (by omega))
  refine ⟨_, rfl, rfl, _, rfl, ite2 (fun c => iteT ?_) (fun c => ?_)⟩
  · clear c
    obtain ⟨ax, nsx, kx, cx, xx, yx, ex, _⟩ := id D1.draw
    refine ⟨_, rfl, st, _, _, _, rfl, rfl, SqL.of ex, rfl, rfl, _, rfl, ite2 (fun c => ?_) (fun c => iteF ?_)⟩
    · refine ⟨_, rfl, st, 4, rfl, by decide, by decide, D1.draw, fun r H8 _ _ D8 => ⟨rfl, _, rfl, ite2 (fun c => ?_) (fun c => ?_)⟩⟩
      · exact ⟨_, rfl, st, rfl, D8.draw, fun v t H9 D9 tv ft _ => qO v t H9 (D1.trans (D8.trans D9)) tv ft⟩
      · exact ⟨_, rfl, st, rfl, D8.draw, fun v t H9 D9 tv ft _ => qL v t H9 (D1.trans (D8.trans D9)) tv ft⟩
    · exact ⟨_, rfl, st, rfl, D1.draw, fun v t H9 D9 tv ft _ => qL v t H9 (D1.trans D9) tv ft⟩
  have c6 := vf c
  refine ⟨_, rfl, st, _, _, _, rfl, rfl, SqL.of e1, rfl, _, _, rfl, rfl, _, rfl, ite2 (fun c => iteT ?_) (fun c => ?_)⟩
  · clear c
    obtain ⟨ax, nsx, kx, cx, xx, yx, ex, _⟩ := id D1.draw
    refine ⟨_, rfl, st, _, _, _, rfl, rfl, SqL.of ex, rfl, rfl, _, rfl, ite2 (fun c => ?_) (fun c => iteF ?_)⟩
    · refine ⟨_, rfl, st, 4, rfl, by decide, by decide, D1.draw, fun r H8 _ _ D8 => ⟨rfl, _, rfl, ite2 (fun c => ?_) (fun c => ?_)⟩⟩
      · exact ⟨_, rfl, st, rfl, D8.draw, fun v t H9 D9 tv ft _ => qO v t H9 (D1.trans (D8.trans D9)) tv ft⟩
      · exact ⟨_, rfl, st, rfl, D8.draw, fun v t H9 D9 tv ft _ => qL v t H9 (D1.trans (D8.trans D9)) tv ft⟩
    · exact ⟨_, rfl, st, rfl, D1.draw, fun v t H9 D9 tv ft _ => qL v t H9 (D1.trans D9) tv ft⟩
  refine ⟨_, rfl, st, 6, rfl, by decide, by decide, D1.draw, fun r H2 r0 r1 D2' => ⟨rfl, _, rfl, ite2 (fun c => ?_) (fun c => ?_)⟩⟩
  · clear c
    have D2 := D1.trans D2'
    obtain ⟨ax, nsx, kx, cx, xx, yx, ex, _⟩ := id D2.draw
    refine ⟨_, rfl, st, _, _, _, rfl, rfl, SqL.of ex, rfl, rfl, _, rfl, ite2 (fun c => ?_) (fun c => iteF ?_)⟩
    · refine ⟨_, rfl, st, 4, rfl, by decide, by decide, D2.draw, fun r H8 _ _ D8 => ⟨rfl, _, rfl, ite2 (fun c => ?_) (fun c => ?_)⟩⟩
      · exact ⟨_, rfl, st, rfl, D8.draw, fun v t H9 D9 tv ft _ => qO v t H9 (D2.trans (D8.trans D9)) tv ft⟩
      · exact ⟨_, rfl, st, rfl, D8.draw, fun v t H9 D9 tv ft _ => qL v t H9 (D2.trans (D8.trans D9)) tv ft⟩
    · exact ⟨_, rfl, st, rfl, D2.draw, fun v t H9 D9 tv ft _ => qL v t H9 (D2.trans D9) tv ft⟩
  have D2 := D1.trans D2'
  obtain ⟨d, rfl⟩ : ∃ d', d = d' + 1 := ⟨d - 1, by omega⟩
  refine ⟨_, rfl, st, 7, rfl, by decide, by decide, D2.draw, fun kd H3 a0 a1 D3 => ⟨_, _, rfl, rfl, ?_⟩⟩
  refine ⟨_, rfl, _, rfl, st, 90, rfl, by decide, by decide, D3.draw, fun pl H4 _ _ D4 => ⟨small (show 0 ≤ 1000 by decide), fun e he => ?_⟩⟩
  have D5 := D4.draw.new he (.tup [])
  have ed : (6 - ((d + 1 : Nat) : Int)) + 1 = 6 - (d : Int) := by omega
  refine ⟨_, rfl, _, rfl, _, _, rfl, rfl, st, congrArg (fun z => [V.ref st, V.int z]) ed, by omega, D5.draw, fun v1 t1 H6 D6 tv1 ft1 => ?_⟩
  refine ⟨_, rfl, _, rfl, _, _, rfl, rfl, st, congrArg (fun z => [V.ref st, V.int z]) ed, by omega, D6.draw, fun v2 t2 H7 D7 tv2 ft2 => ?_⟩
  refine ⟨small (show 2 ≤ 1000 by decide), fun qa hqa => ⟨small (show 4 ≤ 1000 by decide), fun t ht => ?_⟩⟩
  have s1 := same_new hqa (.tup [v1, v2])
  have s2 := same_new ht (.tup [.int (8 + kd), .int pl, .ref e, .ref qa])
  have ss := s1.trans s2
  have ee : H7 e = some (.tup (([] : List Int).map V.int)) := D7.tups D6.draw _ _ (D6.tups D5.draw _ _ upd_same)
  refine q (.ref t) (.mk (8 + kd) [] [t1, t2]) _ (D2.trans (D3.trans (D4.trans (D5.trans (D6.trans (D7.trans (D7.draw.more ss))))))) ⟨t, pl, e, qa, [v1, v2], rfl, upd_same, ss _ _ ee, s2 _ _ upd_same, .cons ((tv1.tups (D7.tups D6.draw)).tups (.same ss)) (.cons (tv2.tups (.same ss)) .nil)⟩ ⟨fun z => by omega, fun _ _ => rfl, fun p hp => ?_⟩
  rcases List.mem_cons.mp hp with z | z
  · rw [z]; exact ft1
  · rw [List.mem_singleton.mp z]; exact ft2
theorem ok_nodeS (T : Txt K mg) (F : Fun K "_law_node" "_law_node" s__law_node f fd) (C_law_take : Cal P w K mg base (CXE P w) 2 "_law_take" ["_law_state", "_law_most"] (spTake5 K)) (C_law_leaf : Cal P w K mg base (CXE P w) 4 "_law_leaf" ["_law_state"] (spTree5 K 1 fun _ => True)) (C_law_other : Cal P w K mg base (CXE P w) 5 "_law_other" ["_law_state"] (spTree5 K 2 fun t => valT t = none))
    (hm : mg "_law_node" = some (.ref f)) (hk : PySem.W.keepIn K (.ref f) = true) (hb : Binds K fd ["_law_state", "_law_deep"] []) : ∀ d, FnOk P w K mg base (CXE P w) (5 + d) f fd ["_law_state", "_law_deep"] (spNodeS K d) := by
  intro d
  induction d with
  | zero => exact fn_false
  | succ d ih => exact ok_node d T F C_law_take C_law_leaf C_law_other ⟨⟨_, _, ih, hm, hk, hb⟩⟩

theorem ok_worked (T : Txt K mg) (F : Fun K "_law_worked" "_law_worked" s__law_worked f fd) : FnOk P w K mg base (CXE P w) 1 f fd ["_law_kind", "_law_one", "_law_other_here"] spWorked := by
  refine F.okN sc__law_worked (fun vs H Q E h => ?_) (fun cdv A outer s H vs Q E hr h => ?_)
  · obtain ⟨k, a, b, rfl, _⟩ := h
    rfl
  obtain ⟨k, a, b, rfl, k8, k14, fa, fb, q⟩ := h
  refine ⟨_, (pss_cons (ps_if (pt_cmpR op_lt (pv 0) pe_int (nomark _)) (pss_cons (ps_set (i := 3) sc__law_worked.nd rfl (Or.inl rfl) (pe_ix ix_list (pe_lst (pa_cons (pe_op op_add (pv 1) (pv 2)) (pa_cons (pe_op op_sub (pv 1) (pv 2)) (pa_cons (pe_op op_mulB (pv 1) (pv 2)) pa_nil)))) (pe_op op_sub (pv 0) pe_int) (fun _ _ => rfl)))
      (pss_cons (ps_if (pt_cmpR op_ge (pe_callB call_abs rfl T.n_abs bt_abs (pa_cons (pv 3) pa_nil)) (pe_op op_mulB (pe_op op_pow pe_int pe_int) (pe_op op_pow pe_int pe_int)) (nomark _)) (pss_one (ps_ret pe_non)) pss_nil)
      (pss_one (ps_ret (pv 3))))) pss_nil)
      (pss_cons (ps_if (PW.pt (pw_and (pt_cmpR op_lt (pv 0) pe_int (nomark _)) (pw_and1 (pt_cmpR op_eq (pv 2) pe_int (nomark _))))) (pss_one (ps_ret pe_non)) pss_nil)
      (pss_cons (ps_if (pt_cmpR op_eq (pv 0) pe_int (nomark _)) (pss_one (ps_ret (pe_op op_fdivZ (pv 1) (pv 2)))) pss_nil)
      (pss_cons (ps_if (pt_cmpR op_eq (pv 0) pe_int (nomark _)) (pss_one (ps_ret (pe_op op_sub (pv 1) (pe_op op_mulB (pe_op op_fdivZ (pv 1) (pv 2)) (pv 2))))) pss_nil)
      (pss_one (ps_ret (pe_callTy call_int1 rfl T.n_int bt_int (pa_cons (pe_ix ix_list (pe_lst (pa_cons (pe_cmpR op_lt (pv 1) (pv 2) (nomark _)) (pa_cons (pe_cmpR op_eq (pv 1) (pv 2) (nomark _)) pa_nil))) (pe_op op_sub (pv 0) pe_int) (fun _ _ => rfl)) pa_nil)))))))), ?_⟩
  have e100 : (10 : Int) ^ (50 : Int).toNat * 10 ^ (50 : Int).toNat = G100 := by decide
  have p50 : ((10 : Int) ^ (50 : Int).toNat).natAbs < 2 ^ 2000 := by decide
  have great : ∀ (v : Int) (H' : Hp), Same H H' → rk k a b = (if Few v then some v else none) → ∀ c, (c = true ↔ (if v < 0 then -v else v) ≥ (10 : Int) ^ (50 : Int).toNat * 10 ^ (50 : Int).toNat) → (c = true → Q .non H') ∧ (c = false → Q (.int v) H') := by
    intro v H' g er c hc
    have q' := q H' g
    rw [er] at q'
    rw [e100] at hc
    constructor
    · intro z
      have := hc.mp z
      rw [if_neg (by unfold Few; split at this <;> omega)] at q'
      exact q'
    · intro z
      have : ¬ (if v < 0 then -v else v) ≥ G100 := fun y => by rw [hc.mpr y] at z; cases z
      rw [if_pos (by unfold Few; split at this <;> omega)] at q'
      exact q'
  have q0 := q H (Same.refl H)
  obtain rfl | rfl | rfl | rfl | rfl | rfl | rfl : k = 8 ∨ k = 9 ∨ k = 10 ∨ k = 11 ∨ k = 12 ∨ k = 13 ∨ k = 14 := by omega
  · refine ⟨_, rfl, _, _, rfl, rfl, _, rfl, iteT ?_⟩
    refine ⟨_, rfl, _, rfl, _, _, rfl, rfl, _, rfl, _, rfl, _, _, rfl, rfl, _, rfl, _, rfl, _, _, rfl, rfl, ⟨fa.big, fb.big⟩, small (show 3 ≤ 1000 by decide), fun o ho => ?_⟩
    refine ⟨_, rfl, _, _, rfl, rfl, o, _, _, _, rfl, rfl, SqL.of upd_same, rfl, ?_⟩
    have gr := great (a + b) _ (same_new ho (.lst ([a + b, a - b, a * b].map V.int))) (by unfold rk; rw [if_pos rfl]) _ ⟨of_decide_eq_true, decide_eq_true⟩
    exact ⟨_, rfl, _, rfl, _, _, rfl, rfl, ⟨by decide, by decide, by decide⟩, _, _, rfl, rfl, ⟨by decide, by decide, by decide⟩, _, _, rfl, rfl, ⟨p50, p50⟩, _, _, rfl, rfl, _, rfl, ite2 (fun c => gr.1 c) (fun c => ⟨_, rfl, gr.2 ((Bool.not_eq_true _).mp c)⟩)⟩
  · refine ⟨_, rfl, _, _, rfl, rfl, _, rfl, iteT ?_⟩
    refine ⟨_, rfl, _, rfl, _, _, rfl, rfl, _, rfl, _, rfl, _, _, rfl, rfl, _, rfl, _, rfl, _, _, rfl, rfl, ⟨fa.big, fb.big⟩, small (show 3 ≤ 1000 by decide), fun o ho => ?_⟩
    refine ⟨_, rfl, _, _, rfl, rfl, o, _, _, _, rfl, rfl, SqL.of upd_same, rfl, ?_⟩
    have gr := great (a - b) _ (same_new ho (.lst ([a + b, a - b, a * b].map V.int))) (by unfold rk; rw [if_neg (by decide), if_pos rfl]) _ ⟨of_decide_eq_true, decide_eq_true⟩
    exact ⟨_, rfl, _, rfl, _, _, rfl, rfl, ⟨by decide, by decide, by decide⟩, _, _, rfl, rfl, ⟨by decide, by decide, by decide⟩, _, _, rfl, rfl, ⟨p50, p50⟩, _, _, rfl, rfl, _, rfl, ite2 (fun c => gr.1 c) (fun c => ⟨_, rfl, gr.2 ((Bool.not_eq_true _).mp c)⟩)⟩
  · refine ⟨_, rfl, _, _, rfl, rfl, _, rfl, iteT ?_⟩
    refine ⟨_, rfl, _, rfl, _, _, rfl, rfl, _, rfl, _, rfl, _, _, rfl, rfl, _, rfl, _, rfl, _, _, rfl, rfl, ⟨fa.big, fb.big⟩, small (show 3 ≤ 1000 by decide), fun o ho => ?_⟩
    refine ⟨_, rfl, _, _, rfl, rfl, o, _, _, _, rfl, rfl, SqL.of upd_same, rfl, ?_⟩
    have gr := great (a * b) _ (same_new ho (.lst ([a + b, a - b, a * b].map V.int))) (by unfold rk; rw [if_neg (by decide), if_neg (by decide), if_pos rfl]) _ ⟨of_decide_eq_true, decide_eq_true⟩
    exact ⟨_, rfl, _, rfl, _, _, rfl, rfl, ⟨by decide, by decide, by decide⟩, _, _, rfl, rfl, ⟨by decide, by decide, by decide⟩, _, _, rfl, rfl, ⟨p50, p50⟩, _, _, rfl, rfl, _, rfl, ite2 (fun c => gr.1 c) (fun c => ⟨_, rfl, gr.2 ((Bool.not_eq_true _).mp c)⟩)⟩
  · have e : rk 11 a b = if b = 0 then none else some (a.fdiv b) := by unfold rk; simp
    rw [e] at q0
    refine ⟨_, rfl, _, _, rfl, rfl, _, rfl, iteF ⟨_, rfl, _, _, rfl, rfl, _, rfl, iteT ⟨_, rfl, rfl, _, rfl, ite2 (fun c => ?_) (fun c => ?_)⟩⟩⟩
    · rw [if_pos (vt c)] at q0
      exact q0
    · rw [if_neg (vf c)] at q0
      exact ⟨_, rfl, rfl, _, rfl, iteT ⟨_, rfl, _, rfl, _, _, rfl, rfl, ⟨vf c, fb.big⟩, q0⟩⟩
  · have e : rk 12 a b = if b = 0 then none else some (a.fmod b) := by unfold rk; simp
    rw [e] at q0
    refine ⟨_, rfl, _, _, rfl, rfl, _, rfl, iteF ⟨_, rfl, _, _, rfl, rfl, _, rfl, iteT ⟨_, rfl, rfl, _, rfl, ite2 (fun c => ?_) (fun c => ?_)⟩⟩⟩
    · rw [if_pos (vt c)] at q0
      exact q0
    · rw [if_neg (vf c), Int.fmod_def, Int.mul_comm] at q0
      exact ⟨_, rfl, rfl, _, rfl, iteF ⟨_, rfl, rfl, _, rfl, iteT ⟨_, rfl, _, rfl, _, rfl, _, _, rfl, rfl, ⟨vf c, fb.big⟩, _, rfl, _, _, rfl, rfl, ⟨(fdiv_few fa).big, fb.big⟩, _, _, rfl, rfl, q0⟩⟩⟩
  · have e : rk 13 a b = some (if a < b then 1 else 0) := by unfold rk; simp
    refine ⟨_, rfl, _, _, rfl, rfl, _, rfl, iteF ⟨_, rfl, _, _, rfl, rfl, _, rfl, iteF (iteF ⟨_, rfl, rfl, _, rfl, iteF ⟨_, rfl, rfl, _, rfl, iteF ?_⟩⟩)⟩⟩
    refine ⟨_, rfl, _, rfl, _, _, rfl, rfl, _, rfl, _, rfl, rfl, small (show 2 ≤ 1000 by decide), fun o ho => ?_⟩
    refine ⟨_, rfl, _, _, rfl, rfl, o, _, _, _, rfl, rfl, SqL.of upd_same, rfl, .inr ⟨_, rfl, ?_⟩⟩
    have q1 := q _ (same_new ho (.lst [.bl (decide (a < b)), .bl (decide (V.int a = V.int b))]))
    rw [e] at q1
    by_cases z : a < b
    · rw [if_pos z] at q1
      rw [decide_eq_true z]
      exact q1
    · rw [if_neg z] at q1
      rw [decide_eq_false z]
      exact q1
  · have e : rk 14 a b = some (if a = b then 1 else 0) := by unfold rk; simp
    refine ⟨_, rfl, _, _, rfl, rfl, _, rfl, iteF ⟨_, rfl, _, _, rfl, rfl, _, rfl, iteF (iteF ⟨_, rfl, rfl, _, rfl, iteF ⟨_, rfl, rfl, _, rfl, iteF ?_⟩⟩)⟩⟩
    refine ⟨_, rfl, _, rfl, _, _, rfl, rfl, _, rfl, _, rfl, rfl, small (show 2 ≤ 1000 by decide), fun o ho => ?_⟩
    refine ⟨_, rfl, _, _, rfl, rfl, o, _, _, _, rfl, rfl, SqL.of upd_same, rfl, .inr ⟨_, rfl, ?_⟩⟩
    have q1 := q _ (same_new ho (.lst [.bl (decide (a < b)), .bl (decide (V.int a = V.int b))]))
    rw [e] at q1
    by_cases z : a = b
    · rw [if_pos z] at q1
      rw [decide_eq_true (congrArg V.int z)] at q1 ⊢
      exact q1
    · rw [if_neg z] at q1
      rw [decide_eq_false (show ¬ V.int a = V.int b from fun y => z (by injection y))] at q1 ⊢
      exact q1
theorem ok_due (d : Nat) (T : Txt K mg) (F : Fun K "_law_due" "_law_due" s__law_due f fd) (C_law_worked : Cal P w K mg base (CXE P w) 1 "_law_worked" ["_law_kind", "_law_one", "_law_other_here"] spWorked) (C_law_due : Cal P w K mg base (CXE P w) (1 + d) "_law_due" ["_law_node_here"] (spFixed d)) : FnOk P w K mg base (CXE P w) (1 + d + 1) f fd ["_law_node_here"] (spFixed (d + 1)) := by
  refine F.okN sc__law_due (fun vs H Q E h => ?_) (fun cdv A outer s H vs Q E hr h => ?_)
  · obtain ⟨v, t, rfl, _⟩ := h
    rfl
  obtain ⟨v, t, rfl, ht, fx, q⟩ := h
  cases t with
  | mk k own ps =>
  obtain ⟨t, pl, o, qa, vs, rfl, e1, e2, e3, pr⟩ := ht
  obtain ⟨h0, h2, hp⟩ := fx
  refine ⟨_, (pss_cons (ps_asg (pv 0) (pg_tup rfl (pgs_cons (pg_name (i := 1) sc__law_due.nd rfl (Or.inl rfl)) (pgs_cons (pg_name (i := 2) sc__law_due.nd rfl (Or.inl rfl)) (pgs_cons (pg_name (i := 3) sc__law_due.nd rfl (Or.inl rfl)) (pgs_cons (pg_name (i := 4) sc__law_due.nd rfl (Or.inl rfl)) pgs_nil))))))
      (pss_cons (ps_if (pt_cmpR op_eq (pv 1) pe_int (nomark _)) (pss_one (ps_ret (pe_ix ix_tup (pv 3) pe_int (fun _ _ => rfl)))) pss_nil)
      (pss_cons (ps_if (PW.pt (pw_or (pt_cmpR op_lt (pv 1) pe_int (nomark _)) (pw_or1 (pt_cmpR op_gt (pv 1) pe_int (nomark _))))) (pss_one (ps_ret pe_non)) pss_nil)
      (pss_cons (ps_set (i := 5) sc__law_due.nd rfl (Or.inl rfl) (pe_callC C_law_due hr rfl (pa_cons (pe_ix ix_tup (pv 4) pe_int (fun _ _ => rfl)) pa_nil) passN))
      (pss_cons (ps_set (i := 6) sc__law_due.nd rfl (Or.inl rfl) (pe_callC C_law_due hr rfl (pa_cons (pe_ix ix_tup (pv 4) pe_int (fun _ _ => rfl)) pa_nil) passN))
      (pss_cons (ps_if (PW.pt (pw_or (pt_cmpR op_isN (pv 5) pe_non (nomark _)) (pw_or1 (pt_cmpR op_isN (pv 6) pe_non (nomark _))))) (pss_one (ps_ret pe_non)) pss_nil)
      (pss_one (ps_ret (pe_callC C_law_worked hr rfl (pa_cons (pv 1) (pa_cons (pv 5) (pa_cons (pv 6) pa_nil))) passN))))))))), ?_⟩
  refine ⟨_, rfl, t, _, rfl, SqT.of e1, rfl, _, _, rfl, _, _, rfl, _, _, rfl, _, _, rfl, rfl, ?_⟩
  refine ⟨_, rfl, rfl, _, rfl, ite2 (fun c => ?_) (fun c => ?_)⟩
  · have k0 := vt c
    obtain ⟨n, rfl, fn⟩ := h0 k0
    have e : valT (.mk k [n] ps) = some n := by unfold valT; rw [if_pos k0] <;> rfl
    rw [e] at q
    exact ⟨_, rfl, o, _, _, _, rfl, rfl, SqT.of e2, rfl, q H (Same.refl H)⟩
  have k0 := vf c
  have none8 : k < 8 ∨ 14 < k → Q .non H := fun z => by
    have e : valT (.mk k own ps) = none := by unfold valT; rw [if_neg k0, if_pos z]
    rw [e] at q
    exact q H (Same.refl H)
  refine ⟨_, rfl, _, _, rfl, rfl, _, rfl, ite2 (fun c => iteT (none8 (.inl (of_decide_eq_true c)))) (fun c => ?_)⟩
  have k8 := df c
  refine ⟨_, rfl, _, _, rfl, rfl, _, rfl, ite2 (fun c => none8 (.inr (of_decide_eq_true c))) (fun c => ?_)⟩
  have k14 := df c
  have l2 := h2 (by omega) (by omega)
  obtain ⟨p1, p2, rfl⟩ : ∃ p1 p2, ps = [p1, p2] := by
    match ps, l2 with
    | [a, b], _ => exact ⟨a, b, rfl⟩
  have eV := val_two (own := own) k0 (by omega) (by omega) p1 p2
  obtain ⟨v1, v2, rfl, t1, t2⟩ : ∃ v1 v2, vs = [v1, v2] ∧ TrAt H d v1 p1 ∧ TrAt H d v2 p2 := by
    cases pr with
    | cons a r => cases r with
      | cons b r => cases r; exact ⟨_, _, rfl, a, b⟩
  have f1 := hp p1 (by simp)
  have f2 := hp p2 (by simp)
  refine ⟨_, rfl, qa, _, _, _, rfl, rfl, SqT.of e3, rfl, v1, p1, rfl, t1, f1, fun H1 g1 => ?_⟩
  refine ⟨_, rfl, qa, _, _, _, rfl, rfl, SqT.of (g1 _ _ e3), rfl, v2, p2, rfl, t2.tups (.same g1), f2, fun H2 g2 => ?_⟩
  have g := g1.trans g2
  rw [eV] at q
  cases z1 : valT p1 with
  | none =>
    rw [z1] at q
    exact ⟨_, rfl, rfl, _, rfl, ite2 (fun _ => iteT (q H2 g)) (fun c => absurd rfl c)⟩
  | some a =>
    refine ⟨_, rfl, rfl, _, rfl, ite2 (fun c => absurd c (by simp [oZ])) (fun _ => ?_)⟩
    cases z2 : valT p2 with
    | none =>
      rw [z1, z2] at q
      exact ⟨_, rfl, rfl, _, rfl, ite2 (fun _ => q H2 g) (fun c => absurd rfl c)⟩
    | some b =>
      rw [z1, z2] at q
      refine ⟨_, rfl, rfl, _, rfl, ite2 (fun c => absurd c (by simp [oZ])) (fun _ => ?_)⟩
      exact ⟨_, rfl, _, rfl, _, rfl, k, a, b, rfl, by omega, by omega, val_few d p1 a f1 z1, val_few d p2 b f2 z2, fun H3 g3 => q H3 (g.trans g3)⟩
theorem ok_law (T : Txt K mg) (F : Fun K "law" "law" s_law f fd) (C_law_take : Cal P w K mg base (CXE P w) 2 "_law_take" ["_law_state", "_law_most"] (spTake5 K)) (C_law_leaf : Cal P w K mg base (CXE P w) 4 "_law_leaf" ["_law_state"] (spTree5 K 1 fun _ => True)) (C_law_other : Cal P w K mg base (CXE P w) 5 "_law_other" ["_law_state"] (spTree5 K 2 fun t => valT t = none))
    (C_law_node : Cal P w K mg base (CXE P w) 11 "_law_node" ["_law_state", "_law_deep"] (spNode5 K 5)) (C_law_due : Cal P w K mg base (CXE P w) 8 "_law_due" ["_law_node_here"] (spFixed 7)) (Cfixed : Cal P w K mg base (CXE P w) 10 "fixed" ["node"] (spFixed 7)) :
    FnOk P w K mg base (CXE P w) 12 f fd ["_law_script"] (spLaw K) := by
  refine F.okN sc_law (fun vs H Q E h => ?_) (fun cdv A outer s H vs Q E hr h => ?_)
  · obtain ⟨a, ns, rfl, _⟩ := h
    rfl
  obtain ⟨a, ns, rfl, hs0, hl0, q⟩ := h
  refine ⟨_, (pss_cons (ps_set (i := 1) sc_law.nd rfl (Or.inl rfl) (pe_lst (pa_cons (pv 0) (pa_cons pe_int (pa_cons pe_int (pa_cons pe_int (pa_cons pe_int pa_nil)))))))
      (pss_cons (ps_for PassesOwn.never rfl (pi_range1 rfl T.n_range (pa_cons pe_int pa_nil)) (pg_name (i := 2) sc_law.nd rfl (Or.inl rfl)) (pss_cons (ps_asg pe_int (pg_sub (pv 1) pe_int set_list))
      (pss_cons (ps_asg (pe_callC C_law_take hr rfl (pa_cons (pv 1) (pa_cons pe_int pa_nil)) passN) (pg_sub (pv 1) pe_int set_list))
      (pss_cons (ps_set (i := 3) sc_law.nd rfl (Or.inl rfl) (pe_callC C_law_node hr rfl (pa_cons (pv 1) (pa_cons pe_int pa_nil)) passN))
      (pss_cons (ps_set (i := 4) sc_law.nd rfl (Or.inl rfl) (pe_callC C_law_due hr rfl (pa_cons (pv 3) pa_nil) passN))
      (pss_cons (ps_for PassesOwn.never rfl (pi_range1 rfl T.n_range (pa_cons pe_int pa_nil)) (pg_name (i := 5) sc_law.nd rfl (Or.inl rfl)) (pss_cons (ps_set (i := 6) sc_law.nd rfl (Or.inl rfl) (pe_callC Cfixed hr rfl (pa_cons (pv 3) pa_nil) passN))
      (pss_one (ps_if (PW.pt (pw_or (pt_cmpR (op_neF hr) (pv 6) (pv 4) (nomark _)) (pw_or1 (pt_val (pe_callB call_isi rfl T.n_isinstance bt_isinstance (pa_cons (pv 6) (pa_cons (pe_bltn (v := .ty "bool") rfl T.n_bool bt_bool rfl) pa_nil))))))) (pss_one (ps_ret pe_bl)) pss_nil))))
      (pss_cons (ps_set (i := 7) sc_law.nd rfl (Or.inl rfl) (pe_callC C_law_other hr rfl (pa_cons (pv 1) pa_nil) passN))
      (pss_one (ps_if (PW.pt (pw_or (pt_cmpR op_notN (pe_callC Cfixed hr rfl (pa_cons (pv 7) pa_nil) passN) pe_non (nomark _)) (pw_or1 (pt_cmpR op_notN (pe_callC Cfixed hr rfl (pa_cons (pe_tup (pa_cons pe_int (pa_cons pe_int (pa_cons (pe_tup pa_nil) (pa_cons (pe_tup (pa_cons (pe_callC C_law_leaf hr rfl (pa_cons (pv 1) pa_nil) passN) (pa_cons (pv 7) pa_nil))) pa_nil))))) pa_nil) passN) pe_non (nomark _))))) (pss_one (ps_ret pe_bl)) pss_nil)))))))))
      (pss_one (ps_ret pe_bl)))), ?_⟩
  refine ⟨_, rfl, small (show 5 ≤ 1000 by decide), fun st hst => ?_⟩
  have D0 : Draw5 K (upd H st (.lst [.ref a, .int 0, .int 0, .int 0, .int 0])) st := ⟨a, ns, 0, 0, 0, 0, upd_same, hs0.imp (fun ⟨o, z⟩ => ⟨o, same_new hst _ _ _ z⟩) id, hl0, by decide, by decide⟩
  refine ⟨_, rfl, by decide, by decide, for_range (lo := 0) (n := 4) (fun i σ' H' => ∃ v2 v3 v4 v5 v6 v7, σ' = [some (.ref a), some (.ref st), v2, v3, v4, v5, v6, v7] ∧ Draw5 K H' st) ⟨_, _, _, _, _, _, rfl, D0⟩ ?_ ?_⟩
  · rintro i σ' H1 hi ⟨v2, v3, v4, v5, v6, v7, rfl, D⟩
    obtain ⟨a1, ns1, kk, c, x, y, e1, hs1, hl1, hk, hc⟩ := D
    refine ⟨_, rfl, st, _, _, _, rfl, rfl, e1, rfl, ?_⟩
    have D2 : Draw5 K (upd H1 st (.lst [.ref a1, .int kk, .int c, .int 20, .int y])) st := ⟨a1, ns1, kk, c, 20, y, upd_same, hs1.keep e1 Keep.upd, hl1, hk, hc⟩
    refine ⟨_, rfl, st, 2, rfl, by decide, by decide, D2, fun r H3 r0 r1 D3 => ?_⟩
    obtain ⟨a3, ns3, k3, c3, x3, y3, e3, hs3, hl3, hk3, hc3⟩ := D3.draw
    refine ⟨_, rfl, st, _, _, _, rfl, rfl, e3, rfl, ?_⟩
    have D4 : Draw5 K (upd H3 st (.lst [.ref a3, .int k3, .int c3, .int x3, .int r])) st := ⟨a3, ns3, k3, c3, x3, r, upd_same, hs3.keep e3 Keep.upd, hl3, hk3, hc3⟩
    refine ⟨_, rfl, st, rfl, by decide, D4, fun v t H5 D5 tv ft => ?_⟩
    refine ⟨_, rfl, v, t, rfl, tv, ft, fun H6 g6 => ?_⟩
    refine ⟨_, rfl, by decide, by decide, for_range (lo := 0) (n := 2) (fun j σ' H' => Same H6 H' ∧ ∃ v5 v6, σ' = [some (.ref a), some (.ref st), some (.int (0 + (i : Int))), some v, some (oZ (valT t)), v5, v6, v7]) ⟨Same.refl _, _, _, rfl⟩ ?_ ?_⟩
    · rintro j σ' H7 hj ⟨g7, v5, v6, rfl⟩
      refine ⟨_, rfl, v, t, rfl, tv.tups (.same (g6.trans g7)), ft, fun H8 g8 => ?_⟩
      have sc : scal (oZ (valT t)) (oZ (valT t)) = true := by cases valT t <;> rfl
      refine ⟨_, rfl, _, rfl, .inr ⟨sc, rfl, _, rfl, iteF ?_⟩⟩
      clear sc
      generalize valT t = m
      cases m with
      | none => exact ⟨_, rfl, .inl ⟨_, _, _, false, rfl, .non, T.knon, _, rfl, iteF ⟨g7.trans g8, _, _, rfl⟩⟩⟩
      | some n => exact ⟨_, rfl, .inl ⟨_, _, _, false, rfl, .int _, T.kint, _, rfl, iteF ⟨g7.trans g8, _, _, rfl⟩⟩⟩
    · rintro σ' H7 ⟨g7, v5, v6, rfl⟩
      have D7 := D5.draw.same (g6.trans g7)
      refine ⟨_, rfl, st, rfl, D7, fun v' t' H8 D8 tv' ft' no => ?_⟩
      refine ⟨_, rfl, v', t', rfl, tv'.up (by omega), ft'.up (by omega), fun H9 g9 => ?_⟩
      rw [show valT t' = none from no]
      refine ⟨rfl, _, rfl, iteF ?_⟩
      refine ⟨small (show 0 ≤ 1000 by decide), fun e he => ?_⟩
      have s1 := same_new he (.tup [])
      have D9 := D8.draw.more (g9.trans s1)
      refine ⟨_, rfl, st, rfl, D9.draw, fun v3 t3 Ha Da tv3 ft3 _ => ⟨_, rfl, small (show 2 ≤ 1000 by decide), fun qa hqa => ⟨small (show 4 ≤ 1000 by decide), fun tt htt => ?_⟩⟩⟩
      have s2 := same_new hqa (.tup [v3, v'])
      have s3 := same_new htt (.tup [.int 8, .int 1, .ref e, .ref qa])
      have ss := s2.trans s3
      have ee : Ha e = some (.tup (([] : List Int).map V.int)) := Da.tups D9.draw _ _ upd_same
      have eV : valT (.mk 8 [] [t3, t']) = none := by
        rw [val_two (by decide) (by decide) (by decide), show valT t' = none from no]
        cases valT t3 <;> rfl
      have fx : FxOk 3 (.mk 8 [] [t3, t']) := ⟨fun z => absurd z (by decide), fun _ _ => rfl, fun p hp => by
        rcases List.mem_cons.mp hp with z | z
        · rw [z]; exact ft3.up (by decide)
        · rw [List.mem_singleton.mp z]; exact ft'⟩
      have tA : TrAt (upd (upd Ha qa (.tup [v3, v'])) tt (.tup [.int 8, .int 1, .ref e, .ref qa])) 3 (.ref tt) (.mk 8 [] [t3, t']) :=
        ⟨tt, 1, e, qa, [v3, v'], rfl, upd_same, ss _ _ ee, s3 _ _ upd_same, .cons ((tv3.up (by decide)).tups (.same ss)) (.cons (((tv'.tups (.same (g9.trans s1))).tups (Da.tups D9.draw)).tups (.same ss)) .nil)⟩
      refine ⟨.ref tt, .mk 8 [] [t3, t'], rfl, tA.up (by decide), fx.up (by decide), fun Hb gb => ?_⟩
      rw [eV]
      exact ⟨rfl, _, rfl, iteF ⟨_, _, _, _, _, _, rfl, Da.draw.same (ss.trans gb)⟩⟩
  · rintro σ' H' ⟨v2, v3, v4, v5, v6, v7, rfl, D⟩
    exact q H'
theorem ok_dues (T : Txt K mg) (F : Fun K "_law_due" "_law_due" s__law_due f fd) (C_law_worked : Cal P w K mg base (CXE P w) 1 "_law_worked" ["_law_kind", "_law_one", "_law_other_here"] spWorked) (hm : mg "_law_due" = some (.ref f)) (hk : PySem.W.keepIn K (.ref f) = true) (hb : Binds K fd ["_law_node_here"] []) :
    ∀ d, FnOk P w K mg base (CXE P w) (1 + d) f fd ["_law_node_here"] (spFixed d) := by
  intro d
  induction d with
  | zero => exact fn_none fun vs H Q E h => by obtain ⟨v, t, _, z, _⟩ := h; exact z.elim
  | succ d ih => exact ok_due d T F C_law_worked ⟨⟨_, _, ih, hm, hk, hb⟩⟩

end


theorem all_mk {l : PySem.W.OpenLaw} {w : World} {K : PySem.W.Frag} {h : Heap} {mg : Str → Option Value} {fa f0 f1 f2 f3 f4 f5 f6 f7 f8 f9 f10 f11 f12 f13 : Addr} {tNUMBER tADD tSUB tMUL tQUO tLESS tSAME tPUSH tPUT tSIZE tNEW tGREAT : Tok}  (X : K.In h) (G : h.Ns mainGlobals mg) (hfa : mg "law" = some (.ref fa))
    {od0 an0 od1 an1 od2 an2 od3 an3 od4 an4 od5 an5 od6 an6 od7 an7 od8 an8 od9 an9 od10 an10 od11 an11 od12 an12 od13 an13 : Option Addr} {sl0 sl1 sl2 sl3 sl4 sl5 sl6 sl7 sl8 sl9 sl10 sl11 sl12 sl13 : Array (Option Value)} {oc0 kV0 dc0 pm0 cd0 ct0 oc1 kV1 dc1 pm1 cd1 ct1 oc2 kV2 dc2 pm2 cd2 ct2 oc3 kV3 dc3 pm3 cd3 ct3 oc4 kV4 dc4 pm4 cd4 ct4 oc5 kV5 dc5 pm5 cd5 ct5 oc6 kV6 dc6 pm6 cd6 ct6 oc7 kV7 dc7 pm7 cd7 ct7 oc8 kV8 dc8 pm8 cd8 ct8 oc9 kV9 dc9 pm9 cd9 ct9 oc10 kV10 dc10 pm10 cd10 ct10 oc11 kV11 dc11 pm11 cd11 ct11 oc12 kV12 dc12 pm12 cd12 ct12 oc13 kV13 dc13 pm13 cd13 ct13 : Value}
    (a0 : PySem.W.nsIn K mainGlobals "within" = some (some (.ref f0))) (l0 : K.lookup f0 = some ⟨oc0, od0, .func (PySem.W.fnOf "within" "within" (defArgs s_within) (defBody s_within) (defScope s_within) .none kV0 dc0 pm0 an0 cd0 ct0), sl0⟩) (c0 : PySem.W.codeIn K cd0 "within" = true) (k0 : PySem.W.keepIn K (.ref f0) = true)
    (a1 : PySem.W.nsIn K mainGlobals "reckoned" = some (some (.ref f1))) (l1 : K.lookup f1 = some ⟨oc1, od1, .func (PySem.W.fnOf "reckoned" "reckoned" (defArgs s_reckoned) (defBody s_reckoned) (defScope s_reckoned) .none kV1 dc1 pm1 an1 cd1 ct1), sl1⟩) (c1 : PySem.W.codeIn K cd1 "reckoned" = true) (k1 : PySem.W.keepIn K (.ref f1) = true)
    (a2 : PySem.W.nsIn K mainGlobals "done_to_row" = some (some (.ref f2))) (l2 : K.lookup f2 = some ⟨oc2, od2, .func (PySem.W.fnOf "done_to_row" "done_to_row" (defArgs s_done_to_row) (defBody s_done_to_row) (defScope s_done_to_row) .none kV2 dc2 pm2 an2 cd2 ct2), sl2⟩) (c2 : PySem.W.codeIn K cd2 "done_to_row" = true) (k2 : PySem.W.keepIn K (.ref f2) = true)
    (a3 : PySem.W.nsIn K mainGlobals "worth" = some (some (.ref f3))) (l3 : K.lookup f3 = some ⟨oc3, od3, .func (PySem.W.fnOf "worth" "worth" (defArgs s_worth) (defBody s_worth) (defScope s_worth) .none kV3 dc3 pm3 an3 cd3 ct3), sl3⟩) (c3 : PySem.W.codeIn K cd3 "worth" = true) (k3 : PySem.W.keepIn K (.ref f3) = true)
    (a4 : PySem.W.nsIn K mainGlobals "fixed" = some (some (.ref f4))) (l4 : K.lookup f4 = some ⟨oc4, od4, .func (PySem.W.fnOf "fixed" "fixed" (defArgs s_fixed) (defBody s_fixed) (defScope s_fixed) .none kV4 dc4 pm4 an4 cd4 ct4), sl4⟩) (c4 : PySem.W.codeIn K cd4 "fixed" = true) (k4 : PySem.W.keepIn K (.ref f4) = true)
    (a5 : PySem.W.nsIn K mainGlobals "_law_cell" = some (some (.ref f5))) (l5 : K.lookup f5 = some ⟨oc5, od5, .func (PySem.W.fnOf "_law_cell" "_law_cell" (defArgs s__law_cell) (defBody s__law_cell) (defScope s__law_cell) .none kV5 dc5 pm5 an5 cd5 ct5), sl5⟩) (c5 : PySem.W.codeIn K cd5 "_law_cell" = true) (k5 : PySem.W.keepIn K (.ref f5) = true)
    (a6 : PySem.W.nsIn K mainGlobals "_law_take" = some (some (.ref f6))) (l6 : K.lookup f6 = some ⟨oc6, od6, .func (PySem.W.fnOf "_law_take" "_law_take" (defArgs s__law_take) (defBody s__law_take) (defScope s__law_take) .none kV6 dc6 pm6 an6 cd6 ct6), sl6⟩) (c6 : PySem.W.codeIn K cd6 "_law_take" = true) (k6 : PySem.W.keepIn K (.ref f6) = true)
    (a7 : PySem.W.nsIn K mainGlobals "_law_number" = some (some (.ref f7))) (l7 : K.lookup f7 = some ⟨oc7, od7, .func (PySem.W.fnOf "_law_number" "_law_number" (defArgs s__law_number) (defBody s__law_number) (defScope s__law_number) .none kV7 dc7 pm7 an7 cd7 ct7), sl7⟩) (c7 : PySem.W.codeIn K cd7 "_law_number" = true) (k7 : PySem.W.keepIn K (.ref f7) = true)
    (a8 : PySem.W.nsIn K mainGlobals "_law_leaf" = some (some (.ref f8))) (l8 : K.lookup f8 = some ⟨oc8, od8, .func (PySem.W.fnOf "_law_leaf" "_law_leaf" (defArgs s__law_leaf) (defBody s__law_leaf) (defScope s__law_leaf) .none kV8 dc8 pm8 an8 cd8 ct8), sl8⟩) (c8 : PySem.W.codeIn K cd8 "_law_leaf" = true) (k8 : PySem.W.keepIn K (.ref f8) = true)
    (a9 : PySem.W.nsIn K mainGlobals "_law_other" = some (some (.ref f9))) (l9 : K.lookup f9 = some ⟨oc9, od9, .func (PySem.W.fnOf "_law_other" "_law_other" (defArgs s__law_other) (defBody s__law_other) (defScope s__law_other) .none kV9 dc9 pm9 an9 cd9 ct9), sl9⟩) (c9 : PySem.W.codeIn K cd9 "_law_other" = true) (k9 : PySem.W.keepIn K (.ref f9) = true)
    (a10 : PySem.W.nsIn K mainGlobals "_law_node" = some (some (.ref f10))) (l10 : K.lookup f10 = some ⟨oc10, od10, .func (PySem.W.fnOf "_law_node" "_law_node" (defArgs s__law_node) (defBody s__law_node) (defScope s__law_node) .none kV10 dc10 pm10 an10 cd10 ct10), sl10⟩) (c10 : PySem.W.codeIn K cd10 "_law_node" = true) (k10 : PySem.W.keepIn K (.ref f10) = true)
    (a11 : PySem.W.nsIn K mainGlobals "_law_worked" = some (some (.ref f11))) (l11 : K.lookup f11 = some ⟨oc11, od11, .func (PySem.W.fnOf "_law_worked" "_law_worked" (defArgs s__law_worked) (defBody s__law_worked) (defScope s__law_worked) .none kV11 dc11 pm11 an11 cd11 ct11), sl11⟩) (c11 : PySem.W.codeIn K cd11 "_law_worked" = true) (k11 : PySem.W.keepIn K (.ref f11) = true)
    (a12 : PySem.W.nsIn K mainGlobals "_law_due" = some (some (.ref f12))) (l12 : K.lookup f12 = some ⟨oc12, od12, .func (PySem.W.fnOf "_law_due" "_law_due" (defArgs s__law_due) (defBody s__law_due) (defScope s__law_due) .none kV12 dc12 pm12 an12 cd12 ct12), sl12⟩) (c12 : PySem.W.codeIn K cd12 "_law_due" = true) (k12 : PySem.W.keepIn K (.ref f12) = true)
    (a13 : PySem.W.nsIn K mainGlobals "law" = some (some (.ref f13))) (l13 : K.lookup f13 = some ⟨oc13, od13, .func (PySem.W.fnOf "law" "law" (defArgs s_law) (defBody s_law) (defScope s_law) .none kV13 dc13 pm13 an13 cd13 ct13), sl13⟩) (c13 : PySem.W.codeIn K cd13 "law" = true) (k13 : PySem.W.keepIn K (.ref f13) = true)
    (z_len : PySem.W.nsIn K mainGlobals "len" = some none)
    (z_abs : PySem.W.nsIn K mainGlobals "abs" = some none)
    (z_range : PySem.W.nsIn K mainGlobals "range" = some none)
    (z_isinstance : PySem.W.nsIn K mainGlobals "isinstance" = some none)
    (z_int : PySem.W.nsIn K mainGlobals "int" = some none)
    (z_bool : PySem.W.nsIn K mainGlobals "bool" = some none)
    (z_tuple : PySem.W.nsIn K mainGlobals "tuple" = some none)
    (i_NUMBER : PySem.W.nsIn K mainGlobals "NUMBER" = some (some (.int 0 tNUMBER)))
    (i_ADD : PySem.W.nsIn K mainGlobals "ADD" = some (some (.int 8 tADD)))
    (i_SUB : PySem.W.nsIn K mainGlobals "SUB" = some (some (.int 9 tSUB)))
    (i_MUL : PySem.W.nsIn K mainGlobals "MUL" = some (some (.int 10 tMUL)))
    (i_QUO : PySem.W.nsIn K mainGlobals "QUO" = some (some (.int 11 tQUO)))
    (i_LESS : PySem.W.nsIn K mainGlobals "LESS" = some (some (.int 13 tLESS)))
    (i_SAME : PySem.W.nsIn K mainGlobals "SAME" = some (some (.int 14 tSAME)))
    (i_PUSH : PySem.W.nsIn K mainGlobals "PUSH" = some (some (.int 15 tPUSH)))
    (i_PUT : PySem.W.nsIn K mainGlobals "PUT" = some (some (.int 17 tPUT)))
    (i_SIZE : PySem.W.nsIn K mainGlobals "SIZE" = some (some (.int 18 tSIZE)))
    (i_NEW : PySem.W.nsIn K mainGlobals "NEW" = some (some (.int 19 tNEW)))
    (i_GREAT : PySem.W.nsIn K mainGlobals "GREAT" = some (some (.int 10000000000000000000000000000000000000000000000000000000000000000000000000000000000000000000000000000 tGREAT)))
    (u_bool : PySem.W.subIn K (.type "int") (.type "bool") = some false)
    (u_nb : PySem.W.subIn K (.type "NoneType") (.type "bool") = some false)
    : ∃ fd : FuncData, (∀ (s : Shared) (v : Value), BindsTo s fd ⟨[v], []⟩ [("_law_script", v)]) ∧ ∀ base : Heap, K.In base → base.Ns mainGlobals mg → FnOk l.prog w K mg base (CXE l.prog w) 12 fa fd ["_law_script"] (spLaw K) := by
  have e := hfa.symm.trans (PySem.W.mg_of X G a13)
  cases e
  have F0 := fun_mk (st := s_within) l0 c0 k0
  have b0 := F0.binds (ps := ["value"]) fun _ _ _ _ _ _ us hl => match us, hl with | [_], _ => rfl
  have m0 := PySem.W.mg_of X G a0
  have F1 := fun_mk (st := s_reckoned) l1 c1 k1
  have b1 := F1.binds (ps := ["kind", "first", "second"]) fun _ _ _ _ _ _ us hl => match us, hl with | [_, _, _], _ => rfl
  have m1 := PySem.W.mg_of X G a1
  have F2 := fun_mk (st := s_done_to_row) l2 c2 k2
  have b2 := F2.binds (ps := ["kind", "values", "rows"]) fun _ _ _ _ _ _ us hl => match us, hl with | [_, _, _], _ => rfl
  have m2 := PySem.W.mg_of X G a2
  have F3 := fun_mk (st := s_worth) l3 c3 k3
  have b3 := F3.binds (ps := ["kind", "values", "rows"]) fun _ _ _ _ _ _ us hl => match us, hl with | [_, _, _], _ => rfl
  have m3 := PySem.W.mg_of X G a3
  have F4 := fun_mk (st := s_fixed) l4 c4 k4
  have b4 := F4.binds (ps := ["node"]) fun _ _ _ _ _ _ us hl => match us, hl with | [_], _ => rfl
  have m4 := PySem.W.mg_of X G a4
  have F5 := fun_mk (st := s__law_cell) l5 c5 k5
  have b5 := F5.binds (ps := ["_law_script", "_law_k"]) fun _ _ _ _ _ _ us hl => match us, hl with | [_, _], _ => rfl
  have m5 := PySem.W.mg_of X G a5
  have F6 := fun_mk (st := s__law_take) l6 c6 k6
  have b6 := F6.binds (ps := ["_law_state", "_law_most"]) fun _ _ _ _ _ _ us hl => match us, hl with | [_, _], _ => rfl
  have m6 := PySem.W.mg_of X G a6
  have F7 := fun_mk (st := s__law_number) l7 c7 k7
  have b7 := F7.binds (ps := ["_law_state"]) fun _ _ _ _ _ _ us hl => match us, hl with | [_], _ => rfl
  have m7 := PySem.W.mg_of X G a7
  have F8 := fun_mk (st := s__law_leaf) l8 c8 k8
  have b8 := F8.binds (ps := ["_law_state"]) fun _ _ _ _ _ _ us hl => match us, hl with | [_], _ => rfl
  have m8 := PySem.W.mg_of X G a8
  have F9 := fun_mk (st := s__law_other) l9 c9 k9
  have b9 := F9.binds (ps := ["_law_state"]) fun _ _ _ _ _ _ us hl => match us, hl with | [_], _ => rfl
  have m9 := PySem.W.mg_of X G a9
  have F10 := fun_mk (st := s__law_node) l10 c10 k10
  have b10 := F10.binds (ps := ["_law_state", "_law_deep"]) fun _ _ _ _ _ _ us hl => match us, hl with | [_, _], _ => rfl
  have m10 := PySem.W.mg_of X G a10
  have F11 := fun_mk (st := s__law_worked) l11 c11 k11
  have b11 := F11.binds (ps := ["_law_kind", "_law_one", "_law_other_here"]) fun _ _ _ _ _ _ us hl => match us, hl with | [_, _, _], _ => rfl
  have m11 := PySem.W.mg_of X G a11
  have F12 := fun_mk (st := s__law_due) l12 c12 k12
  have b12 := F12.binds (ps := ["_law_node_here"]) fun _ _ _ _ _ _ us hl => match us, hl with | [_], _ => rfl
  have m12 := PySem.W.mg_of X G a12
  have F13 := fun_mk (st := s_law) l13 c13 k13
  refine ⟨PySem.W.fnOf "law" "law" (defArgs s_law) (defBody s_law) (defScope s_law) .none kV13 dc13 pm13 an13 cd13 ct13, fun s v => .of_eq rfl, fun base _ _ => ?_⟩
  have T : Txt K mg := by
    refine ⟨PySem.W.mg_none_of X G z_len, PySem.W.mg_none_of X G z_abs, PySem.W.mg_none_of X G z_range, PySem.W.mg_none_of X G z_isinstance, PySem.W.mg_none_of X G z_int, PySem.W.mg_none_of X G z_bool, PySem.W.mg_none_of X G z_tuple, ⟨_, PySem.W.mg_of X G i_NUMBER⟩, ⟨_, PySem.W.mg_of X G i_ADD⟩, ⟨_, PySem.W.mg_of X G i_SUB⟩, ⟨_, PySem.W.mg_of X G i_MUL⟩, ⟨_, PySem.W.mg_of X G i_QUO⟩, ⟨_, PySem.W.mg_of X G i_LESS⟩, ⟨_, PySem.W.mg_of X G i_SAME⟩, ⟨_, PySem.W.mg_of X G i_PUSH⟩, ⟨_, PySem.W.mg_of X G i_PUT⟩, ⟨_, PySem.W.mg_of X G i_SIZE⟩, ⟨_, PySem.W.mg_of X G i_NEW⟩, ⟨_, PySem.W.mg_of X G i_GREAT⟩, kit_of u_bool, kit_of u_nb⟩
  have C0 : Cal l.prog w K mg base (CXE l.prog w) 1 "within" _ _ := ⟨⟨_, _, ok_within T F0, m0, k0, b0⟩⟩
  have C1 : Cal l.prog w K mg base (CXE l.prog w) 2 "reckoned" _ _ := ⟨⟨_, _, ok_reckoned T F1 C0, m1, k1, b1⟩⟩
  have C2 : Cal l.prog w K mg base (CXE l.prog w) 1 "done_to_row" _ _ := ⟨⟨_, _, ok_row T F2, m2, k2, b2⟩⟩
  have C3 : Cal l.prog w K mg base (CXE l.prog w) 3 "worth" _ _ := ⟨⟨_, _, ok_worth T F3 C2 C1, m3, k3, b3⟩⟩
  have C4 : Cal l.prog w K mg base (CXE l.prog w) 10 "fixed" _ (spFixed 7) := ⟨⟨_, _, ok_fixeds T F4 C3 m4 k4 b4 7, m4, k4, b4⟩⟩
  have C5 : Cal l.prog w K mg base (CXE l.prog w) 1 "_law_cell" _ _ := ⟨⟨_, _, ok_cell T F5, m5, k5, b5⟩⟩
  have C6 : Cal l.prog w K mg base (CXE l.prog w) 2 "_law_take" _ _ := ⟨⟨_, _, ok_take T F6 C5, m6, k6, b6⟩⟩
  have C7 : Cal l.prog w K mg base (CXE l.prog w) 3 "_law_number" _ _ := ⟨⟨_, _, ok_number T F7 C6, m7, k7, b7⟩⟩
  have C8 : Cal l.prog w K mg base (CXE l.prog w) 4 "_law_leaf" _ _ := ⟨⟨_, _, ok_leaf T F8 C6 C7, m8, k8, b8⟩⟩
  have C9 : Cal l.prog w K mg base (CXE l.prog w) 5 "_law_other" _ _ := ⟨⟨_, _, ok_other T F9 C6 C8, m9, k9, b9⟩⟩
  have C10 : Cal l.prog w K mg base (CXE l.prog w) 11 "_law_node" _ (spNode5 K 5) := ⟨⟨_, _, ok_nodeS T F10 C6 C8 C9 m10 k10 b10 6, m10, k10, b10⟩⟩
  have C11 : Cal l.prog w K mg base (CXE l.prog w) 1 "_law_worked" _ _ := ⟨⟨_, _, ok_worked T F11, m11, k11, b11⟩⟩
  have C12 : Cal l.prog w K mg base (CXE l.prog w) 8 "_law_due" _ (spFixed 7) := ⟨⟨_, _, ok_dues T F12 C11 m12 k12 b12 7, m12, k12, b12⟩⟩
  exact ok_law T F13 C6 C8 C9 C10 C12 C4
theorem walk {l : PySem.W.OpenLaw} {q : Program} {loose : List Str} {XP : (Str → Option Value) → Heap → Prop} {YP : World → Heap → Prop} {d : DefRec} {K : Params → PySem.W.Frag} (hn : l.most = some 63) (hdf : d.params.defaults = [])
    (hY : ∀ (w : World) (h : Heap), YP w h → (K w.params).In h)
    (F : ∀ (w : World) (mg : Str → Option Value) (fa : Addr) (h : Heap), (K w.params).In h → h.Ns mainGlobals mg → mg d.name = some (.ref fa) →
      ∃ fd : FuncData, (∀ (s : Shared) (u : Value), BindsTo s fd ⟨[u], []⟩ [("_law_script", u)]) ∧ ∀ base : Heap, (K w.params).In base → base.Ns mainGlobals mg → FnOk l.prog w (K w.params) mg base (CXE l.prog w) 12 fa fd ["_law_script"] (spLaw (K w.params))) :
    PySem.W.WalkO q loose XP YP l.row.toRowW d [] (fun f vs => PySem.call f vs) :=
  L2.walk_of (n := 63) (k := 12) (x := "_law_script") (CX := fun w => (CXE l.prog w)) (sp := fun w => spLaw (K w.params)) hn (by decide) hdf ⟨rfl, by decide, by decide⟩ hY F (fun _ _ a ns hl hO hS => ⟨a, ns, rfl, Scr.of hO hS, hl, fun _ => rfl⟩) (fun _ _ _ _ _ => cxe_none)
end OcL
open PySem PySem.W PyProof.Rows
set_option maxRecDepth 100000 in
set_option maxHeartbeats 0 in
theorem PySem.Challenge.cw_ownchain_k34_values_that_are_fixed_holds : PySem.Challenge.rw_ownchain_k34_values_that_are_fixed.Holds := by
  w_on; o_law; k_head; (case hw => w_witness2)
  k_fill
  refine OcL.walk (l := PySem.Challenge.rw_ownchain_k34_values_that_are_fixed) rfl rfl (fun w h Y => PySem.W.kIn_of Y) ?F
  case F =>
    intro w mg fa h KX G hmg
    refine' OcL.all_mk KX G hmg ?a0 ?l0 ?c0 ?k0 ?a1 ?l1 ?c1 ?k1 ?a2 ?l2 ?c2 ?k2 ?a3 ?l3 ?c3 ?k3 ?a4 ?l4 ?c4 ?k4 ?a5 ?l5 ?c5 ?k5 ?a6 ?l6 ?c6 ?k6 ?a7 ?l7 ?c7 ?k7 ?a8 ?l8 ?c8 ?k8 ?a9 ?l9 ?c9 ?k9 ?a10 ?l10 ?c10 ?k10 ?a11 ?l11 ?c11 ?k11 ?a12 ?l12 ?c12 ?k12 ?a13 ?l13 ?c13 ?k13 ?z_len ?z_abs ?z_range ?z_isinstance ?z_int ?z_bool ?z_tuple ?i_NUMBER ?i_ADD ?i_SUB ?i_MUL ?i_QUO ?i_LESS ?i_SAME ?i_PUSH ?i_PUT ?i_SIZE ?i_NEW ?i_GREAT ?u_bool ?u_nb
    (case a0 => k_is)
    (case l0 => k_is)
    (case c0 => k_is)
    (case k0 => k_is)
    (case a1 => k_is)
    (case l1 => k_is)
    (case c1 => k_is)
    (case k1 => k_is)
    (case a2 => k_is)
    (case l2 => k_is)
    (case c2 => k_is)
    (case k2 => k_is)
    (case a3 => k_is)
    (case l3 => k_is)
    (case c3 => k_is)
    (case k3 => k_is)
    (case a4 => k_is)
    (case l4 => k_is)
    (case c4 => k_is)
    (case k4 => k_is)
    (case a5 => k_is)
    (case l5 => k_is)
    (case c5 => k_is)
    (case k5 => k_is)
    (case a6 => k_is)
    (case l6 => k_is)
    (case c6 => k_is)
    (case k6 => k_is)
    (case a7 => k_is)
    (case l7 => k_is)
    (case c7 => k_is)
    (case k7 => k_is)
    (case a8 => k_is)
    (case l8 => k_is)
    (case c8 => k_is)
    (case k8 => k_is)
    (case a9 => k_is)
    (case l9 => k_is)
    (case c9 => k_is)
    (case k9 => k_is)
    (case a10 => k_is)
    (case l10 => k_is)
    (case c10 => k_is)
    (case k10 => k_is)
    (case a11 => k_is)
    (case l11 => k_is)
    (case c11 => k_is)
    (case k11 => k_is)
    (case a12 => k_is)
    (case l12 => k_is)
    (case c12 => k_is)
    (case k12 => k_is)
    (case a13 => k_is)
    (case l13 => k_is)
    (case c13 => k_is)
    (case k13 => k_is)
    (case z_len => k_is)
    (case z_abs => k_is)
    (case z_range => k_is)
    (case z_isinstance => k_is)
    (case z_int => k_is)
    (case z_bool => k_is)
    (case z_tuple => k_is)
    (case i_NUMBER => k_is)
    (case i_ADD => k_is)
    (case i_SUB => k_is)
    (case i_MUL => k_is)
    (case i_QUO => k_is)
    (case i_LESS => k_is)
    (case i_SAME => k_is)
    (case i_PUSH => k_is)
    (case i_PUT => k_is)
    (case i_SIZE => k_is)
    (case i_NEW => k_is)
    (case i_GREAT => k_is)
    (case u_bool => k_is)
    (case u_nb => k_is)
