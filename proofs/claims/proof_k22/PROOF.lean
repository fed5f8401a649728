import PyProof.Rows.All
import PyProof.ListRange
import PyProof.AutoSeq1
import PyProof.LayNew
import PyProof.EnumFor
import PyProof.EnumStmt
import PyProof.EnumMake
import PyProof.ConsumeWalk
import KE.KRevSl
import KE.KRevIter
import Wide.All
import OpenK.AllK
import Wide.FinOn
import Lean
import PyProof.EqAt
import PyProof.EqKinds
import PyProof.TupleCall
import PyProof.NeKinds
import PySem.Challenge.RW_ownchain_k22_whole_functions_in_another
set_option genInjectivity false
set_option genSizeOfSpec false
set_option Elab.async false
set_option linter.all false
set_option maxRecDepth 100000
namespace L2
open PySem PySem.Spec PyProof.Rows

abbrev Key := Sum Int Str
def keyIs : Key -> Value -> Bool
 | .inl k, v => Value.isInt k v
 | .inr x, v => Value.isStrOf x v
def keyH (w : World) : Key -> Int
 | .inl k => hashInt k
 | .inr x => hashStr w x
theorem yW : ∀ {k : Key} {v : Value}, keyIs k v = true -> (∃ i t, k = Sum.inl i /\ v = Value.int i t) \/ (∃ x t, k = Sum.inr x /\ v = Value.str x t)
 | .inl i, v, h => by
  obtain ⟨t, e⟩ := Value.isInt_shape (k := i) (v := v) h
  exact .inl ⟨i, t, rfl, e⟩
 | .inr x, v, h => by
  obtain ⟨t, e⟩ := Value.isStrOf_shape (x := x) (v := v) h
  exact .inr ⟨x, t, rfl, e⟩
theorem keyIs_int (i : Int) (t : Tok) : keyIs (.inl i) (.int i t) = true := by simp [keyIs, Value.isInt]
theorem keyIs_str (x : Str) (t : Tok) : keyIs (.inr x) (.str x t) = true := by simp [keyIs, Value.isStrOf]
theorem key_ll (a b : Int) : decide ((Sum.inl a : Key) = Sum.inl b) = (a == b) := by
 by_cases e : a = b
 ·subst e; simp
 ·have h : ¬ (Sum.inl a : Key) = Sum.inl b := fun q => e (Sum.inl.inj q)
  rw [decide_eq_false h]
  exact (beq_eq_false_iff_ne.mpr e).symm
theorem key_rr (a b : Str) : decide ((Sum.inr a : Key) = Sum.inr b) = decide (a = b) := by
 by_cases e : a = b
 ·subst e; simp
 ·have h : ¬ (Sum.inr a : Key) = Sum.inr b := fun q => e (Sum.inr.inj q)
  rw [decide_eq_false h, decide_eq_false e]
theorem key_lr (a : Int) (b : Str) : decide ((Sum.inl a : Key) = Sum.inr b) = false := decide_eq_false (fun q => nomatch q)
theorem key_rl (a : Str) (b : Int) : decide ((Sum.inr a : Key) = Sum.inl b) = false := decide_eq_false (fun q => nomatch q)

def mixKind (prog : Program) (w : World) : PySem.KeyKind prog w Key where
 is := keyIs
 hash := keyH w
 inj := fun v a b ha hb => by
  rcases yW ha with ⟨i, t, rfl, rfl⟩ | ⟨x, t, rfl, rfl⟩
  ·rcases yW hb with ⟨j, u, rfl, e⟩ | ⟨y, u, rfl, e⟩
   ·injection e with e1 _; rw [e1]
   ·exact nomatch e
  ·rcases yW hb with ⟨j, u, rfl, e⟩ | ⟨y, u, rfl, e⟩
   ·exact nomatch e
   ·injection e with e1 _; rw [e1]
 byValue := fun k v h => by
  rcases yW h with ⟨i, t, rfl, rfl⟩ | ⟨x, t, rfl, rfl⟩ <;> rfl
 pyHash := fun hv h => by
  rcases yW hv with ⟨i, t, rfl, rfl⟩ | ⟨x, t, rfl, rfl⟩
  ·exact wpAny_pyHash_int h
  ·exact wpAny_pyHash_str h
 eqBool := fun hu hv h => by
  rcases yW hu with ⟨i, t, rfl, rfl⟩ | ⟨x, t, rfl, rfl⟩
  ·rcases yW hv with ⟨j, u, rfl, rfl⟩ | ⟨y, u, rfl, rfl⟩
   ·rw [key_ll] at h; exact wpAny_eqBool_int h
   ·rw [key_lr] at h; exact SeqAt.EqAt.int_str i t y u _ _ _ _ h
  ·rcases yW hv with ⟨j, u, rfl, rfl⟩ | ⟨y, u, rfl, rfl⟩
   ·rw [key_rl] at h; exact SeqAt.EqAt.str_int x t j u _ _ _ _ h
   ·rw [key_rr] at h; exact wpAny_eqBool_str h
 «strs» := fun k x t v h => by
  rcases yW h with ⟨i, u, rfl, e⟩ | ⟨y, u, rfl, e⟩
  ·exact nomatch e
  ·injection e with e1 _
   subst e1
   cases v <;> rfl

theorem mixKind_int (prog : Program) (w : World) (i : Int) (t : Tok) : (mixKind prog w).is (.inl i) (.int i t) = true := keyIs_int i t
theorem mixKind_str (prog : Program) (w : World) (x : Str) (t : Tok) : (mixKind prog w).is (.inr x) (.str x t) = true := keyIs_str x t
end L2

namespace L2
open PySem PySem.Spec PyProof.Rows

inductive V where
 | non | bl (b : Bool) | int (i : Int) | str (x : Str) | byt (b : Array UInt8) | flt (b : UInt64) | ref (a : Addr) | ty (n : String)
 deriving DecidableEq

def RelV : V -> Value -> Prop
 | .non, u => u = Value.none
 | .bl b, u => u = Value.bool b
 | .int i, u => ∃ t, u = Value.int i t
 | .str x, u => ∃ t, u = Value.str x t
 | .byt b, u => ∃ t, u = Value.bytes b t
 | .flt b, u => ∃ t, u = Value.float b t
 | .ref a, u => u = Value.ref a
 | .ty n, u => u = Value.type n

abbrev Vals : List V -> List Value -> Prop := Paired RelV
theorem Vals.length {xs : List V} {us : List Value} (r : Vals xs us) : xs.length = us.length := Paired.length r
theorem Vals.get : ∀ {xs : List V} {us : List Value} {i : Nat} {x : V}, Vals xs us -> xs[i]? = some x -> ∃ u, us[i]? = some u /\ RelV x u
 | _, _, _, _, .nil, e => by simp at e
 | _, _, 0, _, .cons r _, e => by simp at e; subst e; exact ⟨_, rfl, r⟩
 | _, _, i + 1, x, .cons _ t, e => by
  obtain ⟨u, h1, h2⟩ := Vals.get (i := i) (x := x) t (by simpa using e)
  exact ⟨u, by simpa using h1, h2⟩
theorem Vals.set {x : V} {u : Value} (r : RelV x u) : ∀ {xs : List V} {us : List Value} (i : Nat), Vals xs us -> Vals (xs.set i x) (us.set i u)
 | _, _, _, .nil => .nil
 | _, _, 0, .cons _ t => .cons r t
 | _, _, i + 1, .cons q t => .cons q (Vals.set r i t)
theorem Vals.append : ∀ {xs ys : List V} {us ws : List Value}, Vals xs us -> Vals ys ws -> Vals (xs ++ ys) (us ++ ws)
 | _, _, _, _, .nil, s => s
 | _, _, _, _, .cons r t, s => .cons r (Vals.append t s)
theorem Vals.take : ∀ {xs : List V} {us : List Value} (n : Nat), Vals xs us -> Vals (xs.take n) (us.take n)
 | _, _, 0, _ => .nil
 | _, _, _ + 1, .nil => .nil
 | _, _, n + 1, .cons r t => .cons r (Vals.take n t)
theorem Vals.drop : ∀ {xs : List V} {us : List Value} (n : Nat), Vals xs us -> Vals (xs.drop n) (us.drop n)
 | _, _, 0, r => r
 | _, _, _ + 1, .nil => .nil
 | _, _, n + 1, .cons _ t => Vals.drop n t
def RelO : Option V -> Option Value -> Prop
 | some v, some u => RelV v u
 | none, none => True
 | _, _ => False
def KV {κ : Type} : List (κ × V) -> List (κ × Value) -> Prop := Paired fun (p : κ × V) (q : κ × Value) => p.1 = q.1 /\ RelV p.2 q.2

def kV : Key -> V
 | .inl i => .int i
 | .inr x => .str x

inductive HO where
 | lst (xs : List V)
 | tup (xs : List V)
 | dK (kvs : List (Key × V)) | dT (kvs : List (List Key × V))
 | set (S : Int -> Bool) (n : Nat)
 | ins (C dx : Addr) (fs : List (Str × V))
 | own (x : Addr)
 | xd (fs : List (Str × V))
 | met (f x : Addr)
 | rng (lo hi : Int)
 | frz (o : Obj) (u : HO)
 | tbl (ps : Array Value)
 | ext (φ : Heap -> Prop)

abbrev Hp := Addr -> Option HO
def upd (H : Hp) (a : Addr) (o : HO) : Hp := fun b => if b = a then some o else H b
theorem zB {H : Hp} {a : Addr} {o : HO} : upd H a o a = some o := by unfold upd; rw [if_pos rfl]
theorem zK {H : Hp} {a b : Addr} {o : HO} (h : b ≠ a) : upd H a o b = H b := by unfold upd; rw [if_neg h]
theorem upd_upd {H : Hp} {a : Addr} {o u : HO} : upd (upd H a o) a u = upd H a u := by
 funext b; unfold upd; split <;> rfl
theorem ne_of {H : Hp} {a b : Addr} {o u : HO} (h : H a = some o) (h' : H b = some u) (d : o ≠ u) : a ≠ b := by
 intro e; subst e; rw [h] at h'; exact d (Option.some.inj h')
theorem zI {H : Hp} {a b : Addr} {o : HO} (h : H a = some o) (h' : H b = none) : a ≠ b := by
 intro e; subst e; rw [h] at h'; cases h'

section
variable (P : Program) (w : World)
def ObjOk (H : Hp) (h : Heap) (a : Addr) : HO -> Prop
 | .lst xs => xs.length <= sizeLine /\ ∃ (its : List Value) (n : Nat), Vals xs its /\ h.get? a = some { cls := .type "list", data := .seq its.toArray n }
 | .tup xs => xs.length <= sizeLine /\ ∃ its : List Value, Vals xs its /\ IsTup h a its.toArray
 | .dK kvs => kvs.length <= sizeLine /\ (a == sysModules) = false /\ ∃ vs, KV kvs vs /\ h.DictOf (mixKind P w) a vs
 | .dT kvs => kvs.length <= sizeLine /\ (a == sysModules) = false /\ ∃ xs : List (List Key × Addr × Value),
   Paired (fun (p : List Key × V) (q : List Key × Addr × Value) => p.1 = q.1 /\ H q.2.1 = some (.tup (p.1.map kV)) /\ RelV p.2 q.2.2) kvs xs /\
   ∃ o es ep, h.get? a = some o /\ o.ExactDict /\ o.data = .dict es ep /\ es.toList = xs.map (entryOfKey (tupleKind (mixKind P w))) /\ (xs.map (·.1)).Nodup
 | .set S n => h.SetOf (intKind P w) a S n
 | .ins C dx fs => H dx = some (.own a) /\ fs.length <= 1000 /\ dx ≠ a /\ h.get? a = some (PySem.W.instObj C dx) /\
   ∃ mA, h.Ns1 dx mA /\ (∀ f, RelO (fs.lookup f) (mA f)) /\ PySem.Within mA (fs.map (·.1))
 | .own _ => ∃ o, h.get? a = some o
 | .xd fs => ∃ mA, h.Ns1 a mA /\ ∀ f, RelO (fs.lookup f) (mA f)
 | .rng lo hi => ∃ t u v, h.get? a = some { cls := .type "range", data := .fields #[.int lo t, .int hi u, .int 1 v] }
 | .frz o u => h.get? a = some o /\ ObjOk H h a u
 | .tbl ps => h.get? a = some { cls := .none, data := .fields ps }
 | .met f x => h.get? a = some (PySem.W.methodObj (.ref f) (.ref x))
 | .ext φ => φ h /\ (∃ o, h.get? a = some o) /\ ∀ h1 h2 : Heap, φ h1 -> (∀ o, h1.get? a = some o -> h2.get? a = some o) -> φ h2
def HOk (H : Hp) (h : Heap) : Prop := ∀ a o, H a = some o -> ObjOk P w H h a o
end

section
variable {P : Program} {w : World} {H H' : Hp} {h h' : Heap} {a : Addr} {o : HO}
theorem ObjOk.lt (x : ObjOk P w H h a o) : a < h.objs.size := by
 cases o with
 | lst xs => obtain ⟨_, _, _, _, e⟩ := x; exact Heap.lt_size e
 | tup xs => obtain ⟨_, _, _, p⟩ := x; exact p.lt
 | dK kvs => obtain ⟨_, _, _, _, o, _, _, e, _⟩ := x; exact Heap.lt_size e
 | dT kvs => obtain ⟨_, _, _, _, o, _, _, e, _⟩ := x; exact Heap.lt_size e
 | set S n => obtain ⟨o, _, _, _, e, _⟩ := x; exact Heap.lt_size e
 | ins C dx fs => obtain ⟨_, _, _, e, _⟩ := x; exact Heap.lt_size e
 | own y => obtain ⟨_, e⟩ := x; exact Heap.lt_size e
 | xd fs => obtain ⟨_, ⟨_, _, _, e, _⟩, _⟩ := x; exact Heap.lt_size e
 | rng lo hi => obtain ⟨_, _, _, e⟩ := x; exact Heap.lt_size e
 | frz ob u => obtain ⟨e, _⟩ := x; exact Heap.lt_size e
 | tbl ps => exact Heap.lt_size (show h.get? a = some _ from x)
 | met f y => exact Heap.lt_size (show h.get? a = some _ from x)
 | ext φ => obtain ⟨_, ⟨_, e⟩, _⟩ := x; exact Heap.lt_size e
theorem Paired.mapP {α β : Type} {F G : α -> β -> Prop} : ∀ {l₁ : List α} {l₂ : List β}, Paired F l₁ l₂ -> (∀ a b, F a b -> G a b) -> Paired G l₁ l₂
 | _, _, .nil, _ => .nil
 | _, _, .cons r t, f => .cons (f _ _ r) (Paired.mapP t f)
theorem ObjOk.stay (x : ObjOk P w H h a o) (k : ∀ b u, (b = a \/ H b = some (.own a)) -> h.get? b = some u -> h'.get? b = some u)
  (ho : ∀ b, H b = some (.own a) -> H' b = some (.own a)) (ht : ∀ b xs, H b = some (.tup xs) -> H' b = some (.tup xs)) : ObjOk P w H' h' a o := by
 induction o with
 | lst xs => obtain ⟨z, its, n, r, e⟩ := x; exact ⟨z, its, n, r, k _ _ (.inl rfl) e⟩
 | tup xs => obtain ⟨z, its, r, ob, e, c⟩ := x; exact ⟨z, its, r, ob, k _ _ (.inl rfl) e, c⟩
 | dK kvs => obtain ⟨z, y, vs, r, ob, es, ep, e, c⟩ := x; exact ⟨z, y, vs, r, ob, es, ep, k _ _ (.inl rfl) e, c⟩
 | dT kvs =>
  obtain ⟨z, y, xs, r, ob, es, ep, e, c⟩ := x
  exact ⟨z, y, xs, Paired.mapP r fun p q z => ⟨z.1, ht _ _ z.2.1, z.2.2⟩, ob, es, ep, k _ _ (.inl rfl) e, c⟩
 | set S n => obtain ⟨ob, es, ep, t, e, c⟩ := x; exact ⟨ob, es, ep, t, k _ _ (.inl rfl) e, c⟩
 | ins C dx fs =>
  obtain ⟨d, z, ne, e, mA, ⟨od, es, ep, e2, c⟩, r⟩ := x
  exact ⟨ho _ d, z, ne, k _ _ (.inl rfl) e, mA, ⟨od, es, ep, k _ _ (.inr d) e2, c⟩, r⟩
 | own y => obtain ⟨ob, e⟩ := x; exact ⟨ob, k _ _ (.inl rfl) e⟩
 | xd fs => obtain ⟨mA, ⟨od, es, ep, e, c⟩, r⟩ := x; exact ⟨mA, ⟨od, es, ep, k _ _ (.inl rfl) e, c⟩, r⟩
 | rng lo hi => obtain ⟨t, u, v, e⟩ := x; exact ⟨t, u, v, k _ _ (.inl rfl) e⟩
 | frz ob u ih => obtain ⟨e, q⟩ := x; exact ⟨k _ _ (.inl rfl) e, ih q⟩
 | tbl ps =>
  have e : h.get? a = some { cls := .none, data := .fields ps } := x
  show h'.get? a = some { cls := .none, data := .fields ps }
  exact k a _ (.inl rfl) e
 | met f y =>
  have e : h.get? a = some (PySem.W.methodObj (.ref f) (.ref y)) := x
  show h'.get? a = some (PySem.W.methodObj (.ref f) (.ref y))
  exact k a _ (.inl rfl) e
 | ext φ => obtain ⟨p, ⟨o, e⟩, st⟩ := x; exact ⟨st _ _ p fun o q => k _ _ (.inl rfl) q, ⟨o, k _ _ (.inl rfl) e⟩, st⟩
theorem HOk.lt (x : HOk P w H h) (e : H a = some o) : a < h.objs.size := (x a o e).lt
theorem HOk.fresh (x : HOk P w H h) (e : h.objs.size <= a) : H a = none := by
 cases q : H a with
 | none => rfl
 | some u => exact absurd (Nat.lt_of_lt_of_le (x.lt q) e) (Nat.lt_irrefl _)
theorem HOk.kept (x : HOk P w H h) (k : ∀ b u, h.get? b = some u -> h'.get? b = some u) : HOk P w H h' := fun a o e =>
 (x a o e).stay (fun b u _ q => k b u q) (fun _ q => q) fun _ _ q => q
theorem HOk.laid (x : HOk P w H h) (k : ∀ b u, h.get? b = some u -> h'.get? b = some u) (hp : h.objs.size <= a) (new : ObjOk P w (upd H a o) h' a o) : HOk P w (upd H a o) h' := fun b u e => by
 have hn := x.fresh hp
 by_cases hb : b = a
 ·subst hb; rw [zB] at e; cases e; exact new
 ·rw [zK hb] at e
  exact (x b u e).stay (fun c v _ q => k c v q) (fun c q => by rw [zK (zI q hn)]; exact q) fun c xs q => by rw [zK (zI q hn)]; exact q
end

def Rd (H : Hp) (a : Addr) (u : HO) : Prop := H a = some u \/ ∃ o, H a = some (.frz o u)
theorem Rd.ok {P : Program} {w : World} {H : Hp} {h : Heap} {a : Addr} {u : HO} (r : Rd H a u) (x : HOk P w H h) : ObjOk P w H h a u := by
 rcases r with r | ⟨o, r⟩
 ·exact x a u r
 ·obtain ⟨_, q⟩ := x a _ r
  exact q
def Mut : Option HO -> Prop
 | some (.lst _) => True
 | some (.dK _) => True
 | some (.dT _) => True
 | some (.set _ _) => True
 | some (.ins _ _ _) => True
 | some (.ext _) => True
 | _ => False
section
variable {P : Program} {w : World} {H : Hp} {h h' : Heap} {x e : Addr} {o' : HO}
theorem HOk.write (ok : HOk P w H h) (mu : Mut (H x)) (he : e = x \/ H e = some (.own x)) (k : ∀ b u, b ≠ e -> h.get? b = some u -> h'.get? b = some u) (heo : ∃ u, h'.get? e = some u)
  (new : ObjOk P w (upd H x o') h' x o') : HOk P w (upd H x o') h' := fun b u q => by
 have nown : ∀ c y, H c = some (.own y) -> c ≠ x := fun c y r z => by subst z; rw [r] at mu; exact mu
 have ntup : ∀ c xs, H c = some (.tup xs) -> c ≠ x := fun c xs r z => by subst z; rw [r] at mu; exact mu
 by_cases hb : b = x
 ·subst hb; rw [zB] at q; cases q; exact new
 ·rw [zK hb] at q
  by_cases hbe : b = e
  ·have q' : H b = some (.own x) := by
    rcases he with z | z
    ·exact absurd (hbe.trans z) hb
    ·rw [hbe]; exact z
   rw [q] at q'; cases q'
   obtain ⟨v, hv⟩ := heo
   exact ⟨v, by rw [hbe]; exact hv⟩
  ·refine (ok b u q).stay (fun c v hc r => k c v ?_ r) (fun c r => by rw [zK (nown c b r)]; exact r) fun c xs r => by rw [zK (ntup c xs r)]; exact r
   rcases hc with rfl | hc
   ·exact hbe
   ·rintro rfl
    rcases he with z | z
    ·exact nown c b hc z
    ·rw [hc] at z; cases z; exact hb rfl
end

structure Un (fs ex : List Addr) (H H' : Hp) (h h' : Heap) : Prop where
 keep : ∀ b o, h.get? b = some o -> H b = none -> b ∉ fs -> b ∉ ex -> h'.get? b = some o
 slot : ∀ b o, h.get? b = some o -> H b = none -> b ∈ fs -> b ∉ ex -> ∃ sl, h'.get? b = some { o with slots := sl }
 free : ∀ b o, h.get? b = some o -> H b = none -> b ∉ ex -> H' b = none
 there : ∀ b o, h.get? b = some o -> b ∉ ex -> ∃ o', h'.get? b = some o'
 tups : ∀ b xs, H b = some (.tup xs) -> H' b = some (.tup xs)
 frzs : ∀ b o u, H b = some (.frz o u) -> H' b = some (.frz o u)
 tbls : ∀ b ps, H b = some (.tbl ps) -> ∃ more, H' b = some (.tbl (ps ++ more))
section
variable {fs fs' ex ex' : List Addr} {H H1 H2 : Hp} {h h1 h2 h' : Heap} {a x e : Addr} {o : HO}
theorem Un.any (u : Un fs ex H H1 h h1) {b : Addr} {ob : Obj} (q : h.get? b = some ob) (n : H b = none) (hx : b ∉ ex) : ∃ sl, h1.get? b = some { ob with slots := sl } := by
 by_cases hb : b ∈ fs
 ·exact u.slot b ob q n hb hx
 ·exact ⟨ob.slots, u.keep b ob q n hb hx⟩
theorem Un.kept (k : ∀ b u, h.get? b = some u -> h'.get? b = some u) : Un fs ex H H h h' :=
 ⟨fun b ob q _ _ _ => k b ob q, fun b ob q _ _ _ => ⟨ob.slots, k b ob q⟩, fun _ _ _ n _ => n, fun b ob q _ => ⟨ob, k b ob q⟩, fun _ _ q => q, fun _ _ _ q => q, fun _ ps q => ⟨#[], by rw [q]; simp⟩⟩
theorem Un.refl : Un fs ex H H h h := Un.kept fun _ _ q => q
theorem Un.laid (k : ∀ b u, h.get? b = some u -> h'.get? b = some u) (hp : h.objs.size <= a) (hn : H a = none) : Un fs ex H (upd H a o) h h' where
 keep := fun b u q _ _ _ => k b u q
 slot := fun b u q _ _ _ => ⟨u.slots, k b u q⟩
 free := fun b u q n _ => by rw [zK (Nat.ne_of_lt (Nat.lt_of_lt_of_le (Heap.lt_size q) hp))]; exact n
 there := fun b u q _ => ⟨u, k b u q⟩
 tups := fun b xs q => by rw [zK (zI q hn)]; exact q
 frzs := fun b u xs q => by rw [zK (zI q hn)]; exact q
 tbls := fun b ps q => ⟨#[], by rw [zK (zI q hn), q]; simp⟩
theorem Un.write (mu : Mut (H x)) (he : e = x \/ H e = some (.own x)) (k : ∀ b u, b ≠ e -> h.get? b = some u -> h'.get? b = some u) (heo : ∃ u, h'.get? e = some u) : Un fs ex H (upd H x o) h h' := by
 have hx : ∀ b, H b = none -> b ≠ x := fun b n z => by subst z; rw [n] at mu; exact mu
 have hb : ∀ b, H b = none -> b ≠ e := fun b n z => by
  subst z
  rcases he with r | r
  ·exact hx b n r
  ·rw [n] at r; cases r
 have hm : ∀ b u, H b = some u -> ¬ Mut (some u) -> b ≠ x := fun b u q nm z => by subst z; rw [q] at mu; exact nm mu
 refine ⟨fun b u q n _ _ => k b u (hb b n) q, fun b u q n _ _ => ⟨u.slots, k b u (hb b n) q⟩, fun b u q n _ => by rw [zK (hx b n)]; exact n, fun b u q _ => ?_,
  fun b xs q => by rw [zK (hm b _ q fun z => z)]; exact q, fun b u xs q => by rw [zK (hm b _ q fun z => z)]; exact q, fun b ps q => ⟨#[], by rw [zK (hm b _ q fun z => z), q]; simp⟩⟩
 by_cases hbe : b = e
 ·subst hbe; exact heo
 ·exact ⟨u, k b u hbe q⟩
end

def trk (h : Heap) (H : Hp) : List Addr := (List.range h.objs.size).filter fun a => (H a).isSome
def hidT (h : Heap) (H : Hp) : Heap := PySem.W.hideAll h (trk h H)
theorem hidT_size (h : Heap) (H : Hp) : (hidT h H).objs.size = h.objs.size := PySem.W.hideAll_size _ _
theorem hidT_get {h : Heap} {H : Hp} {b : Addr} {o : Obj} (e : h.get? b = some o) (n : H b = none) : (hidT h H).get? b = some o :=
 PySem.W.hideAll_get _ e fun hm => by
  have q : (H b).isSome = true := (List.mem_filter.mp hm).2
  rw [n] at q; simp at q
theorem of_hidT {h : Heap} {H : Hp} {b : Addr} {o : Obj} (e : (hidT h H).get? b = some o) : h.get? b = some o /\ H b = none := by
 have e' : h.get? b = some o := PySem.W.of_hideAll (trk h H) e
 refine ⟨e', ?_⟩
 cases q : H b with
 | none => rfl
 | some x =>
  have hm : b ∈ trk h H := List.mem_filter.mpr ⟨List.mem_range.mpr (Heap.lt_size e'), by simp [q]⟩
  have z : (hidT h H).get? b = none := PySem.W.hideAll_none (trk h H) hm
  rw [z] at e; cases e

def allNews (g h : Heap) (L : Addr) : List (Addr × Obj) := (List.range h.objs.size).filterMap fun a => if a = L \/ (g.get? a).isSome = true then none else (h.get? a).map fun o => (a, o)
def rest (g h : Heap) (L d : Addr) : List (Addr × Obj) := (allNews g h L).filter fun p => decide (p.1 ≠ d)
end L2

namespace L2
open PySem PySem.Spec PyProof.Rows

structure Mod (K : PySem.W.Frag) (mg : Str -> Option Value) (base : Heap) : Prop where
 kin : K.In base
 glob : base.Ns mainGlobals mg
 blt : ∃ mb, base.Ns builtinsNs mb /\ ∀ x : Str, x ≠ "__name__" -> mb x = bootBuiltins x
 nolimit : base.NoLimit

structure Cx where
 prog : Program
 w : World
 K : PySem.W.Frag
 mg : Str -> Option Value
 base : Heap
 A : Around
 N : List Str
 s₀ : Shared
 H₀ : Hp
 env : Env
 outer : List Env
 stack : List Env
 ex : List Addr
 fn : Str -> Bool
 calm : Bool
 pn : List (Addr × Obj)
 xe : Value -> Shared -> Prop
def frs (l : List Env) : List Addr := l.filterMap (·.frame)
abbrev Cx.fs (X : Cx) : List Addr := frs X.outer

def Vis (sc : Scope) (x : Str) : Prop := sc.names.lookup x = some .local \/ sc.names.lookup x = some .cell \/ sc.names.lookup x = some .free
def Loc (sc : Scope) (x : Str) : Prop := sc.names.lookup x = some .local \/ sc.names.lookup x = some .cell
def Look (env : Env) (h : Heap) (m : Str -> Option Value) (x : Str) (u : Value) : Prop :=
 (env.kindOf x = some .local /\ m x = some u) \/ ((env.kindOf x = some .cell \/ env.kindOf x = some .free) /\ ∃ c, env.cells.lookup x = some c /\ h.IsCell c (some u))

structure Cx.Ok (X : Cx) : Prop where
 mod : Mod X.K X.mg X.base
 kind : X.env.scope.kind = .function
 glob : X.env.globals = mainGlobals
 blt : X.env.builtins = builtinsNs
 above : X.s₀.heap.objs.size <= X.env.locals
 inj : ∀ x y c, X.env.cells.lookup x = some c -> X.env.cells.lookup y = some c -> x = y
 has : ∀ x, (X.env.kindOf x = some .cell \/ X.env.kindOf x = some .free) -> ∃ c, X.env.cells.lookup x = some c
 cab : ∀ x c, X.fn x = true -> X.env.cells.lookup x = some c -> X.s₀.heap.objs.size <= c
 hd : X.calm = true -> X.A.handled = none
 frames : X.A.frames = some X.stack
 stk : X.stack = X.outer \/ (X.stack = X.env :: X.outer /\ X.env.frame = some X.env.locals)
 exf : ∀ b ∈ X.ex, b ≠ X.env.locals /\ ∀ x c, X.env.cells.lookup x = some c -> c ≠ b
 bs : ∀ b o, X.base.get? b = some o -> X.s₀.heap.get? b = some o /\ X.H₀ b = none
 bsz : X.base.objs.size <= X.s₀.heap.objs.size
 noex : ∀ b o, X.base.get? b = some o -> b ∉ X.ex
 exfs : ∀ b ∈ X.ex, b ∉ X.fs
 funs : X.s₀.heap.FunFrames X.base X.outer
 frf : ∀ b ∈ X.fs, X.H₀ b = none

structure Inv (X : Cx) (pins : List (Addr × Obj)) (σ : List (Option V)) (H : Hp) (s : Shared) : Prop where
 ok : X.Ok
 os : s.os = X.s₀.os
 bare : AllBare s.gens
 base : Un X.fs X.ex X.H₀ H X.s₀.heap s.heap
 loc : ∃ m, s.heap.Ns X.env.locals m /\ ∀ (i : Nat) (x : Str) (v : V), X.N[i]? = some x -> σ[i]? = some (some v) -> Vis X.env.scope x -> ∃ u, RelV v u /\ Look X.env s.heap m x u
 cell : ∀ x c, X.env.cells.lookup x = some c -> ∃ v, s.heap.IsCell c v
 free : H X.env.locals = none
 freeC : ∀ x c, X.env.cells.lookup x = some c -> H c = none
 pin : ∀ p ∈ X.pn ++ pins, s.heap.get? p.1 = some p.2 /\ H p.1 = none /\ p.1 ≠ X.env.locals /\ p.1 ∉ X.fs /\ ∀ v, p.2.data ≠ .cell v
 hok : HOk X.prog X.w H s.heap
 len : σ.length = X.N.length

section
variable {X : Cx} {pins : List (Addr × Obj)} {σ : List (Option V)} {H H' : Hp} {s : Shared} {h' : Heap}

theorem Cx.Ok.nofr (ok : X.Ok) {b : Addr} {o : Obj} (e : X.base.get? b = some o) : b ∉ X.fs := fun hb => by
 have := (ok.funs.mem hb).1
 rw [e] at this; cases this
theorem Inv.bs (I : Inv X pins σ H s) : ∀ b o, X.base.get? b = some o -> s.heap.get? b = some o /\ H b = none := fun b o e =>
 ⟨I.base.keep b o (I.ok.bs b o e).1 (I.ok.bs b o e).2 (I.ok.nofr e) (I.ok.noex b o e), I.base.free b o (I.ok.bs b o e).1 (I.ok.bs b o e).2 (I.ok.noex b o e)⟩
theorem Inv.bk (I : Inv X pins σ H s) : ∀ b o, X.base.get? b = some o -> s.heap.get? b = some o := fun b o e => (I.bs b o e).1
theorem Inv.mod (I : Inv X pins σ H s) : Mod X.K X.mg X.base := I.ok.mod
theorem Inv.kIn (I : Inv X pins σ H s) : X.K.In s.heap := I.ok.mod.kin.keeps I.bk
theorem Inv.lt (I : Inv X pins σ H s) : X.env.locals < s.heap.objs.size := let ⟨_, hn, _⟩ := I.loc; hn.lt
theorem Inv.sz (I : Inv X pins σ H s) : X.s₀.heap.objs.size <= s.heap.objs.size := Nat.le_trans I.ok.above (Nat.le_of_lt I.lt)
theorem Inv.nofs (I : Inv X pins σ H s) {a : Addr} (h : s.heap.objs.size <= a) : a ∉ X.fs := fun hb => by
 obtain ⟨_, o, ho, _⟩ := I.ok.funs.mem hb
 exact absurd (Nat.lt_of_lt_of_le (Heap.lt_size ho) (Nat.le_trans I.sz h)) (Nat.lt_irrefl _)
theorem Inv.cne (I : Inv X pins σ H s) : ∀ x c, X.env.cells.lookup x = some c -> c ≠ X.env.locals := fun x c e z => by
 obtain ⟨v, o, ho, hd⟩ := I.cell x c e
 obtain ⟨m, ⟨o', es, ep, ho', hd', _⟩, _⟩ := I.loc
 rw [z, ho'] at ho; cases ho; rw [hd'] at hd; cases hd
theorem Inv.funs (I : Inv X pins σ H s) : s.heap.FunFrames X.base X.outer := by
 have all : ∀ (l : List Env), (∀ b ∈ frs l, b ∈ X.fs) -> X.s₀.heap.FunFrames X.base l -> s.heap.FunFrames X.base l := by
  intro l
  induction l with
  | nil => intro _ _; trivial
  | cons env r ih =>
   intro hs hl
   obtain ⟨hk, ⟨L, o, hf, hn, ho, hd⟩, hr⟩ := hl
   have hL : L ∈ X.fs := hs L (by unfold frs; rw [List.filterMap_cons, hf]; exact List.mem_cons_self)
   obtain ⟨sl, e⟩ := I.base.slot L o ho (I.ok.frf L hL) hL fun z => I.ok.exfs L z hL
   exact ⟨hk, ⟨L, _, hf, hn, e, hd⟩, ih (fun b hb => hs b (by unfold frs; rw [List.filterMap_cons, hf]; exact List.mem_cons_of_mem _ hb)) hr⟩
 exact all X.outer (fun _ hb => hb) I.ok.funs

theorem Inv.stack (I : Inv X pins σ H s) : s.heap.FunFrames X.base X.stack := by
 rcases I.ok.stk with e | ⟨e, hf⟩
 ·rw [e]; exact I.funs
 ·rw [e]
  obtain ⟨m, hn, _⟩ := I.loc
  refine .cons (by rw [I.ok.kind]; decide) hf hn ?_ I.funs
  exact Heap.get?_none_of_le (Nat.le_trans I.ok.bsz I.ok.above)
theorem Inv.stkSub (I : Inv X pins σ H s) : ∀ b ∈ frs X.stack, b ∈ X.env.locals :: X.fs := fun b hb => by
 rcases I.ok.stk with e | ⟨e, hf⟩
 ·rw [e] at hb; exact List.mem_cons_of_mem _ hb
 ·rw [e] at hb
  unfold frs at hb
  rw [List.filterMap_cons, hf] at hb
  exact hb
theorem Inv.stkFree (I : Inv X pins σ H s) : ∀ b ∈ frs X.stack, H b = none := fun b hb => by
 rcases List.mem_cons.mp (I.stkSub b hb) with e | hb
 ·rw [e]; exact I.free
 ·obtain ⟨_, o, ho, _⟩ := I.ok.funs.mem hb
  exact I.base.free b o ho (I.ok.frf b hb) fun z => I.ok.exfs b z hb

theorem Inv.step {g' : Array GenState} {t' : Nat} {d' : Drawn} {ch : List Addr} (I : Inv X pins σ H s)
  (hch : ∀ b ∈ ch, (b ∈ X.ex \/ X.s₀.heap.objs.size <= b) /\ b ≠ X.env.locals /\ (∀ x c, X.env.cells.lookup x = some c -> c ≠ b) /\ ∀ p ∈ X.pn ++ pins, p.1 ≠ b)
  (keep : ∀ b o, b ≠ X.env.locals -> b ∉ X.fs -> b ∉ ch -> s.heap.get? b = some o -> H b = none -> h'.get? b = some o)
  (slot : ∀ b o, b ≠ X.env.locals -> b ∈ X.fs -> b ∉ ch -> s.heap.get? b = some o -> H b = none -> ∃ sl, h'.get? b = some { o with slots := sl }) (free : ∀ b o, b ∉ ch -> s.heap.get? b = some o -> H b = none -> H' b = none)
  (there : ∀ b o, b ∉ ch -> s.heap.get? b = some o -> ∃ o', h'.get? b = some o')
  (tups : ∀ b xs, H b = some (.tup xs) -> H' b = some (.tup xs)) (frzs : ∀ b o u, H b = some (.frz o u) -> H' b = some (.frz o u)) (tbls : ∀ b ps, H b = some (.tbl ps) -> ∃ more, H' b = some (.tbl (ps ++ more)))
  (ns : ∀ m, s.heap.Ns X.env.locals m -> h'.Ns X.env.locals m) (hok : HOk X.prog X.w H' h') (hg : AllBare g') :
  Inv X pins σ H' { s with heap := h', gens := g', drawn := d', toks := t' } := by
 have neL : ∀ b o, X.s₀.heap.get? b = some o -> b ≠ X.env.locals := fun b o e => Nat.ne_of_lt (Nat.lt_of_lt_of_le (Heap.lt_size e) I.ok.above)
 have neC : ∀ b o, X.s₀.heap.get? b = some o -> b ∉ X.ex -> b ∉ ch := fun b o e hx hb => by
  rcases (hch b hb).1 with z | z
  ·exact hx z
  ·exact absurd (Nat.lt_of_lt_of_le (Heap.lt_size e) z) (Nat.lt_irrefl _)
 have cellK : ∀ x c, X.env.cells.lookup x = some c -> ∀ v, s.heap.IsCell c v -> h'.IsCell c v := fun x c e v ⟨o, ho, hd⟩ => by
  have nch : c ∉ ch := fun z => (hch c z).2.2.1 x c e rfl
  by_cases hc : c ∈ X.fs
  ·obtain ⟨sl, q⟩ := slot c o (I.cne x c e) hc nch ho (I.freeC x c e)
   exact ⟨_, q, hd⟩
  ·exact ⟨o, keep c o (I.cne x c e) hc nch ho (I.freeC x c e), hd⟩
 refine ⟨I.ok, I.os, hg, ⟨fun b o e n hb hx => ?_, fun b o e n hb hx => ?_, fun b o e n hx => ?_, fun b o e hx => ?_, fun b xs e => tups b xs (I.base.tups b xs e), fun b o xs e => frzs b o xs (I.base.frzs b o xs e), fun b ps e => ?_⟩, ?_, fun x c e => ?_, ?_, fun x c e => ?_, fun p hp => ?_, hok, I.len⟩
 ·exact keep b o (neL b o e) hb (neC b o e hx) (I.base.keep b o e n hb hx) (I.base.free b o e n hx)
 ·obtain ⟨sl, e1⟩ := I.base.slot b o e n hb hx
  obtain ⟨sl', e2⟩ := slot b _ (neL b o e) hb (neC b o e hx) e1 (I.base.free b o e n hx)
  exact ⟨sl', e2⟩
 ·obtain ⟨o', e1⟩ := I.base.there b o e hx
  exact free b o' (neC b o e hx) e1 (I.base.free b o e n hx)
 ·obtain ⟨o', e1⟩ := I.base.there b o e hx
  exact there b o' (neC b o e hx) e1
 ·obtain ⟨m1, e1⟩ := I.base.tbls b ps e
  obtain ⟨m2, e2⟩ := tbls b _ e1
  exact ⟨m1 ++ m2, by rw [e2, Array.append_assoc]⟩
 ·obtain ⟨m, hn, hl⟩ := I.loc
  refine ⟨m, ns m hn, fun i x v e1 e2 e3 => ?_⟩
  obtain ⟨u, r, l⟩ := hl i x v e1 e2 e3
  refine ⟨u, r, ?_⟩
  rcases l with l | ⟨k, c, e, z⟩
  ·exact .inl l
  ·exact .inr ⟨k, c, e, cellK x c e _ z⟩
 ·obtain ⟨v, z⟩ := I.cell x c e
  exact ⟨v, cellK x c e v z⟩
 ·obtain ⟨m, ⟨o, _, _, ho, _⟩, _⟩ := I.loc
  exact free _ o (fun z => (hch _ z).2.1 rfl) ho I.free
 ·obtain ⟨v, o, ho, hd⟩ := I.cell x c e
  exact free c o (fun z => (hch c z).2.2.1 x c e rfl) ho (I.freeC x c e)
 ·obtain ⟨e, n, ne, nf, d⟩ := I.pin p hp
  have nch : p.1 ∉ ch := fun z => (hch p.1 z).2.2.2 p hp rfl
  exact ⟨keep p.1 p.2 ne nf nch e n, free p.1 p.2 nch e n, ne, nf, d⟩
theorem Inv.un {t' : Nat} (I : Inv X pins σ H s) (u : Un X.fs [] H H' s.heap h') (hok : HOk X.prog X.w H' h') : Inv X pins σ H' { s with heap := h', toks := t' } := by
 obtain ⟨m, ⟨o, es, ep, ho, r⟩, _⟩ := id I.loc
 obtain ⟨sl, hL⟩ := u.any ho I.free (by simp)
 exact I.step (g' := s.gens) (d' := s.drawn) (ch := []) (fun _ z => nomatch z) (fun b o _ hb _ e n => u.keep b o e n hb (by simp)) (fun b o _ hb _ e n => u.slot b o e n hb (by simp)) (fun b o _ e n => u.free b o e n (by simp)) (fun b o _ e => u.there b o e (by simp)) u.tups u.frzs u.tbls (fun m' hm => by
  obtain ⟨o', es', ep', ho', r'⟩ := hm
  rw [ho] at ho'; cases ho'
  exact ⟨_, es', ep', hL, r'⟩) hok I.bare
theorem Inv.call {g' : Array GenState} {t' : Nat} {d' : Drawn} {ch : List Addr} (I : Inv X pins σ H s) (u : Un (frs X.stack) ch H H' s.heap h') (hok : HOk X.prog X.w H' h') (hg : AllBare g')
  (hch : ∀ b ∈ ch, (b ∈ X.ex \/ X.s₀.heap.objs.size <= b) /\ b ≠ X.env.locals /\ (∀ x c, X.env.cells.lookup x = some c -> c ≠ b) /\ ∀ p ∈ X.pn ++ pins, p.1 ≠ b) :
  Inv X pins σ H' { s with heap := h', gens := g', drawn := d', toks := t' } := by
 obtain ⟨m, ⟨o, es, ep, ho, r⟩, _⟩ := id I.loc
 obtain ⟨sl, hL⟩ := u.any ho I.free fun z => (hch _ z).2.1 rfl
 exact I.step (ch := ch) hch (fun b o hL hb hc e n => u.keep b o e n (fun z => (List.mem_cons.mp (I.stkSub b z)).elim hL hb) hc) (fun b o _ _ hc e n => u.any e n hc) (fun b o hc e n => u.free b o e n hc) (fun b o hc e => u.there b o e hc) u.tups u.frzs u.tbls (fun m' hm => by
  obtain ⟨o', es', ep', ho', r'⟩ := hm
  rw [ho] at ho'; cases ho'
  exact ⟨_, es', ep', hL, r'⟩) hok hg
theorem Inv.turned {t' : Nat} {it : Addr} (I : Inv X pins σ H s) (k : ∀ b o, b ≠ it -> s.heap.get? b = some o -> h'.get? b = some o) (hn : H it = none) (hL : it ≠ X.env.locals)
  (h1 : it ∈ X.ex \/ X.s₀.heap.objs.size <= it) (h2 : ∀ x c, X.env.cells.lookup x = some c -> c ≠ it) (h3 : ∀ p ∈ X.pn ++ pins, p.1 ≠ it) : Inv X pins σ H { s with heap := h', toks := t' } := by
 have nit : ∀ b u, H b = some u -> b ≠ it := fun b u e z => by rw [z, hn] at e; cases e
 refine I.step (g' := s.gens) (d' := s.drawn) (ch := [it]) (fun b hb => ?_) (fun b o _ _ hc e _ => k b o (fun z => hc (by simp [z])) e) (fun b o _ _ hc e _ => ⟨o.slots, k b o (fun z => hc (by simp [z])) e⟩) (fun _ _ _ _ n => n)
  (fun b o hc e => ⟨o, k b o (fun z => hc (by simp [z])) e⟩) (fun _ _ e => e) (fun _ _ _ e => e) (fun b ps e => ⟨#[], by rw [e]; simp⟩) (fun m hm => ?_) (fun b u e => ?_) I.bare
 ·have e : b = it := by simpa using hb
  subst e
  exact ⟨h1, hL, h2, h3⟩
 ·obtain ⟨o, es, ep, ho, r⟩ := hm
  exact ⟨o, es, ep, k _ o (Ne.symm hL) ho, r⟩
 ·refine (I.hok b u e).stay (fun c v hc q => k c v ?_ q) (fun _ q => q) fun _ _ q => q
  rcases hc with z | z
  ·rw [z]; exact nit b u e
  ·exact nit c _ z
theorem Inv.tok (I : Inv X pins σ H s) (t : Nat) : Inv X pins σ H { s with toks := t } := I.un (h' := s.heap) (t' := t) Un.refl I.hok
theorem Inv.kept {t' : Nat} (I : Inv X pins σ H s) (k : ∀ b u, s.heap.get? b = some u -> h'.get? b = some u) : Inv X pins σ H { s with heap := h', toks := t' } := I.un (Un.kept k) (I.hok.kept k)
theorem Inv.laid {a : Addr} {o : HO} {t' : Nat} (I : Inv X pins σ H s) (k : ∀ b u, s.heap.get? b = some u -> h'.get? b = some u) (hp : s.heap.objs.size <= a) (new : ObjOk X.prog X.w (upd H a o) h' a o) :
  Inv X pins σ (upd H a o) { s with heap := h', toks := t' } := I.un (Un.laid k hp (I.hok.fresh hp)) (I.hok.laid k hp new)
theorem Inv.write {x e : Addr} {o : HO} {t' : Nat} (I : Inv X pins σ H s) (mu : Mut (H x)) (he : e = x \/ H e = some (.own x)) (k : ∀ b u, b ≠ e -> s.heap.get? b = some u -> h'.get? b = some u) (heo : ∃ u, h'.get? e = some u)
  (new : ObjOk X.prog X.w (upd H x o) h' x o) : Inv X pins σ (upd H x o) { s with heap := h', toks := t' } := I.un (Un.write mu he k heo) (I.hok.write mu he k heo new)
theorem Inv.pins_of {pins' : List (Addr × Obj)} (I : Inv X pins σ H s) (h : ∀ p ∈ pins', s.heap.get? p.1 = some p.2 /\ H p.1 = none /\ p.1 ≠ X.env.locals /\ p.1 ∉ X.fs /\ ∀ v, p.2.data ≠ .cell v) : Inv X pins' σ H s :=
 ⟨I.ok, I.os, I.bare, I.base, I.loc, I.cell, I.free, I.freeC, fun p hp => (List.mem_append.mp hp).elim (fun z => I.pin p (List.mem_append_left _ z)) (h p), I.hok, I.len⟩

theorem nodup_ix {N : List Str} (hN : N.Nodup) {i j : Nat} {x : Str} (a : N[i]? = some x) (b : N[j]? = some x) : i = j := by
 obtain ⟨h1, e1⟩ := List.getElem?_eq_some_iff.mp a
 obtain ⟨h2, e2⟩ := List.getElem?_eq_some_iff.mp b
 exact (List.getElem_inj hN).mp (e1.trans e2.symm)

theorem store_ok2 {M : Model} {A : Around} {E : Value -> Shared -> Prop} {i : Nat} {x : Str} {v : V} {u : Value} {Q : Unit -> Shared -> Prop} (I : Inv X pins σ H s) (hN : X.N.Nodup) (hi : X.N[i]? = some x) (hx : Loc X.env.scope x) (r : RelV v u)
  (h : ∀ s', Inv X pins (σ.set i (some v)) H s' -> (∃ a, Heap.SameBut a s.heap s'.heap /\ (a = X.env.locals \/ X.env.cells.lookup x = some a)) -> Q () s') (hf : X.fn x = true \/ X.env.scope.names.lookup x = some .local := by first | exact .inl rfl | exact .inr rfl | assumption) : wpAny M A (storeName X.env x u) Q E s := by
 obtain ⟨m, hn, hl⟩ := id I.loc
 have hcls : (X.env.scope.kind == .class || (X.env.scope.kind == .module && X.env.locals != X.env.globals)) = false := by rw [I.ok.kind]; rfl
 have hiσ : i < σ.length := by rw [I.len]; exact (List.getElem?_eq_some_iff.mp hi).1
 have cne := I.cne
 have tracked : ∀ {a : Addr} {h' : Heap}, (∃ o, s.heap.get? a = some o /\ H a = none) -> Heap.SameBut a s.heap h' -> HOk X.prog X.w H h' := fun {a h'} ha hs b ob e => by
  obtain ⟨_, _, hfree⟩ := ha
  refine (I.hok b ob e).stay (fun c w' hc q => (hs.2 c ?_).trans q) (fun _ q => q) fun _ _ q => q
  rintro rfl
  rcases hc with rfl | hc
  ·rw [hfree] at e; cases e
  ·rw [hfree] at hc; cases hc
 rcases hx with hk | hk
 ·refine wpAny_storeName_local hk hn (fun h' hn' hs => ?_) hcls
  obtain ⟨oL, _, _, hoL, _⟩ := id hn
  refine h _ ⟨I.ok, I.os, I.bare, ⟨fun b o e n hb hx => ?_, fun b o e n hb hx => ?_, I.base.free, fun b o e hx => ?_, I.base.tups, I.base.frzs, I.base.tbls⟩, ⟨_, hn', fun j y v' e1 e2 e3 => ?_⟩, fun y c e => ?_, I.free, I.freeC, fun p hp => ?_, tracked ⟨oL, hoL, I.free⟩ hs, by simpa using I.len⟩ ⟨_, hs, .inl rfl⟩
  ·exact (hs.2 b (Nat.ne_of_lt (Nat.lt_of_lt_of_le (Heap.lt_size e) I.ok.above))).trans (I.base.keep b o e n hb hx)
  ·obtain ⟨sl, e1⟩ := I.base.slot b o e n hb hx
   exact ⟨sl, (hs.2 b (Nat.ne_of_lt (Nat.lt_of_lt_of_le (Heap.lt_size e) I.ok.above))).trans e1⟩
  ·obtain ⟨o', e1⟩ := I.base.there b o e hx
   exact ⟨o', (hs.2 b (Nat.ne_of_lt (Nat.lt_of_lt_of_le (Heap.lt_size e) I.ok.above))).trans e1⟩
  ·by_cases hj : j = i
   ·subst hj
    rw [hi] at e1; cases e1
    rw [List.getElem?_set_self hiσ] at e2
    cases e2
    exact ⟨u, r, .inl ⟨hk, by simp⟩⟩
   ·rw [List.getElem?_set_ne (Ne.symm hj)] at e2
    obtain ⟨u', r', q⟩ := hl j y v' e1 e2 e3
    refine ⟨u', r', ?_⟩
    rcases q with ⟨k, e⟩ | ⟨k, c, e, z⟩
    ·refine .inl ⟨k, ?_⟩
     have : y ≠ x := fun e => hj (nodup_ix hN e1 (e ▸ hi))
     simp [this, e]
    ·exact .inr ⟨k, c, e, z.sameBut hs (cne y c e)⟩
  ·obtain ⟨w', z⟩ := I.cell y c e
   exact ⟨w', z.sameBut hs (cne y c e)⟩
  ·obtain ⟨e, n, ne, nf, d⟩ := I.pin p hp
   exact ⟨(hs.2 p.1 ne).trans e, n, ne, nf, d⟩
 ·have hfn : X.fn x = true := by
   rcases hf with z | z
   ·exact z
   ·rw [z] at hk; cases hk
  obtain ⟨c, hc⟩ := I.ok.has x (.inl hk)
  obtain ⟨w', z⟩ := I.cell x c hc
  refine wpAny_storeName_cell I.ok.kind hk hc z (fun h' hc' hs => ?_)
  obtain ⟨oc, hoc, hocd⟩ := id z
  refine h { s with heap := h' } ⟨I.ok, I.os, I.bare, ⟨fun b o e n hb hx => ?_, fun b o e n hb hx => ?_, I.base.free, fun b o e hx => ?_, I.base.tups, I.base.frzs, I.base.tbls⟩, ⟨m, hn.sameBut hs (Ne.symm (cne x c hc)), fun j y v' e1 e2 e3 => ?_⟩, fun y c' e => ?_, I.free, I.freeC, fun p hp => ?_, tracked ⟨oc, hoc, I.freeC x c hc⟩ hs, by simpa using I.len⟩ ⟨c, hs, .inr hc⟩
  ·exact (hs.2 b (Nat.ne_of_lt (Nat.lt_of_lt_of_le (Heap.lt_size e) (I.ok.cab x c hfn hc)))).trans (I.base.keep b o e n hb hx)
  ·obtain ⟨sl, e1⟩ := I.base.slot b o e n hb hx
   exact ⟨sl, (hs.2 b (Nat.ne_of_lt (Nat.lt_of_lt_of_le (Heap.lt_size e) (I.ok.cab x c hfn hc)))).trans e1⟩
  ·obtain ⟨o', e1⟩ := I.base.there b o e hx
   exact ⟨o', (hs.2 b (Nat.ne_of_lt (Nat.lt_of_lt_of_le (Heap.lt_size e) (I.ok.cab x c hfn hc)))).trans e1⟩
  ·by_cases hj : j = i
   ·subst hj
    rw [hi] at e1; cases e1
    rw [List.getElem?_set_self hiσ] at e2
    cases e2
    exact ⟨u, r, .inr ⟨.inl hk, c, hc, hc'⟩⟩
   ·rw [List.getElem?_set_ne (Ne.symm hj)] at e2
    obtain ⟨u', r', q⟩ := hl j y v' e1 e2 e3
    refine ⟨u', r', ?_⟩
    rcases q with q | ⟨k, c', e, z'⟩
    ·exact .inl q
    ·refine .inr ⟨k, c', e, z'.sameBut hs ?_⟩
     rintro rfl
     exact hj (nodup_ix hN e1 (I.ok.inj _ _ _ e hc ▸ hi))
  ·by_cases hcc : c' = c
   ·subst hcc; exact ⟨_, hc'⟩
   ·obtain ⟨w2, z2⟩ := I.cell y c' e
    exact ⟨w2, z2.sameBut hs hcc⟩
  ·obtain ⟨e, n, ne, nf, d⟩ := I.pin p hp
   refine ⟨(hs.2 p.1 ?_).trans e, n, ne, nf, d⟩
   intro q
   rw [q, hoc] at e
   have q' : oc = p.2 := Option.some.inj e
   exact d w' (by rw [<- q']; exact hocd)
theorem wY {M : Model} {A : Around} {E : Value -> Shared -> Prop} {i : Nat} {x : Str} {v : V} {u : Value} {Q : Unit -> Shared -> Prop} (I : Inv X pins σ H s) (hN : X.N.Nodup) (hi : X.N[i]? = some x) (hx : Loc X.env.scope x) (r : RelV v u)
  (h : ∀ s', Inv X pins (σ.set i (some v)) H s' -> Q () s') (hf : X.fn x = true \/ X.env.scope.names.lookup x = some .local := by first | exact .inl rfl | exact .inr rfl | assumption) : wpAny M A (storeName X.env x u) Q E s :=
 store_ok2 I hN hi hx r (fun s' I' _ => h s' I') hf
theorem Inv.call' {s' : Shared} {ch : List Addr} (I : Inv X pins σ H s) (ho : s'.os = s.os) (u : Un (frs X.stack) ch H H' s.heap s'.heap) (hok : HOk X.prog X.w H' s'.heap) (hg : AllBare s'.gens)
  (hch : ∀ b ∈ ch, (b ∈ X.ex \/ X.s₀.heap.objs.size <= b) /\ b ≠ X.env.locals /\ (∀ x c, X.env.cells.lookup x = some c -> c ≠ b) /\ ∀ p ∈ X.pn ++ pins, p.1 ≠ b) : Inv X pins σ H' s' := by
 obtain ⟨h', g', d', t', o'⟩ := s'
 have e : o' = s.os := ho
 subst e
 exact I.call (g' := g') (t' := t') (d' := d') u hok hg hch
end

abbrev XK := Value -> Option Addr -> Hp -> Prop
abbrev St := List (Option V)
abbrev VK := V -> Hp -> Prop
abbrev TE := St -> Hp -> VK -> Prop
abbrev TT := St -> Hp -> (Bool -> Hp -> Prop) -> Prop
abbrev TA := St -> Hp -> (List V -> Hp -> Prop) -> Prop
structure Ends where
 nx : St -> Hp -> Prop
 rt : VK
 bk : St -> Hp -> Prop := fun _ _ => False
 ct : St -> Hp -> Prop := fun _ _ => False
abbrev TS := Ends -> St -> Hp -> Prop

def EP (X : Cx) (pins : List (Addr × Obj)) (σ : St) (Q : VK) (u : Value) (s' : Shared) : Prop := ∃ v H', Inv X pins σ H' s' /\ RelV v u /\ Q v H'
def TP (X : Cx) (pins : List (Addr × Obj)) (σ : St) (Q : Bool -> Hp -> Prop) (b : Bool) (s' : Shared) : Prop := ∃ H', Inv X pins σ H' s' /\ Q b H'
def AP (X : Cx) (pins : List (Addr × Obj)) (σ : St) (Q : List V -> Hp -> Prop) (us : List Value) (s' : Shared) : Prop := ∃ vs H', Inv X pins σ H' s' /\ Vals vs us /\ Q vs H'
def SP (X : Cx) (pins : List (Addr × Obj)) (D : Ends) (f : Flow) (s' : Shared) : Prop :=
 match f with
 | .next => ∃ σ' H', Inv X pins σ' H' s' /\ D.nx σ' H'
 | .brk => ∃ σ' H', Inv X pins σ' H' s' /\ D.bk σ' H'
 | .cont => ∃ σ' H', Inv X pins σ' H' s' /\ D.ct σ' H'
 | .ret u => ∃ v σ' H', Inv X pins σ' H' s' /\ RelV v u /\ D.rt v H'

structure PE (X : Cx) (e : Expr) (t : TE)  : Prop where
 go : ∀ (pins : List (Addr × Obj)) (s : Shared) (σ : St) (H : Hp) (Q : VK), Inv X pins σ H s -> t σ H Q -> wpAny (model X.prog X.w) X.A (eval e X.env) (EP X pins σ Q) X.xe s
instance {X : Cx} {e : Expr} {t : TE} : CoeFun (PE X e t) (fun _ => ∀ (pins : List (Addr × Obj)) (s : Shared) (σ : St) (H : Hp) (Q : VK), Inv X pins σ H s -> t σ H Q -> wpAny (model X.prog X.w) X.A (eval e X.env) (EP X pins σ Q) X.xe s) := ⟨PE.go⟩
structure PT (X : Cx) (e : Expr) (t : TT)  : Prop where
 go : ∀ (pins : List (Addr × Obj)) (s : Shared) (σ : St) (H : Hp) (Q : Bool -> Hp -> Prop), Inv X pins σ H s -> t σ H Q -> wpAny (model X.prog X.w) X.A (isTrue e X.env (eval e X.env)) (TP X pins σ Q) X.xe s
instance {X : Cx} {e : Expr} {t : TT} : CoeFun (PT X e t) (fun _ => ∀ (pins : List (Addr × Obj)) (s : Shared) (σ : St) (H : Hp) (Q : Bool -> Hp -> Prop), Inv X pins σ H s -> t σ H Q -> wpAny (model X.prog X.w) X.A (isTrue e X.env (eval e X.env)) (TP X pins σ Q) X.xe s) := ⟨PT.go⟩
structure PW (X : Cx) (e : Expr) (t : TT)  : Prop where
 go : ∀ (whole : Sem Value) (pins : List (Addr × Obj)) (s : Shared) (σ : St) (H : Hp) (Q : Bool -> Hp -> Prop), Inv X pins σ H s -> t σ H Q -> wpAny (model X.prog X.w) X.A (isTrue e X.env whole) (TP X pins σ Q) X.xe s
instance {X : Cx} {e : Expr} {t : TT} : CoeFun (PW X e t) (fun _ => ∀ (whole : Sem Value) (pins : List (Addr × Obj)) (s : Shared) (σ : St) (H : Hp) (Q : Bool -> Hp -> Prop), Inv X pins σ H s -> t σ H Q -> wpAny (model X.prog X.w) X.A (isTrue e X.env whole) (TP X pins σ Q) X.xe s) := ⟨PW.go⟩
theorem PW.pt {X : Cx} {e : Expr} {t : TT} (h : PW X e t) : PT X e t := ⟨h _⟩
structure PA (X : Cx) (es : List Expr) (t : TA)  : Prop where
 go : ∀ (pos : Pos) (pins : List (Addr × Obj)) (s : Shared) (σ : St) (H : Hp) (Q : List V -> Hp -> Prop), Inv X pins σ H s -> t σ H Q -> wpAny (model X.prog X.w) X.A (spliced (backTo pos (starEach es X.env))) (AP X pins σ Q) X.xe s
instance {X : Cx} {es : List Expr} {t : TA} : CoeFun (PA X es t) (fun _ => ∀ (pos : Pos) (pins : List (Addr × Obj)) (s : Shared) (σ : St) (H : Hp) (Q : List V -> Hp -> Prop), Inv X pins σ H s -> t σ H Q -> wpAny (model X.prog X.w) X.A (spliced (backTo pos (starEach es X.env))) (AP X pins σ Q) X.xe s) := ⟨PA.go⟩
structure PS (X : Cx) (st : Stmt) (t : TS)  : Prop where
 go : ∀ (pins : List (Addr × Obj)) (s : Shared) (σ : St) (H : Hp) (D : Ends), Inv X pins σ H s -> t D σ H -> wpAny (model X.prog X.w) X.A (exec st X.env) (SP X pins D) X.xe s
instance {X : Cx} {st : Stmt} {t : TS} : CoeFun (PS X st t) (fun _ => ∀ (pins : List (Addr × Obj)) (s : Shared) (σ : St) (H : Hp) (D : Ends), Inv X pins σ H s -> t D σ H -> wpAny (model X.prog X.w) X.A (exec st X.env) (SP X pins D) X.xe s) := ⟨PS.go⟩
structure PSs (X : Cx) (st : List Stmt) (t : TS)  : Prop where
 go : ∀ (pins : List (Addr × Obj)) (s : Shared) (σ : St) (H : Hp) (D : Ends), Inv X pins σ H s -> t D σ H -> wpAny (model X.prog X.w) X.A (execs st X.env) (SP X pins D) X.xe s
instance {X : Cx} {st : List Stmt} {t : TS} : CoeFun (PSs X st t) (fun _ => ∀ (pins : List (Addr × Obj)) (s : Shared) (σ : St) (H : Hp) (D : Ends), Inv X pins σ H s -> t D σ H -> wpAny (model X.prog X.w) X.A (execs st X.env) (SP X pins D) X.xe s) := ⟨PSs.go⟩
theorem thn {α : Type} {t : Sem α} {Q Q' : α -> Shared -> Prop} {M : Model} {A : Around} {E : Value -> Shared -> Prop} {s : Shared} (h : wpAny M A t Q E s) (hQ : ∀ a s, Q a s -> Q' a s) : wpAny M A t Q' E s := wpAny_mono h hQ fun _ _ x => x
end L2

namespace L2
open PySem PySem.Spec PyProof.Rows
section
variable {X : Cx}

def tVar (i : Nat) : TE := fun σ H Q => ∃ v, σ[i]? = some (some v) /\ Q v H
def tC (v : V) : TE := fun _ H Q => Q v H
theorem pe_var {i : Nat} {x : Str} {pos : Pos} (hN : X.N[i]? = some x) (hv : Vis X.env.scope x) (hd : (x == ("__debug__" : Str)) = false := by decide) (hcd : (x == ("__classdict__" : Str)) = false := by decide) : PE X (.Name x pos) (tVar i) := by
 refine ⟨?_⟩
 intro pins s σ H Q I h
 obtain ⟨v, e, h⟩ := h
 obtain ⟨m, hn, hl⟩ := I.loc
 obtain ⟨u, r, l⟩ := hl i x v hN e hv
 have fin : EP X pins σ Q u s := ⟨v, H, I, r, h⟩
 rcases l with ⟨hk, hm⟩ | ⟨hk, c, hc, hcell⟩
 ·exact wpAny_Name (wpAny_loadName_local I.ok.kind hk hn hm fin) hd
 ·rcases hk with hk | hk
  ·exact wpAny_Name (wpAny_loadName_cell I.ok.kind hk hc hcell fin) hd
  ·exact wpAny_Name (wpAny_loadName_free I.ok.kind hk hc hcell fin hcd) hd
theorem zE {i j pos} : PE X (.Constant (.int i) j pos) (tC (.int i)) := ⟨fun _ _ _ H _ I h => wpAny_Constant_int ⟨.int i, H, I.tok _, ⟨_, rfl⟩, h⟩⟩
theorem pe_bl {b j pos} : PE X (.Constant (.bool b) j pos) (tC (.bl b)) := ⟨fun _ _ _ H _ I h => Constant_bool ⟨.bl b, H, I, rfl, h⟩⟩
theorem kQ {j pos} : PE X (.Constant .none j pos) (tC .non) := ⟨fun _ _ _ H _ I h => Constant_none ⟨.non, H, I, rfl, h⟩⟩
theorem zZ {x j pos} : PE X (.Constant (.str x) j pos) (tC (.str x)) := ⟨fun _ _ _ H _ I h => Calls.Constant_str ⟨.str x, H, I.tok _, ⟨_, rfl⟩, h⟩⟩
def Gl (X : Cx) (x : Str) : Prop := X.env.kindOf x = some .globalImplicit
theorem qV {E : Value -> Shared -> Prop} {pins : List (Addr × Obj)} {s : Shared} {σ : St} {H : Hp} {x : Str} {u : Value} {pos : Pos} {Q : Value -> Shared -> Prop} (I : Inv X pins σ H s) (hg : Gl X x) (hm : X.mg x = some u) (h : Q u s)
  (hd : (x == ("__debug__" : Str)) = false := by decide) : wpAny (model X.prog X.w) X.A (eval (.Name x pos) X.env) Q E s :=
 Calls.Name_function_global I.ok.kind hg (Calls.loadGlobal_global (by rw [I.ok.glob]; exact I.mod.glob.keeps I.bk) hm h) hd
theorem wD {E : Value -> Shared -> Prop} {pins : List (Addr × Obj)} {s : Shared} {σ : St} {H : Hp} {x : Str} {u : Value} {pos : Pos} {Q : Value -> Shared -> Prop} (I : Inv X pins σ H s) (hg : Gl X x) (hm : X.mg x = none) (hv : bootBuiltins x = some u) (h : Q u s)
  (hn : x ≠ "__name__" := by decide) (hd : (x == ("__debug__" : Str)) = false := by decide) : wpAny (model X.prog X.w) X.A (eval (.Name x pos) X.env) Q E s := by
 obtain ⟨mb, h1, h2⟩ := I.mod.blt
 exact Calls.Name_function_global I.ok.kind hg (Calls.loadGlobal_builtin (by rw [I.ok.glob]; exact I.mod.glob.keeps I.bk) hm (by rw [I.ok.blt]; exact h1.keeps I.bk) ((h2 x hn).trans hv) h) hd
theorem pe_glob {x : Str} {v : V} {u : Value} {pos : Pos} (hg : Gl X x) (hm : X.mg x = some u) (r : RelV v u) (hd : (x == ("__debug__" : Str)) = false := by decide) : PE X (.Name x pos) (tC v) := ⟨fun _ _ _ H _ I h => qV I hg hm ⟨v, H, I, r, h⟩ hd⟩
theorem pe_bltn {x : Str} {v : V} {u : Value} {pos : Pos} (hg : Gl X x) (hm : X.mg x = none) (hv : bootBuiltins x = some u) (r : RelV v u) (hn : x ≠ "__name__" := by decide) (hd : (x == ("__debug__" : Str)) = false := by decide) : PE X (.Name x pos) (tC v) := ⟨fun _ _ _ H _ I h => wD I hg hm hv ⟨v, H, I, r, h⟩ hn hd⟩
variable {a b : Expr} {ta tb : TE} {pos : Pos}
structure PC (X : Cx) (op : CmpOp) (a b : Expr) (t : TE)  : Prop where
 go : ∀ (pins : List (Addr × Obj)) (s : Shared) (σ : St) (H : Hp) (Q : VK), Inv X pins σ H s -> t σ H Q ->
  wpAny (model X.prog X.w) X.A (eval a X.env) (fun v s₁ => wpAny (model X.prog X.w) X.A (eval b X.env) (fun u s₂ => wpAny (model X.prog X.w) X.A (compareOp op v u) (EP X pins σ Q) X.xe s₂) X.xe s₁) X.xe s
instance {X : Cx} {op : CmpOp} {a b : Expr} {t : TE} : CoeFun (PC X op a b t) (fun _ => ∀ (pins : List (Addr × Obj)) (s : Shared) (σ : St) (H : Hp) (Q : VK), Inv X pins σ H s -> t σ H Q ->
  wpAny (model X.prog X.w) X.A (eval a X.env) (fun v s₁ => wpAny (model X.prog X.w) X.A (eval b X.env) (fun u s₂ => wpAny (model X.prog X.w) X.A (compareOp op v u) (EP X pins σ Q) X.xe s₂) X.xe s₁) X.xe s) := ⟨PC.go⟩
def tB (t : TE) : TT := fun σ H Q => t σ H fun x H1 => ∃ c, x = .bl c /\ Q c H1
theorem pt_val {e : Expr} {t : TE} (h : PE X e t) (he : ∀ whole, isTrue e X.env whole = (do let v <- whole; standAt e.pos; holding [v] (truthy v)) := by intro _; rfl) : PT X e (tB t) := by
 refine ⟨?_⟩
 intro pins s σ H Q I hw
 refine isTrue_plain (thn (h pins s σ H _ I hw) fun v s1 ⟨x, H1, I1, r1, q1⟩ => ?_) (he _)
 obtain ⟨d, rfl, q⟩ := q1
 cases r1
 exact wpAny_truthy_bool ⟨H1, I1, q⟩

variable {tA tB' : TT} {rest : List Expr}
def tAnd (t u : TT) : TT := fun σ H Q => t σ H fun c H1 => if c = true then u σ H1 Q else Q false H1
def tOr (t u : TT) : TT := fun σ H Q => t σ H fun c H1 => if c = true then Q true H1 else u σ H1 Q
def tNot (t : TT) : TT := fun σ H Q => t σ H fun c H1 => Q (!c) H1
theorem pw_and1 (ha : PT X a tA) : PW X (.BoolOp .And [a] pos) tA := by
 refine ⟨?_⟩
 intro wh pins s σ H Q I h
 refine isTrue_and (thn (ha pins s σ H Q I h) fun c s1 e => ?_)
 cases c with
 | true => exact isTrue_and_nil e
 | false => exact e
theorem qA (ha : PT X a tA) : PW X (.BoolOp .Or [a] pos) tA := by
 refine ⟨?_⟩
 intro wh pins s σ H Q I h
 refine isTrue_or (thn (ha pins s σ H Q I h) fun c s1 e => ?_)
 cases c with
 | false => exact isTrue_or_nil e
 | true => exact e
theorem pw_and (ha : PT X a tA) (hb : PW X (.BoolOp .And (b :: rest) pos) tB') : PW X (.BoolOp .And (a :: b :: rest) pos) (tAnd tA tB') := by
 refine ⟨?_⟩
 intro wh pins s σ H Q I h
 refine isTrue_and (thn (ha pins s σ H _ I h) fun c s1 hzz => ?_)
 obtain ⟨H1, I1, q1⟩ := hzz
 cases c with
 | true => exact hb wh pins s1 σ H1 Q I1 q1
 | false => exact ⟨H1, I1, q1⟩
theorem qX (ha : PT X a tA) (hb : PW X (.BoolOp .Or (b :: rest) pos) tB') : PW X (.BoolOp .Or (a :: b :: rest) pos) (tOr tA tB') := by
 refine ⟨?_⟩
 intro wh pins s σ H Q I h
 refine isTrue_or (thn (ha pins s σ H _ I h) fun c s1 hzz => ?_)
 obtain ⟨H1, I1, q1⟩ := hzz
 cases c with
 | true => exact ⟨H1, I1, q1⟩
 | false => exact hb wh pins s1 σ H1 Q I1 q1
theorem pt_not (ha : PT X a tA) : PT X (.UnaryOp .Not a pos) (tNot tA) := by
 refine ⟨?_⟩
 intro pins s σ H Q I h
 exact isTrue_not (ha pins s σ H (fun c H1 => Q (!c) H1) I h)
def tAndV (ta tb : TE) : TE := fun σ H Q => ta σ H fun x H1 => ∃ c, x = .bl c /\ if c = true then tb σ H1 Q else Q (.bl false) H1
def tNotV (ta : TE) : TE := fun σ H Q => ta σ H fun x H1 => ∃ c, x = .bl c /\ Q (.bl (!c)) H1
theorem pe_one {op} {t : TE} (h : PE X a t) : PE X (.BoolOp op [a] pos) t := ⟨fun pins s σ H Q I hw => BoolOp_one (h pins s σ H Q I hw)⟩
theorem pe_and (ha : PE X a ta) (hb : PE X (.BoolOp .And (b :: rest) pos) tb) : PE X (.BoolOp .And (a :: b :: rest) pos) (tAndV ta tb) := by
 refine ⟨?_⟩
 intro pins s σ H Q I h
 refine BoolOp_and (thn (ha pins s σ H _ I h) fun v s1 hzz => ?_)
 obtain ⟨x, H1, I1, r1, q1⟩ := hzz
 obtain ⟨c, rfl, q1⟩ := q1
 cases r1
 refine wpAny_truthy_bool ?_
 cases c with
 | true => exact hb pins s1 σ H1 Q I1 q1
 | false => exact ⟨.bl false, H1, I1, rfl, q1⟩
theorem pe_not (ha : PE X a ta) : PE X (.UnaryOp .Not a pos) (tNotV ta) := by
 refine ⟨?_⟩
 intro pins s σ H Q I h
 refine UnaryOp_ (thn (ha pins s σ H _ I h) fun v s1 hzz => ?_)
 obtain ⟨x, H1, I1, r1, q1⟩ := hzz
 obtain ⟨c, rfl, q1⟩ := q1
 cases r1
 exact not_of (wpAny_truthy_bool ⟨.bl (!c), H1, I1, rfl, q1⟩)
def tIf (t : TT) (ta tb : TE) : TE := fun σ H Q => t σ H fun c H1 => if c = true then ta σ H1 Q else tb σ H1 Q
theorem pe_ifExp {c : Expr} (hc : PT X c tA) (ha : PE X a ta) (hb : PE X b tb) : PE X (.IfExp c a b pos) (tIf tA ta tb) := by
 refine ⟨?_⟩
 intro pins s σ H Q I h
 refine wpAny_IfExp (thn (hc pins s σ H _ I h) fun d s1 hzz => ?_)
 obtain ⟨H1, I1, q1⟩ := hzz
 cases d with
 | true => exact ha pins s1 σ H1 Q I1 q1
 | false => exact hb pins s1 σ H1 Q I1 q1
end
end L2

namespace L2
open PySem PySem.Spec PyProof.Rows

def SqL (K : PySem.W.Frag) (H : Hp) (a : Addr) (xs : List V) : Prop :=
 Rd H a (.lst xs) \/
  ∃ (o : Obj) (its : Array Value) (n : Nat), K.lookup a = some o /\ o.cls = .type "list" /\ o.dict = none /\ o.data = .seq its n /\ its.size <= sizeLine /\ Vals xs its.toList
def SqT (K : PySem.W.Frag) (H : Hp) (a : Addr) (xs : List V) : Prop :=
 Rd H a (.tup xs) \/
  ∃ (o : Obj) (its : Array Value) (n : Nat), K.lookup a = some o /\ o.cls = .type "tuple" /\ o.data = .seq its n /\ its.size <= sizeLine /\ Vals xs its.toList
def absV : Value -> Option V
 | .none => some .non
 | .bool b => some (.bl b)
 | .int i _ => some (.int i)
 | .str x _ => some (.str x)
 | .bytes b _ => some (.byt b)
 | .float b _ => some (.flt b)
 | .ref a => some (.ref a)
 | .type n => some (.ty n)
 | _ => none
theorem RelV.abs {x : V} {u : Value} (r : RelV x u) : absV u = some x := by
 cases x with
 | non => cases r; rfl
 | bl _ => cases r; rfl
 | int _ => obtain ⟨t, rfl⟩ := r; rfl
 | str _ => obtain ⟨t, rfl⟩ := r; rfl
 | byt _ => obtain ⟨t, rfl⟩ := r; rfl
 | flt _ => obtain ⟨t, rfl⟩ := r; rfl
 | ref _ => cases r; rfl
 | ty _ => cases r; rfl
theorem RelV.inj {x y : V} {u : Value} (r : RelV x u) (q : RelV y u) : x = y := Option.some.inj (r.abs.symm.trans q.abs)
theorem Vals.inj : ∀ {xs ys : List V} {us : List Value}, Vals xs us -> Vals ys us -> xs = ys
 | _, _, _, .nil, .nil => rfl
 | _, _, _, .cons r t, .cons r' t' => by rw [r.inj r', Vals.inj t t']
section
variable {X : Cx} {pins : List (Addr × Obj)} {σ : St} {H : Hp} {s : Shared} {a : Addr} {xs ys : List V}
theorem SqL.of {K : PySem.W.Frag} (h : H a = some (.lst xs)) : SqL K H a xs := .inl (.inl h)
theorem SqT.of {K : PySem.W.Frag} (h : H a = some (.tup xs)) : SqT K H a xs := .inl (.inl h)
theorem Inv.list (I : Inv X pins σ H s) (h : SqL X.K H a xs) : ∃ its : List Value, Vals xs its /\ PlainL s.heap a its.toArray /\ xs.length <= sizeLine := by
 rcases h with h | ⟨o, its, n, hk, hc, hd, hs, hz, r⟩
 ·obtain ⟨z, its, n, r, e⟩ := h.ok I.hok
  exact ⟨its, r, ⟨_, n, e, rfl, rfl, rfl⟩, z⟩
 ·refine ⟨its.toList, r, ⟨o, n, I.kIn a o hk, hc, hd, by simpa using hs⟩, ?_⟩
  have e := r.length
  simp only [Array.length_toList] at e
  (first|lia|omega)
theorem Inv.tuple (I : Inv X pins σ H s) (h : SqT X.K H a xs) : ∃ its : List Value, Vals xs its /\ IsTup s.heap a its.toArray /\ xs.length <= sizeLine := by
 rcases h with h | ⟨o, its, n, hk, hc, hs, hz, r⟩
 ·obtain ⟨z, its, r, p⟩ := h.ok I.hok
  exact ⟨its, r, p, z⟩
 ·refine ⟨its.toList, r, ⟨o, I.kIn a o hk, hc, n, by simpa using hs⟩, ?_⟩
  have e := r.length
  simp only [Array.length_toList] at e
  (first|lia|omega)
theorem Inv.list_inj (I : Inv X pins σ H s) (h : SqL X.K H a xs) (h' : SqL X.K H a ys) : xs = ys := by
 obtain ⟨its, r, ⟨o, n, e, _, _, d⟩, _⟩ := I.list h
 obtain ⟨its', r', ⟨o', n', e', _, _, d'⟩, _⟩ := I.list h'
 rw [e] at e'; cases e'
 rw [d] at d'
 injection d' with d1 _
 have : its = its' := by simpa using congrArg Array.toList d1
 subst this
 exact r.inj r'
theorem Inv.tuple_inj (I : Inv X pins σ H s) (h : SqT X.K H a xs) (h' : SqT X.K H a ys) : xs = ys := by
 obtain ⟨its, r, ⟨o, e, _, n, d⟩, _⟩ := I.tuple h
 obtain ⟨its', r', ⟨o', e', _, n', d'⟩, _⟩ := I.tuple h'
 rw [e] at e'; cases e'
 rw [d] at d'
 injection d' with d1 _
 have : its = its' := by simpa using congrArg Array.toList d1
 subst this
 exact r.inj r'
end

abbrev Cx.wish (X : Cx) (E : Value -> Shared -> Prop) : Cx := { X with xe := E }
abbrev Cx.nox (X : Cx) : Cx := X.wish fun _ _ => False
theorem Cx.Ok.wish {X : Cx} (ok : X.Ok) (E : Value -> Shared -> Prop) : (X.wish E).Ok :=
 ⟨ok.mod, ok.kind, ok.glob, ok.blt, ok.above, ok.inj, ok.has, ok.cab, ok.hd, ok.frames, ok.stk, ok.exf, ok.bs, ok.bsz, ok.noex, ok.exfs, ok.funs, ok.frf⟩
theorem Cx.Ok.unwish {X : Cx} {E : Value -> Shared -> Prop} (ok : (X.wish E).Ok) : X.Ok :=
 ⟨ok.mod, ok.kind, ok.glob, ok.blt, ok.above, ok.inj, ok.has, ok.cab, ok.hd, ok.frames, ok.stk, ok.exf, ok.bs, ok.bsz, ok.noex, ok.exfs, ok.funs, ok.frf⟩
section
variable {X : Cx} {pins : List (Addr × Obj)} {σ : St} {H : Hp} {s : Shared} {E : Value -> Shared -> Prop}
theorem Inv.wish (I : Inv X pins σ H s) (E : Value -> Shared -> Prop) : Inv (X.wish E) pins σ H s := ⟨I.ok.wish E, I.os, I.bare, I.base, I.loc, I.cell, I.free, I.freeC, I.pin, I.hok, I.len⟩
theorem Inv.unwish (I : Inv (X.wish E) pins σ H s) : Inv X pins σ H s := ⟨I.ok.unwish, I.os, I.bare, I.base, I.loc, I.cell, I.free, I.freeC, I.pin, I.hok, I.len⟩
theorem SP.unwish {D : Ends} {f : Flow} {s' : Shared} (h : SP (X.wish E) pins D f s') : SP X pins D f s' := by
 cases f with
 | next => obtain ⟨σ', H', I, q⟩ := h; exact ⟨σ', H', I.unwish, q⟩
 | brk => obtain ⟨σ', H', I, q⟩ := h; exact ⟨σ', H', I.unwish, q⟩
 | cont => obtain ⟨σ', H', I, q⟩ := h; exact ⟨σ', H', I.unwish, q⟩
 | ret u => obtain ⟨v, σ', H', I, r, q⟩ := h; exact ⟨v, σ', H', I.unwish, r, q⟩
theorem PSs.nox {st : List Stmt} {t : TS} (h : PSs X.nox st t) : PSs X st t := ⟨fun pins s σ H D I hw =>
 wpAny_mono (h pins s σ H D (I.wish _) hw) (fun _ _ q => q.unwish) fun _ _ z => False.elim z⟩
end

section
variable {X : Cx} {st : Stmt} {rest : List Stmt} {t u : TS} {e : Expr} {te : TE} {pos : Pos}
def tNext : TS := fun D σ H => D.nx σ H
def tSeq (t u : TS) : TS := fun D σ H => t { D with nx := u D } σ H
theorem zN : PSs X [] tNext := ⟨fun _ _ σ H _ I h => wpAny_execs_nil ⟨σ, H, I, h⟩⟩
theorem zD (h1 : PS X st t) (h2 : PSs X rest u) : PSs X (st :: rest) (tSeq t u) := by
 refine ⟨?_⟩
 intro pins s σ H D I h
 refine wpAny_execs_cons (thn (h1 pins s σ H { D with nx := u D } I h) fun f s1 q => ?_)
 cases f with
 | next =>
  obtain ⟨σ', H', I', q⟩ := q
  exact h2 pins s1 σ' H' D I' q
 | ret v => exact q
 | brk => exact q
 | cont => exact q
theorem zG (h1 : PS X st t) : PSs X [st] t := by
 refine ⟨?_⟩
 intro pins s σ H D I h
 refine wpAny_execs_cons (thn (h1 pins s σ H D I h) fun f s1 q => ?_)
 cases f with
 | next => exact wpAny_execs_nil q
 | ret v => exact q
 | brk => exact q
 | cont => exact q
theorem Inv.quiet {pins : List (Addr × Obj)} {σ : St} {H : Hp} {s : Shared} (I : Inv X pins σ H s) : interactive X.env = false := by simp [interactive, I.ok.kind]
def tDrop (te : TE) : TS := fun D σ H => te σ H fun _ H1 => D.nx σ H1
theorem yG (he : PE X e te) (hs : swapsWith e none pos.line X.env = pure false := by rfl) : PS X (.Expr e pos) (tDrop te) := by
 refine ⟨?_⟩
 intro pins s σ H D I h
 exact wpAny_Expr_any (thn (he pins s σ H _ I h) fun v s1 ⟨x, H1, I1, r1, q1⟩ => ⟨σ, H1, I1, q1⟩) I.quiet hs
def tRet (te : TE) : TS := fun D σ H => te σ H D.rt
theorem zM (he : PE X e te) : PS X (.Return (some e) pos) (tRet te) := by
 refine ⟨?_⟩
 intro pins s σ H D I h
 exact wpAny_Return_some (thn (he pins s σ H _ I h) fun v s1 ⟨x, H1, I1, r1, q1⟩ => ⟨x, σ, H1, I1, r1, q1⟩)
def tIfS (c : TT) (t u : TS) : TS := fun D σ H => c σ H fun b H1 => if b = true then t D σ H1 else u D σ H1
theorem zS {c : Expr} {a b : List Stmt} {tc : TT} (hc : PT X c tc) (ha : PSs X a t) (hb : PSs X b u) : PS X (.If c a b pos) (tIfS tc t u) := by
 refine ⟨?_⟩
 intro pins s σ H D I h
 refine wpAny_If (thn (hc pins s σ H _ I h) fun d s1 hzz => ?_)
 obtain ⟨H1, I1, q1⟩ := hzz
 cases d with
 | true => exact ha pins s1 σ H1 D I1 q1
 | false => exact hb pins s1 σ H1 D I1 q1
end

abbrev TG := V -> St -> Hp -> (St -> Hp -> Prop) -> Prop
abbrev TGs := List V -> St -> Hp -> (St -> Hp -> Prop) -> Prop
structure PG (X : Cx) (target : Expr) (t : TG)  : Prop where
 go : ∀ (pins : List (Addr × Obj)) (s : Shared) (σ : St) (H : Hp) (v : V) (u : Value) (Q : St -> Hp -> Prop), Inv X pins σ H s -> RelV v u -> t v σ H Q ->
  wpAny (model X.prog X.w) X.A (assign target X.env u) (fun _ s' => ∃ σ' H', Inv X pins σ' H' s' /\ Q σ' H') X.xe s
instance {X : Cx} {target : Expr} {t : TG} : CoeFun (PG X target t) (fun _ => ∀ (pins : List (Addr × Obj)) (s : Shared) (σ : St) (H : Hp) (v : V) (u : Value) (Q : St -> Hp -> Prop), Inv X pins σ H s -> RelV v u -> t v σ H Q ->
  wpAny (model X.prog X.w) X.A (assign target X.env u) (fun _ s' => ∃ σ' H', Inv X pins σ' H' s' /\ Q σ' H') X.xe s) := ⟨PG.go⟩
structure PGs (X : Cx) (ts : List Expr) (t : TGs)  : Prop where
 go : ∀ (pins : List (Addr × Obj)) (s : Shared) (σ : St) (H : Hp) (vs : List V) (us : List Value) (Q : St -> Hp -> Prop), Inv X pins σ H s -> Vals vs us -> t vs σ H Q ->
  wpAny (model X.prog X.w) X.A (assignInOrder ((assignEach ts X.env).map (·.2)) us) (fun _ s' => ∃ σ' H', Inv X pins σ' H' s' /\ Q σ' H') X.xe s
instance {X : Cx} {ts : List Expr} {t : TGs} : CoeFun (PGs X ts t) (fun _ => ∀ (pins : List (Addr × Obj)) (s : Shared) (σ : St) (H : Hp) (vs : List V) (us : List Value) (Q : St -> Hp -> Prop), Inv X pins σ H s -> Vals vs us -> t vs σ H Q ->
  wpAny (model X.prog X.w) X.A (assignInOrder ((assignEach ts X.env).map (·.2)) us) (fun _ s' => ∃ σ' H', Inv X pins σ' H' s' /\ Q σ' H') X.xe s) := ⟨PGs.go⟩
abbrev TSet := V -> V -> V -> Hp -> (Hp -> Prop) -> Prop
def PSet (X : Cx) (t : TSet) : Prop :=
 ∀ (pins : List (Addr × Obj)) (s : Shared) (σ : St) (H : Hp) (o i v : V) (ov iv u : Value) (Q : Hp -> Prop), Inv X pins σ H s -> RelV o ov -> RelV i iv -> RelV v u -> t o i v H Q ->
  wpAny (model X.prog X.w) X.A (setItem ov iv u) (fun _ s' => ∃ H', Inv X pins σ H' s' /\ Q H') X.xe s
section
variable {X : Cx} {pos : Pos}
def gName (i : Nat) : TG := fun v σ H Q => Q (σ.set i (some v)) H
theorem zR {i : Nat} {x : Str} (hN : X.N.Nodup) (hi : X.N[i]? = some x) (hx : Loc X.env.scope x) (hf : X.fn x = true \/ X.env.scope.names.lookup x = some .local := by first | exact .inl rfl | exact .inr rfl | assumption) : PG X (.Name x pos) (gName i) := by
 refine ⟨?_⟩
 intro pins s σ H v u Q I r h
 exact wpAny_assign_Name (wY I hN hi hx r (fun s' I' => ⟨_, H, I', h⟩) hf)
def gNil : TGs := fun vs σ H Q => vs = [] /\ Q σ H
def gCons (t : TG) (u : TGs) : TGs := fun vs σ H Q => ∃ v r, vs = v :: r /\ t v σ H fun σ' H' => u r σ' H' Q
theorem kJ : PGs X [] gNil := by
 refine ⟨?_⟩
 intro pins s σ H vs us Q I r h
 obtain ⟨e, h⟩ := h
 subst e
 cases r
 exact assignInOrder_nil ⟨σ, H, I, h⟩
theorem zW {e : Expr} {es : List Expr} {t : TG} {u : TGs} (h1 : PG X e t) (h2 : PGs X es u)
  (hs : (assignEach (e :: es) X.env).map (·.2) = assign e X.env :: (assignEach es X.env).map (·.2) := by rfl) : PGs X (e :: es) (gCons t u) := by
 refine ⟨?_⟩
 intro pins s σ H vs us Q I r h
 obtain ⟨v, vr, e1, h⟩ := h
 subst e1
 cases r with
 | cons r rr =>
  rw [hs]
  refine assignInOrder_cons (thn (h1 pins s σ H _ _ _ I r h) fun _ s1 hzz => ?_)
  obtain ⟨σ1, H1, I1, q1⟩ := hzz
  exact h2 pins s1 σ1 H1 _ _ Q I1 rr q1
def gTup (K : PySem.W.Frag) (n : Nat) (t : TGs) : TG := fun v σ H Q => ∃ a xs, v = .ref a /\ SqT K H a xs /\ xs.length = n /\ t xs σ H Q
theorem qH {es : List Expr} {k : Nat} {t : TGs} {n : Nat} (hc : X.calm = true) (h : PGs X es t)
  (hn : (assignEach es X.env).length = n := by rfl) (hst : (assignEach es X.env).findIdx? (·.1) = none := by rfl) : PG X (.Tuple es k pos) (gTup X.K n t) := by
 refine ⟨?_⟩
 intro pins s σ H v u Q I r hw
 obtain ⟨a, xs, e1, hq, hl, hw⟩ := hw
 subst e1
 cases r
 obtain ⟨its, rv, ht, hz⟩ := I.tuple hq
 refine assign_Tuple_tuple (I.ok.hd hc) ht (by simp [hn, <- hl, rv.length]) hst fun h' hx => ?_
 have I1 : Inv X pins σ H { s with heap := h' } := I.kept (t' := s.toks) fun b o e => hx b o (Nat.ne_of_lt (Heap.lt_size e)) e
 exact h pins _ σ H xs _ Q I1 (by simpa using rv) hw
def gSub (to ti : TE) (t : TSet) : TG := fun v σ H Q => to σ H fun o H1 => ti σ H1 fun i H2 => t o i v H2 fun H3 => Q σ H3
theorem pg_sub {o i : Expr} {to ti : TE} {t : TSet} (ho : PE X o to) (hi : PE X i ti) (hs : PSet X t)
  (ha : ∀ v, assign (.Subscript o i pos) X.env v = (do
   let ov <- holding [v] (eval o X.env)
   let iv <- holding [v, ov] (eval i X.env)
   standAt pos
   holding [v, ov, iv] (setItem ov iv v)
   release [v, ov, iv] []) := by intro _; rfl) : PG X (.Subscript o i pos) (gSub to ti t) := by
 refine ⟨?_⟩
 intro pins s σ H v u Q I r h
 rw [ha]
 refine wpAny_bind (wpAny_holding (thn (ho pins s σ H _ I h) fun ov s1 hzz => ?_))
 obtain ⟨x, H1, I1, r1, q1⟩ := hzz
 refine wpAny_bind (wpAny_holding (thn (hi pins s1 σ H1 _ I1 q1) fun iv s2 hzz => ?_))
 obtain ⟨y, H2, I2, r2, q2⟩ := hzz
 refine wpAny_bind (wpAny_standAt (wpAny_bind (wpAny_holding (thn (hs pins s2 σ H2 x y v ov iv u _ I2 r1 r2 r q2) fun _ s3 hzz => ?_))))
 obtain ⟨H3, I3, q3⟩ := hzz
 exact wpAny_release ⟨σ, H3, I3, q3⟩
def tAsg (te : TE) (g : TG) : TS := fun D σ H => te σ H fun x H1 => g x σ H1 D.nx
theorem wA {tg e : Expr} {te : TE} {g : TG} (he : PE X e te) (hg : PG X tg g) (hs : swapsWithSole [tg] e pos.line X.env = pure false := by rfl) (hw : swappedStores [tg] e X.env = pure none := by rfl)
  (h1 : (assignEach [tg] X.env).map (·.2) = [assign tg X.env] := by rfl) : PS X (.Assign [tg] e pos) (tAsg te g) := by
 refine ⟨?_⟩
 intro pins s σ H D I h
 refine wpAny_Assign_stores (thn (he pins s σ H _ I h) fun v s1 ⟨x, H1, I1, r1, q1⟩ => ?_) hs hw
 rw [h1]
 exact thn (hg pins s1 σ H1 x v _ I1 r1 q1) fun _ s2 q => q
theorem zO {i : Nat} {x : Str} {e : Expr} {te : TE} {pos' : Pos} (hN : X.N.Nodup) (hi : X.N[i]? = some x) (hx : Loc X.env.scope x) (he : PE X e te) (hs : swapsWith e (some (.Name x pos')) pos.line X.env = pure false := by rfl) (hf : X.fn x = true \/ X.env.scope.names.lookup x = some .local := by first | exact .inl rfl | exact .inr rfl | assumption) :
  PS X (.Assign [.Name x pos'] e pos) (tAsg te (gName i)) := by
 refine ⟨?_⟩
 intro pins s σ H D I h
 refine wpAny_Assign_Name (thn (he pins s σ H _ I h) fun v s1 ⟨y, H1, I1, r1, q1⟩ => ?_) hs
 exact wY I1 hN hi hx r1 (fun s2 I2 => ⟨_, H1, I2, q1⟩) hf
end

section
variable {X : Cx} {pos : Pos}
def tWhile (c : TT) (tb : TS) : TS := fun D σ H => ∃ W : Nat -> St -> Hp -> Prop, (∃ m, W m σ H) /\ ∀ m σ H, W m σ H ->
 c σ H fun b H1 => if b = true then ∃ N : St -> Hp -> Prop, (∀ σ' H', N σ' H' -> ∃ m', m' < m /\ W m' σ' H') /\ tb { D with nx := N, ct := N, bk := D.nx } σ H1 else D.nx σ H1
theorem ps_while {c : Expr} {body : List Stmt} {tc : TT} {tb : TS} (hp : PassesOwn (model X.prog X.w) X.A X.env X.xe) (hc : PT X c tc) (hb : PSs X body tb) : PS X (.While c body [] pos) (tWhile tc tb) := by
 refine ⟨?_⟩
 intro pins s σ H D I h
 obtain ⟨W, ⟨m0, w0⟩, turn⟩ := h
 refine wpAny_While (codeAny_whileLoop (fun n s' => ∃ σ' H', Inv X pins σ' H' s' /\ W n σ' H') ?_ m0 ⟨σ, H, I, w0⟩)
 rintro n s1 ⟨σ1, H1, I1, w1⟩
 refine wpAny_passesOwn hp (thn (hc pins s1 σ1 H1 _ I1 (turn n σ1 H1 w1)) fun b s2 hzz => ?_)
 obtain ⟨H2, I2, q2⟩ := hzz
 cases b with
 | true =>
  obtain ⟨N, hN, q2⟩ := q2
  rw [if_pos rfl]
  refine wpAny_passesOwn hp (thn (hb pins s2 σ1 H2 _ I2 q2) fun f s3 q3 => ?_)
  cases f with
  | next =>
   obtain ⟨σ3, H3, I3, n3⟩ := q3
   obtain ⟨m', hm, w3⟩ := hN σ3 H3 n3
   exact ⟨m', hm, σ3, H3, I3, w3⟩
  | cont =>
   obtain ⟨σ3, H3, I3, n3⟩ := q3
   obtain ⟨m', hm, w3⟩ := hN σ3 H3 n3
   exact ⟨m', hm, σ3, H3, I3, w3⟩
  | brk => exact q3
  | ret v => exact q3
 | false =>
  rw [if_neg Bool.false_ne_true]
  exact wpAny_execs_nil ⟨σ1, H2, I2, q2⟩
end

structure It where
 go : Nat -> Hp -> Prop
 yld : Nat -> Hp -> V -> Hp -> Prop
 stop : Nat -> Hp -> Prop
def FpOk (X : Cx) (pins : List (Addr × Obj)) (H : Hp) (b : Addr) : Prop :=
 H b = none /\ b ≠ X.env.locals /\ b ∉ X.fs /\ (b ∈ X.ex \/ X.s₀.heap.objs.size <= b) /\ (∀ x c, X.env.cells.lookup x = some c -> c ≠ b) /\ ∀ p ∈ X.pn ++ pins, p.1 ≠ b
theorem Inv.fpOk {X : Cx} {pins : List (Addr × Obj)} {σ : St} {H H' : Hp} {s : Shared} {b : Addr} (I : Inv X pins σ H s) (hb : s.heap.objs.size <= b) (hn : H' b = none) : FpOk X pins H' b := by
 refine ⟨hn, Nat.ne_of_gt (Nat.lt_of_lt_of_le I.lt hb), I.nofs hb, .inr (Nat.le_trans I.sz hb), fun x c e z => ?_, fun p hp z => ?_⟩
 ·obtain ⟨v, q⟩ := I.cell x c e
  exact absurd (Nat.lt_of_lt_of_le q.lt (by rw [z]; exact hb)) (Nat.lt_irrefl _)
 ·exact absurd (Nat.lt_of_lt_of_le (Heap.lt_size (I.pin p hp).1) (by rw [z]; exact hb)) (Nat.lt_irrefl _)
structure Turn (P : Program) (w : World) (K : PySem.W.Frag) (tg : Expr) (J : It) (fp : List Addr) (it : Addr) (tn : Nat -> Heap -> Prop) : Prop where
 mem : it ∈ fp
 obj : ∀ i h, tn i h -> ∀ b ∈ fp, ∃ o, h.get? b = some o /\ ∀ v, o.data ≠ .cell v
 keep : ∀ i h h', tn i h -> (∀ b ∈ fp, ∀ o, h.get? b = some o -> h'.get? b = some o) -> tn i h'
 item : ∀ (X : Cx), X.prog = P -> X.w = w -> X.K = K -> X.calm = true -> ∀ (i : Nat) (pins : List (Addr × Obj)) (s : Shared) (σ : St) (H : Hp) (E : Value -> Shared -> Prop), Inv X pins σ H s -> (∀ b ∈ fp, FpOk X pins H b) -> tn i s.heap -> J.go i H ->
  wpAny (model P w) X.A (pyNext (.ref it)) (fun r s1 => ∃ u, r = some u /\
   wpAny (model P w) X.A (letOwnedTupleGo tg (.ref it) u) (fun _ s2 => ∃ x H', Inv X pins σ H' s2 /\ RelV x u /\ J.yld i H x H' /\ tn (i + 1) s2.heap /\ ∀ b ∈ fp, H' b = none) E s1) E s
 done : ∀ (X : Cx), X.prog = P -> X.w = w -> X.K = K -> X.calm = true -> ∀ (i : Nat) (pins : List (Addr × Obj)) (s : Shared) (σ : St) (H : Hp) (E : Value -> Shared -> Prop), Inv X pins σ H s -> (∀ b ∈ fp, FpOk X pins H b) -> tn i s.heap -> J.stop i H ->
  wpAny (model P w) X.A (pyNext (.ref it)) (fun r s1 => r = none /\ Inv X pins σ H s1) E s
 self : ∀ (A : Around) (i : Nat) (s : Shared) (Q : Value -> Shared -> Prop) (E : Value -> Shared -> Prop), tn i s.heap -> Q (.ref it) s -> wpAny (model P w) A (pyIter (.ref it)) Q E s
abbrev TI := St -> Hp -> (It -> Hp -> Prop) -> Prop
def PIE (X : Cx) (pins : List (Addr × Obj)) (σ : St) (tg : Expr) (R : It -> Hp -> Prop) (itv : Value) (s2 : Shared) : Prop :=
 ∃ (it : Addr) (fp : List Addr) (tn : Nat -> Heap -> Prop) (J : It) (H' : Hp), itv = .ref it /\ Inv X pins σ H' s2 /\ Turn X.prog X.w X.K tg J fp it tn /\ tn 0 s2.heap /\ (∀ b ∈ fp, FpOk X pins H' b) /\ R J H'
structure PI (X : Cx) (tg iter : Expr) (wi : TI)  : Prop where
 go : ∀ (pins : List (Addr × Obj)) (s : Shared) (σ : St) (H : Hp) (R : It -> Hp -> Prop), Inv X pins σ H s -> wi σ H R ->
  wpAny (model X.prog X.w) X.A (eval iter X.env) (fun v s1 => wpAny (model X.prog X.w) X.A (pyIter v) (PIE X pins σ tg R) X.xe s1) X.xe s
instance {X : Cx} {tg iter : Expr} {wi : TI} : CoeFun (PI X tg iter wi) (fun _ => ∀ (pins : List (Addr × Obj)) (s : Shared) (σ : St) (H : Hp) (R : It -> Hp -> Prop), Inv X pins σ H s -> wi σ H R ->
  wpAny (model X.prog X.w) X.A (eval iter X.env) (fun v s1 => wpAny (model X.prog X.w) X.A (pyIter v) (PIE X pins σ tg R) X.xe s1) X.xe s) := ⟨PI.go⟩

theorem go_of {M : Model} {A : Around} {E : Value -> Shared -> Prop} {s : Shared} {tg : Expr} {it : Addr} {u : Value} {o : Obj} {n : String} {vs : Array Value} {Q : Unit -> Shared -> Prop} (ho : s.heap.get? it = some o) (hc : o.cls = .type n) (hd : o.data = .fields vs)
    (hn : ["enumerate", "zip", "dict_itemiterator", "dict_reverseitemiterator", "odict_iterator", "itertools.zip_longest", "itertools.pairwise"].contains n = false) (hQ : Q () s) : wpAny M A (letOwnedTupleGo tg (.ref it) u) Q E s := by
  unfold letOwnedTupleGo
  cases tg <;> first
    | exact wpAny_pure hQ
    | (cases u <;> first
        | exact wpAny_pure hQ
        | (refine wpAny_bind (wpAny_load ho ?_)
           rw [hc, hd]
           show wpAny M A (if (["enumerate", "zip", "dict_itemiterator", "dict_reverseitemiterator", "odict_iterator", "itertools.zip_longest", "itertools.pairwise"].contains n && vs[0]? == some (rawInt _)) = true then _ else _) Q E s
           rw [if_neg (by intro h; rw [hn, Bool.false_and] at h; cases h)]
           exact wpAny_pure hQ))

def Itl (K : PySem.W.Frag) (a : Addr) : It :=
 ⟨fun i H => ∃ xs x, SqL K H a xs /\ xs[i]? = some x, fun i H x H' => H' = H /\ ∀ xs, SqL K H a xs -> xs[i]? = some x, fun i H => ∃ xs, SqL K H a xs /\ xs.length <= i⟩
def Itt (K : PySem.W.Frag) (a : Addr) : It :=
 ⟨fun i H => ∃ xs x, SqT K H a xs /\ xs[i]? = some x, fun i H x H' => H' = H /\ ∀ xs, SqT K H a xs -> xs[i]? = some x, fun i H => ∃ xs, SqT K H a xs /\ xs.length <= i⟩
def Itr (lo : Int) (n : Nat) : It := ⟨fun i _ => i < n, fun i H x H' => H' = H /\ x = .int (lo + i), fun i _ => n <= i⟩
theorem turn_list {P : Program} {w : World} {K : PySem.W.Frag} {tg : Expr} (a it : Addr) : Turn P w K tg (Itl K a) [it] it (fun i h => h.IsListIter it a i) where
 mem := by simp
 obj := fun i h st b hb => by
  have e : b = it := by simpa using hb
  subst e
  obtain ⟨o, e, c, d⟩ := st
  exact ⟨o, e, fun v z => by rw [d] at z; cases z⟩
 keep := fun i h h' st k => st.at fun o e => k it (by simp) o e
 item := by
  intro X hP hw hK hc i pins s σ H E I hf st hg
  subst hP hw hK
  obtain ⟨xs, x, hq, hx⟩ := hg
  obtain ⟨its, rv, p, hz⟩ := I.list hq
  obtain ⟨u, hu, ru⟩ := rv.get hx
  obtain ⟨f0, f1, f2, f3, f4, f5⟩ := hf it (by simp)
  refine wpAny_pyNext_list_item st p.isList (x := u) (by simpa using hu) fun h' st' sb => ?_
  have I1 : Inv X pins σ H { s with heap := h' } := I.turned (t' := s.toks) (fun b o hb e => (sb.2 b hb).trans e) f0 f1 f3 f4 f5
  obtain ⟨o, e, c, d⟩ := id st'
  exact ⟨u, rfl, go_of (s := { s with heap := h' }) e c d (by decide) ⟨x, H, I1, ru, ⟨rfl, fun ys hy => by rw [I.list_inj hy hq]; exact hx⟩, st', fun b hb => (hf b hb).1⟩⟩
 done := by
  intro X hP hw hK hc i pins s σ H E I hf st hg
  subst hP hw hK
  obtain ⟨xs, hq, hx⟩ := hg
  obtain ⟨its, rv, p, hz⟩ := I.list hq
  obtain ⟨f0, f1, f2, f3, f4, f5⟩ := hf it (by simp)
  have hl := rv.length
  exact wpAny_pyNext_list_end (I.ok.hd hc) st p.isList (by simp; (first|lia|omega)) fun h' eb => ⟨rfl, I.turned (t' := s.toks) (fun b o hb e => eb b o hb e) f0 f1 f3 f4 f5⟩
 self := fun _ _ _ _ _ st h => wpAny_pyIter_listiter st h
theorem turn_tuple {P : Program} {w : World} {K : PySem.W.Frag} {tg : Expr} (a it : Addr) : Turn P w K tg (Itt K a) [it] it (fun i h => h.IsTupleIter it a i) where
 mem := by simp
 obj := fun i h st b hb => by
  have e : b = it := by simpa using hb
  subst e
  obtain ⟨o, e, c, d⟩ := st
  exact ⟨o, e, fun v z => by rw [d] at z; cases z⟩
 keep := fun i h h' st k => st.at fun o e => k it (by simp) o e
 item := by
  intro X hP hw hK hc i pins s σ H E I hf st hg
  subst hP hw hK
  obtain ⟨xs, x, hq, hx⟩ := hg
  obtain ⟨its, rv, p, hz⟩ := I.tuple hq
  obtain ⟨u, hu, ru⟩ := rv.get hx
  obtain ⟨f0, f1, f2, f3, f4, f5⟩ := hf it (by simp)
  refine wpAny_pyNext_tuple_item st (show s.heap.IsTuple a its.toArray from p) (x := u) (by simpa using hu) fun h' st' sb => ?_
  have I1 : Inv X pins σ H { s with heap := h' } := I.turned (t' := s.toks) (fun b o hb e => (sb.2 b hb).trans e) f0 f1 f3 f4 f5
  obtain ⟨o, e, c, d⟩ := id st'
  exact ⟨u, rfl, go_of (s := { s with heap := h' }) e c d (by decide) ⟨x, H, I1, ru, ⟨rfl, fun ys hy => by rw [I.tuple_inj hy hq]; exact hx⟩, st', fun b hb => (hf b hb).1⟩⟩
 done := by
  intro X hP hw hK hc i pins s σ H E I hf st hg
  subst hP hw hK
  obtain ⟨xs, hq, hx⟩ := hg
  obtain ⟨its, rv, p, hz⟩ := I.tuple hq
  obtain ⟨f0, f1, f2, f3, f4, f5⟩ := hf it (by simp)
  have hl := rv.length
  exact wpAny_pyNext_tuple_end (I.ok.hd hc) st (show s.heap.IsTuple a its.toArray from p) (by simp; (first|lia|omega)) fun h' eb => ⟨rfl, I.turned (t' := s.toks) (fun b o hb e => eb b o hb e) f0 f1 f3 f4 f5⟩
 self := fun _ _ _ _ _ st h => wpAny_pyIter_tupleiter st h
theorem turn_range {P : Program} {w : World} {K : PySem.W.Frag} {tg : Expr} (it : Addr) (lo : Int) (n : Nat) : Turn P w K tg (Itr lo n) [it] it (fun i h => IsRangeIter h it (lo + (i : Nat) * 1) ((n : Int) - (i : Nat)) 1) where
 mem := by simp
 obj := fun i h st b hb => by
  have e : b = it := by simpa using hb
  subst e
  exact ⟨_, st, fun v z => by
   have z' : Data.fields _ = Data.cell v := z
   cases z'⟩
 keep := fun i h h' st k => k it (by simp) _ st
 item := by
  intro X hP hw hK hc i pins s σ H E I hf st hg
  subst hP hw hK
  obtain ⟨f0, f1, f2, f3, f4, f5⟩ := hf it (by simp)
  have W := Walks.range (prog := X.prog) (w := X.w) (I.ok.hd hc) it lo 1 n
  refine W.item i s _ _ hg st fun v h' tk hv st' kk => ?_
  obtain ⟨t, rfl⟩ := hv
  have I1 : Inv X pins σ H { s with heap := h', toks := tk } := I.turned (fun b o hb e => kk b o (by simpa using hb) e) f0 f1 f3 f4 f5
  refine ⟨_, rfl, go_of (s := { s with heap := h', toks := tk }) (n := "range_iterator") st' rfl rfl (by decide) ⟨.int (lo + i), H, I1, ⟨t, ?_⟩, ⟨rfl, rfl⟩, st', fun b hb => (hf b hb).1⟩⟩
  rw [Int.mul_one]
 done := by
  intro X hP hw hK hc i pins s σ H E I hf st hg
  subst hP hw hK
  obtain ⟨f0, f1, f2, f3, f4, f5⟩ := hf it (by simp)
  exact wpAny_pyNext_range_end (I.ok.hd hc) st (by have : n <= i := hg; (first|lia|omega)) fun h' eb => ⟨rfl, I.turned (t' := s.toks) (fun b o hb e => eb b o hb e) f0 f1 f3 f4 f5⟩
 self := fun _ _ _ _ _ st h => wpAny_pyIter_rangeiter st h
end L2

namespace L2
open PySem PySem.Spec PyProof.Rows
section
variable {X : Cx} {tg : Expr}
def iList (K : PySem.W.Frag) (tl : TE) : TI := fun σ H R => tl σ H fun x H1 => ∃ a, x = .ref a /\ (∃ xs, SqL K H1 a xs) /\ R (Itl K a) H1
def iTup (K : PySem.W.Frag) (tl : TE) : TI := fun σ H R => tl σ H fun x H1 => ∃ a, x = .ref a /\ (∃ xs, SqT K H1 a xs) /\ R (Itt K a) H1
theorem kS {l : Expr} {tl : TE} (hl : PE X l tl) : PI X tg l (iList X.K tl) := by
 refine ⟨?_⟩
 intro pins s σ H R I h
 refine thn (hl pins s σ H _ I h) fun v s1 hzz => ?_
 obtain ⟨x, H1, I1, r1, q1⟩ := hzz
 obtain ⟨a, e, ⟨xs, hq⟩, q⟩ := q1
 subst e
 cases r1
 obtain ⟨its, rv, p, hz⟩ := I1.list hq
 refine wpAny_pyIter_list p.isList ?_
 refine ⟨s1.heap.objs.size, [s1.heap.objs.size], _, _, H1, rfl, I1.kept (t' := s1.toks) fun b o e => Heap.get?_push_of_some _ e, turn_list a _, ⟨_, Heap.get?_push_size _ rfl, rfl, rfl⟩, fun b hb => ?_, q⟩
 have e : b = s1.heap.objs.size := by simpa using hb
 subst e
 exact I1.fpOk (Nat.le_refl _) (I1.hok.fresh (Nat.le_refl _))
theorem pi_tup {l : Expr} {tl : TE} (hl : PE X l tl) : PI X tg l (iTup X.K tl) := by
 refine ⟨?_⟩
 intro pins s σ H R I h
 refine thn (hl pins s σ H _ I h) fun v s1 hzz => ?_
 obtain ⟨x, H1, I1, r1, q1⟩ := hzz
 obtain ⟨a, e, ⟨xs, hq⟩, q⟩ := q1
 subst e
 cases r1
 obtain ⟨its, rv, p, hz⟩ := I1.tuple hq
 refine wpAny_pyIter_tuple (show s1.heap.IsTuple a its.toArray from p) ?_
 refine ⟨s1.heap.objs.size, [s1.heap.objs.size], _, _, H1, rfl, I1.kept (t' := s1.toks) fun b o e => Heap.get?_push_of_some _ e, turn_tuple a _, ⟨_, Heap.get?_push_size _ rfl, rfl, rfl⟩, fun b hb => ?_, q⟩
 have e : b = s1.heap.objs.size := by simpa using hb
 subst e
 exact I1.fpOk (Nat.le_refl _) (I1.hok.fresh (Nat.le_refl _))
theorem range_it {pins : List (Addr × Obj)} {σ : St} {H : Hp} {s : Shared} {R : It -> Hp -> Prop} {E : Value -> Shared -> Prop} {lo hi : Int} {t u v : Tok} {tk : Nat} (I : Inv X pins σ H s) (h1 : -(2 ^ 62) <= lo) (h2 : lo < 2 ^ 62) (h3 : -(2 ^ 62) <= hi) (h4 : hi < 2 ^ 62)
  (q : R (Itr lo (hi - lo).toNat) H) : wpAny (model X.prog X.w) X.A (pyIter (.ref s.heap.objs.size)) (PIE X pins σ tg R) E { s with heap := s.heap.push { cls := .type "range", data := .fields #[.int lo t, .int hi u, .int 1 v] }, toks := tk } := by
 refine wpAny_pyIter_range (IsRange.new ..) (small_one h1 h2 h3 h4) ?_
 have I1 : Inv X pins σ H { s with heap := s.heap.push { cls := .type "range", data := .fields #[.int lo t, .int hi u, .int 1 v] }, toks := tk } := I.kept fun b o e => Heap.get?_push_of_some _ e
 refine ⟨(s.heap.push { cls := .type "range", data := .fields #[.int lo t, .int hi u, .int 1 v] }).objs.size, [(s.heap.push { cls := .type "range", data := .fields #[.int lo t, .int hi u, .int 1 v] }).objs.size], _, _, H, rfl,
  I1.kept (t' := tk) fun b o e => Heap.get?_push_of_some _ e, turn_range _ lo (hi - lo).toNat, ?_, fun b hb => ?_, q⟩
 ·have e1 : lo + ((0 : Nat) : Int) * 1 = lo := by simp
  have e2 : (((hi - lo).toNat : Nat) : Int) - ((0 : Nat) : Int) = Builtin.Range.rangeSize lo hi 1 := by rw [rangeSize_one]; split <;> (first|lia|omega)
  show IsRangeIter _ _ (lo + ((0 : Nat) : Int) * 1) ((((hi - lo).toNat : Nat) : Int) - ((0 : Nat) : Int)) 1
  rw [e1, e2]
  exact Heap.get?_push_size _ rfl
 ·have e : b = (s.heap.push { cls := .type "range", data := .fields #[.int lo t, .int hi u, .int 1 v] }).objs.size := by simpa using hb
  subst e
  exact I1.fpOk (Nat.le_refl _) (I1.hok.fresh (Nat.le_refl _))
def iRng1 (ta : TA) : TI := fun σ H R => ta σ H fun vs H1 => ∃ j : Int, vs = [.int j] /\ -(2 ^ 62) <= j /\ j < 2 ^ 62 /\ R (Itr 0 j.toNat) H1
def iRng2 (ta : TA) : TI := fun σ H R => ta σ H fun vs H1 => ∃ i j : Int, vs = [.int i, .int j] /\ (-(2 ^ 62) <= i /\ i < 2 ^ 62 /\ -(2 ^ 62) <= j /\ j < 2 ^ 62) /\ R (Itr i (j - i).toNat) H1
theorem qM {a : Expr} {ta : TA} {p pos : Pos} (hg : Gl X "range") (hm : X.mg "range" = none) (ha : PA X [a] ta) (hs : starEach [a] X.env = [(false, eval a X.env)] := by rfl) : PI X tg (.Call (.Name "range" p) [a] [] pos) (iRng1 ta) := by
 refine ⟨?_⟩
 intro pins s σ H R I h
 refine Call_ (wD I hg hm boot_range (PyProof.Rows.callWith_type1 (thn (ha pos pins s σ H _ I h) fun us s1 ⟨vs, H1, I1, r1, q1⟩ => ?_) hs rfl))
 obtain ⟨j, e, q1, q2, q⟩ := q1
 subst e
 cases r1 with
 | cons r rr =>
  cases rr
  obtain ⟨t, rfl⟩ := r
  exact call_range_1 (range_it I1 (by (first|lia|omega)) (by (first|lia|omega)) q1 q2 (by simpa using q))
theorem pi_range2 {a b : Expr} {ta : TA} {p pos : Pos} (hg : Gl X "range") (hm : X.mg "range" = none) (ha : PA X [a, b] ta) (hs : starEach [a, b] X.env = [(false, eval a X.env), (false, eval b X.env)] := by rfl) (hs2 : starEach [b] X.env = [(false, eval b X.env)] := by rfl) :
  PI X tg (.Call (.Name "range" p) [a, b] [] pos) (iRng2 ta) := by
 refine ⟨?_⟩
 intro pins s σ H R I h
 refine Call_ (wD I hg hm boot_range (PyProof.Rows.callWith_type1 (thn (ha pos pins s σ H _ I h) fun us s1 ⟨vs, H1, I1, r1, q1⟩ => ?_) (by rw [hs, hs2]) (by rw [hs2]; rfl)))
 obtain ⟨i, j, e, ⟨q1, q2, q3, q4⟩, q⟩ := q1
 subst e
 cases r1 with
 | cons r rr =>
  cases rr with
  | cons r' rr =>
   cases rr
   obtain ⟨t, rfl⟩ := r
   obtain ⟨t', rfl⟩ := r'
   exact call_range_2 (range_it I1 q1 q2 q3 q4 q)

def tFor (wi : TI) (g : TG) (tb : TS) : TS := fun D σ H => wi σ H fun J H1 => ∃ W : Nat -> Nat -> St -> Hp -> Prop, (∃ m, W 0 m σ H1) /\ ∀ i m σ H, W i m σ H ->
 (J.stop i H /\ D.nx σ H) \/ (J.go i H /\ ∃ N : St -> Hp -> Prop, (∀ σ' H', N σ' H' -> ∃ m', m' < m /\ W (i + 1) m' σ' H') /\ ∀ x H', J.yld i H x H' -> g x σ H' fun σ2 H2 => tb { D with nx := N, ct := N, bk := D.nx } σ2 H2)
def pinsAt (fp : List Addr) (h : Heap) : List (Addr × Obj) := fp.filterMap fun b => (h.get? b).map fun o => (b, o)
theorem qU {fp : List Addr} {h : Heap} {b : Addr} {o : Obj} (hb : b ∈ fp) (e : h.get? b = some o) : (b, o) ∈ pinsAt fp h := List.mem_filterMap.mpr ⟨b, hb, by rw [e]; rfl⟩
theorem of_pinsAt {fp : List Addr} {h : Heap} {p : Addr × Obj} (hp : p ∈ pinsAt fp h) : p.1 ∈ fp /\ h.get? p.1 = some p.2 := by
 obtain ⟨b, hb, e⟩ := List.mem_filterMap.mp hp
 cases q : h.get? b with
 | none => rw [q] at e; cases e
 | some o =>
  rw [q] at e
  have e' : (b, o) = p := Option.some.inj e
  subst e'
  exact ⟨hb, q⟩
theorem Inv.pinned {pins : List (Addr × Obj)} {σ : St} {H : Hp} {s : Shared} {fp : List Addr} (I : Inv X pins σ H s) (hf : ∀ b ∈ fp, FpOk X pins H b) (ho : ∀ b ∈ fp, ∃ o, s.heap.get? b = some o /\ ∀ v, o.data ≠ .cell v) : Inv X (pins ++ pinsAt fp s.heap) σ H s :=
 I.pins_of fun p hp => (List.mem_append.mp hp).elim (fun z => I.pin p (List.mem_append_right _ z)) fun z => by
  obtain ⟨hb, e⟩ := of_pinsAt z
  obtain ⟨f0, f1, f2, _⟩ := hf p.1 hb
  obtain ⟨o, e', d⟩ := ho p.1 hb
  rw [e] at e'; cases e'
  exact ⟨e, f0, f1, f2, d⟩
theorem Inv.unpinned {pins pl : List (Addr × Obj)} {σ : St} {H : Hp} {s : Shared} (I : Inv X (pins ++ pl) σ H s) : Inv X pins σ H s := I.pins_of fun p hp => I.pin p (List.mem_append_right _ (List.mem_append_left _ hp))
theorem xX {iter : Expr} {body : List Stmt} {wi : TI} {g : TG} {tb : TS} {pos : Pos} (hp : PassesOwn (model X.prog X.w) X.A X.env X.xe) (hc : X.calm = true) (hi : PI X tg iter wi) (hg : PG X tg g) (hb : PSs X body tb)
  (hs : ∀ x, foldedSetIterable iter X.env x = pure x := by intro _; rfl) : PS X (.For tg iter body [] pos) (tFor wi g tb) := by
 refine ⟨?_⟩
 intro pins s σ H D I h
 refine wpAny_For (thn (hi pins s σ H _ I h) fun v s1 h1 => thn h1 fun itv s2 h2 => ?_) hs
 obtain ⟨it, fp, tn, J, H2, e, I2, T, st2, f2, W, ⟨m0, w0⟩, turn⟩ := h2
 subst e
 have stat : ∀ {H' : Hp}, (∀ b ∈ fp, H' b = none) -> ∀ b ∈ fp, FpOk X pins H' b := fun hn b hb => ⟨hn b hb, (f2 b hb).2⟩
 refine codeAny_forLoop_any (fun n s' => ∃ i σ' H', Inv X pins σ' H' s' /\ tn i s'.heap /\ (∀ b ∈ fp, H' b = none) /\ W i n σ' H') ?_ m0 ⟨0, σ, H2, I2, st2, fun b hb => (f2 b hb).1, w0⟩
 rintro n s3 ⟨i, σ3, H3, I3, st3, fr3, w3⟩
 rcases turn i n σ3 H3 w3 with ⟨stop, qn⟩ | ⟨go, N, hN, step⟩
 ·refine wpAny_passesOwn hp (thn (T.done X rfl rfl rfl hc i pins s3 σ3 H3 X.xe I3 (stat fr3) st3 stop) fun r s4 hzz => ?_)
  obtain ⟨hr, I4⟩ := hzz
  subst hr
  exact wpAny_execs_nil ⟨σ3, H3, I4, qn⟩
 ·refine wpAny_passesOwn hp (thn (T.item X rfl rfl rfl hc i pins s3 σ3 H3 X.xe I3 (stat fr3) st3 go) fun r s4 hzz => ?_)
  obtain ⟨u, hr, h4⟩ := hzz
  subst hr
  refine wpAny_passesOwn hp (thn h4 fun _ s5 hzz => ?_)
  obtain ⟨x, H5, I5, r5, y5, st5, fr5⟩ := hzz
  have I5' := I5.pinned (stat fr5) (T.obj _ _ st5)
  refine wpAny_passesOwn hp (thn (hg _ s5 σ3 H5 x u _ I5' r5 (step x H5 y5)) fun _ s6 hzz => ?_)
  obtain ⟨σ6, H6, I6, q6⟩ := hzz
  refine wpAny_passesOwn hp (thn (hb _ s6 σ6 H6 _ I6 q6) fun f s7 q7 => ?_)
  have again : ∀ {σ7 : St} {H7 : Hp}, Inv X (pins ++ pinsAt fp s5.heap) σ7 H7 s7 -> N σ7 H7 -> ∃ m, m < n /\ ∃ i σ' H', Inv X pins σ' H' s7 /\ tn i s7.heap /\ (∀ b ∈ fp, H' b = none) /\ W i m σ' H' := fun {σ7 H7} I7 n7 => by
   obtain ⟨m', hm, w7⟩ := hN σ7 H7 n7
   refine ⟨m', hm, i + 1, σ7, H7, I7.unpinned, T.keep _ _ _ st5 fun b hb o e => (I7.pin (b, o) (List.mem_append_right _ (List.mem_append_right _ (qU hb e)))).1, fun b hb => ?_, w7⟩
   obtain ⟨o, e, d⟩ := T.obj _ _ st5 b hb
   exact (I7.pin (b, o) (List.mem_append_right _ (List.mem_append_right _ (qU hb e)))).2.1
  cases f with
  | next => obtain ⟨σ7, H7, I7, n7⟩ := q7; exact again I7 n7
  | cont => obtain ⟨σ7, H7, I7, n7⟩ := q7; exact again I7 n7
  | brk => obtain ⟨σ7, H7, I7, q7⟩ := q7; exact ⟨σ7, H7, I7.unpinned, q7⟩
  | ret v => obtain ⟨x7, σ7, H7, I7, r7, q7⟩ := q7; exact ⟨x7, σ7, H7, I7.unpinned, r7, q7⟩
end

theorem kP {K : PySem.W.Frag} {a : Addr} {xs : List V} {g : TG} {tb : TS} {D : Ends} {σ : St} {H : Hp} (Pv : Nat -> St -> Hp -> Prop) (h0 : Pv 0 σ H) (hl : ∀ i σ H, i <= xs.length -> Pv i σ H -> SqL K H a xs)
  (hs : ∀ i x σ H, xs[i]? = some x -> Pv i σ H -> g x σ H fun σ2 H2 => tb { D with nx := Pv (i + 1), ct := Pv (i + 1), bk := D.nx } σ2 H2) (hd : ∀ σ H, Pv xs.length σ H -> D.nx σ H) :
  ∃ W : Nat -> Nat -> St -> Hp -> Prop, (∃ m, W 0 m σ H) /\ ∀ i m σ H, W i m σ H ->
   ((Itl K a).stop i H /\ D.nx σ H) \/ ((Itl K a).go i H /\ ∃ N : St -> Hp -> Prop, (∀ σ' H', N σ' H' -> ∃ m', m' < m /\ W (i + 1) m' σ' H') /\ ∀ x H', (Itl K a).yld i H x H' -> g x σ H' fun σ2 H2 => tb { D with nx := N, ct := N, bk := D.nx } σ2 H2) := by
 refine ⟨fun i m σ H => m = xs.length - i /\ i <= xs.length /\ Pv i σ H, ⟨xs.length, by simp, Nat.zero_le _, h0⟩, ?_⟩
 rintro i m σ H ⟨rfl, hi, p⟩
 have q := hl i σ H hi p
 by_cases hlt : i < xs.length
 ·refine .inr ⟨⟨xs, xs[i], q, by simp [hlt]⟩, Pv (i + 1), fun σ' H' p' => ⟨xs.length - (i + 1), by (first|lia|omega), rfl, hlt, p'⟩, fun x H' y => ?_⟩
  obtain ⟨e, y⟩ := y
  subst e
  exact hs i x σ _ (y xs q) p
 ·have e : i = xs.length := by (first|lia|omega)
  subst e
  exact .inl ⟨⟨xs, q, Nat.le_refl _⟩, hd σ H p⟩
theorem for_tup {K : PySem.W.Frag} {a : Addr} {xs : List V} {g : TG} {tb : TS} {D : Ends} {σ : St} {H : Hp} (Pv : Nat -> St -> Hp -> Prop) (h0 : Pv 0 σ H) (hl : ∀ i σ H, i <= xs.length -> Pv i σ H -> SqT K H a xs)
  (hs : ∀ i x σ H, xs[i]? = some x -> Pv i σ H -> g x σ H fun σ2 H2 => tb { D with nx := Pv (i + 1), ct := Pv (i + 1), bk := D.nx } σ2 H2) (hd : ∀ σ H, Pv xs.length σ H -> D.nx σ H) :
  ∃ W : Nat -> Nat -> St -> Hp -> Prop, (∃ m, W 0 m σ H) /\ ∀ i m σ H, W i m σ H ->
   ((Itt K a).stop i H /\ D.nx σ H) \/ ((Itt K a).go i H /\ ∃ N : St -> Hp -> Prop, (∀ σ' H', N σ' H' -> ∃ m', m' < m /\ W (i + 1) m' σ' H') /\ ∀ x H', (Itt K a).yld i H x H' -> g x σ H' fun σ2 H2 => tb { D with nx := N, ct := N, bk := D.nx } σ2 H2) := by
 refine ⟨fun i m σ H => m = xs.length - i /\ i <= xs.length /\ Pv i σ H, ⟨xs.length, by simp, Nat.zero_le _, h0⟩, ?_⟩
 rintro i m σ H ⟨rfl, hi, p⟩
 have q := hl i σ H hi p
 by_cases hlt : i < xs.length
 ·refine .inr ⟨⟨xs, xs[i], q, by simp [hlt]⟩, Pv (i + 1), fun σ' H' p' => ⟨xs.length - (i + 1), by (first|lia|omega), rfl, hlt, p'⟩, fun x H' y => ?_⟩
  obtain ⟨e, y⟩ := y
  subst e
  exact hs i x σ _ (y xs q) p
 ·have e : i = xs.length := by (first|lia|omega)
  subst e
  exact .inl ⟨⟨xs, q, Nat.le_refl _⟩, hd σ H p⟩
theorem kY {lo : Int} {n : Nat} {g : TG} {tb : TS} {D : Ends} {σ : St} {H : Hp} (Pv : Nat -> St -> Hp -> Prop) (h0 : Pv 0 σ H)
  (hs : ∀ i σ H, i < n -> Pv i σ H -> g (.int (lo + i)) σ H fun σ2 H2 => tb { D with nx := Pv (i + 1), ct := Pv (i + 1), bk := D.nx } σ2 H2) (hd : ∀ σ H, Pv n σ H -> D.nx σ H) :
  ∃ W : Nat -> Nat -> St -> Hp -> Prop, (∃ m, W 0 m σ H) /\ ∀ i m σ H, W i m σ H ->
   ((Itr lo n).stop i H /\ D.nx σ H) \/ ((Itr lo n).go i H /\ ∃ N : St -> Hp -> Prop, (∀ σ' H', N σ' H' -> ∃ m', m' < m /\ W (i + 1) m' σ' H') /\ ∀ x H', (Itr lo n).yld i H x H' -> g x σ H' fun σ2 H2 => tb { D with nx := N, ct := N, bk := D.nx } σ2 H2) := by
 refine ⟨fun i m σ H => m = n - i /\ i <= n /\ Pv i σ H, ⟨n, by simp, Nat.zero_le _, h0⟩, ?_⟩
 rintro i m σ H ⟨rfl, hi, p⟩
 by_cases hlt : i < n
 ·refine .inr ⟨hlt, Pv (i + 1), fun σ' H' p' => ⟨n - (i + 1), by (first|lia|omega), rfl, hlt, p'⟩, fun x H' y => ?_⟩
  obtain ⟨e, y⟩ := y
  subst e y
  exact hs i σ _ hlt p
 ·have e : i = n := by (first|lia|omega)
  subst e
  exact .inl ⟨Nat.le_refl _, hd σ H p⟩
end L2

namespace L2
open PySem PySem.Spec PyProof.Rows

abbrev R2 := V -> V -> Hp -> VK -> Prop
def OpR (X : Cx) (f : Value -> Value -> Sem Value) (r : R2) : Prop :=
 ∀ (pins : List (Addr × Obj)) (s : Shared) (σ : St) (H : Hp) (x y : V) (v u : Value) (Q : VK), Inv X pins σ H s -> RelV x v -> RelV y u -> r x y H Q ->
  wpAny (model X.prog X.w) X.A (f v u) (EP X pins σ Q) X.xe s
def UnR (X : Cx) (f : Value -> Sem Value) (r : V -> Hp -> VK -> Prop) : Prop :=
 ∀ (pins : List (Addr × Obj)) (s : Shared) (σ : St) (H : Hp) (x : V) (v : Value) (Q : VK), Inv X pins σ H s -> RelV x v -> r x H Q ->
  wpAny (model X.prog X.w) X.A (f v) (EP X pins σ Q) X.xe s
def CallR (X : Cx) (f : Value) (r : List V -> Hp -> VK -> Prop) : Prop :=
 ∀ (pins : List (Addr × Obj)) (s : Shared) (σ : St) (H : Hp) (xs : List V) (us : List Value) (Q : VK), Inv X pins σ H s -> Vals xs us -> r xs H Q ->
  wpAny (model X.prog X.w) X.A (call f us) (EP X pins σ Q) X.xe s
def TruR (X : Cx) (r : V -> Hp -> (Bool -> Hp -> Prop) -> Prop) : Prop :=
 ∀ (pins : List (Addr × Obj)) (s : Shared) (σ : St) (H : Hp) (x : V) (v : Value) (Q : Bool -> Hp -> Prop), Inv X pins σ H s -> RelV x v -> r x H Q ->
  wpAny (model X.prog X.w) X.A (truthy v) (TP X pins σ Q) X.xe s

def tOp (r : R2) (ta tb : TE) : TE := fun σ H Q => ta σ H fun x H1 => tb σ H1 fun y H2 => r x y H2 Q
def tUn (r : V -> Hp -> VK -> Prop) (ta : TE) : TE := fun σ H Q => ta σ H fun x H1 => r x H1 Q
def rI (C : Int -> Int -> Prop) (g : Int -> Int -> V) : R2 := fun x y H Q => ∃ i j, x = .int i /\ y = .int j /\ C i j /\ Q (g i j) H
def rI0 (g : Int -> Int -> V) : R2 := fun x y H Q => ∃ i j, x = .int i /\ y = .int j /\ Q (g i j) H
def rU (g : Int -> V) : V -> Hp -> VK -> Prop := fun x H Q => ∃ i, x = .int i /\ Q (g i) H

section
variable {X : Cx} {a b c : Expr} {ta tb tc : TE} {pos : Pos}

theorem binT (ha : PE X a ta) (hb : PE X b tb) {pins : List (Addr × Obj)} {s : Shared} {σ : St} {H : Hp} {R : V -> V -> Hp -> Prop} (I : Inv X pins σ H s)
  (h : ta σ H fun x H1 => tb σ H1 fun y H2 => R x y H2) {Q : Value -> Shared -> Prop} {f : Value -> Value -> Sem Value}
  (hf : ∀ v u s2 x y H2, Inv X pins σ H2 s2 -> RelV x v -> RelV y u -> R x y H2 -> wpAny (model X.prog X.w) X.A (f v u) Q X.xe s2) :
  wpAny (model X.prog X.w) X.A (eval a X.env) (fun v s₁ => wpAny (model X.prog X.w) X.A (eval b X.env) (fun u s₂ => wpAny (model X.prog X.w) X.A (f v u) Q X.xe s₂) X.xe s₁) X.xe s := by
 refine thn (ha pins s σ H _ I h) fun v s1 hzz => ?_
 obtain ⟨x, H1, I1, r1, q1⟩ := hzz
 refine thn (hb pins s1 σ H1 _ I1 q1) fun u s2 hzz => ?_
 obtain ⟨y, H2, I2, r2, q2⟩ := hzz
 exact hf v u s2 x y H2 I2 r1 r2 q2

theorem zQ {op : Operator} {r : R2} (ho : OpR X (binaryOp op) r) (ha : PE X a ta) (hb : PE X b tb) : PE X (.BinOp a op b pos) (tOp r ta tb) := by
 refine ⟨?_⟩
 intro pins s σ H Q I h
 exact wpAny_BinOp (binT ha hb I h fun v u s2 x y H2 I2 rx ry q => ho pins s2 σ H2 x y v u Q I2 rx ry q)
theorem pe_un {op : UnaryOp} {r : V -> Hp -> VK -> Prop} (ho : UnR X (unaryOp op) r) (ha : PE X a ta) : PE X (.UnaryOp op a pos) (tUn r ta) := by
 refine ⟨?_⟩
 intro pins s σ H Q I h
 exact UnaryOp_ (thn (ha pins s σ H _ I h) fun v s1 ⟨x, H1, I1, r1, q1⟩ => ho pins s1 σ H1 x v Q I1 r1 q1)
theorem opI {f : Value -> Value -> Sem Value} {C : Int -> Int -> Prop} {g : Int -> Int -> Int}
  (rule : ∀ (i j : Int) (t u : Tok) (s : Shared) (Q : Value -> Shared -> Prop) (E : Value -> Shared -> Prop), C i j -> Q (.int (g i j) s.toks) { s with toks := s.toks + 1 } -> wpAny (model X.prog X.w) X.A (f (.int i t) (.int j u)) Q E s) :
  OpR X f (rI C fun i j => .int (g i j)) := by
 intro pins s σ H x y v u Q I rx ry h
 obtain ⟨i, j, rfl, rfl, hc, q⟩ := h
 obtain ⟨t, rfl⟩ := rx
 obtain ⟨t', rfl⟩ := ry
 exact rule i j t t' s _ _ hc ⟨.int (g i j), H, I.tok _, ⟨_, rfl⟩, q⟩
theorem opI0 {f : Value -> Value -> Sem Value} {g : Int -> Int -> Int}
  (rule : ∀ (i j : Int) (t u : Tok) (s : Shared) (Q : Value -> Shared -> Prop) (E : Value -> Shared -> Prop), Q (.int (g i j) s.toks) { s with toks := s.toks + 1 } -> wpAny (model X.prog X.w) X.A (f (.int i t) (.int j u)) Q E s) :
  OpR X f (rI0 fun i j => .int (g i j)) := by
 intro pins s σ H x y v u Q I rx ry h
 obtain ⟨i, j, rfl, rfl, q⟩ := h
 obtain ⟨t, rfl⟩ := rx
 obtain ⟨t', rfl⟩ := ry
 exact rule i j t t' s _ _ ⟨.int (g i j), H, I.tok _, ⟨_, rfl⟩, q⟩
theorem opB0 {f : Value -> Value -> Sem Value} {g : Int -> Int -> Bool}
  (rule : ∀ (i j : Int) (t u : Tok) (s : Shared) (Q : Value -> Shared -> Prop) (E : Value -> Shared -> Prop), Q (.bool (g i j)) s -> wpAny (model X.prog X.w) X.A (f (.int i t) (.int j u)) Q E s) :
  OpR X f (rI0 fun i j => .bl (g i j)) := by
 intro pins s σ H x y v u Q I rx ry h
 obtain ⟨i, j, rfl, rfl, q⟩ := h
 obtain ⟨t, rfl⟩ := rx
 obtain ⟨t', rfl⟩ := ry
 exact rule i j t t' s _ _ ⟨.bl (g i j), H, I, rfl, q⟩

def CPow (i j : Int) : Prop := 0 <= j /\ j <= 1000000 /\ i.natAbs < 2 ^ 64
def CMul (i j : Int) : Prop := (-(2 ^ 64) < i /\ i < 2 ^ 64) \/ (-(2 ^ 64) < j /\ j < 2 ^ 64)
theorem CMul.ok {i j : Int} (h : CMul i j) : IntMulOk i j := by
 rcases h with ⟨h1, h2⟩ | ⟨h1, h2⟩
 ·exact .of_left (intBits_le_64 h1 h2)
 ·exact .of_right (intBits_le_64 h1 h2)
theorem yY : OpR X (binaryOp .Add) (rI0 fun i j => .int (i + j)) := opI0 fun _ _ _ _ _ _ _ q => add_int q
theorem xG : OpR X (binaryOp .Sub) (rI0 fun i j => .int (i - j)) := opI0 fun _ _ _ _ _ _ _ q => sub_int q
theorem wR : OpR X (binaryOp .Mult) (rI CMul fun i j => .int (i * j)) := opI fun _ _ _ _ _ _ _ hc q => mul_int q hc.ok
theorem wS : OpR X (binaryOp .Mod) (rI (fun _ j => 0 < j) fun i j => .int (i % j)) := opI fun i j _ _ _ _ _ hc q => by
 have h1 : (0 : Int) < j := hc
 exact mod_int' (by (first|lia|omega)) (by rw [Int.fmod_eq_emod_of_nonneg i (by (first|lia|omega))]; exact q)
theorem op_modN : OpR X (binaryOp .Mod) (rI (fun _ j => j ≠ 0) fun i j => .int (i.fmod j)) := opI fun _ _ _ _ _ _ _ hc q => mod_int' hc q
theorem op_pow : OpR X (binaryOp .Pow) (rI CPow fun i j => .int (i ^ j.toNat)) := opI fun _ _ _ _ _ _ _ hc q => pow_int_small hc.1 hc.2.1 hc.2.2 q
theorem unI {f : Value -> Sem Value} {g : Int -> Int}
  (rule : ∀ (i : Int) (t : Tok) (s : Shared) (Q : Value -> Shared -> Prop) (E : Value -> Shared -> Prop), Q (.int (g i) s.toks) { s with toks := s.toks + 1 } -> wpAny (model X.prog X.w) X.A (f (.int i t)) Q E s) :
  UnR X f (rU fun i => .int (g i)) := by
 intro pins s σ H x v Q I rx h
 obtain ⟨i, rfl, q⟩ := h
 obtain ⟨t, rfl⟩ := rx
 exact rule i t s _ _ ⟨.int (g i), H, I.tok _, ⟨_, rfl⟩, q⟩
theorem un_neg : UnR X (unaryOp .USub) (rU fun i => .int (-i)) := unI fun _ _ _ _ _ q => neg_int q
end

def scal : V -> V -> Bool
 | .non, .non => true | .non, .int _ => true | .int _, .non => true | .non, .bl _ => true | .bl _, .non => true | .non, .str _ => true | .str _, .non => true
 | .int _, .int _ => true | .bl _, .bl _ => true | .str _, .str _ => true | .byt _, .byt _ => true
 | .int _, .str _ => true | .str _, .int _ => true | .bl _, .str _ => true | .str _, .bl _ => true
 | _, _ => false
def rEq : R2 := fun x y H Q => scal x y = true /\ Q (.bl (decide (x = y))) H
def rNe : R2 := fun x y H Q => scal x y = true /\ Q (.bl (!decide (x = y))) H

theorem dec_int {i j : Int} : decide (V.int i = V.int j) = (i == j) := by
 rw [Bool.eq_iff_iff]
 simp
 exact ⟨fun h => by injection h, fun h => by rw [h]⟩
theorem dec_bl {i j : Bool} : decide (V.bl i = V.bl j) = (i == j) := by
 rw [Bool.eq_iff_iff]
 simp
 exact ⟨fun h => by injection h, fun h => by rw [h]⟩
theorem dec_str {i j : Str} : decide (V.str i = V.str j) = (i == j) := by
 rw [Bool.eq_iff_iff]
 simp
 exact ⟨fun h => by injection h, fun h => by rw [h]⟩
theorem dec_byt {i j : Array UInt8} : decide (V.byt i = V.byt j) = (i.toList == j.toList) := by
 rw [Bool.eq_iff_iff]
 cases i
 cases j
 simp
 exact ⟨fun h => by injection h with h; injection h, fun h => by rw [h]⟩

section
variable {X : Cx} {a b c : Expr} {ta tb tc : TE} {pos : Pos}
theorem yE {pins : List (Addr × Obj)} {σ : St} {H : Hp} {s : Shared} {Q : VK} {k k' : Bool} (I : Inv X pins σ H s) (q : Q (.bl k) H) (e : k = k') : EP X pins σ Q (.bool k') s := by
 subst e
 exact ⟨.bl k, H, I, rfl, q⟩
theorem yB : OpR X (compareOp .Eq) rEq := by
 intro pins s σ H x y v u Q I rx ry h
 obtain ⟨hs, q⟩ := h
 cases x with
 | non =>
  cases rx
  cases y with
  | non => cases ry; exact PySem.EqNone.eq_none_none (yE I q (by simp))
  | bl j => cases ry; exact PySem.EqNone.eq_none_bool (yE I q (by simp))
  | int j => obtain ⟨t', rfl⟩ := ry; exact PySem.EqNone.eq_none_int (yE I q (by simp))
  | str j => obtain ⟨t', rfl⟩ := ry; exact PySem.EqNone.eq_none_str (yE I q (by simp))
  | _ => exact absurd (show false = true from hs) Bool.false_ne_true
 | bl i =>
  cases rx
  cases y with
  | non => cases ry; exact PySem.EqNone.eq_bool_none (yE I q (by simp))
  | bl j => cases ry; exact eq_bool (yE I q dec_bl)
  | str j => obtain ⟨t', rfl⟩ := ry; exact PySem.EqMixed.eq_bool_str (yE I q (by simp))
  | _ => exact absurd (show false = true from hs) Bool.false_ne_true
 | int i =>
  obtain ⟨t, rfl⟩ := rx
  cases y with
  | non => cases ry; exact PySem.EqNone.eq_int_none (yE I q (by simp))
  | int j => obtain ⟨t', rfl⟩ := ry; exact eq_int (yE I q dec_int)
  | str j => obtain ⟨t', rfl⟩ := ry; exact PySem.EqMixed.eq_int_str (yE I q (by simp))
  | _ => exact absurd (show false = true from hs) Bool.false_ne_true
 | str i =>
  obtain ⟨t, rfl⟩ := rx
  cases y with
  | non => cases ry; exact PySem.EqNone.eq_str_none (yE I q (by simp))
  | bl j => cases ry; exact PySem.EqMixed.eq_str_bool (yE I q (by simp))
  | int j => obtain ⟨t', rfl⟩ := ry; exact PySem.EqMixed.eq_str_int (yE I q (by simp))
  | str j => obtain ⟨t', rfl⟩ := ry; exact eq_str (yE I q dec_str)
  | _ => exact absurd (show false = true from hs) Bool.false_ne_true
 | byt i =>
  obtain ⟨t, rfl⟩ := rx
  cases y with
  | byt j => obtain ⟨t', rfl⟩ := ry; exact PySem.W.eq_bytes (yE I q dec_byt)
  | _ => exact absurd (show false = true from hs) Bool.false_ne_true
 | _ => cases y <;> exact absurd (show false = true from hs) Bool.false_ne_true
theorem op_ne : OpR X (compareOp .NotEq) rNe := by
 intro pins s σ H x y v u Q I rx ry h
 obtain ⟨hs, q⟩ := h
 cases x with
 | non =>
  cases rx
  cases y with
  | non => cases ry; exact PySem.EqNone.ne_none_none (yE I q (by simp))
  | bl j => cases ry; exact PySem.EqNone.ne_none_bool (yE I q (by simp))
  | int j => obtain ⟨t', rfl⟩ := ry; exact PySem.EqNone.ne_none_int (yE I q (by simp))
  | str j => obtain ⟨t', rfl⟩ := ry; exact PySem.EqNone.ne_none_str (yE I q (by simp))
  | _ => exact absurd (show false = true from hs) Bool.false_ne_true
 | bl i =>
  cases rx
  cases y with
  | non => cases ry; exact PySem.EqNone.ne_bool_none (yE I q (by simp))
  | bl j => cases ry; exact ne_bool (yE I q (congrArg not dec_bl))
  | str j => obtain ⟨t', rfl⟩ := ry; exact PySem.EqMixed.ne_bool_str (yE I q (by simp))
  | _ => exact absurd (show false = true from hs) Bool.false_ne_true
 | int i =>
  obtain ⟨t, rfl⟩ := rx
  cases y with
  | non => cases ry; exact PySem.EqNone.ne_int_none (yE I q (by simp))
  | int j => obtain ⟨t', rfl⟩ := ry; exact ne_int (yE I q (congrArg not dec_int))
  | str j => obtain ⟨t', rfl⟩ := ry; exact PySem.EqMixed.ne_int_str (yE I q (by simp))
  | _ => exact absurd (show false = true from hs) Bool.false_ne_true
 | str i =>
  obtain ⟨t, rfl⟩ := rx
  cases y with
  | non => cases ry; exact PySem.EqNone.ne_str_none (yE I q (by simp))
  | bl j => cases ry; exact PySem.EqMixed.ne_str_bool (yE I q (by simp))
  | int j => obtain ⟨t', rfl⟩ := ry; exact PySem.EqMixed.ne_str_int (yE I q (by simp))
  | str j => obtain ⟨t', rfl⟩ := ry; exact ne_str (yE I q (congrArg not dec_str))
  | _ => exact absurd (show false = true from hs) Bool.false_ne_true
 | byt i =>
  obtain ⟨t, rfl⟩ := rx
  cases y with
  | byt j => obtain ⟨t', rfl⟩ := ry; exact PySem.W.ne_bytes (yE I q (congrArg not dec_byt))
  | _ => exact absurd (show false = true from hs) Bool.false_ne_true
 | _ => cases y <;> exact absurd (show false = true from hs) Bool.false_ne_true

theorem qZ : OpR X (compareOp .Lt) (rI0 fun i j => .bl (decide (i < j))) := opB0 fun _ _ _ _ _ _ _ q => lt_int q
theorem op_le : OpR X (compareOp .LtE) (rI0 fun i j => .bl (decide (i <= j))) := opB0 fun _ _ _ _ _ _ _ q => le_int q
theorem op_gt : OpR X (compareOp .Gt) (rI0 fun i j => .bl (decide (j < i))) := opB0 fun _ _ _ _ _ _ _ q => gt_int q
theorem op_ge : OpR X (compareOp .GtE) (rI0 fun i j => .bl (decide (j <= i))) := opB0 fun _ _ _ _ _ _ _ q => ge_int q
theorem op_notN : OpR X (compareOp .IsNot) (fun x y H Q => y = .non /\ Q (.bl (!decide (x = .non))) H) := by
 intro pins s σ H x y v u Q I rx ry h
 obtain ⟨rfl, q⟩ := h
 cases ry
 refine isnot_none_gen (yE I q ?_)
 cases x <;> first
  | (cases rx; rfl)
  | (obtain ⟨t, rfl⟩ := rx; rfl)

theorem nomark (b : Expr) {op : CmpOp} (h : op ≠ .In := by decide) (h2 : op ≠ .NotIn := by decide) : behindInMarks op b = false := by
 have e1 : (op == CmpOp.In) = false := by cases op <;> first | rfl | exact absurd rfl h
 have e2 : (op == CmpOp.NotIn) = false := by cases op <;> first | rfl | exact absurd rfl h2
 cases b <;> simp [behindInMarks, e1, e2]
def tTest (t : TE) : TT := fun σ H Q => t σ H fun x H' => ∃ k, x = .bl k /\ Q k H'
theorem zJ {op : CmpOp} {r : R2} (ho : OpR X (compareOp op) r) (ha : PE X a ta) (hb : PE X b tb) (hm : behindInMarks op b = false) : PT X (.Compare a [op] [b] pos) (tTest (tOp r ta tb)) := by
 refine ⟨?_⟩
 intro pins s σ H Q I h
 refine wpAny_isTrue_Compare1 (thn (ha pins s σ H _ I h) fun v s1 ⟨x, H1, I1, r1, q1⟩ => thn (hb pins s1 σ H1 _ I1 q1) fun u s2 ⟨y, H2, I2, r2, q2⟩ =>
  thn (ho pins s2 σ H2 x y v u _ I2 r1 r2 q2) fun c s3 ⟨z, H3, I3, r3, k, e, q3⟩ => ?_) hm
 subst e
 cases r3
 exact wpAny_truthy_bool ⟨H3, I3, q3⟩
def TruV (K : PySem.W.Frag) (x : V) (H : Hp) (k : Bool) : Prop :=
 match x with
 | .non => k = false
 | .bl b => k = b
 | .int i => k = (i != 0)
 | .str y => y.length <= sizeLine /\ k = ((y.length : Int) != 0)
 | .byt y => y.size <= sizeLine /\ k = ((y.size : Int) != 0)
 | .ref p => (∃ xs, SqL K H p xs /\ k = !xs.isEmpty) \/ (∃ xs, SqT K H p xs /\ k = !xs.isEmpty) \/ ∃ kvs, H p = some (.dK kvs) /\ k = !kvs.isEmpty
 | _ => False
theorem isEmpty_kv {κ : Type} {kvs : List (κ × V)} {vs : List (κ × Value)} (r : KV kvs vs) : (!vs.isEmpty) = !kvs.isEmpty := by
 cases r <;> rfl
theorem isEmpty_of {xs : List V} {its : List Value} (r : Vals xs its) : (!its.toArray.isEmpty) = !xs.isEmpty := by
 cases r <;> simp
theorem line63 : (sizeLine : Nat) < 2 ^ 63 := by rw [sizeLine_eq]; decide
theorem tru_ok : TruR X (fun x H Q => ∃ k, TruV X.K x H k /\ Q k H) := by
 intro pins s σ H x v Q I rx h
 obtain ⟨k, e, q⟩ := h
 have hl := line63
 have hs : sizeLine = 16777216 := sizeLine_eq
 cases x with
 | non =>
  cases rx
  have e' : k = false := e
  subst e'
  exact truthy_none ⟨H, I, q⟩
 | bl b =>
  cases rx
  have e' : k = b := e
  subst e'
  exact wpAny_truthy_bool ⟨H, I, q⟩
 | int i =>
  obtain ⟨t, rfl⟩ := rx
  have e' : k = (i != 0) := e
  subst e'
  exact PySem.P.truthy_int ⟨H, I, q⟩
 | str y =>
  obtain ⟨t, rfl⟩ := rx
  obtain ⟨hy, e'⟩ : y.length <= sizeLine /\ k = ((y.length : Int) != 0) := e
  subst e'
  exact PySem.P.truthy_str (by (first|lia|omega)) ⟨H, I.tok _, q⟩
 | byt y =>
  obtain ⟨t, rfl⟩ := rx
  obtain ⟨hy, e'⟩ : y.size <= sizeLine /\ k = ((y.size : Int) != 0) := e
  subst e'
  exact PySem.W.truthy_bytes (by (first|lia|omega)) ⟨H, I.tok _, q⟩
 | ref p =>
  cases rx
  have e' : (∃ xs, SqL X.K H p xs /\ k = !xs.isEmpty) \/ (∃ xs, SqT X.K H p xs /\ k = !xs.isEmpty) \/ ∃ kvs, H p = some (.dK kvs) /\ k = !kvs.isEmpty := e
  rcases e' with ⟨xs, hx, e'⟩ | ⟨xs, hx, e'⟩ | ⟨kvs, hx, e'⟩
  ·subst e'
   obtain ⟨its, r, pl, hz⟩ := I.list hx
   have hlen := r.length
   exact wpAny_truthy_list pl.isList (by simp only [List.size_toArray]; (first|lia|omega)) ⟨H, I.tok _, by rw [isEmpty_of r]; exact q⟩
  ·subst e'
   obtain ⟨its, r, pl, hz⟩ := I.tuple hx
   have hlen := r.length
   exact truthy_tuple pl (by simp only [List.size_toArray]; (first|lia|omega)) ⟨H, I.tok _, by rw [isEmpty_of r]; exact q⟩
  ·subst e'
   obtain ⟨hz, hS, vs, r, m⟩ : kvs.length <= sizeLine /\ (p == sysModules) = false /\ ∃ vs, KV kvs vs /\ s.heap.DictOf (mixKind X.prog X.w) p vs := I.hok p _ hx
   have hlen : kvs.length = vs.length := Paired.length r
   exact wpAny_truthy_dict hS m (by (first|lia|omega)) ⟨H, I.tok _, by rw [isEmpty_kv r]; exact q⟩
 | _ => exact (show False from e).elim
theorem pt_truth (ha : PE X a ta) (he : ∀ whole, isTrue a X.env whole = (do let v <- whole; standAt a.pos; holding [v] (truthy v))) :
  PT X a (fun σ H Q => ta σ H fun x H' => ∃ k, TruV X.K x H' k /\ Q k H') := by
 refine ⟨?_⟩
 intro pins s σ H Q I h
 exact isTrue_plain (thn (ha pins s σ H _ I h) fun v s1 ⟨x, H1, I1, r1, q1⟩ => tru_ok pins s1 σ H1 x v Q I1 r1 q1) (he _)

theorem vals1 {x : V} {us : List Value} (r : Vals [x] us) : ∃ u, us = [u] /\ RelV x u := by
 cases r with
 | cons r1 r2 => cases r2; exact ⟨_, rfl, r1⟩
theorem vals2 {x y : V} {us : List Value} (r : Vals [x, y] us) : ∃ u w', us = [u, w'] /\ RelV x u /\ RelV y w' := by
 cases r with
 | cons r1 r2 =>
  cases r2 with
  | cons r3 r4 => cases r4; exact ⟨_, _, rfl, r1, r3⟩
theorem call_abs : CallR X (.builtin "abs") (fun xs H Q => ∃ i, xs = [.int i] /\ Q (.int (if i < 0 then -i else i)) H) := by
 intro pins s σ H xs us Q I r h
 obtain ⟨i, rfl, q⟩ := h
 obtain ⟨u, rfl, t, rfl⟩ := vals1 r
 exact call_abs_int fun u tk => ⟨.int (if i < 0 then -i else i), H, I.tok _, ⟨_, rfl⟩, q⟩
end
end L2

namespace L2
open PySem PySem.Spec PyProof.Rows

structure ObjM (h : Heap) (x dx C : Addr) (mA : Str -> Option Value) : Prop where
 obj : h.get? x = some (PySem.W.instObj C dx)
 ns : h.Ns1 dx mA
 ne : dx ≠ x

theorem lookIn_ns {h : Heap} {dx : Addr} {mA : Str -> Option Value} (n : h.Ns1 dx mA) : ∃ od, h.get? dx = some od /\ ∀ name, PySem.W.lookIn name od = some (mA name) := by
 obtain ⟨o, es, ep, ho, hd, hk, _, hm⟩ := n
 refine ⟨o, ho, fun name => ?_⟩
 have e := hm name
 unfold nsFind findBy at e
 rw [<- Array.find?_toList] at e
 unfold PySem.W.lookIn
 rw [hd]
 dsimp only
 split
 ·rename_i y q
  rw [q] at e
  exact congrArg some e
 ·rename_i q
  rw [q] at e
  have a : es.toList.any (·.refKey) = false := by
   rw [List.any_eq_false]
   intro y hy
   obtain ⟨z, t, hkey⟩ := hk y (Array.mem_toList_iff.mp hy)
   simp [DictEntry.refKey, hkey]
  have a' : ¬ es.toList.any (·.refKey) = true := by rw [a]; exact Bool.false_ne_true
  rw [if_neg a']
  exact congrArg some e

theorem ObjM.look {h : Heap} {x dx C : Addr} {mA : Str -> Option Value} (I : ObjM h x dx C mA) : ∃ od, PySem.W.InstAt h x (PySem.W.instObj C dx) C (some od) /\ ∀ name, PySem.W.lookIn name od = some (mA name) :=
 let ⟨od, ho, hl⟩ := lookIn_ns I.ns
 ⟨od, ⟨I.obj, rfl, rfl, ho⟩, hl⟩

section
variable {prog : Program} {w : World} {A : Around} {E : Value -> Shared -> Prop} {s : Shared} {K : PySem.W.Frag} {x dx C f : Addr} {mA : Str -> Option Value} {name : Str} {v : Value}

theorem get_map {expr : Bool} {Q : Value -> Shared -> Prop} (X : K.In s.heap) (I : ObjM s.heap x dx C mA) (hg : PySem.W.plainGet K C name = true) (hh : PySem.W.hasDictIn K C = true)
  (ha : PySem.W.findIn K (.ref C) name = some none) (hv : mA name = some v) (hv' : PySem.W.handedIn v = true) (h : Q v { s with toks := s.toks + 1 }) :
  wpAny (model prog w) A (getAttr (.ref x) name expr) Q E s := by
 obtain ⟨od, J, hl⟩ := I.look
 exact PySem.W.get_value X J (PySem.W.plainGet_of hg).1 (PySem.W.findObj_own hh ha rfl (by rw [hl, hv])) hv' h

theorem get_meth {pl : Sem Bool} {Q : Value × List Value -> Shared -> Prop} (X : K.In s.heap) (I : ObjM s.heap x dx C mA) (hg : PySem.W.plainGet K C name = true)
  (hf : PySem.W.findIn K (.ref C) name = some (some (.ref f))) (ht : PySem.W.isFn K (.ref f) = true) (hv : mA name = none) (h : Q (.ref f, [.ref x]) s) :
  wpAny (model prog w) A (getMethod (.ref x) name pl) Q E s := by
 obtain ⟨od, J, hl⟩ := I.look
 exact PySem.W.method_fn X J (PySem.W.plainGet_of hg).1 (PySem.W.plainGet_of hg).2 hf (beq_iff_eq.mp ht) (by show (PySem.W.lookIn name od).map (·.isSome) = some false; rw [hl, hv]; rfl) h

theorem set_map {ns : List Str} {Q : Unit -> Shared -> Prop} (X : K.In s.heap) (I : ObjM s.heap x dx C mA)
  (hs : PySem.W.findIn K (.ref C) "__setattr__" = some (some (.builtin "object.__setattr__"))) (hp : PySem.W.plainOver K C = true) (ht : PySem.W.takerIn K C name = some none) (hh : PySem.W.hasDictIn K C = true)
  (hw : PySem.Within mA ns) (hsz : ns.length <= sizeLine)
  (h : ∀ h', ObjM h' x dx C (fun y => if y = name then some v else mA y) -> Heap.SameBut dx s.heap h' -> Q () { s with heap := h', toks := s.toks + 2 }) :
  wpAny (model prog w) A (setAttr (.ref x) name v) Q E s := by
 obtain ⟨od, J, hl⟩ := I.look
 refine PySem.W.set_plain X J hs (PySem.W.osa_open (s := { s with toks := s.toks + 1 }) (r := none) X J hp ht fun b => ?_)
 obtain ⟨cd, hc, hd'⟩ := PySem.W.any_some hh
 have hx : s.heap.get? x = some ⟨.ref C, some dx, .plain, #[]⟩ := I.obj
 refine wpAny_bind (wpAny_pure (wpAny_bind (wpAny_bind (wpAny_loadPart hx (wpAny_bind (PySem.W.Looks.here (s := { s with toks := s.toks + 1 }) (PySem.W.looks_clsIn X hc) ?_))))))
 rw [hd']
 refine wpAny_pure (a := some dx) (wpAny_bind (wpAny_pure (wpAny_bind ?_)))
 refine wpAny_nsSet1 (s := { s with toks := s.toks + 1 }) I.ns fun h' hn2 hs2 => ?_
 obtain ⟨oD, esD, epD, hoD, hdD, hcD⟩ := hn2.count (PySem.Within.cons name v hw)
 refine wpAny_bind (wpAny_lookBehind hoD (by rw [hdD]; exact pastItsLine_dict (Nat.le_trans hcD (by rw [List.length_cons]; (first|lia|omega)))) ?_)
 exact wpAny_pure (h _ ⟨(hs2.2 _ (Ne.symm I.ne)).trans I.obj, hn2, I.ne⟩ hs2)

theorem make_map {R : Result -> Shared -> Prop} {vs : List Value} {kw : List (Str × Value)} (X : K.In s.heap) (hm : PySem.W.makesIn K C = true)
  (hi : PySem.W.findIn K (.ref C) "__init__" = some (some (.ref f))) (hf : PySem.W.typeIn K (.ref f) = some (.type "function"))
  (h : codeAny (model prog w) (A.under (.builtin "type.__call__" ⟨.ref C :: vs, kw⟩)) (.call (.ref f) ⟨.ref (s.heap.objs.size + 1) :: vs, kw⟩) (PySem.W.InitBack (s.heap.objs.size + 1) R)
   { s with heap := (s.heap.push PySem.W.emptyDict).push (PySem.W.instObj C s.heap.objs.size) }) :
  codeAny (model prog w) A (.call (.ref C) ⟨vs, kw⟩) R s := by
 obtain ⟨hh, g, d, t, os⟩ := s
 exact PySem.W.make_core (PySem.W.makes_of X hm) (PySem.W.looks_findIn X hi) (fun self => PySem.W.bind_fn X self hf) (.inl rfl) h
end

def putF (f : Str) (v : V) : List (Str × V) -> List (Str × V)
 | [] => [(f, v)]
 | (g, x) :: r => if g = f then (g, v) :: r else (g, x) :: putF f v r
theorem wB (f g : Str) (v : V) : ∀ fs : List (Str × V), (putF f v fs).lookup g = if g = f then some v else fs.lookup g
 | [] => by
  show List.lookup g [(f, v)] = _
  by_cases h : g = f
  ·have hb : (g == f) = true := beq_iff_eq.mpr h
   simp only [List.lookup, hb, if_pos h]
  ·have hb : (g == f) = false := beq_eq_false_iff_ne.mpr h
   simp only [List.lookup, hb, if_neg h]
 | (k, x) :: r => by
  have ih := wB f g v r
  rw [show putF f v ((k, x) :: r) = (if k = f then (k, v) :: r else (k, x) :: putF f v r) from rfl]
  by_cases hk : k = f
  ·rw [if_pos hk]
   by_cases h : g = k
   ·have hb : (g == k) = true := beq_iff_eq.mpr h
    simp only [List.lookup, hb, if_pos (h.trans hk)]
   ·have hb : (g == k) = false := beq_eq_false_iff_ne.mpr h
    simp only [List.lookup, hb, if_neg (fun e : g = f => h (e.trans hk.symm))]
  ·rw [if_neg hk]
   by_cases h : g = k
   ·have hb : (g == k) = true := beq_iff_eq.mpr h
    simp only [List.lookup, hb, if_neg (fun e : g = f => hk (h.symm.trans e))]
   ·have hb : (g == k) = false := beq_eq_false_iff_ne.mpr h
    simp only [List.lookup, hb]
    exact ih
theorem qQ (f : Str) (v : V) : ∀ fs : List (Str × V), f ∈ (putF f v fs).map (·.1) /\ ∀ g, g ∈ fs.map (·.1) -> g ∈ (putF f v fs).map (·.1)
 | [] => ⟨by simp [putF], fun g h => by simp at h⟩
 | (k, x) :: r => by
  obtain ⟨i1, i2⟩ := qQ f v r
  rw [show putF f v ((k, x) :: r) = (if k = f then (k, v) :: r else (k, x) :: putF f v r) from rfl]
  by_cases hk : k = f
  ·rw [if_pos hk]
   subst hk
   exact ⟨by simp, fun g h => by simpa using h⟩
  ·rw [if_neg hk]
   refine ⟨?_, fun g h => ?_⟩
   ·rw [List.map_cons]
    exact List.mem_cons_of_mem _ i1
   ·rw [List.map_cons] at h ⊢
    rcases List.mem_cons.mp h with e | e
    ·exact List.mem_cons.mpr (.inl e)
    ·exact List.mem_cons_of_mem _ (i2 g e)
theorem length_putF (f : Str) (v : V) : ∀ fs : List (Str × V), (putF f v fs).length <= fs.length + 1
 | [] => by simp [putF]
 | (k, x) :: r => by
  have ih := length_putF f v r
  rw [show putF f v ((k, x) :: r) = (if k = f then (k, v) :: r else (k, x) :: putF f v r) from rfl]
  by_cases hk : k = f
  ·rw [if_pos hk, List.length_cons, List.length_cons]; (first|lia|omega)
  ·rw [if_neg hk, List.length_cons, List.length_cons]; (first|lia|omega)

theorem RelO.some_of {v : V} {o : Option Value} (r : RelO (some v) o) : ∃ u, o = some u /\ RelV v u := by
 cases o with
 | none => exact (show False from r).elim
 | some u => exact ⟨u, rfl, r⟩
theorem RelO.none_of {o : Option Value} (r : RelO none o) : o = none := by
 cases o with
 | none => rfl
 | some u => exact (show False from r).elim
theorem handed_of {v : V} {u : Value} (r : RelV v u) : PySem.W.handedIn u = true := by
 cases v with
 | non => cases (show u = Value.none from r); rfl
 | bl b => cases (show u = Value.bool b from r); rfl
 | int i => obtain ⟨t, e⟩ := (show ∃ t, u = Value.int i t from r); cases e; rfl
 | str x => obtain ⟨t, e⟩ := (show ∃ t, u = Value.str x t from r); cases e; rfl
 | byt b => obtain ⟨t, e⟩ := (show ∃ t, u = Value.bytes b t from r); cases e; rfl
 | flt b => obtain ⟨t, e⟩ := (show ∃ t, u = Value.float b t from r); cases e; rfl
 | ref a => cases (show u = Value.ref a from r); rfl
 | ty n => cases (show u = Value.type n from r); rfl

section
variable {P : Program} {w : World} {H H' : Hp} {h h' : Heap} {a C dx : Addr} {fs fs' : List (Str × V)}
theorem ins_get (hok : HOk P w H h) (e : H a = some (.ins C dx fs)) : ∃ mA, ObjM h a dx C mA /\ (∀ f, RelO (fs.lookup f) (mA f)) /\ PySem.Within mA (fs.map (·.1)) /\ fs.length <= 1000 /\ H dx = some (.own a) := by
 obtain ⟨d, z, ne, ob, mA, n, r, q⟩ := (show ObjOk P w H h a (.ins C dx fs) from hok a _ e)
 exact ⟨mA, ⟨ob, n, ne⟩, r, q, z, d⟩
end

structure Cls (K : PySem.W.Frag) (C : Addr) : Prop where
 pg : PySem.W.plainGet K C Str.empty = true
 hd : PySem.W.hasDictIn K C = true
 po : PySem.W.plainOver K C = true
 sa : PySem.W.findIn K (.ref C) "__setattr__" = some (some (.builtin "object.__setattr__"))
theorem Cls.get {K : PySem.W.Frag} {C : Addr} (c : Cls K C) (f : Str) : PySem.W.plainGet K C f = true := c.pg
def NoAttr (K : PySem.W.Frag) (C : Addr) (f : Str) : Prop := PySem.W.findIn K (.ref C) f = some none
theorem NoAttr.taker {K : PySem.W.Frag} {C : Addr} {f : Str} (n : NoAttr K C f) : PySem.W.takerIn K C f = some none := by
 unfold PySem.W.takerIn
 rw [show PySem.W.findIn K (.ref C) f = some none from n]
 rfl
structure Meth (K : PySem.W.Frag) (C : Addr) (m : Str) (f : Addr) : Prop where
 at_ : PySem.W.findIn K (.ref C) m = some (some (.ref f))
 fn : PySem.W.isFn K (.ref f) = true
 kp : PySem.W.keepIn K (.ref f) = true

section
variable {X : Cx} {pins : List (Addr × Obj)} {σ : St} {H : Hp} {s : Shared} {a C dx : Addr} {fs : List (Str × V)} {f : Str} {v : V} {A : Around} {E : Value -> Shared -> Prop}

theorem getattr_ok {b : Bool} {Q : Value -> Shared -> Prop} (I : Inv X pins σ H s) (e : H a = some (.ins C dx fs)) (c : Cls X.K C) (n : NoAttr X.K C f) (l : fs.lookup f = some v)
  (h : ∀ u s', Inv X pins σ H s' -> RelV v u -> Q u s') : wpAny (model X.prog X.w) A (getAttr (.ref a) f b) Q E s := by
 obtain ⟨mA, O, r, _, _, _⟩ := ins_get I.hok e
 obtain ⟨u, hu, ru⟩ := RelO.some_of (v := v) (o := mA f) (by rw [<- l]; exact r f)
 exact get_map I.kIn O (c.get f) c.hd n hu (handed_of ru) (h u _ (I.tok _) ru)

theorem getmeth_ok {m : Str} {g : Addr} {pl : Sem Bool} {Q : Value × List Value -> Shared -> Prop} (I : Inv X pins σ H s) (e : H a = some (.ins C dx fs)) (c : Cls X.K C) (k : Meth X.K C m g) (l : fs.lookup m = none)
  (h : Q (.ref g, [.ref a]) s) : wpAny (model X.prog X.w) A (getMethod (.ref a) m pl) Q E s := by
 obtain ⟨mA, O, r, _, _, _⟩ := ins_get I.hok e
 have hn : mA m = none := RelO.none_of (by rw [<- l]; exact r m)
 exact get_meth I.kIn O (c.get m) k.at_ k.fn hn h

theorem setattr_ok {y : V} {u : Value} {Q : Unit -> Shared -> Prop} (I : Inv X pins σ H s) (e : H a = some (.ins C dx fs)) (c : Cls X.K C) (n : NoAttr X.K C f) (hl : fs.length < 1000) (ry : RelV y u)
  (h : ∀ s', Inv X pins σ (upd H a (.ins C dx (putF f y fs))) s' -> Q () s') : wpAny (model X.prog X.w) A (setAttr (.ref a) f u) Q E s := by
 obtain ⟨mA, O, r, wi, _, ho⟩ := ins_get I.hok e
 have hz : (fs.map (·.1)).length <= sizeLine := by rw [List.length_map, sizeLine_eq]; (first|lia|omega)
 refine set_map I.kIn O c.sa c.po n.taker c.hd wi hz fun h' O' sb => h _ ?_
 have hd : ∃ o, h'.get? dx = some o := let ⟨o, _, _, e', _⟩ := O'.ns; ⟨o, e'⟩
 refine I.write (x := a) (e := dx) (by rw [e]; exact True.intro) (.inr ho) (fun b q hb z => (sb.2 b hb).trans z) hd ?_
 refine ⟨by rw [zK O.ne]; exact ho, ?_, O.ne, O'.obj, _, O'.ns, fun g => ?_, fun g hg => ?_⟩
 ·have := length_putF f y fs; (first|lia|omega)
 ·show RelO ((putF f y fs).lookup g) (if g = f then some u else mA g)
  rw [wB]
  by_cases q : g = f
  ·rw [if_pos q, if_pos q]; exact ry
  ·rw [if_neg q, if_neg q]; exact r g
 ·by_cases q : g = f
  ·rw [q]; exact (qQ f y fs).1
  ·refine (qQ f y fs).2 g (wi g fun z => hg ?_)
   show (if g = f then some u else mA g) = none
   rw [if_neg q]; exact z

theorem Inv.made (I : Inv X pins σ H s) : Inv X pins σ (upd (upd H s.heap.objs.size (.own (s.heap.objs.size + 1))) (s.heap.objs.size + 1) (.ins C s.heap.objs.size []))
  { s with heap := (s.heap.push PySem.W.emptyDict).push (PySem.W.instObj C s.heap.objs.size) } := by
 have e1 : (s.heap.push PySem.W.emptyDict).get? s.heap.objs.size = some PySem.W.emptyDict := Heap.get?_push_size s.heap rfl
 have e2 : ((s.heap.push PySem.W.emptyDict).push (PySem.W.instObj C s.heap.objs.size)).get? (s.heap.objs.size + 1) = some (PySem.W.instObj C s.heap.objs.size) := by
  have := Heap.get?_push_size (s.heap.push PySem.W.emptyDict) (o := PySem.W.instObj C s.heap.objs.size) rfl
  rwa [Heap.size_push] at this
 have e3 : (s.heap.push PySem.W.emptyDict).Ns s.heap.objs.size (fun _ => none) := ⟨PySem.W.emptyDict, #[], _, e1, rfl, (fun e he => absurd he (by simp)), fun _ => rfl⟩
 have I1 := I.laid (a := s.heap.objs.size) (o := .own (s.heap.objs.size + 1)) (h' := s.heap.push PySem.W.emptyDict) (t' := s.toks) (fun b u q => Heap.get?_push_of_some _ q) (Nat.le_refl _) ⟨_, e1⟩
 refine I1.laid (a := s.heap.objs.size + 1) (o := .ins C s.heap.objs.size []) (t' := s.toks) (fun b u q => Heap.get?_push_of_some _ q) (Nat.le_of_eq (Heap.size_push _ _)) ?_
 have ne : s.heap.objs.size ≠ s.heap.objs.size + 1 := Nat.ne_of_lt (Nat.lt_succ_self _)
 refine ⟨by rw [zK ne, zB], Nat.zero_le _, ne, e2, fun _ => none, (Heap.Ns1.of_empty e3).at fun o q => Heap.get?_push_of_some _ q, fun _ => True.intro, fun y hy => absurd rfl hy⟩

theorem attr_of {prog : Program} {w : World} {env : Env} {e : Expr} {f : Str} {pos : Pos} {s : Shared} {Q : Value -> Shared -> Prop} (hb : attributeBase e f env (eval e env) = eval e env)
  (h : wpAny (model prog w) A (eval e env) (fun o s₁ => wpAny (model prog w) A (getAttr o f true) Q E s₁) E s) : wpAny (model prog w) A (eval (.Attribute e f pos) env) Q E s :=
 Attribute_any_ h (by rw [arm_eval_Attribute, hb])
end

def tFld (K : PySem.W.Frag) (ta : TE) (f : Str) : TE := fun σ H Q => ta σ H fun x H1 => ∃ a C dx fs v, x = .ref a /\ H1 a = some (.ins C dx fs) /\ Cls K C /\ NoAttr K C f /\ fs.lookup f = some v /\ Q v H1
def sFld (K : PySem.W.Frag) (ta tv : TE) (f : Str) : TS := fun D σ H => tv σ H fun y H1 => ta σ H1 fun x H2 => ∃ a C dx fs, x = .ref a /\ H2 a = some (.ins C dx fs) /\ Cls K C /\ NoAttr K C f /\ fs.length < 1000 /\
 D.nx σ (upd H2 a (.ins C dx (putF f y fs)))
def InOp (X : Cx) (op : Operator) (rd : V -> V -> Hp -> VK -> Prop) : Prop :=
 ∀ (pins : List (Addr × Obj)) (s : Shared) (σ : St) (H : Hp) (x y : V) (u v : Value) (Q : VK), Inv X pins σ H s -> RelV x u -> RelV y v -> rd x y H Q -> wpAny (model X.prog X.w) X.A (inplaceOp op u v) (EP X pins σ Q) X.xe s
def sFldAug (K : PySem.W.Frag) (ta tv : TE) (rd : V -> V -> Hp -> VK -> Prop) (f : Str) : TS := fun D σ H => ta σ H fun x H1 => ∃ a C dx fs v, x = .ref a /\ H1 a = some (.ins C dx fs) /\ Cls K C /\ NoAttr K C f /\ fs.lookup f = some v /\
 tv σ H1 fun y H2 => rd v y H2 fun z H3 => ∃ dx' fs', H3 a = some (.ins C dx' fs') /\ fs'.length < 1000 /\ D.nx σ (upd H3 a (.ins C dx' (putF f z fs')))

section
variable {X : Cx} {o e value : Expr} {f : Str} {pos pos' tpos : Pos} {ta tv : TE}
theorem xQ (he : PE X e ta) (hb : attributeBase e f X.env (eval e X.env) = eval e X.env) : PE X (.Attribute e f pos) (tFld X.K ta f) := by
 refine ⟨?_⟩
 intro pins s σ H Q I h
 refine attr_of hb (thn (he pins s σ H _ I h) fun u s1 hzz => ?_)
 obtain ⟨x, H1, I1, rx, a, C, dx, fs, v, ex, ea, c, n, l, q⟩ := hzz
 subst ex
 obtain rfl : u = Value.ref a := rx
 exact getattr_ok I1 ea c n l fun u' s2 I2 ru => ⟨v, H1, I2, ru, q⟩
theorem ps_fld (ha : PE X o ta) (hv : PE X value tv) (hs : swapsWith value (some (.Attribute o f pos')) pos.line X.env = pure false) : PS X (.Assign [.Attribute o f pos'] value pos) (sFld X.K ta tv f) := by
 refine ⟨?_⟩
 intro pins s σ H D I h
 refine plainObj_wpAny_Assign_Attribute (thn (hv pins s σ H _ I h) fun u s1 ⟨y, H1, I1, ry, q⟩ => thn (ha pins s1 σ H1 _ I1 q) fun ov s2 ⟨x, H2, I2, rx, a, C, dx, fs, ex, ea, c, n, l, q2⟩ => ?_) hs
 subst ex
 obtain rfl : ov = Value.ref a := rx
 exact setattr_ok I2 ea c n l ry fun s3 I3 => ⟨σ, _, I3, q2⟩
theorem kU {op : Operator} {rd : V -> V -> Hp -> VK -> Prop} (ha : PE X o ta) (hv : PE X value tv) (hop : InOp X op rd) : PS X (.AugAssign (.Attribute o f tpos) op value pos) (sFldAug X.K ta tv rd f) := by
 refine ⟨?_⟩
 intro pins s σ H D I h
 refine wpAny_AugAssign_AttributeAny (thn (ha pins s σ H _ I h) fun ov s1 hzz => ?_)
 obtain ⟨x, H1, I1, rx, a, C, dx, fs, v, ex, ea, c, n, l, q⟩ := hzz
 subst ex
 obtain rfl : ov = Value.ref a := rx
 refine getattr_ok I1 ea c n l fun u s2 I2 ru => thn (hv pins s2 σ H1 _ I2 q) fun w3 s3 ⟨y, H2, I3, ry, q3⟩ => thn (hop pins s3 σ H2 v y u w3 _ I3 ru ry q3) fun w4 s4 hzz => ?_
 obtain ⟨z, H3, I4, rz, dx', fs', ea', l', q4⟩ := hzz
 exact setattr_ok I4 ea' c n l' rz fun s5 I5 => ⟨σ, _, I5, q4⟩
def rAdd : V -> V -> Hp -> VK -> Prop := fun x y H Q => ∃ i j, x = .int i /\ y = .int j /\ Q (.int (i + j)) H
def rSub : V -> V -> Hp -> VK -> Prop := fun x y H Q => ∃ i j, x = .int i /\ y = .int j /\ Q (.int (i - j)) H
theorem in_add : InOp X .Add rAdd := by
 rintro pins s σ H x y u v Q I rx ry ⟨i, j, rfl, rfl, q⟩
 obtain ⟨t, rfl⟩ := (show ∃ t, u = Value.int i t from rx)
 obtain ⟨t', rfl⟩ := (show ∃ t', v = Value.int j t' from ry)
 exact PyProof.Rows.iadd_int ⟨.int (i + j), H, I.tok _, ⟨_, rfl⟩, q⟩
theorem in_sub : InOp X .Sub rSub := by
 rintro pins s σ H x y u v Q I rx ry ⟨i, j, rfl, rfl, q⟩
 obtain ⟨t, rfl⟩ := (show ∃ t, u = Value.int i t from rx)
 obtain ⟨t', rfl⟩ := (show ∃ t', v = Value.int j t' from ry)
 exact PyProof.Rows.isub_int ⟨.int (i - j), H, I.tok _, ⟨_, rfl⟩, q⟩

end

section
variable {X : Cx} {pins : List (Addr × Obj)} {σ : St} {H : Hp} {s : Shared} {A : Around} {E : Value -> Shared -> Prop} {Q : Value -> Shared -> Prop} {c : Value} {b : Bool}
inductive TyOf (K : PySem.W.Frag) (H : Hp) : V -> Value -> Prop where
 | non : TyOf K H .non (.type "NoneType")
 | bl (x : Bool) : TyOf K H (.bl x) (.type "bool")
 | int (i : Int) : TyOf K H (.int i) (.type "int")
 | str (x : Str) : TyOf K H (.str x) (.type "str")
 | flt (x : UInt64) : TyOf K H (.flt x) (.type "float")
 | lst {a : Addr} {xs : List V} (e : H a = some (.lst xs)) : TyOf K H (.ref a) (.type "list")
 | frz {a : Addr} {o : Obj} {xs : List V} (e : H a = some (.frz o (.lst xs))) : TyOf K H (.ref a) (.type "list")
 | tup {a : Addr} {xs : List V} (e : H a = some (.tup xs)) : TyOf K H (.ref a) (.type "tuple")
 | dK {a : Addr} {kvs : List (Key × V)} (e : H a = some (.dK kvs)) : TyOf K H (.ref a) (.type "dict")
 | dT {a : Addr} {kvs : List (List Key × V)} (e : H a = some (.dT kvs)) : TyOf K H (.ref a) (.type "dict")
 | ins {a C dx : Addr} {fs : List (Str × V)} (e : H a = some (.ins C dx fs)) (cl : Cls K C) (ha : PySem.W.findIn K (.ref C) "__class__" = some (some (.builtin "object.__class__")))
   (hn : PySem.W.specialIn K (.builtin "object.__class__") "__get__" = some (some (.builtin "getset_descriptor.__get__"))) (htk : PySem.W.takesIn K (.builtin "object.__class__") = some true)
   (hm : PySem.W.mroIn K C (.type "object") = some true) : TyOf K H (.ref a) (.ref C)
theorem isinst_ok {x : V} {u t : Value} (I : Inv X pins σ H s) (rx : RelV x u) (ty : TyOf X.K H x t) (e : PySem.W.kitOne X.K t c = some b) (h : ∀ tk, Q (.bool b) { s with toks := tk }) :
  wpAny (model X.prog X.w) A (call (.builtin "isinstance") [u, c]) Q E s := by
 cases ty with
 | non => cases (show u = Value.none from rx); exact PySem.W.kia_one PySem.W.kitx_none I.kIn True.intro e (fun z => nomatch z) h
 | bl y => cases (show u = Value.bool y from rx); exact PySem.W.kia_one PySem.W.kitx_bool I.kIn True.intro e (fun z => nomatch z) h
 | int i => obtain ⟨t, q⟩ := (show ∃ t, u = Value.int i t from rx); cases q; exact PySem.W.kia_one PySem.W.kitx_int I.kIn True.intro e (fun z => nomatch z) h
 | str y => obtain ⟨t, q⟩ := (show ∃ t, u = Value.str y t from rx); cases q; exact PySem.W.kia_one PySem.W.kitx_str I.kIn True.intro e (fun z => nomatch z) h
 | flt y => obtain ⟨t, q⟩ := (show ∃ t, u = Value.float y t from rx); cases q; exact PySem.W.kia_one PySem.W.kitx_float I.kIn True.intro e (fun z => nomatch z) h
 | @lst a xs ea =>
  cases (show u = Value.ref a from rx)
  obtain ⟨_, _, n, _, h1⟩ := (show ObjOk X.prog X.w H s.heap a (.lst xs) from I.hok a _ ea)
  exact PySem.W.kia_one PySem.W.kitx_list I.kIn ⟨_, h1, rfl⟩ e (fun z => nomatch z) h
 | @frz a ob xs ea =>
  cases (show u = Value.ref a from rx)
  obtain ⟨_, _, _, n, _, h1⟩ := (show ObjOk X.prog X.w H s.heap a (.frz ob (.lst xs)) from I.hok a _ ea)
  exact PySem.W.kia_one PySem.W.kitx_list I.kIn ⟨_, h1, rfl⟩ e (fun z => nomatch z) h
 | @tup a xs ea =>
  cases (show u = Value.ref a from rx)
  obtain ⟨_, _, _, p⟩ := (show ObjOk X.prog X.w H s.heap a (.tup xs) from I.hok a _ ea)
  obtain ⟨o, h1, h2, _⟩ := p
  exact PySem.W.kia_one PySem.W.kitx_tuple I.kIn ⟨o, h1, h2⟩ e (fun z => nomatch z) h
 | @dK a kvs ea =>
  cases (show u = Value.ref a from rx)
  obtain ⟨_, _, vs, _, p⟩ := (show ObjOk X.prog X.w H s.heap a (.dK kvs) from I.hok a _ ea)
  obtain ⟨o, es, ep, h1, h2, _⟩ := p
  exact PySem.W.kia_one PySem.W.kitx_dict I.kIn ⟨o, h1, h2.1⟩ e (fun z => nomatch z) h
 | @dT a kvs ea =>
  cases (show u = Value.ref a from rx)
  obtain ⟨_, _, xs, _, o, es, ep, h1, h2, _⟩ := (show ObjOk X.prog X.w H s.heap a (.dT kvs) from I.hok a _ ea)
  exact PySem.W.kia_one PySem.W.kitx_dict I.kIn ⟨o, h1, h2.1⟩ e (fun z => nomatch z) h
 | @ins a C dx fs ea cl ha hn htk hm =>
  cases (show u = Value.ref a from rx)
  obtain ⟨mA, O, _⟩ := ins_get I.hok ea
  obtain ⟨od, J, _⟩ := O.look
  exact PySem.W.kia_one (PySem.W.kitx_own (cl.get _) cl.hd ha hn htk hm) I.kIn J e (fun z => nomatch z) h
end
end L2

namespace L2
open PySem PySem.Spec PyProof.Rows

structure Room (k : Nat) (A : Around) : Prop where
 hd : A.handled = none
 dp : A.depth + 3 * k + 5 < recursionLimit
 un : A.units + 16 * k + 200 < cLine
theorem Room.mono {j k : Nat} {A : Around} (r : Room k A) (h : j <= k) : Room j A := ⟨r.hd, by have := r.dp; (first|lia|omega), by have := r.un; (first|lia|omega)⟩
theorem Room.deeper {k : Nat} {A : Around} (r : Room (k + 1) A) (env : Env) : Room k (A.deeper env) :=
 ⟨r.hd, by have := r.dp; show A.depth + 1 + 3 * k + 5 < _; (first|lia|omega), by have := r.un; show A.units + 3 + 16 * k + 200 < _; (first|lia|omega)⟩
theorem make_depth {A : Around} {C : Addr} {us : List Value} {kw : List (Str × Value)} : (A.under (.builtin "type.__call__" ⟨.ref C :: us, kw⟩)).depth = A.depth + 1 := by
 first | rfl | simp [Around.under, Code.weight, Code.isCreation, Code.isGuard, Code.isCaller, Code.frames, Code.isFrame, guardIds]
theorem make_units {A : Around} {C : Addr} {us : List Value} {kw : List (Str × Value)} : (A.under (.builtin "type.__call__" ⟨.ref C :: us, kw⟩)).units = A.units + 1 := by
 first | rfl | simp [Around.under, Code.cUnits, Code.frames, Code.isFrame]
theorem Room.make {k : Nat} {A : Around} (r : Room (k + 1) A) (C : Addr) (us : List Value) (kw : List (Str × Value)) : Room k (A.under (.builtin "type.__call__" ⟨.ref C :: us, kw⟩)) :=
 ⟨r.hd, by have := r.dp; rw [make_depth]; (first|lia|omega), by have := r.un; rw [make_units]; (first|lia|omega)⟩
theorem Room.depth {k : Nat} {A : Around} (r : Room k A) : A.depth < recursionLimit := by have := r.dp; (first|lia|omega)
theorem Room.units {k : Nat} {A : Around} (r : Room k A) : A.units + 64 < cLine := by have := r.un; (first|lia|omega)
def tNil : TA := fun _ H Q => Q [] H
def tCons (ta : TE) (tr : TA) : TA := fun σ H Q => ta σ H fun x H1 => tr σ H1 fun xs H2 => Q (x :: xs) H2
section
variable {X : Cx} {e : Expr} {es : List Expr} {te : TE} {t : TA} {pos : Pos}
theorem zC : PA X [] tNil := ⟨fun _ _ _ _ H Q I h => Calls.spliced_nil ⟨[], H, I, .nil, h⟩⟩
theorem zA (ha : PE X e te) (hr : PA X es t) (hs : starEach (e :: es) X.env = (false, eval e X.env) :: starEach es X.env := by rfl) : PA X (e :: es) (tCons te t) := by
 refine ⟨?_⟩
 intro pos pins s σ H Q I h
 rw [hs]
 show wpAny _ _ (spliced ((false, eval e X.env) :: backTo pos (starEach es X.env))) _ _ s
 refine Calls.spliced_cons (thn (ha pins s σ H _ I h) fun u s1 hzz => ?_)
 obtain ⟨x, H1, I1, r1, q1⟩ := hzz
 exact thn (hr pos pins s1 σ H1 _ I1 q1) fun us s2 ⟨xs, H2, I2, r2, q2⟩ => ⟨x :: xs, H2, I2, .cons r1 r2, q2⟩

def tTup (t : TA) : TE := fun σ H Q => t σ H fun xs H1 => xs.length <= sizeLine /\ ∀ p, H1 p = none -> Q (.ref p) (upd H1 p (.tup xs))
def tLst (t : TA) : TE := fun σ H Q => t σ H fun xs H1 => xs.length <= sizeLine /\ ∀ p, H1 p = none -> Q (.ref p) (upd H1 p (.lst xs))
theorem zL {x1} (h : PA X es t) : PE X (.Tuple es x1 pos) (tTup t) := by
 refine ⟨?_⟩
 intro pins s σ H Q I hq
 refine wpAny_Tuple_spliced (thn (h pos pins s σ H _ I hq) fun us s1 ⟨xs, H1, I1, r, z, q⟩ => ⟨by rw [<- r.length]; exact z, ?_⟩)
 have hf : H1 s1.heap.objs.size = none := I1.hok.fresh (Nat.le_refl _)
 refine ⟨.ref s1.heap.objs.size, upd H1 s1.heap.objs.size (.tup xs), I1.laid (t' := s1.toks) (fun b u e => Heap.get?_push_of_some _ e) (Nat.le_refl _) ?_, rfl, q _ hf⟩
 exact ⟨z, us, r, ⟨_, Heap.get?_push_size _ rfl, rfl, _, rfl⟩⟩
theorem yC (h : PA X es t) : PE X (.List es pos) (tLst t) := by
 refine ⟨?_⟩
 intro pins s σ H Q I hq
 refine wpAny_List_spliced (thn (h pos pins s σ H _ I hq) fun us s1 ⟨xs, H1, I1, r, z, q⟩ => ⟨by rw [<- r.length]; exact z, ?_⟩)
 have hf : H1 s1.heap.objs.size = none := I1.hok.fresh (Nat.le_refl _)
 refine ⟨.ref s1.heap.objs.size, upd H1 s1.heap.objs.size (.lst xs), I1.laid (t' := s1.toks) (fun b u e => Heap.get?_push_of_some _ e) (Nat.le_refl _) ?_, rfl, q _ hf⟩
 exact ⟨z, us, 0, r, Heap.get?_push_size _ rfl⟩
end

abbrev Sp := List V -> Hp -> VK -> XK -> Prop
abbrev CXT := List Env -> Hp -> Shared -> XK -> Value -> Shared -> Prop

structure Env0 (P : Program) (w : World) (K : PySem.W.Frag) (mg : Str -> Option Value) (base : Heap) (A : Around) (outer : List Env) (s : Shared) (H : Hp) : Prop where
 frames : A.frames = some outer
 mod : Mod K mg base
 bs : ∀ b o, base.get? b = some o -> s.heap.get? b = some o /\ H b = none
 bsz : base.objs.size <= s.heap.objs.size
 funs : s.heap.FunFrames base outer
 frf : ∀ b ∈ frs outer, H b = none
 hok : HOk P w H s.heap
 bare : AllBare s.gens
def CE (outer : List Env) (P : Program) (w : World) (H : Hp) (s : Shared) (Q : VK) (u : Value) (s' : Shared) : Prop :=
 ∃ v H', s'.os = s.os /\ AllBare s'.gens /\ Un (frs outer) [] H H' s.heap s'.heap /\ HOk P w H' s'.heap /\ RelV v u /\ Q v H'
def CR (CX : CXT) (outer : List Env) (P : Program) (w : World) (H : Hp) (s : Shared) (Q : VK) (E : XK) (r : Result) (s' : Shared) : Prop :=
 match r with
 | .ok (.ret u) => CE outer P w H s Q u s'
 | .ok _ => False
 | .error e => CX outer H s E e s'
structure FnOk (P : Program) (w : World) (K : PySem.W.Frag) (mg : Str -> Option Value) (base : Heap) (CX : CXT) (k : Nat) (f : Addr) (fd : FuncData) (ps : List Str) (sp : Sp) : Prop where
 len : ∀ vs H Q E, sp vs H Q E -> vs.length = ps.length
 run : ∀ (A : Around) (outer : List Env) (s : Shared) (H : Hp) (args : Args) (us : List Value) (vs : List V) (Q : VK) (E : XK), Room k A -> Env0 P w K mg base A outer s H -> BindsTo s fd args (ps.zip us) -> Vals vs us -> sp vs H Q E ->
  codeAny (model P w) A (.call (.ref f) args) (CR CX outer P w H s Q E) s
theorem FnOk.mono {P : Program} {w : World} {K : PySem.W.Frag} {mg : Str -> Option Value} {base : Heap} {CX : CXT} {j k : Nat} {f : Addr} {fd : FuncData} {ps : List Str} {sp : Sp} (F : FnOk P w K mg base CX j f fd ps sp) (h : j <= k) :
  FnOk P w K mg base CX k f fd ps sp := ⟨F.len, fun A outer s H args us vs Q E hr => F.run A outer s H args us vs Q E (hr.mono h)⟩
theorem FnOk.imp {P : Program} {w : World} {K : PySem.W.Frag} {mg : Str -> Option Value} {base : Heap} {CX : CXT} {k : Nat} {f : Addr} {fd : FuncData} {ps : List Str} {sp sp' : Sp} (F : FnOk P w K mg base CX k f fd ps sp)
  (h : ∀ vs H Q E, sp' vs H Q E -> sp vs H Q E) : FnOk P w K mg base CX k f fd ps sp' :=
 ⟨fun vs H Q E q => F.len vs H Q E (h _ _ _ _ q), fun A outer s H args us vs Q E hr he hb hv hs => F.run A outer s H args us vs Q E hr he hb hv (h _ _ _ _ hs)⟩

theorem Env0.make {P : Program} {w : World} {K : PySem.W.Frag} {mg : Str -> Option Value} {base : Heap} {A : Around} {outer : List Env} {s : Shared} {H : Hp} (e : Env0 P w K mg base A outer s H) (C : Addr) (us : List Value) (kw : List (Str × Value)) :
  Env0 P w K mg base (A.under (.builtin "type.__call__" ⟨.ref C :: us, kw⟩)) outer s H := ⟨by first | exact e.frames | (simpa [Around.under, Code.envs, Code.isFrame, pushEnvs] using e.frames), e.mod, e.bs, e.bsz, e.funs, e.frf, e.hok, e.bare⟩
section
variable {X : Cx} {pins : List (Addr × Obj)} {σ : St} {H : Hp} {s s' : Shared}
theorem Inv.env0 (I : Inv X pins σ H s) : Env0 X.prog X.w X.K X.mg X.base X.A X.stack s H :=
 ⟨I.ok.frames, I.ok.mod, I.bs, Nat.le_trans I.ok.bsz I.sz, I.stack, I.stkFree, I.hok, I.bare⟩
theorem Inv.after {Q : VK} {u : Value} (I : Inv X pins σ H s) (h : CE X.stack X.prog X.w H s Q u s') : EP X pins σ Q u s' := by
 obtain ⟨v, H', os, bare, un, hok, r, q⟩ := h
 obtain ⟨hh, g, d, t, os'⟩ := s'
 obtain rfl : os' = s.os := os
 exact ⟨v, H', I.call (h' := hh) (g' := g) (d' := d) (t' := t) (ch := []) un hok bare (fun b z => absurd z (by simp)), r, q⟩
end

def tCall (sp : Sp) (dvs : List V) (E : XK) (t : TA) : TE := fun σ H Q => t σ H fun vs H1 => sp (vs ++ dvs) H1 Q E
def tMeth (C : Addr) (m : Str) (sp : Sp) (dvs : List V) (E : XK) (ta : TE) (t : TA) : TE := fun σ H Q => ta σ H fun x H1 => ∃ a dx fs, x = .ref a /\ H1 a = some (.ins C dx fs) /\ fs.lookup m = none /\
 t σ H1 fun vs H2 => sp (x :: (vs ++ dvs)) H2 Q E
def tMake (C : Addr) (sp : Sp) (dvs : List V) (E : XK) (t : TA) : TE := fun σ H Q => t σ H fun vs H1 => ∀ x dx, H1 x = none -> H1 dx = none -> dx ≠ x ->
 sp (.ref x :: (vs ++ dvs)) (upd (upd H1 dx (.own x)) x (.ins C dx [])) (fun v H2 => v = .non /\ Q (.ref x) H2) E

def Binds (K : PySem.W.Frag) (fd : FuncData) (ps : List Str) (ds : List Value) : Prop :=
 ∀ (s : Shared) (us : List Value), K.In s.heap -> (us ++ ds).length = ps.length -> BindsTo s fd ⟨us, []⟩ (ps.zip (us ++ ds))
theorem Binds.all {K : PySem.W.Frag} {fd : FuncData} {ps : List Str} (h : ∀ us : List Value, us.length = ps.length -> bindArgs fd ⟨us, []⟩ = pure (ps.zip us)) : Binds K fd ps [] := fun s us _ hl => by
 rw [List.append_nil] at hl ⊢
 exact .of_eq (h us hl)

def Passes (CX : CXT) (X : Cx) (E : XK) : Prop := ∀ (pins : List (Addr × Obj)) (σ : St) (H : Hp) (s : Shared) (e : Value) (s' : Shared), Inv X pins σ H s -> CX X.stack H s E e s' -> X.xe e s'

section
variable {X : Cx} {CX : CXT} {k : Nat} {f C : Addr} {fd : FuncData} {ps : List Str} {sp : Sp} {dvs : List V} {ds : List Value} {E : XK} {x m : Str} {p pos apos : Pos} {e o : Expr} {es : List Expr} {ta : TE} {t : TA}

theorem run_fn {pins : List (Addr × Obj)} {σ : St} {H : Hp} {s : Shared} {Q : VK} {us : List Value} {vs : List V} (F : FnOk X.prog X.w X.K X.mg X.base CX k f fd ps sp) (hr : Room k X.A) (hb : Binds X.K fd ps ds) (hd : Vals dvs ds) (hx : Passes CX X E)
  (I : Inv X pins σ H s) (r : Vals vs us) (h : sp (vs ++ dvs) H Q E) : wpAny (model X.prog X.w) X.A (call (.ref f) us) (EP X pins σ Q) X.xe s := by
 have r2 : Vals (vs ++ dvs) (us ++ ds) := r.append hd
 have hl : (us ++ ds).length = ps.length := by rw [<- r2.length]; exact F.len _ _ _ _ h
 refine wpAny_call (codeAny_mono (F.run X.A X.stack s H ⟨us, []⟩ (us ++ ds) (vs ++ dvs) Q E hr I.env0 (hb s us I.kIn hl) r2 h) fun r s' hq => ?_)
 cases r with
 | error e => exact hx pins σ H s e s' I hq
 | ok fl =>
  cases fl with
  | ret u => exact I.after hq
  | next => exact False.elim hq
  | brk => exact False.elim hq
  | cont => exact False.elim hq

theorem pe_call (F : FnOk X.prog X.w X.K X.mg X.base CX k f fd ps sp) (hr : Room k X.A) (hg : Gl X x) (hm : X.mg x = some (.ref f)) (hk : PySem.W.keepIn X.K (.ref f) = true) (hb : Binds X.K fd ps ds) (hd : Vals dvs ds) (hx : Passes CX X E)
  (ha : PA X (e :: es) t) (hdb : (x == ("__debug__" : Str)) = false := by decide) (he : starEach (e :: es) X.env = (false, eval e X.env) :: starEach es X.env := by rfl) (hpl : (backTo pos (starEach es X.env)).any (·.1) = false := by rfl) :
  PE X (.Call (.Name x p) (e :: es) [] pos) (tCall sp dvs E t) := by
 refine ⟨?_⟩
 intro pins s σ H Q I h
 refine wpAny_Call_Name_kw (qV I hg hm ?_ hdb)
 refine PySem.W.callWith_K (h₀ := X.base) I.ok.mod.kin hk (thn (ha pos pins s σ H _ I h) fun us s1 ⟨vs, H1, I1, r, q⟩ => ⟨I1.kIn, ?_⟩) he hpl
 exact run_fn F hr hb hd hx I1 r q
theorem pe_meth {pl : Sem Bool} (he : PE X o ta) (c : Cls X.K C) (hm : Meth X.K C m f) (F : FnOk X.prog X.w X.K X.mg X.base CX k f fd ps sp) (hr : Room k X.A) (hb : Binds X.K fd ps ds) (hd : Vals dvs ds) (hx : Passes CX X E) (ha : PA X (e :: es) t)
  (hst : starEach (e :: es) X.env = (false, eval e X.env) :: starEach es X.env := by rfl) (hpl : (backTo pos (starEach es X.env)).any (·.1) = false := by rfl)
  (ht : eval (.Call (.Attribute o m apos) (e :: es) [] pos) X.env = (do
   let ov <- eval o X.env
   standAt apos.atName
   let (f, first) <- holding [ov] (getMethod ov m pl)
   callWith pos f first (backTo pos (starEach (e :: es) X.env)) (backToKw pos (keywordEach [] X.env))) := by rfl) :
  PE X (.Call (.Attribute o m apos) (e :: es) [] pos) (tMeth C m sp dvs E ta t) := by
 refine ⟨?_⟩
 intro pins s σ H Q I h
 refine PySem.W.methodCall_KW (pl := pl) (thn (he pins s σ H _ I h) fun u s1 ⟨x, H1, I1, rx, a, dx, fs, ex, ea, l, q⟩ => ?_) ht
 subst ex
 obtain rfl : u = Value.ref a := rx
 refine getmeth_ok I1 ea c hm l ?_
 refine PySem.W.callWith_K (first := [.ref a]) (h₀ := X.base) I.ok.mod.kin hm.kp (thn (ha pos pins s1 σ H1 _ I1 q) fun us s2 ⟨vs, H2, I2, r, q2⟩ => ⟨I2.kIn, ?_⟩) hst hpl
 exact run_fn (us := .ref a :: us) (vs := .ref a :: vs) F hr hb hd hx I2 (.cons rfl r) q2
theorem pe_meth0 {pl : Sem Bool} (he : PE X o ta) (c : Cls X.K C) (hm : Meth X.K C m f) (F : FnOk X.prog X.w X.K X.mg X.base CX k f fd ps sp) (hr : Room k X.A) (hb : Binds X.K fd ps ds) (hd : Vals dvs ds) (hx : Passes CX X E)
  (ht : eval (.Call (.Attribute o m apos) [] [] pos) X.env = (do
   let ov <- eval o X.env
   standAt apos.atName
   let (f, first) <- holding [ov] (getMethod ov m pl)
   callWith pos f first (backTo pos (starEach [] X.env)) (backToKw pos (keywordEach [] X.env))) := by rfl) :
  PE X (.Call (.Attribute o m apos) [] [] pos) (tMeth C m sp dvs E ta tNil) := by
 refine ⟨?_⟩
 intro pins s σ H Q I h
 refine PySem.W.methodCall_KW (pl := pl) (thn (he pins s σ H _ I h) fun u s1 ⟨x, H1, I1, rx, a, dx, fs, ex, ea, l, q⟩ => ?_) ht
 subst ex
 obtain rfl : u = Value.ref a := rx
 refine getmeth_ok I1 ea c hm l ?_
 exact PySem.W.callWith_K0 (first := [.ref a]) I1.kIn hm.kp (run_fn (us := [.ref a]) (vs := [.ref a]) F hr hb hd hx I1 (.cons rfl .nil) q)

structure Mk (K : PySem.W.Frag) (C f : Addr) : Prop where
 makes : PySem.W.makesIn K C = true
 init : PySem.W.findIn K (.ref C) "__init__" = some (some (.ref f))
 fn : PySem.W.isFn K (.ref f) = true
 kp : PySem.W.keepIn K (.ref C) = true

theorem run_make {pins : List (Addr × Obj)} {σ : St} {H : Hp} {s : Shared} {Q : VK} {us : List Value} {vs : List V} (M : Mk X.K C f) (F : FnOk X.prog X.w X.K X.mg X.base CX k f fd ps sp) (hr : Room (k + 1) X.A) (hb : Binds X.K fd ps ds) (hd : Vals dvs ds)
  (hx : Passes CX X E) (I : Inv X pins σ H s) (r : Vals vs us)
  (h : ∀ x dx, H x = none -> H dx = none -> dx ≠ x -> sp (.ref x :: (vs ++ dvs)) (upd (upd H dx (.own x)) x (.ins C dx [])) (fun v H2 => v = .non /\ Q (.ref x) H2) E) :
  wpAny (model X.prog X.w) X.A (call (.ref C) us) (EP X pins σ Q) X.xe s := by
 have hq := h (s.heap.objs.size + 1) s.heap.objs.size (I.hok.fresh (Nat.le_succ _)) (I.hok.fresh (Nat.le_refl _)) (Nat.ne_of_lt (Nat.lt_succ_self _))
 have I2 := Inv.made (C := C) I
 have r2 : Vals (V.ref (s.heap.objs.size + 1) :: (vs ++ dvs)) (Value.ref (s.heap.objs.size + 1) :: (us ++ ds)) := .cons rfl (r.append hd)
 have hl : (Value.ref (s.heap.objs.size + 1) :: us ++ ds).length = ps.length := by
  have e := r2.length
  rw [F.len _ _ _ _ hq] at e
  exact e.symm
 refine wpAny_call (make_map (f := f) I.kIn M.makes M.init (beq_iff_eq.mp M.fn) (codeAny_mono (F.run _ X.stack _ _ ⟨Value.ref (s.heap.objs.size + 1) :: us, []⟩ (Value.ref (s.heap.objs.size + 1) :: (us ++ ds)) _ _ E (hr.make C us [])
  (I2.env0.make C us []) (hb _ (Value.ref (s.heap.objs.size + 1) :: us) I2.kIn hl) r2 hq) fun r s' hq' => ?_))
 cases r with
 | error e => exact hx pins σ _ _ e s' I2 hq'
 | ok fl =>
  cases fl with
  | ret u =>
   obtain ⟨v, H', I3, rv, ev, q3⟩ := I2.after hq'
   subst ev
   exact ⟨rv, ⟨V.ref (s.heap.objs.size + 1), H', I3, rfl, q3⟩⟩
  | next => exact False.elim hq'
  | brk => exact False.elim hq'
  | cont => exact False.elim hq'
theorem pe_make (M : Mk X.K C f) (F : FnOk X.prog X.w X.K X.mg X.base CX k f fd ps sp) (hr : Room (k + 1) X.A) (hg : Gl X x) (hm : X.mg x = some (.ref C)) (hb : Binds X.K fd ps ds) (hd : Vals dvs ds) (hx : Passes CX X E)
  (ha : PA X (e :: es) t) (hdb : (x == ("__debug__" : Str)) = false := by decide) (he : starEach (e :: es) X.env = (false, eval e X.env) :: starEach es X.env := by rfl) (hpl : (backTo pos (starEach es X.env)).any (·.1) = false := by rfl) :
  PE X (.Call (.Name x p) (e :: es) [] pos) (tMake C sp dvs E t) := by
 refine ⟨?_⟩
 intro pins s σ H Q I h
 refine wpAny_Call_Name_kw (qV I hg hm ?_ hdb)
 refine PySem.W.callWith_K (h₀ := X.base) I.ok.mod.kin M.kp (thn (ha pos pins s σ H _ I h) fun us s1 ⟨vs, H1, I1, r, q⟩ => ⟨I1.kIn, ?_⟩) he hpl
 exact run_make M F hr hb hd hx I1 r q
end

structure PK (X : Cx) (kws : List Keyword) (t : TA)  : Prop where
 go : ∀ (pos : Pos) (pins : List (Addr × Obj)) (s : Shared) (σ : St) (H : Hp) (Q : List V -> Hp -> Prop), Inv X pins σ H s -> t σ H Q -> wpAny (model X.prog X.w) X.A (evalAll ((backToKw pos (keywordEach kws X.env)).map (·.2))) (AP X pins σ Q) X.xe s
instance {X : Cx} {kws : List Keyword} {t : TA} : CoeFun (PK X kws t) (fun _ => ∀ (pos : Pos) (pins : List (Addr × Obj)) (s : Shared) (σ : St) (H : Hp) (Q : List V -> Hp -> Prop), Inv X pins σ H s -> t σ H Q -> wpAny (model X.prog X.w) X.A (evalAll ((backToKw pos (keywordEach kws X.env)).map (·.2))) (AP X pins σ Q) X.xe s) := ⟨PK.go⟩
section
variable {X : Cx} {CX : CXT} {k : Nat} {f C : Addr} {fd : FuncData} {ps ks : List Str} {sp : Sp} {E : XK} {x m : Str} {p pos apos kpos : Pos} {e o : Expr} {es : List Expr} {kws : List Keyword} {te ta : TE} {t tk : TA} {nm : Option Str}
variable {g : List Value -> List Value -> List Value} {gV : List V -> List V -> List V}
end

structure FnScope (N P : List Str) (sc : Scope) : Prop where
 kind : sc.kind = .function
 co : sc.isCoroutine = false
 gen : sc.isGenerator = false
 nd : N.Nodup
 pre : N.take P.length = P
 par : ∀ x ∈ P, sc.names.lookup x = some .local \/ sc.names.lookup x = some .cell
 nofree : ∀ y ∈ sc.names, y.2 ≠ .free

theorem bindL_out {kindOf : Str -> Option NameKind} {x : Str} : ∀ {binds : List (Str × Value)} {m : Str -> Option Value}, (∀ v, (x, v) ∉ binds) -> bindL kindOf binds m x = m x
 | [], _, _ => rfl
 | (n, v) :: r, m, h => by
  unfold bindL
  rw [bindL_out fun w hw => h w (List.mem_cons_of_mem _ hw)]
  split
  ·have : x ≠ n := by rintro rfl; exact h v List.mem_cons_self
   simp [this]
  ·rfl
theorem bindC_out {kindOf : Str -> Option NameKind} {x : Str} : ∀ {binds : List (Str × Value)} {m : Str -> Option Value}, (∀ v, (x, v) ∉ binds) -> bindC kindOf binds m x = m x
 | [], _, _ => rfl
 | (n, v) :: r, m, h => by
  unfold bindC
  rw [bindC_out fun w hw => h w (List.mem_cons_of_mem _ hw)]
  split
  ·rfl
  ·have : x ≠ n := by rintro rfl; exact h v List.mem_cons_self
   simp [this]
theorem bindL_get {kindOf : Str -> Option NameKind} {x : Str} {v : Value} : ∀ {P : List Str} {vs : List Value} {i : Nat} {m : Str -> Option Value}, P.Nodup -> P[i]? = some x -> vs[i]? = some v -> kindOf x = some .local ->
  bindL kindOf (P.zip vs) m x = some v
 | [], _, _, _, _, h, _, _ => by simp at h
 | _ :: _, [], _, _, _, _, h, _ => by simp at h
 | p :: P, w :: vs, 0, m, nd, h1, h2, hk => by
  simp at h1 h2; subst h1; subst h2
  show bindL kindOf ((p, w) :: P.zip vs) m p = _
  unfold bindL
  rw [bindL_out fun v hv => (List.nodup_cons.mp nd).1 (List.of_mem_zip hv).1, if_pos hk]
  simp
 | p :: P, w :: vs, i + 1, m, nd, h1, h2, hk => by
  show bindL kindOf ((p, w) :: P.zip vs) m x = _
  unfold bindL
  exact bindL_get (i := i) (List.nodup_cons.mp nd).2 (by simpa using h1) (by simpa using h2) hk
theorem bindC_get {kindOf : Str -> Option NameKind} {x : Str} {v : Value} : ∀ {P : List Str} {vs : List Value} {i : Nat} {m : Str -> Option Value}, P.Nodup -> P[i]? = some x -> vs[i]? = some v -> kindOf x ≠ some .local ->
  bindC kindOf (P.zip vs) m x = some v
 | [], _, _, _, _, h, _, _ => by simp at h
 | _ :: _, [], _, _, _, _, h, _ => by simp at h
 | p :: P, w :: vs, 0, m, nd, h1, h2, hk => by
  simp at h1 h2; subst h1; subst h2
  show bindC kindOf ((p, w) :: P.zip vs) m p = _
  unfold bindC
  rw [bindC_out fun v hv => (List.nodup_cons.mp nd).1 (List.of_mem_zip hv).1, if_neg hk]
  simp
 | p :: P, w :: vs, i + 1, m, nd, h1, h2, hk => by
  show bindC kindOf ((p, w) :: P.zip vs) m x = _
  unfold bindC
  exact bindC_get (i := i) (List.nodup_cons.mp nd).2 (by simpa using h1) (by simpa using h2) hk

def start (N : List Str) (vs : List V) : St := vs.map some ++ List.replicate (N.length - vs.length) none

def cxOf (CX : CXT) (P : Program) (w : World) (K : PySem.W.Frag) (mg : Str -> Option Value) (base : Heap) (N : List Str) (qual : Str) (scope : Scope) (f : Addr) (cd : Value) (A : Around) (outer : List Env) (s : Shared) (H : Hp) (E : XK) : Cx where
 prog := P
 w := w
 K := K
 mg := mg
 base := base
 A := A.deeper (envOfC qual scope s.heap.objs.size f cd)
 N := N
 s₀ := s
 H₀ := H
 env := envOfC qual scope s.heap.objs.size f cd
 outer := outer
 stack := envOfC qual scope s.heap.objs.size f cd :: outer
 ex := []
 calm := true
 fn := fun _ => true
 pn := []
 xe := fun e s' => wpAny (model P w) (A.deeper (envOfC qual scope s.heap.objs.size f cd)) (leaving (envOfC qual scope s.heap.objs.size f cd) e) (fun _ s'' => CX outer H s E e s'') (fun e' s'' => CX outer H s E e' s'') s'

theorem cell_has {sc : Scope} {n : Nat} {x : Str} (h : sc.names.lookup x = some .cell) : ∃ c, (cellsFrom n sc.names []).lookup x = some c := by
 have q := PySem.W.cellsFrom_some sc.names n [] (.inl h)
 exact Option.isSome_iff_exists.mp q

theorem inv_start {CX : CXT} {P : Program} {w : World} {K : PySem.W.Frag} {mg : Str -> Option Value} {base : Heap} {N ps : List Str} {qual : Str} {scope : Scope} {f : Addr} {cd : Value} {A : Around} {outer : List Env} {s s1 : Shared} {H : Hp} {E : XK} {us : List Value} {vs : List V}
  (S : FnScope N ps scope) (hd : A.handled = none) (e0 : Env0 P w K mg base A outer s H) (hl : vs.length = ps.length) (r : Vals vs us)
  (x : InCallC s s.heap.objs.size (bindL (envOfC qual scope s.heap.objs.size f cd).kindOf (ps.zip us) fun _ => none) (cellsFrom (s.heap.objs.size + 1) scope.names []) (bindC (envOfC qual scope s.heap.objs.size f cd).kindOf (ps.zip us) fun _ => none) s1) :
  Inv (cxOf CX P w K mg base N qual scope f cd A outer s H E) [] (start N vs) H s1 := by
 have hpl : ps.length <= N.length := by have := congrArg List.length S.pre; rw [List.length_take] at this; (first|lia|omega)
 obtain ⟨h1, tk, rfl, hk⟩ := x.done
 have noA : ∀ b : Addr, b ∉ (cxOf CX P w K mg base N qual scope f cd A outer s H E).ex := fun b z => absurd (show b ∈ ([] : List Addr) from z) (by simp)
 refine ⟨⟨e0.mod, S.kind, rfl, rfl, Nat.le_refl _, fun y z c h1 h2 => ?_, fun y hy => ?_, fun y c _ h => ?_, fun _ => hd, Around.frames_deeper e0.frames, .inr ⟨rfl, rfl⟩, fun b z => absurd z (noA b), e0.bs, e0.bsz, fun b _ _ => noA b, fun b z => absurd z (noA b), e0.funs, e0.frf⟩,
  rfl, e0.bare, Un.kept hk, ⟨_, x.toInCall.ns, fun i y v h1 h2 h3 => ?_⟩, fun y c h => ⟨_, x.cell y c h⟩, e0.hok.fresh (Nat.le_refl _), fun y c h => ?_, fun p hp => absurd (show p ∈ ([] : List (Addr × Obj)) from hp) (by simp), e0.hok.kept hk, ?_⟩
 ·exact name_of_addr x.apart (PySem.mem_of_lookup h1) (PySem.mem_of_lookup h2)
 ·have hy : scope.names.lookup y = some .cell \/ scope.names.lookup y = some .free := hy
  rcases hy with hy | hy
  ·exact cell_has hy
  ·exact absurd rfl (S.nofree _ (PySem.mem_of_lookup hy))
 ·exact Nat.le_of_lt (x.above y c (PySem.mem_of_lookup h))
 ·have hi : i < vs.length := by
   unfold start at h2
   by_cases hi : i < vs.length
   ·exact hi
   ·rw [List.getElem?_append_right (by simpa using hi)] at h2
    rw [List.getElem?_replicate] at h2
    split at h2 <;> cases h2
  have ha : vs[i]? = some v := by
   unfold start at h2
   rw [List.getElem?_append_left (by simpa using hi), List.getElem?_map] at h2
   cases e : vs[i]? with
   | none => rw [e] at h2; cases h2
   | some a => rw [e] at h2; cases h2; rfl
  obtain ⟨u, hu, rv⟩ := r.get ha
  have hp : ps[i]? = some y := by
   rw [<- S.pre, List.getElem?_take_of_lt (by (first|lia|omega))]; exact h1
  have ndP : ps.Nodup := by rw [<- S.pre]; exact S.nd.sublist (List.take_sublist _ _)
  refine ⟨u, rv, ?_⟩
  rcases S.par y (List.mem_of_getElem? hp) with k | k
  ·exact .inl ⟨k, bindL_get ndP hp hu k⟩
  ·obtain ⟨c, e⟩ := cell_has (n := s.heap.objs.size + 1) k
   refine .inr ⟨.inl k, c, e, ?_⟩
   have q := x.cell y c e
   rw [bindC_get ndP hp hu (by show scope.names.lookup y ≠ _; rw [k]; decide)] at q
   exact q
 ·exact e0.hok.fresh (Nat.le_of_lt (x.above y c (PySem.mem_of_lookup h)))
 ·unfold start
  show _ = N.length
  rw [List.length_append, List.length_map, List.length_replicate]
  (first|lia|omega)

theorem fn_of {CX : CXT} {P : Program} {w : World} {K : PySem.W.Frag} {mg : Str -> Option Value} {base : Heap} {k : Nat} {f : Addr} {name qual : Str} {params : Arguments} {body : List Stmt} {scope : Scope} {dV kV doc pm cdv ct oc : Value} {an od : Option Addr}
  {osl : Array (Option Value)} {N ps : List Str} {sp : Sp} (lk : K.lookup f = some ⟨oc, od, .func (PySem.W.fnOf name qual params body scope dV kV doc pm an cdv ct), osl⟩) (hcd : PySem.W.codeIn K cdv qual = true) (S : FnScope N ps scope)
  (len : ∀ vs H Q E, sp vs H Q E -> vs.length = ps.length)
  (hbody : ∀ (A : Around) (outer : List Env) (s : Shared) (H : Hp) (vs : List V) (Q : VK) (E : XK), Room k (A.deeper (envOfC qual scope s.heap.objs.size f cdv)) -> sp vs H Q E ->
   ∃ t, PSs (cxOf CX P w K mg base N qual scope f cdv A outer s H E) body t /\ t { nx := fun _ H' => Q .non H', rt := Q } (start N vs) H) :
  FnOk P w K mg base CX (k + 1) f (PySem.W.fnOf name qual params body scope dV kV doc pm an cdv ct) ps sp := by
 refine ⟨len, fun A outer s H args us vs Q E hr e0 hb r hsp => ?_⟩
 have hl := len _ _ _ _ hsp
 have KX : K.In s.heap := e0.mod.kin.keeps fun b o e => (e0.bs b o e).1
 have lim : s.heap.NoLimit := e0.mod.nolimit.keeps fun b o e => (e0.bs b o e).1
 have hkind : ∀ y ∈ ps.zip us, scope.names.lookup y.1 = some .local \/ (scope.names.lookup y.1 = some .cell /\ ((cellsFrom (s.heap.objs.size + 1) scope.names []).lookup y.1).isSome = true) := fun ⟨n, v⟩ hy => by
  rcases S.par n (List.of_mem_zip hy).1 with q | q
  ·exact .inl q
  ·exact .inr ⟨q, PySem.W.cellsFrom_some _ _ _ (.inl q)⟩
 refine codeAny_call_function hr.depth (KX _ _ lk) rfl S.co S.gen rfl (PySem.W.codeRec_of KX hcd) (hb _ _ _ _ ?_)
 refine wpAny_newFunctionEnv_cells S.kind hkind fun env he s1 x => ?_
 subst he
 refine ⟨lim.keeps x.toInCall.keep, codeAny_func ?_⟩
 obtain ⟨t, ht, hq⟩ := hbody A outer s H vs Q E (hr.deeper _) hsp
 have I : Inv (cxOf CX P w K mg base N qual scope f cdv A outer s H E) [] (start N vs) H s1 := inv_start S hr.hd e0 hl r x
 refine wpAny_mono (ht [] s1 (start N vs) H _ I hq) (fun fl s' hs => ?_) fun e s' hs => hs
 have fin : ∀ {σ' : St} {H' : Hp} {v : V} {u : Value}, Inv (cxOf CX P w K mg base N qual scope f cdv A outer s H E) [] σ' H' s' -> RelV v u -> Q v H' -> CE outer P w H s Q u s' :=
  fun {σ' H' v u} J rv q => ⟨v, H', J.os, J.bare, J.base, J.hok, rv, q⟩
 cases fl with
 | ret u =>
  obtain ⟨v, σ', H', J, rv, q⟩ := hs
  exact fin J rv q
 | next =>
  obtain ⟨σ', H', J, q⟩ := hs
  exact fin (v := V.non) (u := Value.none) J rfl q
 | brk =>
  obtain ⟨_, _, _, q⟩ := hs
  exact False.elim q
 | cont =>
  obtain ⟨_, _, _, q⟩ := hs
  exact False.elim q
end L2

namespace L2
open PySem PySem.Spec PyProof.Rows
section
variable {X : Cx} {x : Str} {p pos : Pos} {e : Expr} {es : List Expr} {t : TA} {id T : String} {r : List V -> Hp -> VK -> Prop}

def tCB (r : List V -> Hp -> VK -> Prop) (t : TA) : TE := fun σ H Q => t σ H fun vs H1 => r vs H1 Q
theorem yD (hc : CallR X (.builtin id) r) (hg : Gl X x) (hm : X.mg x = none) (hv : bootBuiltins x = some (.builtin id)) (ha : PA X (e :: es) t) (hn : x ≠ "__name__" := by decide) (hdb : (x == ("__debug__" : Str)) = false := by decide)
  (he : starEach (e :: es) X.env = (false, eval e X.env) :: starEach es X.env := by rfl) (hpl : (backTo pos (starEach es X.env)).any (·.1) = false := by rfl) : PE X (.Call (.Name x p) (e :: es) [] pos) (tCB r t) := by
 refine ⟨?_⟩
 intro pins s σ H Q I h
 refine wpAny_Call_Name_kw (wD I hg hm hv ?_ hn hdb)
 exact PyProof.Rows.callWith_builtin1 (thn (ha pos pins s σ H _ I h) fun us s1 ⟨vs, H1, I1, r1, q1⟩ => hc pins s1 σ H1 vs us Q I1 r1 q1) he hpl
theorem kX (hc : CallR X (.type T) r) (hg : Gl X x) (hm : X.mg x = none) (hv : bootBuiltins x = some (.type T)) (ha : PA X (e :: es) t) (hn : x ≠ "__name__" := by decide) (hdb : (x == ("__debug__" : Str)) = false := by decide)
  (he : starEach (e :: es) X.env = (false, eval e X.env) :: starEach es X.env := by rfl) (hpl : (backTo pos (starEach es X.env)).any (·.1) = false := by rfl) : PE X (.Call (.Name x p) (e :: es) [] pos) (tCB r t) := by
 refine ⟨?_⟩
 intro pins s σ H Q I h
 refine wpAny_Call_Name_kw (wD I hg hm hv ?_ hn hdb)
 exact PyProof.Rows.callWith_type1 (thn (ha pos pins s σ H _ I h) fun us s1 ⟨vs, H1, I1, r1, q1⟩ => hc pins s1 σ H1 vs us Q I1 r1 q1) he hpl
end
end L2

namespace HT
open PySem PyProof.Rows

section
open PySem.SeqAt
open PySem.AutoSeq1 (wpAny_loadPart')
open PySem.MeetsSeq PySem.MeetsSeq2 PySem.MeetsSeq3

end

section
variable {prog : Program} {w : World} {A : Around} {E : Value -> Shared -> Prop} {s : Shared}

theorem cat_tup {t b : Addr} {vs ws : List Value} {Q : Value -> Shared -> Prop} (ht : IsTup s.heap t vs.toArray) (hb : IsTup s.heap b ws.toArray) (hv : vs ≠ [])
  (h1 : ws = [] -> Q (.ref t) s) (h2 : ws ≠ [] -> Q (.ref s.heap.objs.size) { s with heap := s.heap.push { cls := .type "tuple", data := .seq (vs ++ ws).toArray } })
  (hsz : vs.length + ws.length <= sizeLine) : wpAny (model prog w) A (binaryOp .Add (.ref t) (.ref b)) Q E s := by
 obtain ⟨⟨cls, dd, data, sl⟩, ho, hc, n, hd⟩ := id ht
 obtain ⟨⟨cls2, dd2, data2, sl2⟩, ho2, hc2, n2, hd2⟩ := id hb
 simp only at hc hd hc2 hd2
 subst hc hd hc2 hd2
 have e : vs.toArray ++ ws.toArray = (vs ++ ws).toArray := by simp
 by_cases hw : ws = []
 ·exact concat_meets ⟨_, ho, rfl⟩ ⟨_, ho2, rfl⟩ noFill_tuple_add seq_tuple_add PySem.F.slot_tuple_add PySem.F.entry_tuple_add (PySem.F.args_tuple_add_2 _ _)
   (tuple_addW1 t b vs.toArray ws.toArray n n2 dd dd2 sl sl2 (by simpa using hv) (by simp [hw])) ⟨ho, ho2, h1 hw⟩
 ·refine concat_meets ⟨_, ho, rfl⟩ ⟨_, ho2, rfl⟩ noFill_tuple_add seq_tuple_add PySem.F.slot_tuple_add PySem.F.entry_tuple_add (PySem.F.args_tuple_add_2 _ _)
   (tuple_addW2 t b vs.toArray ws.toArray n n2 dd dd2 sl sl2 (by simpa using hv) (by simpa using hw) (by rw [List.size_toArray, List.size_toArray]; exact hsz)) ⟨ho, ho2, ?_⟩
  rw [e]
  exact h2 hw

end
end HT

namespace L2
open PySem PySem.Spec PyProof.Rows

abbrev TO := St -> Hp -> (Option Int -> Hp -> Prop) -> Prop
structure PO (X : Cx) (e : Option Expr) (t : TO)  : Prop where
 go : ∀ (pins : List (Addr × Obj)) (s : Shared) (σ : St) (H : Hp) (Q : Option Int -> Hp -> Prop), Inv X pins σ H s -> t σ H Q ->
  wpAny (model X.prog X.w) X.A (evalPart e X.env) (fun u s' => ∃ o H', Inv X pins σ H' s' /\ IsPart u o /\ Q o H') X.xe s
instance {X : Cx} {e : Option Expr} {t : TO} : CoeFun (PO X e t) (fun _ => ∀ (pins : List (Addr × Obj)) (s : Shared) (σ : St) (H : Hp) (Q : Option Int -> Hp -> Prop), Inv X pins σ H s -> t σ H Q ->
  wpAny (model X.prog X.w) X.A (evalPart e X.env) (fun u s' => ∃ o H', Inv X pins σ H' s' /\ IsPart u o /\ Q o H') X.xe s) := ⟨PO.go⟩
section
variable {X : Cx} {e : Expr} {te : TE} {lo hi : Option Expr} {tl th : TO} {pos p2 : Pos}

def rCatT (K : PySem.W.Frag) : R2 := fun x y H Q => ∃ a b xs ys, x = .ref a /\ y = .ref b /\ SqT K H a xs /\ SqT K H b ys /\ xs ≠ [] /\ xs.length + ys.length <= sizeLine /\
 (ys = [] -> Q (.ref a) H) /\ (ys ≠ [] -> ∀ p, H p = none -> Q (.ref p) (upd H p (.tup (xs ++ ys))))
theorem Vals.nil_iff {xs : List V} {us : List Value} (r : Vals xs us) : us = [] ↔ xs = [] := by
 cases r with
 | nil => simp
 | cons _ _ => simp
theorem op_catT : OpR X (binaryOp .Add) (rCatT X.K) := by
 intro pins s σ H x y v u Q I rx ry h
 obtain ⟨a, b, xs, ys, rfl, rfl, ha, hb, hx, hz, q1, q2⟩ := h
 cases rx
 cases ry
 obtain ⟨its, r1, p1, _⟩ := I.tuple ha
 obtain ⟨its2, r2, p2, _⟩ := I.tuple hb
 refine HT.cat_tup p1 p2 (fun z => hx (r1.nil_iff.mp z)) (fun z => ⟨.ref a, H, I, rfl, q1 (r2.nil_iff.mp z)⟩) (fun z => ?_) (by rw [<- r1.length, <- r2.length]; exact hz)
 refine ⟨.ref s.heap.objs.size, _, I.laid (t' := s.toks) (o := .tup (xs ++ ys)) (fun b ob q => Heap.get?_push_of_some _ q) (Nat.le_refl _) ?_, rfl, q2 (fun w => z (r2.nil_iff.mpr w)) _ (I.hok.fresh (Nat.le_refl _))⟩
 exact ⟨by rw [List.length_append]; exact hz, _, r1.append r2, IsTup.new _ _⟩
end
end L2

namespace L2
open PySem PySem.Spec PyProof.Rows

def ixN (n : Nat) (i : Int) : Option Nat := if 0 <= i then (if i < n then some i.toNat else none) else if -(n : Int) <= i then some (i + n).toNat else none
def atI {α : Type} (xs : List α) (i : Int) : Option α := (ixN xs.length i).bind fun j => xs[j]?
theorem ixN_seq {n : Nat} {i : Int} {j : Nat} (h : ixN n i = some j) : seqIndex? i n = some j /\ j < n /\ -(n : Int) <= i /\ i < n := by
 unfold ixN at h
 by_cases h0 : 0 <= i
 ·rw [if_pos h0] at h
  by_cases h1 : i < n
  ·rw [if_pos h1] at h
   have e : i.toNat = j := Option.some.inj h
   exact ⟨by rw [seqIndex_of h0 h1, e], by (first|lia|omega), by (first|lia|omega), h1⟩
  ·rw [if_neg h1] at h; cases h
 ·rw [if_neg h0] at h
  by_cases h1 : -(n : Int) <= i
  ·rw [if_pos h1] at h
   have e : (i + n).toNat = j := Option.some.inj h
   exact ⟨by rw [seqIndex_neg (by (first|lia|omega)) h1, e], by (first|lia|omega), h1, by (first|lia|omega)⟩
  ·rw [if_neg h1] at h; cases h
theorem atI_get {α : Type} {xs : List α} {i : Int} {v : α} (h : atI xs i = some v) : ∃ j, seqIndex? i xs.length = some j /\ xs[j]? = some v /\ j < xs.length /\ -(xs.length : Int) <= i /\ i < xs.length := by
 unfold atI at h
 cases e : ixN xs.length i with
 | none => rw [e] at h; cases h
 | some j =>
  rw [e] at h
  obtain ⟨h1, h2, h3, h4⟩ := ixN_seq e
  exact ⟨j, h1, h, h2, h3, h4⟩
theorem kA {α : Type} {xs : List α} {j : Nat} {v : α} (h : xs[j]? = some v) : atI xs (j : Int) = some v := by
 have hj : j < xs.length := (List.getElem?_eq_some_iff.mp h).1
 have e : ixN xs.length (j : Int) = some j := by
  unfold ixN
  rw [if_pos (by (first|lia|omega)), if_pos (by (first|lia|omega))]; simp
 unfold atI; rw [e]; exact h
theorem atI_last {α : Type} (xs : List α) (v : α) : atI (xs ++ [v]) (-1) = some v := by
 have hl : (xs ++ [v]).length = xs.length + 1 := by simp
 have e : ixN (xs ++ [v]).length (-1) = some xs.length := by
  unfold ixN
  rw [hl, if_neg (by decide), if_pos (by (first|lia|omega))]
  congr 1
  (first|lia|omega)
 unfold atI
 rw [e]
 show (xs ++ [v])[xs.length]? = some v
 simp

def PlainIx (b : Expr) : Prop := ∀ o i, subscripted b false o i = operate [o, i] (getItem o i)
def IxR (X : Cx) (r : R2) : Prop :=
 ∀ (value slice : Expr) (pins : List (Addr × Obj)) (s : Shared) (σ : St) (H : Hp) (x y : V) (v u : Value) (Q : VK), Inv X pins σ H s -> RelV x v -> RelV y u -> r x y H Q ->
  subscripted slice false v u = operate [v, u] (getItem v u) -> wpAny (model X.prog X.w) X.A (subscriptTail value slice v u) (EP X pins σ Q) X.xe s
def MtR (X : Cx) (id : String) (r : V -> List V -> Hp -> VK -> Prop) : Prop :=
 ∀ (pins : List (Addr × Obj)) (s : Shared) (σ : St) (H : Hp) (x : V) (xs : List V) (v : Value) (us : List Value) (Q : VK), Inv X pins σ H s -> RelV x v -> Vals xs us -> r x xs H Q ->
  wpAny (model X.prog X.w) X.A (call (.builtin id) (v :: us)) (EP X pins σ Q) X.xe s
section
variable {X : Cx} {a b : Expr} {ta tb : TE} {pos : Pos}
theorem zT {r : R2} (hr : IxR X r) (ha : PE X a ta) (hb : PE X b tb) (hs : PlainIx b) : PE X (.Subscript a b pos) (tOp r ta tb) := by
 refine ⟨?_⟩
 intro pins s σ H Q I h
 exact Subscript_ (binT ha hb I h fun v u s2 x y H2 I2 rx ry q => hr a b pins s2 σ H2 x y v u Q I2 rx ry q (hs _ _))

def rIxL (K : PySem.W.Frag) : R2 := fun x y H Q => ∃ p xs i v, x = .ref p /\ y = .int i /\ SqL K H p xs /\ atI xs i = some v /\ Q v H
def rIxT (K : PySem.W.Frag) : R2 := fun x y H Q => ∃ p xs i v, x = .ref p /\ y = .int i /\ SqT K H p xs /\ atI xs i = some v /\ Q v H
theorem zX : IxR X (rIxL X.K) := by
 intro value slice pins s σ H x y v u Q I rx ry h hs
 obtain ⟨p, xs, i, z, rfl, rfl, hq, he, q⟩ := h
 cases rx
 obtain ⟨t, rfl⟩ := ry
 obtain ⟨its, r, pl, hz⟩ := I.list hq
 obtain ⟨j, h1, h2, h3, h4, h5⟩ := atI_get he
 obtain ⟨w, ew, rw'⟩ := r.get h2
 have hl := r.length
 have hn := line63
 have fin : EP X pins σ Q w s := ⟨z, H, I, rw', q⟩
 by_cases h0 : 0 <= i
 ·have hj : i.toNat = j := by
   rw [seqIndex_of h0 h5] at h1
   exact Option.some.inj h1
  exact item_listR pl.isList h0 (by (first|lia|omega)) (by rw [hj]; simpa using ew) fin hs
 ·have hj : (i + (its.toArray.size : Int)).toNat = j := by
   rw [seqIndex_neg (by (first|lia|omega)) h4] at h1
   rw [List.size_toArray, <- hl]
   exact Option.some.inj h1
  exact subscriptTail_builtinR (x := w) pl.isList.typeIs slot_list_getitem.lookup
   (wpAny_getItem_list_neg (Q := fun r s' => r = w /\ EP X pins σ Q r s') pl.isList (by (first|lia|omega)) (by rw [List.size_toArray] <;> (first|lia|omega)) (by (first|lia|omega)) (by rw [hj]; simpa using ew) ⟨rfl, fin⟩) hs
theorem yH : IxR X (rIxT X.K) := by
 intro value slice pins s σ H x y v u Q I rx ry h hs
 obtain ⟨p, xs, i, z, rfl, rfl, hq, he, q⟩ := h
 cases rx
 obtain ⟨t, rfl⟩ := ry
 obtain ⟨its, r, pl, hz⟩ := I.tuple hq
 obtain ⟨j, h1, h2, h3, h4, h5⟩ := atI_get he
 obtain ⟨w, ew, rw'⟩ := r.get h2
 have hl := r.length
 have hn := line63
 have fin : EP X pins σ Q w s := ⟨z, H, I, rw', q⟩
 exact subscriptTail_builtinR (x := w) pl.typeIs slot_tuple_getitem.lookup
  (getItem_tuple (j := j) (Q := fun r s' => r = w /\ EP X pins σ Q r s') pl (by (first|lia|omega)) (by (first|lia|omega)) (by rw [List.size_toArray, <- hl]; exact h1) (by simpa using ew) ⟨rfl, fin⟩) hs
theorem mapSeq_set (its : List Value) (n j : Nat) (u : Value) : Obj.mapSeq (·.setIfInBounds j u) { cls := .type "list", data := .seq its.toArray n } = { cls := .type "list", data := .seq (its.set j u).toArray n } := by
 simp [Obj.mapSeq]
theorem Inv.lst {pins : List (Addr × Obj)} {σ : St} {H : Hp} {s : Shared} {p : Addr} {xs : List V} (I : Inv X pins σ H s) (h : H p = some (.lst xs)) :
  ∃ (its : List Value) (n : Nat), Vals xs its /\ s.heap.get? p = some { cls := .type "list", data := .seq its.toArray n } /\ xs.length <= sizeLine := by
 obtain ⟨z, its, n, r, e⟩ := I.hok p _ h
 exact ⟨its, n, r, e, z⟩
theorem Inv.lstUpd {pins : List (Addr × Obj)} {σ : St} {H : Hp} {s : Shared} {p : Addr} {xs ys : List V} {its its' : List Value} {n n' : Nat} {f : Obj -> Obj} (I : Inv X pins σ H s) (h : H p = some (.lst xs))
  (ho : s.heap.get? p = some { cls := .type "list", data := .seq its.toArray n }) (hf : f { cls := .type "list", data := .seq its.toArray n } = { cls := .type "list", data := .seq its'.toArray n' }) (r : Vals ys its') (hz : ys.length <= sizeLine) (t : Nat) :
  Inv X pins σ (upd H p (.lst ys)) { s with heap := s.heap.update p f, toks := t } := by
 have e : (s.heap.update p f).get? p = some { cls := .type "list", data := .seq its'.toArray n' } := by
  rw [Heap.get?_update_self f ho (by rw [hf] <;> rfl), hf]
 refine I.write (x := p) (e := p) (by rw [h]; trivial) (.inl rfl) (fun b u hb q => (Heap.get?_update_other _ _ (Ne.symm hb)).trans q) ⟨_, e⟩ ?_
 exact ⟨hz, its', n', r, e⟩
def rSetL : V -> V -> V -> Hp -> (Hp -> Prop) -> Prop := fun o i v H Q => ∃ p xs k j, o = .ref p /\ i = .int k /\ H p = some (.lst xs) /\ ixN xs.length k = some j /\ Q (upd H p (.lst (xs.set j v)))
theorem set_list : PSet X rSetL := by
 intro pins s σ H o i v ov iv u Q I ro ri rv h
 obtain ⟨p, xs, k, j, rfl, rfl, hp, hj, q⟩ := h
 cases ro
 obtain ⟨t, rfl⟩ := ri
 obtain ⟨its, n, r, ho, hz⟩ := I.lst hp
 obtain ⟨h1, h2, h3, h4⟩ := ixN_seq hj
 have hl := r.length
 have hn := line63
 have I' : Inv X pins σ (upd H p (.lst (xs.set j v))) { s with heap := s.heap.update p (Obj.mapSeq (·.setIfInBounds j u)) } :=
  I.lstUpd hp ho (mapSeq_set its n j u) (r.set rv j) (by rw [List.length_set]; exact hz) s.toks
 by_cases h0 : 0 <= k
 ·have hk : k.toNat = j := by
   rw [seqIndex_of h0 h4] at h1
   exact Option.some.inj h1
  exact PySem.W.ki_setAt ho h0 (by (first|lia|omega)) (by rw [List.size_toArray, <- hl]; exact h4) (by rw [hk]; exact ⟨_, I', q⟩)
 ·have hk : (k + (its.toArray.size : Int)).toNat = j := by
   rw [seqIndex_neg (by (first|lia|omega)) h3] at h1
   rw [List.size_toArray, <- hl]
   exact Option.some.inj h1
  exact PySem.W.ki_setBack ho (by (first|lia|omega)) (by rw [List.size_toArray, <- hl]; exact h3) (by (first|lia|omega)) (by rw [hk]; exact ⟨_, I', q⟩)

def flatV : V -> Bool
 | .non => true
 | .bl _ => true
 | .int _ => true
 | .str _ => true
 | _ => false
def eqV : V -> V -> Bool
 | .non, .non => true
 | .bl a, .bl b => a == b
 | .bl a, .int b => (if a then 1 else 0) == b
 | .int a, .bl b => a == (if b then 1 else 0)
 | .int a, .int b => a == b
 | .str a, .str b => a == b
 | _, _ => false
theorem eqAt_V {A : Around} {s : Shared} {y x : V} {u v : Value} (ry : RelV y u) (rx : RelV x v) (fy : flatV y = true) (fx : flatV x = true) : SeqAt.EqAt A s u v (eqV y x) := by
 cases y with
 | non =>
  cases ry
  cases x with
  | non => cases rx; exact SeqAt.EqAt.same _
  | bl b => cases rx; exact SeqAt.EqAt.none_bool b
  | int b => obtain ⟨t, rfl⟩ := rx; exact SeqAt.EqAt.none_int b t
  | str b => obtain ⟨t, rfl⟩ := rx; exact SeqAt.EqAt.none_str b t
  | _ => exact absurd (show false = true from fx) Bool.false_ne_true
 | bl a =>
  cases ry
  cases x with
  | non => cases rx; exact SeqAt.EqAt.bool_none a
  | bl b => cases rx; exact SeqAt.EqAt.bool_bool a b
  | int b => obtain ⟨t, rfl⟩ := rx; exact SeqAt.EqAt.bool_int a b t
  | str b => obtain ⟨t, rfl⟩ := rx; exact SeqAt.EqAt.bool_str a b t
  | _ => exact absurd (show false = true from fx) Bool.false_ne_true
 | int a =>
  obtain ⟨t', rfl⟩ := ry
  cases x with
  | non => cases rx; exact SeqAt.EqAt.int_none a t'
  | bl b => cases rx; exact SeqAt.EqAt.int_bool a t' b
  | int b => obtain ⟨t, rfl⟩ := rx; exact SeqAt.EqAt.int_int a t' b t
  | str b => obtain ⟨t, rfl⟩ := rx; exact SeqAt.EqAt.int_str a t' b t
  | _ => exact absurd (show false = true from fx) Bool.false_ne_true
 | str a =>
  obtain ⟨t', rfl⟩ := ry
  cases x with
  | non => cases rx; exact SeqAt.EqAt.str_none a t'
  | bl b => cases rx; exact SeqAt.EqAt.str_bool a t' b
  | int b => obtain ⟨t, rfl⟩ := rx; exact SeqAt.EqAt.str_int a t' b t
  | str b => obtain ⟨t, rfl⟩ := rx; exact SeqAt.EqAt.str_str a t' b t
  | _ => exact absurd (show false = true from fx) Bool.false_ne_true
 | _ => exact absurd (show false = true from fy) Bool.false_ne_true
def eqU (x : V) (u : Value) : Bool := match u with
 | .none => eqV .non x
 | .bool b => eqV (.bl b) x
 | .int i _ => eqV (.int i) x
 | .str z _ => eqV (.str z) x
 | _ => false
theorem eqU_of {x y : V} {u : Value} (r : RelV y u) (f : flatV y = true) : eqU x u = eqV y x := by
 cases y with
 | non => cases r; rfl
 | bl b => cases r; rfl
 | int i => obtain ⟨t, rfl⟩ := r; rfl
 | str z => obtain ⟨t, rfl⟩ := r; rfl
 | _ => exact absurd (show false = true from f) Bool.false_ne_true
theorem any_eqU {x : V} : ∀ {xs : List V} {us : List Value}, Vals xs us -> xs.all flatV = true -> us.any (eqU x) = xs.any fun y => eqV y x
 | _, _, .nil, _ => rfl
 | y :: xs, u :: us, .cons r t, f => by
  rw [List.all_cons, Bool.and_eq_true] at f
  rw [List.any_cons, List.any_cons, eqU_of r f.1, any_eqU t f.2]
theorem mem_eqAt {A : Around} {s : Shared} {x : V} {v : Value} (rx : RelV x v) (fx : flatV x = true) : ∀ {xs : List V} {us : List Value}, Vals xs us -> xs.all flatV = true -> ∀ u ∈ us, SeqAt.EqAt A s u v (eqU x u)
 | _, _, .nil, _ => fun u hu => by cases hu
 | y :: xs, u :: us, .cons r t, f => fun u' hu => by
  rw [List.all_cons, Bool.and_eq_true] at f
  rcases List.mem_cons.mp hu with rfl | hu
  ·rw [eqU_of r f.1]; exact eqAt_V r rx f.1 fx
  ·exact mem_eqAt rx fx t f.2 u' hu
def inV (x : V) (xs : List V) : Bool := xs.any fun y => eqV y x
def rIn (K : PySem.W.Frag) (neg : Bool) : R2 := fun x y H Q => ∃ p xs, y = .ref p /\ (SqL K H p xs \/ SqT K H p xs) /\ flatV x = true /\ xs.all flatV = true /\ Q (.bl (if neg then !inV x xs else inV x xs)) H
theorem op_in_seq : OpR X (compareOp .In) (rIn X.K false) := by
 intro pins s σ H x y v u Q I rx ry h
 obtain ⟨p, xs, rfl, hq, fx, fs, q⟩ := h
 cases ry
 rcases hq with hq | hq
 ·obtain ⟨its, r, pl, hz⟩ := I.list hq
  refine SeqAt.in_listAt (eqU x) pl.isList (fun w hw => mem_eqAt rx fx r fs w (by simpa using hw)) ⟨.bl _, H, I, rfl, ?_⟩
  rw [show its.toArray.any (eqU x) = its.any (eqU x) by simp, any_eqU r fs]
  exact q
 ·obtain ⟨its, r, pl, hz⟩ := I.tuple hq
  refine SeqAt.in_tupleAt (eqU x) pl (fun w hw => mem_eqAt rx fx r fs w (by simpa using hw)) ⟨.bl _, H, I, rfl, ?_⟩
  rw [show its.toArray.any (eqU x) = its.any (eqU x) by simp, any_eqU r fs]
  exact q
theorem zY : CallR X (.builtin "len") (fun xs H Q => ∃ p ys, xs = [.ref p] /\ (SqL X.K H p ys \/ SqT X.K H p ys) /\ Q (.int ys.length) H) := by
 intro pins s σ H xs us Q I r h
 obtain ⟨p, ys, rfl, hq, q⟩ := h
 obtain ⟨u, rfl, rx⟩ := vals1 r
 cases rx
 have hn := line63
 rcases hq with hq | hq
 ·obtain ⟨its, r', pl, hz⟩ := I.list hq
  have hlen := r'.length
  exact Calls.call_len_list pl.isList (by simp only [List.size_toArray] <;> (first|lia|omega)) ⟨.int ys.length, H, I.tok _, ⟨s.toks + 1, by rw [List.size_toArray, hlen]⟩, q⟩
 ·obtain ⟨its, r', pl, hz⟩ := I.tuple hq
  have hlen := r'.length
  exact len_tuple pl (by simp only [List.size_toArray] <;> (first|lia|omega)) ⟨.int ys.length, H, I.tok _, ⟨s.toks + 1, by rw [List.size_toArray, hlen]⟩, q⟩
theorem qW : CallR X (.type "list") (fun xs H Q => ∃ p ys, xs = [.ref p] /\ (SqL X.K H p ys \/ SqT X.K H p ys) /\ ∀ l, H l = none -> Q (.ref l) (upd H l (.lst ys))) := by
 intro pins s σ H xs us Q I r h
 obtain ⟨p, ys, rfl, hq, q⟩ := h
 obtain ⟨u, rfl, rx⟩ := vals1 r
 cases rx
 have fin : ∀ (its : List Value), Vals ys its -> ys.length <= sizeLine -> ∀ (h' : Heap) (c' : Nat), (∀ b o', s.heap.get? b = some o' -> h'.get? b = some o') ->
   h'.get? s.heap.objs.size = some { cls := .type "list", dict := none, data := .seq its.toArray c', slots := #[] } -> EP X pins σ Q (.ref s.heap.objs.size) { s with heap := h' } := fun its r' hz h' c' kp e =>
  ⟨.ref s.heap.objs.size, _, I.laid (t' := s.toks) kp (Nat.le_refl _) (show ObjOk X.prog X.w _ h' _ (.lst ys) from ⟨hz, its, c', r', e⟩), rfl, q _ (I.hok.fresh (Nat.le_refl _))⟩
 rcases hq with hq | hq
 ·obtain ⟨its, r', pl, hz⟩ := I.list hq
  have hlen := r'.length
  obtain ⟨o, ho, hc, n, hd⟩ := pl.isList
  exact call_list_seq p (.inl rfl) ho hc hd (fun h' c' kp e => fin its r' hz h' c' kp e) (by simp only [List.size_toArray] <;> (first|lia|omega))
 ·obtain ⟨its, r', pl, hz⟩ := I.tuple hq
  have hlen := r'.length
  obtain ⟨o, ho, hc, n, hd⟩ := pl
  exact call_list_seq p (.inr rfl) ho hc hd (fun h' c' kp e => fin its r' hz h' c' kp e) (by simp only [List.size_toArray] <;> (first|lia|omega))
theorem qI : CallR X (.type "tuple") (fun xs H Q => ∃ p ys, xs = [.ref p] /\ ((SqL X.K H p ys /\ ∀ l, H l = none -> Q (.ref l) (upd H l (.tup ys))) \/ (SqT X.K H p ys /\ Q (.ref p) H))) := by
 intro pins s σ H xs us Q I r h
 obtain ⟨p, ys, rfl, h⟩ := h
 obtain ⟨u, rfl, rx⟩ := vals1 r
 cases rx
 rcases h with ⟨hq, q⟩ | ⟨hq, q⟩
 ·obtain ⟨its, r', pl, hz⟩ := I.list hq
  have hlen := r'.length
  refine call_tuple_list pl.isList (fun h' kp => ?_) (by simp only [List.size_toArray] <;> (first|lia|omega))
  have I1 : Inv X pins σ H { s with heap := h' } := I.kept (t' := s.toks) kp
  have I2 : Inv X pins σ (upd H h'.objs.size (.tup ys)) { s with heap := h'.push { cls := .type "tuple", data := .seq its.toArray } } :=
   I1.laid (t' := s.toks) (fun b o e => Heap.get?_push_of_some _ e) (Nat.le_refl _) (show ObjOk X.prog X.w _ _ _ (.tup ys) from ⟨hz, its, r', IsTup.new _ _⟩)
  exact ⟨.ref h'.objs.size, _, I2, rfl, q _ (I1.hok.fresh (Nat.le_refl _))⟩
 ·obtain ⟨its, r', pl, hz⟩ := I.tuple hq
  exact call_tuple_same pl ⟨.ref p, H, I, rfl, q⟩

def tyV (K : PySem.W.Frag) (T : String) (x : V) (H : Hp) : Prop := match x with
 | .str _ => T = "str"
 | .int _ => T = "int"
 | .ref p => (T = "list" /\ ∃ xs, SqL K H p xs) \/ (T = "tuple" /\ ∃ o, K.lookup p = some o /\ o.cls = .type "tuple" /\ o.dict = none) \/
   (T = "dict" /\ ((∃ kvs, H p = some (.dK kvs)) \/ ∃ kvs, H p = some (.dT kvs))) \/ (T = "set" /\ ∃ S n, H p = some (.set S n))
 | _ => False
theorem tyV_is {pins : List (Addr × Obj)} {σ : St} {H : Hp} {s : Shared} {T : String} {x : V} {v : Value} (I : Inv X pins σ H s) (r : RelV x v) (ty : tyV X.K T x H) :
  s.TypeIs v T /\ ∀ a, v = .ref a -> ∃ ob, s.heap.get? a = some ob /\ ob.dict = none := by
 cases x with
 | str z =>
  obtain ⟨t, rfl⟩ := r
  cases (show T = "str" from ty)
  exact ⟨typeIs_str s z t, fun _ e => nomatch e⟩
 | int i =>
  obtain ⟨t, rfl⟩ := r
  cases (show T = "int" from ty)
  exact ⟨typeIs_int s i t, fun _ e => nomatch e⟩
 | ref p =>
  cases r
  rcases ty with ⟨rfl, xs, hq⟩ | ⟨rfl, o, hk, hc, hd⟩ | ⟨rfl, hk⟩ | ⟨rfl, S, n, hk⟩
  ·obtain ⟨its, _, pl, _⟩ := I.list hq
   refine ⟨pl.isList.typeIs, fun a e => ?_⟩
   cases e
   obtain ⟨o, n, e, c, hd, _⟩ := pl
   exact ⟨o, e, hd⟩
  ·refine ⟨⟨o, I.kIn p o hk, hc⟩, fun a e => ?_⟩
   cases e
   exact ⟨o, I.kIn _ o hk, hd⟩
  ·have z : ∃ o, s.heap.get? p = some o /\ o.ExactDict := by
    rcases hk with ⟨kvs, hk⟩ | ⟨kvs, hk⟩
    ·obtain ⟨_, _, _, _, o, _, _, e, ex, _⟩ := I.hok p _ hk
     exact ⟨o, e, ex⟩
    ·obtain ⟨_, _, _, _, o, _, _, e, ex, _⟩ := I.hok p _ hk
     exact ⟨o, e, ex⟩
   obtain ⟨o, e, ex⟩ := z
   refine ⟨⟨o, e, ex.1⟩, fun a e2 => ?_⟩
   cases e2
   exact ⟨o, e, ex.2.1⟩
  ·obtain ⟨o, _, _, _, e, ex, _⟩ := I.hok p _ hk
   refine ⟨⟨o, e, ex.1⟩, fun a e2 => ?_⟩
   cases e2
   exact ⟨o, e, ex.2.1⟩
 | _ => exact False.elim ty
def tBM0 (K : PySem.W.Frag) (T : String) (r : V -> List V -> Hp -> VK -> Prop) (to : TE) : TE := fun σ H Q => to σ H fun x H1 => tyV K T x H1 /\ r x [] H1 Q
def tBM (K : PySem.W.Frag) (T : String) (r : V -> List V -> Hp -> VK -> Prop) (to : TE) (t : TA) : TE := fun σ H Q => to σ H fun x H1 => tyV K T x H1 /\ t σ H1 fun xs H2 => r x xs H2 Q
variable {o e : Expr} {es : List Expr} {to : TE} {t : TA} {name : Str} {apos cpos : Pos} {T id : String} {r : V -> List V -> Hp -> VK -> Prop}
theorem pe_bm0 (pa : PlainAttrs T) (slot : Slot T name id) (hty : typeOf (.builtin id) = pure (.type "method_descriptor")) (hm : MtR X id r) (ho : PE X o to)
  (hbase : attributeBase o name X.env (eval o X.env) = eval o X.env := by rfl) (hline : (apos.endLine == cpos.line) = true := by rfl) : PE X (.Call (.Attribute o name apos) [] [] cpos) (tBM0 X.K T r to) := by
 refine ⟨?_⟩
 intro pins s σ H Q I h
 refine wpAny_Call_method0_late hbase hline (thn (ho pins s σ H _ I h) fun v s1 hzz => ?_)
 obtain ⟨x, H1, I1, r1, ty, q1⟩ := hzz
 obtain ⟨h1, h2⟩ := tyV_is I1 r1 ty
 exact ⟨T, id, pa, slot, hty, h1, h2, Calls.callWith_builtin rfl (PySem.evalArgs_none (hm pins s1 σ H1 x [] v [] Q I1 r1 .nil q1))⟩
theorem jZ (pa : PlainAttrs T) (slot : Slot T name id) (hty : typeOf (.builtin id) = pure (.type "method_descriptor")) (hm : MtR X id r) (ho : PE X o to) (ha : PA X (e :: es) t)
  (hbase : attributeBase o name X.env (eval o X.env) = eval o X.env := by rfl)
  (hfew : ((backTo cpos (starEach (e :: es) X.env)).all (fun x => !x.1) && (backToKw cpos (keywordEach [] X.env)).all (fun x => x.1.isSome)
   && decide ((e :: es).length + ([] : List Keyword).length + (if ([] : List Keyword).isEmpty then 0 else 1) < 30)) = true := by rfl)
  (hline : (apos.endLine == cpos.line) = true := by rfl) (hs : starEach (e :: es) X.env = (false, eval e X.env) :: starEach es X.env := by rfl) (hplain : (backTo cpos (starEach es X.env)).any (·.1) = false := by rfl) :
  PE X (.Call (.Attribute o name apos) (e :: es) [] cpos) (tBM X.K T r to t) := by
 refine ⟨?_⟩
 intro pins s σ H Q I h
 refine wpAny_Call_method_late hbase hfew hline rfl (thn (ho pins s σ H _ I h) fun v s1 hzz => ?_)
 obtain ⟨x, H1, I1, r1, ty, q1⟩ := hzz
 obtain ⟨h1, h2⟩ := tyV_is I1 r1 ty
 refine ⟨T, id, pa, slot, hty, h1, h2, ?_⟩
 have hA := ha cpos pins s1 σ H1 _ I1 q1
 rw [hs] at hA ⊢
 refine Calls.callWith_builtin (by show (false || (backTo cpos (starEach es X.env)).any (·.1)) = false; rw [hplain] <;> rfl) (Calls.evalArgs_plain ?_)
 exact thn hA fun us s2 ⟨vs, H2, I2, r2, q2⟩ => hm pins s2 σ H2 x vs v us Q I2 r1 r2 q2
/- xs.append(e), list.index on a module's tuple .. are MtR facts of 06m -/
end
end L2

namespace L2
open PySem PySem.Spec PyProof.Rows

def MtM (X : Cx) (id : String) (r : V -> List V -> Hp -> VK -> Prop) : Prop :=
 ∀ (pins : List (Addr × Obj)) (s : Shared) (σ : St) (H : Hp) (x : V) (xs : List V) (v : Value) (us : List Value) (Q : VK), Inv X pins σ H s -> RelV x v -> Vals xs us -> r x xs H Q ->
  wpAny (model X.prog X.w) X.A (call (.builtin id) (v :: us)) (EP X pins σ Q) X.xe s

theorem Vals.one : ∀ {x : V} {us : List Value}, Vals [x] us -> ∃ u, us = [u] /\ RelV x u
 | _, _, .cons r .nil => ⟨_, rfl, r⟩
theorem Vals.two : ∀ {x y : V} {us : List Value}, Vals [x, y] us -> ∃ u v, us = [u, v] /\ RelV x u /\ RelV y v
 | _, _, _, .cons r (.cons q .nil) => ⟨_, _, rfl, r, q⟩
theorem Vals.zero : ∀ {us : List Value}, Vals [] us -> us = []
 | _, .nil => rfl
theorem Vals.dropLast {xs : List V} {us : List Value} (h : Vals xs us) : Vals xs.dropLast us.dropLast := by
 induction h with
 | nil => exact .nil
 | cons r t ih =>
  cases t with
  | nil => exact .nil
  | cons q t' => exact .cons r ih
theorem Vals.rep {xs : List V} {us : List Value} (h : Vals xs us) : ∀ k : Nat, Vals (List.replicate k xs).flatten (List.replicate k us).flatten
 | 0 => .nil
 | k + 1 => by
  rw [List.replicate_succ, List.replicate_succ, List.flatten_cons, List.flatten_cons]
  exact Vals.append h (Vals.rep h k)
theorem erase_last {α : Type} (l : List α) : l.eraseIdx (l.length - 1) = l.dropLast := by
 induction l with
 | nil => rfl
 | cons a r ih =>
  cases r with
  | nil => rfl
  | cons b r =>
   have e : (a :: b :: r).length - 1 = ((b :: r).length - 1) + 1 := by
    have h1 : (a :: b :: r).length = r.length + 2 := rfl
    have h2 : (b :: r).length = r.length + 1 := rfl
    (first|lia|omega)
   rw [e, List.eraseIdx_cons_succ, ih]
   all_goals rfl
theorem foldl_rep (its : List Value) : ∀ (k : Nat) (acc : List Value),
  List.foldl (fun x1 x2 => x1 ++ x2) acc.toArray (List.replicate k its.toArray) = (acc ++ (List.replicate k its).flatten).toArray
 | 0, acc => by simp
 | k + 1, acc => by
  have e : acc.toArray ++ its.toArray = (acc ++ its).toArray := by simp
  have e2 : (acc ++ its) ++ (List.replicate k its).flatten = acc ++ (List.replicate (k + 1) its).flatten := by
   rw [List.replicate_succ, List.flatten_cons, List.append_assoc]
  rw [<- e2, <- foldl_rep its k (acc ++ its), <- e, List.replicate_succ, List.foldl_cons]

section
variable {X : Cx} {pins : List (Addr × Obj)} {σ : St} {H : Hp} {s : Shared} {l b : Addr} {xs ys zs : List V}

theorem Inv.lset {its its' : List Value} {n : Nat} {f : Array Value -> Array Value} {t' : Nat} (I : Inv X pins σ H s) (hH : H l = some (.lst xs))
  (e : s.heap.get? l = some { cls := .type "list", data := .seq its.toArray n }) (hf : f its.toArray = its'.toArray) (hv : Vals ys its') (hz : ys.length <= sizeLine) :
  Inv X pins σ (upd H l (.lst ys)) { s with heap := s.heap.update l (Obj.mapSeq f), toks := t' } := by
 have q := PySem.IsL.update e f
 rw [hf] at q
 refine I.write (x := l) (e := l) (by rw [hH]; exact trivial) (.inl rfl) (fun b' u hb hu => (Heap.get?_update_other s.heap (Obj.mapSeq f) (Ne.symm hb)).trans hu) ⟨_, q⟩ ?_
 exact ⟨hz, its', _, hv, q⟩
theorem Inv.lnew {its : List Value} {t' : Nat} (I : Inv X pins σ H s) (hv : Vals ys its) (hz : ys.length <= sizeLine) :
  Inv X pins σ (upd H s.heap.objs.size (.lst ys)) { s with heap := s.heap.push { cls := .type "list", data := .seq its.toArray }, toks := t' } :=
 I.laid (fun _ _ q => Heap.get?_push_of_some _ q) (Nat.le_refl _) ⟨hz, its, 0, hv, Heap.get?_push_size _ rfl⟩
theorem Inv.fresh (I : Inv X pins σ H s) : H s.heap.objs.size = none := I.hok.fresh (Nat.le_refl _)
theorem Inv.lstM (I : Inv X pins σ H s) (hH : H l = some (.lst xs)) : xs.length <= sizeLine /\ ∃ (its : List Value) (n : Nat), Vals xs its /\ xs.length = its.length /\ s.heap.get? l = some { cls := .type "list", data := .seq its.toArray n } := by
 obtain ⟨z, its, n, r, e⟩ := I.hok l _ hH
 exact ⟨z, its, n, r, r.length, e⟩

theorem notLongL {n : Nat} (h : n <= sizeLine) : Builtin.List.listTooLong n = false := by
 unfold Builtin.List.listTooLong
 exact decide_eq_false (by (first|lia|omega))
end

section
variable {X : Cx}

def rAppend : V -> List V -> Hp -> VK -> Prop := fun x vs H Q => ∃ l xs y, x = .ref l /\ vs = [y] /\ H l = some (.lst xs) /\ xs.length < sizeLine /\ Q .non (upd H l (.lst (xs ++ [y])))
theorem yJ : MtM X "list.append" rAppend := by
 intro pins s σ H x vs v us Q I rx rv h
 obtain ⟨l, xs, y, rfl, rfl, hH, hz, q⟩ := h
 cases rx
 obtain ⟨u, rfl, ru⟩ := rv.one
 obtain ⟨z, its, n, r, hl, e⟩ := I.lstM hH
 refine call_meets F.slot_list_append ⟨_, e, rfl⟩ F.entry_list_append (F.args_list_append_2 _ _) (PySem.list_append l its.toArray n u (by rw [List.size_toArray]; (first|lia|omega))) ⟨e, ?_⟩
 refine ⟨.non, _, I.lset (its' := its ++ [u]) hH e (by simp) (r.append (.cons ru .nil)) ?_, rfl, q⟩
 rw [List.length_append, List.length_singleton]
 (first|lia|omega)

def rPop : V -> List V -> Hp -> VK -> Prop := fun x vs H Q => ∃ l xs y, x = .ref l /\ vs = [] /\ H l = some (.lst xs) /\ xs[xs.length - 1]? = some y /\ Q y (upd H l (.lst xs.dropLast))
theorem mt_pop : MtM X "list.pop" rPop := by
 intro pins s σ H x vs v us Q I rx rv h
 obtain ⟨l, xs, y, rfl, rfl, hH, hy, q⟩ := h
 cases rx
 have hus := rv.zero
 subst hus
 obtain ⟨z, its, n, r, hl, e⟩ := I.lstM hH
 obtain ⟨u, hu, ru⟩ := r.get hy
 have hy' : its.toArray[its.toArray.size - 1]? = some u := by
  show its.toArray[its.length - 1]? = some u
  rw [<- Array.getElem?_toList, <- hl]
  exact hu
 refine call_meets F.slot_list_pop ⟨_, e, rfl⟩ F.entry_list_pop (F.args_list_pop_1 _) (MeetsSeq.list_pop_last l its.toArray n u hy' (by rw [List.size_toArray]; (first|lia|omega))) ⟨e, ?_⟩
 refine ⟨y, _, I.lset (its' := its.dropLast) hH e ?_ r.dropLast ?_, ru, q⟩
 ·show its.toArray.eraseIdxIfInBounds (its.toArray.size - 1) = its.dropLast.toArray
  rw [List.size_toArray, List.eraseIdxIfInBounds_toArray, erase_last]
 ·rw [List.length_dropLast]
  (first|lia|omega)

def rCat : R2 := fun x y H Q => ∃ l b xs zs, x = .ref l /\ y = .ref b /\ H l = some (.lst xs) /\ H b = some (.lst zs) /\ xs.length + zs.length <= sizeLine /\ ∀ p, H p = none -> Q (.ref p) (upd H p (.lst (xs ++ zs)))
theorem wT : OpR X (binaryOp .Add) rCat := by
 intro pins s σ H x y v u Q I rx ry h
 obtain ⟨l, b, xs, zs, rfl, rfl, hH, hB, hz, q⟩ := h
 cases rx
 cases ry
 obtain ⟨z, its, n, r, hl, e⟩ := I.lstM hH
 obtain ⟨z2, its2, n2, r2, hl2, e2⟩ := I.lstM hB
 refine PySem.P.add_list e e2 ?_ (by rw [List.size_toArray, List.size_toArray]; (first|lia|omega))
 have ea : its.toArray ++ its2.toArray = (its ++ its2).toArray := by simp
 rw [ea]
 exact ⟨.ref _, _, I.lnew (t' := s.toks) (r.append r2) (by rw [List.length_append]; (first|lia|omega)), rfl, q _ I.fresh⟩
def rRep : R2 := fun x y H Q => ∃ l k xs, x = .ref l /\ y = .int k /\ H l = some (.lst xs) /\ -(2 ^ 63) <= k /\ k < 2 ^ 63 /\ xs.length * k.toNat <= sizeLine /\
 ∀ p, H p = none -> Q (.ref p) (upd H p (.lst (List.replicate k.toNat xs).flatten))
theorem len_rep {α : Type} (xs : List α) (k : Nat) : (List.replicate k xs).flatten.length = k * xs.length := by
 induction k with
 | zero => simp
 | succ k ih => rw [List.replicate_succ, List.flatten_cons, List.length_append, ih, Nat.succ_mul, Nat.add_comm]
theorem op_rep : OpR X (binaryOp .Mult) rRep := by
 intro pins s σ H x y v u Q I rx ry h
 obtain ⟨l, k, xs, rfl, rfl, hH, h1, h2, hz, q⟩ := h
 cases rx
 obtain ⟨t, rfl⟩ := ry
 obtain ⟨z, its, n, r, hl, e⟩ := I.lstM hH
 have hlen : its.toArray.size * k.toNat <= sizeLine := by rw [List.size_toArray, <- hl]; exact hz
 have hcap : ¬ its.toArray.size * k.toNat > (2 ^ 63 - 1) / 8 := by
  have : (sizeLine : Nat) <= (2 ^ 63 - 1) / 8 := by decide
  (first|lia|omega)
 have hfit : ¬ (!Builtin.List.listFitsIndex k) = true := by
  rw [fitsIndex_both h1 h2]
  exact Bool.false_ne_true
 have hlong : ¬ Builtin.List.listTooLong (its.toArray.size * k.toNat) = true := by
  rw [notLongL hlen]
  exact Bool.false_ne_true
 have hnew : List.foldl (fun x1 x2 => x1 ++ x2) #[] (List.replicate (if its.toArray.isEmpty = true then 0 else k.toNat) its.toArray) = (List.replicate k.toNat its).flatten.toArray := by
  have f0 : ∀ m : Nat, List.foldl (fun x1 x2 => x1 ++ x2) #[] (List.replicate m its.toArray) = (List.replicate m its).flatten.toArray := fun m => by
   have := foldl_rep its m []
   rw [List.nil_append] at this
   exact this
  rw [f0]
  cases its with
  | nil => simp
  | cons a r' => rw [if_neg (by simp)]
 refine wpAny_binaryOp_repeat_ref (T := "list") (U := "int") (by decide) ⟨_, e, rfl⟩ (fun s' => typeIs_int s' k t) noFill_list_mul F.fills_int_mul F.slot_int_rmul repeat_list F.slot_int_index.lookup
  (call_meets F.slot_int_rmul (typeIs_int s k t) F.entry_int_rmul (F.args_int_rmul_2 _ _) (int___rmul___int_list k t l its.toArray n)
   ⟨e, rfl, ⟨_, e, rfl⟩, call_meets F.slot_list_mul ⟨_, e, rfl⟩ F.entry_list_mul (F.args_list_mul_2 _ _) (AutoListH.list___mul___list_int_3 l its.toArray n k t hfit hcap hlong) ⟨e, ?_⟩⟩)
 rw [hnew]
 exact ⟨.ref _, _, I.lnew (t' := s.toks) (r.rep k.toNat) (by rw [len_rep, Nat.mul_comm]; exact hz), rfl, q _ I.fresh⟩

end

section
variable {prog : Program} {w : World} {A : Around} {E : Value -> Shared -> Prop} {s : Shared}
set_option maxRecDepth 100000 in
end

section
variable {X : Cx}
end
end L2

namespace Att
open PySem PySem.W PySem.Calls PyProof.Rows

theorem ints_of_wellAll {P : Params} {h : Heap} : ∀ (ns : List Int) (vs : List Value), WellAll P h vs (ns.map WData.int) -> IntsAre vs ns := by
 intro ns
 induction ns with
 | nil =>
  intro vs w
  rw [List.map_nil] at w
  cases w
  exact .nil
 | cons n ns ih =>
  intro vs w
  rw [List.map_cons] at w
  cases w with
  | cons a b =>
   cases a
   exact .cons _ _ (ih _ b)

theorem script_of {l : OpenLaw} {n : Nat} (hn : l.most = some n) {P : Params} {h : Heap} {args : List WData} {vals : List Value}
  (hpre : l.row.toRowW.claim.pre args = true) (hwl : WellAll P h vals args) :
  ∃ a vs ns, vals = [Value.ref a] /\ args = [WData.list (ns.map WData.int)] /\ h.get? a = some { cls := .type "list", data := .seq vs.toArray } /\ IntsAre vs ns /\ ns.length <= n := by
 have hsh : WShape.hasAll [] args [.list .int] = true := (pre_splitW hpre).1
 have hc : l.pre.holds [] { args := args } = true := (pre_splitW hpre).2
 obtain ⟨d, r, rfl, h1, h2⟩ := hasAllW_cons hsh
 obtain rfl := hasAllW_nil h2
 obtain ⟨xs, rfl, h3⟩ := hasW_list h1
 obtain ⟨ns, rfl⟩ := items_int h3
 have hlen : ns.length <= n := by
  unfold OpenLaw.pre at hc
  have h4 : (WTm.not (.lt (.lit (.int (n : Int))) (.len (.arg 0)))).holds [] { args := [.list (ns.map .int)] } = true := by
   have h4 := (holds_andW hc).1
   rw [hn] at h4
   exact h4
  have h5 := condW_of h4 (w_not (w_lt w_lit (w_len_list (w_arg rfl))))
  rw [List.length_map] at h5
  refine Nat.le_of_not_lt fun q => ?_
  have q' : (n : Int) < ((ns.length : Nat) : Int) := by (first|lia|omega)
  first
   | (rw [decide_eq_true q'] at h5; exact absurd h5 (by decide))
   | (simp at h5; (first|lia|omega))
 cases hwl with
 | cons w1 w2 =>
  cases w2
  cases w1 with
  | list ho hall => exact ⟨_, _, ns, rfl, rfl, ho, ints_of_wellAll ns _ hall, hlen⟩

theorem post_true (l : OpenLaw) (args : List WData) : l.row.toRowW.claim.post args (.bool true) args = true :=
 postW_of (r := l.row.toRowW) (X := (true == true))
  (show WShape.has [] (.bool true) .bool = true by first | rfl | decide | simp [WShape.has, WShape.arms, WShape.armsAll])
  (show (WTm.eq .res (.lit (.bool true))).value [] { args := args, res := some (.bool true), after := args } = some (.bool (true == true)) from w_eq_bool (w_res rfl) w_lit) rfl

theorem attach_call {l : OpenLaw} {n : Nat} {q : Program} {loose : List Str} {XP : (Str -> Option Value) -> Heap -> Prop} {YP : World -> Heap -> Prop} {d : DefRec}
  (hn : l.most = some n) (hdf : d.params.defaults = [])
  (call : ∀ (w : World) (s₀ s₁ : Shared) (mg mb : Str -> Option Value) (fa : Addr) (o : Obj) (pm cd doc : Value) (a : Addr) (vs : List Value) (ns : List Int),
   Ground q loose [] XP w s₀ mg mb s₁.heap -> YP w s₁.heap ->
   s₁.heap.get? fa = some o -> o.data = .func (docDef d.name d.params d.body d.scope pm cd doc) -> s₁.heap.CodeRec cd d.name -> mg d.name = some (.ref fa) ->
   s₁.heap.get? a = some { cls := .type "list", data := .seq vs.toArray } -> IntsAre vs ns -> ns.length <= n -> s₁.gens = #[] ->
   codeAny (model l.prog w) callerA (.call (.ref fa) ⟨[.ref a], []⟩) (fun r s' => r = .ok (.ret (.bool true)) /\ OldK s₁.heap s'.heap /\ s'.os = s₁.os /\ AllBare s'.gens) s₁) :
  WalkO q loose XP YP l.row.toRowW d [] (fun f vs => PySem.call f vs) := by
 intro w s₀ s₁ mg mb G Y fa o pm cd doc dV kV ho hd hcd hD hmg hg args vals as hpre hlay hrd hwl hlo
 obtain rfl : dV = .none := Dflts.none hD hdf
 obtain rfl : kV = .none := Dflts.noKw hD
 obtain ⟨a, vs, ns, rfl, rfl, hobj, hints, hlen⟩ := script_of hn hpre hwl
 refine enter_call (codeAny_mono (call w s₀ s₁ mg mb fa o pm cd doc a vs ns G Y ho (fd_plain hd) hcd hmg hobj hints hlen hg) fun r s' hq => ?_)
 obtain ⟨rfl, h2, h3, h4⟩ := hq
 exact ⟨.inl ⟨.bool true, .bool true, [], rfl, fun _ => rfl, .bool true, post_true l _, fun _ => ⟨List.Pairwise.nil, fun _ hm => (nomatch hm)⟩⟩, h2, h3, h4⟩

section
variable {prog : Program} {w : World} {A : Around} {E : Value -> Shared -> Prop} {s : Shared} {K : Frag}

def ledger (h : Heap) (L d : Addr) : List (Addr × Obj) := (List.range h.objs.size).filterMap fun a => if a = L \/ a = d then none else (h.get? a).map fun o => (a, o)
end
end Att

namespace L2
open PySem PySem.Spec PyProof.Rows

theorem vals_ints : ∀ {vs : List Value} {ns : List Int}, IntsAre vs ns -> Vals (ns.map V.int) vs
 | _, _, .nil => .nil
 | _, _, .cons n t h => .cons ⟨t, rfl⟩ (vals_ints h)

def Only (H : Hp) : Prop := ∀ b, H b = none \/ ∃ o xs, H b = some (.frz o (.lst xs))

theorem law_call {P : Program} {w : World} {K : PySem.W.Frag} {mg mb : Str -> Option Value} {CX : CXT} {k : Nat} {fa a : Addr} {fd : FuncData} {x : Str} {sp : Sp} {s₁ : Shared} {vs : List Value} {ns : List Int}
  (KX : K.In s₁.heap) (hns : s₁.heap.Ns mainGlobals mg) (hb : s₁.heap.Ns builtinsNs mb) (hbb : ∀ x : Str, x ≠ "__name__" -> mb x = bootBuiltins x) (hlim : s₁.heap.NoLimit) (hg : s₁.gens = #[])
  (ha : s₁.heap.get? a = some { cls := .type "list", data := .seq vs.toArray }) (hi : IntsAre vs ns) (hl : ns.length <= sizeLine) (hr : Room k callerA)
  (F : ∀ base : Heap, K.In base -> base.Ns mainGlobals mg -> FnOk P w K mg base CX k fa fd [x] sp) (hbind : ∀ (s : Shared) (u : Value), BindsTo s fd ⟨[u], []⟩ [(x, u)])
  (hsp : ∀ H : Hp, Only H -> SqL K H a (ns.map V.int) -> sp [.ref a] H (fun v _ => v = .bl true) fun _ _ _ => False)
  (hCX : ∀ H e s', CX [] H s₁ (fun _ _ _ => False) e s' -> False) :
  codeAny (model P w) callerA (.call (.ref fa) ⟨[.ref a], []⟩) (fun r s' => r = .ok (.ret (.bool true)) /\ OldK s₁.heap s'.heap /\ s'.os = s₁.os /\ AllBare s'.gens) s₁ := by
 have rv := vals_ints hi
 have lenV := hi.length
 have core : ∀ H : Hp, Only H -> SqL K H a (ns.map V.int) -> HOk P w H s₁.heap -> (∀ b, H b ≠ none -> b = a) -> (H a ≠ none -> K.lookup a = none) ->
   codeAny (model P w) callerA (.call (.ref fa) ⟨[.ref a], []⟩) (fun r s' => r = .ok (.ret (.bool true)) /\ OldK s₁.heap s'.heap /\ s'.os = s₁.os /\ AllBare s'.gens) s₁ := by
  intro H hO hS hok hA hK
  have base_of : ∀ {b : Addr} {o : Obj}, s₁.heap.get? b = some o -> H b = none -> (hidT s₁.heap H).get? b = some o := fun e n => hidT_get e n
  have noA : ∀ {b : Addr} {o : Obj} {es : Array DictEntry} {ep : Nat}, s₁.heap.get? b = some o -> o.data = .dict es ep -> H b = none := fun {b o es ep} e d => by
   cases q : H b with
   | none => rfl
   | some u =>
    have e' : b = a := hA b (by rw [q]; simp)
    subst e'
    rw [ha] at e; cases e
    have d' : Data.seq vs.toArray _ = Data.dict es ep := d
    cases d'
  have nsK : ∀ {b : Addr} {m : Str -> Option Value}, s₁.heap.Ns b m -> (hidT s₁.heap H).Ns b m := fun {b m} ⟨o, es, ep, e, d, r⟩ => ⟨o, es, ep, base_of e (noA e d), d, r⟩
  have hKb : K.In (hidT s₁.heap H) := fun b o e => base_of (KX b o e) (by
   cases q : H b with
   | none => rfl
   | some u =>
    have e' : b = a := hA b (by rw [q]; simp)
    subst e'
    rw [hK (by rw [q]; simp)] at e; cases e)
  have hM : Mod K mg (hidT s₁.heap H) := ⟨hKb, nsK hns, ⟨mb, nsK hb, hbb⟩, let ⟨mc, h1, h2⟩ := hlim; ⟨mc, nsK h1, h2⟩⟩
  have e0 : Env0 P w K mg (hidT s₁.heap H) callerA [] s₁ H := ⟨rfl, hM, fun b o e => of_hidT e, Nat.le_of_eq (hidT_size _ _), trivial, fun b hb => absurd (show b ∈ ([] : List Addr) from hb) (by simp), hok, .of_eq hg⟩
  refine codeAny_mono ((F _ hKb (nsK hns)).run callerA [] s₁ H ⟨[.ref a], []⟩ [.ref a] [.ref a] _ _ hr e0 (hbind s₁ (.ref a)) (.cons rfl .nil) (hsp H hO hS)) fun r s' h => ?_
  cases r with
  | error e => exact (hCX H e s' h).elim
  | ok fl =>
   cases fl with
   | next => exact False.elim h
   | brk => exact False.elim h
   | cont => exact False.elim h
   | ret u =>
    obtain ⟨v, H', os, bare, un, hok', r', q⟩ := h
    have q' : v = .bl true := q
    subst q'
    obtain rfl : u = Value.bool true := r'
    refine ⟨rfl, OldK.of_keep fun b o e => ?_, os, bare⟩
    cases q : H b with
    | none => exact un.keep b o e q (by intro z; exact absurd (show b ∈ ([] : List Addr) from z) (by simp)) (by simp)
    | some u =>
     rcases hO b with z | ⟨ob, xs, z⟩
     ·rw [q] at z; cases z
     ·have z2 := un.frzs b ob _ z
      obtain ⟨e1, _⟩ := hok b _ z
      obtain ⟨e2, _⟩ := hok' b _ z2
      rw [e] at e1; cases e1
      exact e2
 cases hk : K.lookup a with
 | some o =>
  have e := KX a o hk
  rw [ha] at e
  cases e
  refine core (fun _ => none) (fun _ => .inl rfl) (.inr ⟨_, vs.toArray, _, hk, rfl, rfl, rfl, by rw [List.size_toArray, lenV]; exact hl, by simpa using rv⟩) (fun b u z => by have z' : (none : Option HO) = some u := z; cases z') (fun b z => absurd rfl z) fun z => absurd rfl z
 | none =>
  refine core (fun b => if b = a then some (.frz { cls := .type "list", data := .seq vs.toArray } (.lst (ns.map V.int))) else none) (fun b => ?_) (.inl (.inr ⟨{ cls := .type "list", data := .seq vs.toArray }, if_pos rfl⟩)) (fun b u z => ?_) (fun b z => ?_) fun _ => hk
  ·by_cases hb : b = a
   ·exact .inr ⟨_, _, if_pos hb⟩
   ·exact .inl (if_neg hb)
  ·by_cases hb : b = a
   ·have z' := (if_pos hb).symm.trans z
    cases z'
    subst hb
    exact ⟨ha, by rw [List.length_map]; exact hl, vs, _, rv, ha⟩
   ·have z' := (if_neg hb).symm.trans z
    cases z'
  ·by_cases hb : b = a
   ·exact hb
   ·exact absurd (if_neg hb) z
end L2

namespace L2
open PySem PySem.Spec PyProof.Rows

theorem walk_of {l : PySem.W.OpenLaw} {n k : Nat} {q : Program} {loose : List Str} {XP : (Str -> Option Value) -> Heap -> Prop} {YP : World -> Heap -> Prop} {d : DefRec} {K : Params -> PySem.W.Frag} {CX : World -> CXT} {sp : World -> Sp} {x : Str}
  (hn : l.most = some n) (hn2 : n <= sizeLine) (hdf : d.params.defaults = []) (hr : Room k callerA)
  (hY : ∀ (w : World) (h : Heap), YP w h -> (K w.params).In h)
  (F : ∀ (w : World) (mg : Str -> Option Value) (fa : Addr) (h : Heap), (K w.params).In h -> h.Ns mainGlobals mg -> mg d.name = some (.ref fa) ->
   ∃ fd : FuncData, (∀ (s : Shared) (u : Value), BindsTo s fd ⟨[u], []⟩ [(x, u)]) /\
    ∀ base : Heap, (K w.params).In base -> base.Ns mainGlobals mg -> FnOk l.prog w (K w.params) mg base (CX w) k fa fd [x] (sp w))
  (hsp : ∀ (w : World) (H : Hp) (a : Addr) (ns : List Int), ns.length <= n -> Only H -> SqL (K w.params) H a (ns.map V.int) -> sp w [.ref a] H (fun v _ => v = .bl true) fun _ _ _ => False)
  (hCX : ∀ (w : World) (H : Hp) (s : Shared) (e : Value) (s' : Shared), CX w [] H s (fun _ _ _ => False) e s' -> False) :
  PySem.W.WalkO q loose XP YP l.row.toRowW d [] (fun f vs => PySem.call f vs) := by
 refine Att.attach_call hn hdf fun w s₀ s₁ mg mb fa o pm cd doc a vs ns G Y ho hd hcd hmg hobj hints hlen hg => ?_
 have KX := hY w _ Y
 obtain ⟨fd, hb, hF⟩ := F w mg fa _ KX G.T.g hmg
 exact law_call KX G.T.g G.T.b G.T.builtins G.T.nolimit hg hobj hints (Nat.le_trans hlen hn2) hr hF hb (fun H hO hS => hsp w H a ns hlen hO hS) fun H e s' => hCX w H s₁ e s'
end L2


namespace L2
open PySem PySem.Spec PyProof.Rows

def inClass (s : Stmt) (j : Nat) : Stmt := match s with
 | .ClassDef _ _ _ body _ _ _ _ _ _ _ => body.getD j (.Pass ⟨0, 0, 0, 0⟩)
 | _ => .Pass ⟨0, 0, 0, 0⟩
def defArgs (s : Stmt) : Arguments := match s with
 | .FunctionDef _ a _ _ _ _ _ _ _ _ => a
 | _ => { posonlyargs := [], args := [], vararg := none, kwonlyargs := [], kw_defaults := [], kwarg := none, defaults := [] }
def defBody (s : Stmt) : List Stmt := match s with
 | .FunctionDef _ _ b _ _ _ _ _ _ _ => b
 | _ => []
def defScope (s : Stmt) : Scope := match s with
 | .FunctionDef _ _ _ _ _ _ sc _ _ _ => sc
 | _ => { kind := .function, names := [], isGenerator := false, isCoroutine := false }

abbrev E0 : XK := fun _ _ _ => False
structure Fun (K : PySem.W.Frag) (x qual : Str) (st : Stmt) (f : Addr) (fd : FuncData) : Prop where
 ex : ∃ (oc : Value) (od : Option Addr) (kV doc pm : Value) (an : Option Addr) (cdv ct : Value) (osl : Array (Option Value)),
  fd = PySem.W.fnOf x qual (defArgs st) (defBody st) (defScope st) .none kV doc pm an cdv ct /\ K.lookup f = some ⟨oc, od, .func fd, osl⟩ /\ PySem.W.codeIn K cdv qual = true
 kp : PySem.W.keepIn K (.ref f) = true
section
variable {P : Program} {w : World} {K : PySem.W.Frag} {mg : Str -> Option Value} {base : Heap}
theorem Fun.binds {x qual : Str} {st : Stmt} {f : Addr} {fd : FuncData} {ps : List Str} (F : Fun K x qual st f fd)
  (h : ∀ (kV doc pm : Value) (an : Option Addr) (cdv ct : Value) (us : List Value), us.length = ps.length -> bindArgs (PySem.W.fnOf x qual (defArgs st) (defBody st) (defScope st) .none kV doc pm an cdv ct) ⟨us, []⟩ = pure (ps.zip us)) : Binds K fd ps [] := by
 obtain ⟨oc, od, kV, doc, pm, an, cdv, ct, osl, rfl, lk, hcd⟩ := F.ex
 exact .all (h kV doc pm an cdv ct)
theorem zV {x qual : Str} {st : Stmt} {f : Addr} {oc : Value} {od an : Option Addr} {osl : Array (Option Value)} {kV doc pm cdv ct : Value} (l : K.lookup f = some ⟨oc, od, .func (PySem.W.fnOf x qual (defArgs st) (defBody st) (defScope st) .none kV doc pm an cdv ct), osl⟩)
  (c : PySem.W.codeIn K cdv qual = true) (k : PySem.W.keepIn K (.ref f) = true) : Fun K x qual st f (PySem.W.fnOf x qual (defArgs st) (defBody st) (defScope st) .none kV doc pm an cdv ct) := ⟨⟨oc, od, kV, doc, pm, an, cdv, ct, osl, rfl, l, c⟩, k⟩
end
theorem jV {A : Around} {k : Nat} (hr : Room k A) : A.units + 1 < cLine := Nat.lt_of_le_of_lt (Nat.add_le_add_left (by decide : 1 <= 64) _) hr.units
theorem small1000 {n : Nat} (h : n <= 1000) : n < sizeLine := Nat.lt_of_le_of_lt h (by decide)

section
variable {X : Cx}
theorem pv (i : Nat) {x : Str} {pos : Pos} (hN : X.N[i]? = some x := by rfl) (hv : Vis X.env.scope x := by first | exact Or.inl rfl | exact Or.inr (Or.inl rfl) | exact Or.inr (Or.inr rfl)) (hd : (x == ("__debug__" : Str)) = false := by decide)
  (hcd : (x == ("__classdict__" : Str)) = false := by decide) : PE X (.Name x pos) (tVar i) := pe_var hN hv hd hcd
end

theorem iteF {A B : Prop} (h : B) : if false = true then A else B := by
 rw [if_neg Bool.false_ne_true]
 exact h
theorem iteT {A B : Prop} (h : A) : if true = true then A else B := by
 rw [if_pos rfl]
 exact h
theorem ite2 {c A B : Prop} [Decidable c] (h1 : c -> A) (h2 : ¬ c -> B) : if c then A else B := by
 by_cases h : c
 ·rw [if_pos h]
  exact h1 h
 ·rw [if_neg h]
  exact h2 h
theorem iteNS {c A B : Prop} [Decidable c] (hc : c) (h : B) : if (!decide c) = true then A else B := by
 rw [decide_eq_true hc]
 exact iteF h

def Same (H H' : Hp) : Prop := ∀ b o, H b = some o -> H' b = some o
theorem Same.trans {H H1 H2 : Hp} (a : Same H H1) (b : Same H1 H2) : Same H H2 := fun c o h => b c o (a c o h)
theorem Same.free {H H' : Hp} (e : Same H H') {l : Addr} (h : H' l = Option.none) : H l = Option.none := by
 cases q : H l with
 | none => rfl
 | some o =>
  rw [e l o q] at h
  cases h
end L2

namespace L2
open PySem PySem.Spec PyProof.Rows

theorem comp_turns {prog : Program} {w : World} {A : Around} {R : Result -> Shared -> Prop} {s : Shared} {elt target iter : Expr} {ifs : List Expr} {scope : Scope} {pos : Pos} {it acc : Value} {env : Env} (J : Nat -> Shared -> Prop)
  (turn : ∀ n s, J n s -> wpAny (model prog w) A (pyNext it) (fun r s1 => match r with
   | none => R (.ok .next) s1
   | some v => wpAny (model prog w) A (letOwnedTupleGo target it v) (fun _ s1 => wpAny (model prog w) A (assign target env v) (fun _ s2 =>
     wpAny (model prog w) A (forIn ifs true fun c r => if r = true then do let ok <- isTrue c env (eval c env); pure (ForInStep.yield ok) else pure (ForInStep.yield r)) (fun ok s3 =>
      if ok = true then wpAny (model prog w) A (eval elt env) (fun x s4 =>
       wpAny (model prog w) A (call (.builtin "list.append") [acc, x]) (fun _ s5 => ∃ m, m < n /\ J m s5) (fun _ _ => False) s4) (fun _ _ => False) s3
      else ∃ m, m < n /\ J m s3) (fun _ _ => False) s2) (fun _ _ => False) s1) (fun _ _ => False) s1) (fun _ _ => False) s)
  (n : Nat) (h : J n s) :
  codeAny (model prog w) A (.compLoop (.ListComp elt [⟨target, iter, ifs, 0⟩] scope pos) 0 it acc env) R s := by
 refine codeAny_loop rfl J (fun n s hI => ?_) n h
 show wpAny _ A ((compTurn (.ListComp elt [⟨target, iter, ifs, 0⟩] scope pos) 0 it acc env).onRaise (fun x => do noteFrame x env; theTreesLotGoes x)) _ _ s
 refine wpAny_noted (wpAny_mono (E := fun _ _ => False) ?_ (fun _ _ q => q) fun _ _ q => q.elim)
 rw [compTurn_list]
 refine wpAny_bind (wpAny_standAt (wpAny_bind (thn (turn n s hI) fun r s1 h1 => ?_)))
 cases r with
 | none => exact wpAny_pure h1
 | some v =>
  refine wpAny_bind (thn h1 fun _ s1 h1 => ?_)
  refine wpAny_bind (thn h1 fun _ s2 h2 => wpAny_bind (thn h2 fun ok s3 h3 => ?_))
  cases ok with
  | false => exact wpAny_pure ⟨rfl, h3⟩
  | true => exact wpAny_bind (wpAny_bind (thn h3 fun x s4 h4 => wpAny_bind (thn h4 fun _ s5 h5 => wpAny_pure (wpAny_pure ⟨rfl, h5⟩))))

theorem wX {env : Env} : ∀ (names : List (Str × NameKind)) (acc : List (Str × Addr)), (∀ y ∈ names, y.2 = .free -> ∃ c, env.cells.lookup y.1 = some c) ->
  ∃ cl : List (Str × Addr), (forIn names acc (fun (y : Str × NameKind) (r : List (Str × Addr)) => if (y.2 == NameKind.free) = true then do let a <- cellOf env y.1; pure (ForInStep.yield ((y.1, a) :: r)) else pure (ForInStep.yield r)) : Sem _) = pure cl /\
   ∀ x, (∀ c, cl.lookup x = some c -> acc.lookup x = some c \/ env.cells.lookup x = some c) /\ ((acc.lookup x).isSome = true \/ (x, NameKind.free) ∈ names -> (cl.lookup x).isSome = true)
 | [], acc, _ => ⟨acc, rfl, fun x => ⟨fun c h => .inl h, fun h => h.elim id fun z => nomatch z⟩⟩
 | (n, k) :: r, acc, hf => by
  by_cases hk : k = .free
  ·subst hk
   obtain ⟨c, hc⟩ := hf (n, .free) List.mem_cons_self rfl
   obtain ⟨cl, e, q⟩ := wX r ((n, c) :: acc) fun y hy => hf y (List.mem_cons_of_mem _ hy)
   refine ⟨cl, ?_, fun x => ⟨fun d hd => ?_, fun hx => ?_⟩⟩
   ·rw [List.forIn_cons]
    have e1 : cellOf env n = pure c := by unfold cellOf; simp only [hc]
    simp only [beq_self_eq_true, if_true, e1]
    exact e
   ·rcases (q x).1 d hd with z | z
    ·by_cases hx : x = n
     ·subst hx; rw [List.lookup_cons_self] at z; cases z; exact .inr hc
     ·rw [List.lookup_cons, beq_eq_false_iff_ne.mpr hx] at z; exact .inl z
    ·exact .inr z
   ·refine (q x).2 ?_
    by_cases hxn : x = n
    ·subst hxn; exact .inl (by rw [List.lookup_cons_self]; rfl)
    ·rcases hx with z | z
     ·exact .inl (by rw [List.lookup_cons, beq_eq_false_iff_ne.mpr hxn]; exact z)
     ·rcases List.mem_cons.mp z with z | z
      ·cases z; exact absurd rfl hxn
      ·exact .inr z
  ·obtain ⟨cl, e, q⟩ := wX r acc fun y hy => hf y (List.mem_cons_of_mem _ hy)
   refine ⟨cl, ?_, fun x => ⟨(q x).1, fun hx => (q x).2 ?_⟩⟩
   ·rw [List.forIn_cons]
    have hb : (k == NameKind.free) = false := by simpa using hk
    simp only [hb, Bool.false_eq_true, if_false]
    exact e
   ·rcases hx with z | z
    ·exact .inl z
    ·rcases List.mem_cons.mp z with z | z
     ·cases z; exact absurd rfl hk
     ·exact .inr z
theorem closure_at {env : Env} {scope : Scope} (hf : ∀ y ∈ scope.names, y.2 = .free -> ∃ c, env.cells.lookup y.1 = some c) :
  ∃ cl, closureFor scope env = pure cl /\ (∀ x c, cl.lookup x = some c -> env.cells.lookup x = some c) /\ ∀ x, (x, NameKind.free) ∈ scope.names -> ∃ c, cl.lookup x = some c := by
 obtain ⟨cl, e, q⟩ := wX scope.names [] hf
 refine ⟨cl, ?_, fun x c h => ?_, fun x hx => Option.isSome_iff_exists.mp ((q x).2 (.inr hx))⟩
 ·unfold closureFor
  exact (congrArg (· >>= fun r => pure r) e).trans rfl
 ·rcases (q x).1 c h with z | z
  ·simp at z
  ·exact z

abbrev Cx.comp (X : Cx) (N : List Str) (scope : Scope) (cl : List (Str × Addr)) (C : Addr) (fp : List Addr) (s : Shared) (H : Hp) : Cx :=
 { X with N := N, s₀ := s, H₀ := H, env := compEnvC scope cl C X.env, outer := X.stack, stack := X.stack, ex := fp, fn := fun _ => false, pn := [], xe := fun _ _ => False }

structure PTs (X : Cx) (ifs : List Expr) (t : TT)  : Prop where
 go : ∀ (pins : List (Addr × Obj)) (s : Shared) (σ : St) (H : Hp) (Q : Bool -> Hp -> Prop), Inv X pins σ H s -> t σ H Q ->
  wpAny (model X.prog X.w) X.A (forIn ifs true fun c r => if r = true then do let ok <- isTrue c X.env (eval c X.env); pure (ForInStep.yield ok) else pure (ForInStep.yield r)) (TP X pins σ Q) X.xe s
instance {X : Cx} {ifs : List Expr} {t : TT} : CoeFun (PTs X ifs t) (fun _ => ∀ (pins : List (Addr × Obj)) (s : Shared) (σ : St) (H : Hp) (Q : Bool -> Hp -> Prop), Inv X pins σ H s -> t σ H Q ->
  wpAny (model X.prog X.w) X.A (forIn ifs true fun c r => if r = true then do let ok <- isTrue c X.env (eval c X.env); pure (ForInStep.yield ok) else pure (ForInStep.yield r)) (TP X pins σ Q) X.xe s) := ⟨PTs.go⟩
def tYes : TT := fun _ H Q => Q true H
theorem pts_nil {X : Cx} : PTs X [] tYes := ⟨fun _ _ _ H _ I h => wpAny_tests_nil ⟨H, I, h⟩⟩
def compSt (own : Nat) (js : List Nat) (σ : St) : St := List.replicate own none ++ js.map fun j => (σ[j]?).join
def CompGo (J : It) (p : Addr) (σ0 : St) (H0 : Hp) (g : TG) (tt : TT) (te : TE) (R : Hp -> Prop) : Prop :=
 ∃ W : Nat -> Nat -> St -> Hp -> Prop, (∃ m, W 0 m σ0 H0) /\ ∀ i m σ' H', W i m σ' H' ->
  (J.stop i H' /\ R H') \/ (J.go i H' /\ ∀ x H2, J.yld i H' x H2 -> g x σ' H2 fun σ3 H3 => tt σ3 H3 fun b H4 =>
   if b = true then te σ3 H4 fun v H5 => ∃ ys, H5 p = some (.lst ys) /\ ys.length < sizeLine /\ ∃ m', m' < m /\ W (i + 1) m' σ3 (upd H5 p (.lst (ys ++ [v])))
   else ∃ m', m' < m /\ W (i + 1) m' σ3 H4)
def tComp (wi : TI) (own : Nat) (js : List Nat) (g : TG) (tt : TT) (te : TE) : TE := fun σ H Q => wi σ H fun J H1 => ∀ p, H1 p = none -> CompGo J p (compSt own js σ) (upd H1 p (.lst [])) g tt te (Q (.ref p))
inductive Frees (N : List Str) : List Str -> List Nat -> Prop where
 | nil : Frees N [] []
 | cons {y : Str} {j : Nat} {ys : List Str} {js : List Nat} (h : N[j]? = some y) (r : Frees N ys js) : Frees N (y :: ys) (j :: js)
theorem Frees.at {N : List Str} : ∀ {ys : List Str} {js : List Nat}, Frees N ys js -> ∀ (i : Nat) (y : Str), ys[i]? = some y -> ∃ j, js[i]? = some j /\ N[j]? = some y
 | _, _, .nil, _, _, e => by simp at e
 | _, _, .cons (j := j) h _, 0, _, e => by simp at e; subst e; exact ⟨j, rfl, h⟩
 | _, _, .cons _ r, i + 1, y, e => by
  obtain ⟨j, h1, h2⟩ := r.at i y (by simpa using e)
  exact ⟨j, by simpa using h1, h2⟩
theorem Frees.length {N : List Str} : ∀ {ys : List Str} {js : List Nat}, Frees N ys js -> ys.length = js.length
 | _, _, .nil => rfl
 | _, _, .cons _ r => by simp [r.length]
theorem qP {f : Str -> NameKind -> NameKind} : ∀ {names : List (Str × NameKind)} {x : Str}, (names.map fun y => (y.1, f y.1 y.2)).lookup x = (names.lookup x).map (f x)
 | [], _ => rfl
 | (n, k) :: r, x => by
  by_cases h : x = n
  ·subst h; rw [List.map_cons, List.lookup_cons_self, List.lookup_cons_self]; rfl
  ·have hb : (x == n) = false := beq_eq_false_iff_ne.mpr h
   rw [List.map_cons, List.lookup_cons, List.lookup_cons, hb]
   exact qP
def relK (env : Env) (n : Str) (k : NameKind) : NameKind := if (k == .free && env.scope.kind == .function && env.kindOf n == some .cell) = true then .cell else k
theorem relabel_look (scope : Scope) (env : Env) (x : Str) : (relabel scope env).names.lookup x = (scope.names.lookup x).map (relK env x) := by
 have e : (relabel scope env).names = scope.names.map fun y => (y.1, relK env y.1 y.2) := by
  unfold relabel
  refine List.map_congr_left fun y _ => ?_
  obtain ⟨n, k⟩ := y
  show (if (k == .free && env.scope.kind == .function && env.kindOf n == some .cell) = true then (n, NameKind.cell) else (n, k)) = (n, relK env n k)
  unfold relK
  split <;> rfl
 rw [e, qP]

section
variable {X : Cx} {elt target iter : Expr} {ifs : List Expr} {scope : Scope} {own ys : List Str} {js : List Nat} {wi : TI} {g : TG} {tt : TT} {te : TE} {pos : Pos}
theorem comp_block {pins : List (Addr × Obj)} {σ : St} {H : Hp} {s2 : Shared} {it : Addr} {fp : List Addr} {tn : Nat -> Heap -> Prop} {J : It} {Q : VK} {E : Value -> Shared -> Prop} {cl : List (Str × Addr)} {RR : Value -> Addr -> Result -> Shared -> Prop}
  (hc : X.calm = true) (I : Inv X pins σ H s2) (T : Turn X.prog X.w X.K target J fp it tn) (st : tn 0 s2.heap) (fpk : ∀ b ∈ fp, FpOk X pins H b)
  (hkind : scope.kind = .function) (hcell : ∀ y ∈ scope.names, y.2 ≠ .cell) (fr : Frees X.N ys js) (hys : ∀ y ∈ ys, X.env.kindOf y = some .cell)
  (hcl1 : ∀ x c, cl.lookup x = some c -> X.env.cells.lookup x = some c) (hcl2 : ∀ x, (x, NameKind.free) ∈ scope.names -> ∃ c, cl.lookup x = some c)
  (hvis : ∀ y ∈ ys, (relabel scope X.env).names.lookup y = some .cell)
  (hg : ∀ cl C fp s H, PG (X.comp (own ++ ys) scope cl C fp s H) target g) (ht : ∀ cl C fp s H, PTs (X.comp (own ++ ys) scope cl C fp s H) ifs tt) (he : ∀ cl C fp s H, PE (X.comp (own ++ ys) scope cl C fp s H) elt te)
  (h : ∀ p, H p = none -> ∃ W : Nat -> Nat -> St -> Hp -> Prop, (∃ m, W 0 m (compSt own.length js σ) (upd H p (.lst []))) /\ ∀ i m σ' H', W i m σ' H' ->
   (J.stop i H' /\ Q (.ref p) H') \/ (J.go i H' /\ ∀ x H2, J.yld i H' x H2 -> g x σ' H2 fun σ3 H3 => tt σ3 H3 fun b H4 =>
    if b = true then te σ3 H4 fun v H5 => ∃ ys, H5 p = some (.lst ys) /\ ys.length < sizeLine /\ ∃ m', m' < m /\ W (i + 1) m' σ3 (upd H5 p (.lst (ys ++ [v])))
    else ∃ m', m' < m /\ W (i + 1) m' σ3 H4))
  (hRR : ∀ D C (H' : Hp) (s' : Shared), Inv X pins σ H' s' -> Q (.ref D) H' -> (∃ m, s'.heap.Ns C m) -> H' C = none -> C ≠ X.env.locals -> X.s₀.heap.objs.size <= C -> (∀ x c, X.env.cells.lookup x = some c -> c ≠ C) -> (∀ p ∈ X.pn ++ pins, p.1 ≠ C) -> RR (.ref D) C (.ok .next) s') :
  wpAny (model X.prog X.w) X.A (newList []) (fun acc s3 => wpAny (model X.prog X.w) X.A (newFunctionEnv scope X.env.globals cl [] X.env.qual none .none (some X.env)) (fun cenv s4 =>
   codeAny (model X.prog X.w) X.A (.compStart (.ListComp elt [⟨target, iter, ifs, 0⟩] scope pos) 0 (.ref it) acc { cenv with scope := relabel scope X.env }) (RR acc cenv.locals) s4) E s3) E s2 := by
 refine wpAny_newObj_type (wpAny_newFunctionEnv hcell (by intro y hy; simp at hy) (fun h1 hns1 hsb1 => ?_) hkind)
 have hnp : H s2.heap.objs.size = none := I.hok.fresh (Nat.le_refl _)
 have I3 : Inv X pins σ (upd H s2.heap.objs.size (.lst [])) { s2 with heap := s2.heap.push { cls := .type "list", data := .seq ([] : List Value).toArray }, toks := s2.toks } :=
  I.lnew (its := []) (ys := []) .nil (Nat.zero_le _)
 obtain ⟨W, ⟨m0, w0⟩, turn⟩ := h _ hnp
 clear h
 generalize hH0 : upd H s2.heap.objs.size (.lst []) = H0 at I3 w0
 generalize hp : s2.heap.objs.size = p at *
 have eS : ({ s2 with heap := s2.heap.push { cls := .type "list", data := .seq ([] : List Value).toArray }, toks := s2.toks } : Shared) = { s2 with heap := s2.heap.push { cls := .type "list", data := .seq ([] : List Value).toArray } } := rfl
 rw [eS] at I3
 clear eS
 generalize hs3 : ({ s2 with heap := s2.heap.push { cls := .type "list", data := .seq ([] : List Value).toArray } } : Shared) = s3 at *
 have heap3 : s3.heap = s2.heap.push { cls := .type "list", data := .seq ([] : List Value).toArray } := by rw [<- hs3]
 have old3 : ∀ b o, s2.heap.get? b = some o -> s3.heap.get? b = some o := fun b o e => by rw [heap3]; exact Heap.get?_push_of_some _ e
 generalize hC : s3.heap.objs.size = C at *
 have st3 : tn 0 s3.heap := T.keep _ _ _ st fun b _ o e => old3 b o e
 have fp3 : ∀ b ∈ fp, b < C := fun b hb => by
  obtain ⟨o, e, _⟩ := T.obj _ _ st3 b hb
  have := Heap.lt_size e
  rw [hC] at this; exact this
 have nH0 : ∀ b ∈ fp, H0 b = none := fun b hb => by
  obtain ⟨o, e, _⟩ := T.obj _ _ st b hb
  rw [<- hH0, zK (fun z => by have := Heap.lt_size e; rw [hp, z] at this; exact Nat.lt_irrefl _ this)]
  exact (fpk b hb).1
 have old1 : ∀ b o, s3.heap.get? b = some o -> h1.get? b = some o := fun b o e =>
  hsb1.extBut b o (fun z => by have := Heap.lt_size e; rw [hC, z] at this; exact Nat.lt_irrefl _ this) (Heap.get?_push_of_some _ e)
 have nstk : ∀ b ∈ fp, b ∉ frs X.stack := fun b hb z => by
  rcases List.mem_cons.mp (I.stkSub b z) with e | e
  ·exact (fpk b hb).2.1 e
  ·exact (fpk b hb).2.2.1 e
 have ncC : ∀ x c, X.env.cells.lookup x = some c -> c ≠ C := fun x c e z => by
  obtain ⟨v, o, ho, _⟩ := I3.cell x c e
  have := Heap.lt_size ho
  rw [hC, z] at this; exact Nat.lt_irrefl _ this
 have LC : C ≠ X.env.locals := fun z => by have := I3.lt; rw [hC, z] at this; exact Nat.lt_irrefl _ this
 have sC : X.s₀.heap.objs.size <= C := by rw [<- hC]; exact I3.sz
 have rl : ∀ x k, (compEnvC scope cl C X.env).kindOf x = some k -> (k = .cell \/ k = .free) -> (x, NameKind.free) ∈ scope.names := fun x k e hk => by
  have e' : (relabel scope X.env).names.lookup x = some k := e
  rw [relabel_look] at e'
  cases q : scope.names.lookup x with
  | none => rw [q] at e'; cases e'
  | some k0 =>
   rw [q] at e'
   have m0 := PySem.mem_of_lookup q
   have n0 := hcell _ m0
   have : relK X.env x k0 = k := Option.some.inj e'
   unfold relK at this
   split at this
   ·rename_i z
    have : k0 = .free := by
     simp only [Bool.and_eq_true, beq_iff_eq] at z
     exact z.1.1
    rw [<- this]; exact m0
   ·rcases hk with hk | hk
    ·exact absurd (this.trans hk) n0
    ·rw [<- hk, <- this]; exact m0
 let Y := X.comp (own ++ ys) scope cl C fp s3 H0
 have okY : Y.Ok := by
  refine ⟨I.ok.mod, ?_, I.ok.glob, I.ok.blt, ?_, fun x y c e1 e2 => I.ok.inj x y c (hcl1 x c e1) (hcl1 y c e2), fun x hx => ?_, fun x c z => (nomatch z), I.ok.hd, I.ok.frames, .inl rfl, fun b hb => ⟨?_, fun x c e => (fpk b hb).2.2.2.2.1 x c (hcl1 x c e)⟩, fun b o e => I3.bs b o e, ?_, fun b o e hb => ?_, nstk, I3.stack, I3.stkFree⟩
  ·exact hkind
  ·exact Nat.le_of_eq hC
  ·rcases hx with hx | hx
   ·exact hcl2 x (rl x _ hx (.inl rfl))
   ·exact hcl2 x (rl x _ hx (.inr rfl))
  ·exact Nat.ne_of_lt (fp3 b hb)
  ·exact Nat.le_trans I.ok.bsz I3.sz
  ·rcases (fpk b hb).2.2.2.1 with z | z
   ·exact I.ok.noex b o e z
   ·exact absurd (Nat.lt_of_lt_of_le (Heap.lt_size e) (Nat.le_trans I.ok.bsz z)) (Nat.lt_irrefl _)
 have I4 : Inv Y [] (compSt own.length js σ) H0 { s3 with heap := h1, toks := s3.toks + ([] : List (Str × Value)).length } := by
  refine ⟨okY, rfl, I3.bare, Un.kept old1, ⟨_, hns1, fun i x v e1 e2 e3 => ?_⟩, fun x c e => ?_, ?_, fun x c e => I3.freeC x c (hcl1 x c e), fun p hp => absurd (show p ∈ ([] : List (Addr × Obj)) from hp) (by simp), I3.hok.kept old1, ?_⟩
  ·have e1 : (own ++ ys)[i]? = some x := e1
   have hi : own.length <= i := Nat.le_of_not_lt fun lt => by
    unfold compSt at e2
    rw [List.getElem?_append_left (by simpa using lt), List.getElem?_replicate] at e2
    split at e2 <;> cases e2
   rw [List.getElem?_append_right hi] at e1
   obtain ⟨j, hj, hN⟩ := fr.at _ _ e1
   unfold compSt at e2
   rw [List.getElem?_append_right (by simpa using hi), List.length_replicate, List.getElem?_map, hj] at e2
   have e2 : (σ[j]?).join = some v := Option.some.inj e2
   have e2' : σ[j]? = some (some v) := by
    cases q : σ[j]? with
    | none => rw [q] at e2; cases e2
    | some z => rw [q] at e2; rw [show z = some v from e2]
   have my := List.mem_of_getElem? e1
   have hk := hys x my
   obtain ⟨m, hn, hl⟩ := I3.loc
   obtain ⟨u, r, q⟩ := hl j x v hN e2' (.inr (.inl hk))
   refine ⟨u, r, ?_⟩
   rcases q with ⟨k, _⟩ | ⟨_, c, e, z⟩
   ·rw [hk] at k; cases k
   ·obtain ⟨c', e'⟩ := hcl2 x (rl x _ (hvis x my) (.inl rfl))
    have : c' = c := by have := hcl1 x c' e'; rw [e] at this; exact (Option.some.inj this).symm
    subst this
    refine .inr ⟨?_, c', e', ?_⟩
    ·exact .inl (hvis x my)
    ·obtain ⟨o, ho, hd⟩ := z
     exact ⟨o, old1 _ _ ho, hd⟩
  ·obtain ⟨v, o, ho, hd⟩ := I3.cell x c (hcl1 x c e)
   exact ⟨v, o, old1 _ _ ho, hd⟩
  ·exact I3.hok.fresh (Nat.le_of_eq hC)
  ·unfold compSt
   show _ = (own ++ ys).length
   rw [List.length_append, List.length_replicate, List.length_map, List.length_append, fr.length]
 have stat : ∀ {H' : Hp}, (∀ b ∈ fp, H' b = none) -> ∀ b ∈ fp, FpOk Y [] H' b := fun hn b hb =>
  ⟨hn b hb, Nat.ne_of_lt (fp3 b hb), nstk b hb, .inl hb, fun x c e => (fpk b hb).2.2.2.2.1 x c (hcl1 x c e), fun p hp => absurd (show p ∈ ([] : List (Addr × Obj)) from hp) (by simp)⟩
 have fin : ∀ {σ' : St} {H' : Hp} {s' : Shared}, Inv Y [] σ' H' s' -> Q (.ref p) H' -> RR (.ref p) C (.ok .next) s' := fun {σ' H' s'} I' q => by
  have back : Inv X pins σ H' s' := I3.call' (ch := fp) I'.os I'.base I'.hok I'.bare fun b hb => ⟨(fpk b hb).2.2.2.1, (fpk b hb).2.1, (fpk b hb).2.2.2.2.1, (fpk b hb).2.2.2.2.2⟩
  obtain ⟨m, hn, _⟩ := I'.loc
  exact hRR p C H' s' back q ⟨m, hn⟩ I'.free LC sC ncC fun q hq z => by
   have := Heap.lt_size (I3.pin q hq).1
   rw [hC, z] at this; exact Nat.lt_irrefl _ this
 have loop : ∀ s4 : Shared, s4 = { s3 with heap := h1, toks := s3.toks + ([] : List (Str × Value)).length } ->
   codeAny (model X.prog X.w) X.A (.compLoop (.ListComp elt [⟨target, iter, ifs, 0⟩] scope pos) 0 (.ref it) (.ref p) (compEnvC scope cl C X.env)) (RR (.ref p) C) s4 := by
  rintro s4 rfl
  refine comp_turns (fun n s' => ∃ i σ' H', Inv Y [] σ' H' s' /\ tn i s'.heap /\ (∀ b ∈ fp, H' b = none) /\ W i n σ' H') ?_ m0 ⟨0, _, _, I4, T.keep _ _ _ st3 fun b _ o e => old1 b o e, nH0, w0⟩
  rintro n s5 ⟨i, σ5, H5, I5, st5, fr5, w5⟩
  rcases turn i n σ5 H5 w5 with ⟨stop, qn⟩ | ⟨go, step⟩
  ·refine thn (T.done Y rfl rfl rfl hc i [] s5 σ5 H5 (fun _ _ => False) I5 (stat fr5) st5 stop) fun r s6 hzz => ?_
   obtain ⟨hr, I6⟩ := hzz
   subst hr
   exact fin I6 qn
  ·refine thn (T.item Y rfl rfl rfl hc i [] s5 σ5 H5 (fun _ _ => False) I5 (stat fr5) st5 go) fun r s6 hzz => ?_
   obtain ⟨u, hr, h6⟩ := hzz
   subst hr
   refine thn h6 fun _ s7 hzz => ?_
   obtain ⟨x, H7, I7, r7, y7, st7, fr7⟩ := hzz
   have I7' := I7.pinned (stat fr7) (T.obj _ _ st7)
   have again : ∀ {σ9 : St} {H9 : Hp} {s9 : Shared} {m' : Nat}, Inv Y ([] ++ pinsAt fp s7.heap) σ9 H9 s9 -> m' < n -> W (i + 1) m' σ9 H9 -> ∃ m, m < n /\ ∃ i σ' H', Inv Y [] σ' H' s9 /\ tn i s9.heap /\ (∀ b ∈ fp, H' b = none) /\ W i m σ' H' := fun {σ9 H9 s9 m'} I9 hm w9 => by
    refine ⟨m', hm, i + 1, σ9, H9, I9.unpinned, T.keep _ _ _ st7 fun b hb o e => (I9.pin (b, o) (List.mem_append_right _ (List.mem_append_right _ (qU hb e)))).1, fun b hb => ?_, w9⟩
    obtain ⟨o, e, d⟩ := T.obj _ _ st7 b hb
    exact (I9.pin (b, o) (List.mem_append_right _ (List.mem_append_right _ (qU hb e)))).2.1
   refine thn (hg cl C fp s3 H0 _ s7 σ5 H7 x u _ I7' r7 (step x H7 y7)) fun _ s8 hzz => ?_
   obtain ⟨σ8, H8, I8, q8⟩ := hzz
   refine thn (ht cl C fp s3 H0 _ s8 σ8 H8 _ I8 q8) fun b s9 hzz => ?_
   obtain ⟨H9, I9, q9⟩ := hzz
   cases b with
   | false =>
    obtain ⟨m', hm, w9⟩ := q9
    exact again I9 hm w9
   | true =>
    refine thn (he cl C fp s3 H0 _ s9 σ8 H9 _ I9 q9) fun y s10 hzz => ?_
    obtain ⟨v, H10, I10, r10, zs, e10, z10, m', hm, w10⟩ := hzz
    refine thn (yJ (X := Y) _ s10 σ8 H10 (.ref p) [v] (.ref p) [y] (fun _ H' => H' = upd H10 p (.lst (zs ++ [v]))) I10 rfl (.cons r10 .nil) ⟨p, zs, v, rfl, rfl, e10, z10, rfl⟩) fun _ s11 hzz => ?_
    obtain ⟨_, H11, I11, _, q11⟩ := hzz
    subst q11
    exact again I11 hm w10
 have st4 : tn 0 h1 := T.keep _ _ _ st3 fun b _ o e => old1 b o e
 exact codeAny_compStart_list (loop _ rfl) (T.self _ 0 _ _ _ st4 (loop _ rfl))
end

section
variable {X : Cx} {elt target iter : Expr} {ifs : List Expr} {scope : Scope} {own ys : List Str} {js : List Nat} {wi : TI} {g : TG} {tt : TT} {te : TE} {pos : Pos}
structure CompSc (X : Cx) (scope : Scope) (ys : List Str) : Prop where
 kind : scope.kind = .function
 cell : ∀ y ∈ scope.names, y.2 ≠ .cell
 loc : ∀ y ∈ scope.names, y.2 = .local -> scope.names.lookup y.1 = some .local
 free : ∀ y ∈ scope.names, y.2 = .free -> X.env.kindOf y.1 = some .cell
 cap : ∀ y ∈ ys, X.env.kindOf y = some .cell
 vis : ∀ y ∈ ys, (relabel scope X.env).names.lookup y = some .cell
def compScB (sc scope : Scope) (ys : List Str) : Bool :=
 scope.kind == .function && sc.kind == .function && (scope.names.all fun y => y.2 != .cell && (y.2 != .local || scope.names.lookup y.1 == some .local) && (y.2 != .free || sc.names.lookup y.1 == some .cell)) &&
  ys.all fun y => sc.names.lookup y == some .cell && scope.names.lookup y == some .free
theorem compSc_of {sc : Scope} (hsc : X.env.scope = sc) (h : compScB sc scope ys = true) : CompSc X scope ys := by
 unfold compScB at h
 simp only [Bool.and_eq_true, List.all_eq_true, beq_iff_eq, bne_iff_ne, Bool.or_eq_true, ne_eq] at h
 obtain ⟨⟨⟨h1, h0⟩, h2⟩, h3⟩ := h
 subst hsc
 refine ⟨h1, fun y hy => (h2 y hy).1.1, fun y hy e => ?_, fun y hy e => ?_, fun y hy => (h3 y hy).1, fun y hy => ?_⟩
 ·rcases (h2 y hy).1.2 with z | z
  ·exact absurd e z
  ·exact z
 ·rcases (h2 y hy).2 with z | z
  ·exact absurd e z
  ·exact z
 ·rw [relabel_look, (h3 y hy).2]
  show some (relK X.env y .free) = _
  have z : X.env.kindOf y = some .cell := (h3 y hy).1
  unfold relK
  rw [z, h0]
  rfl
theorem pe_comp (hc : X.calm = true) (hi : PI X target iter wi) (S : CompSc X scope ys) (fr : Frees X.N ys js)
  (hg : ∀ cl C fp s H, PG (X.comp (own ++ ys) scope cl C fp s H) target g) (ht : ∀ cl C fp s H, PTs (X.comp (own ++ ys) scope cl C fp s H) ifs tt) (he : ∀ cl C fp s H, PE (X.comp (own ++ ys) scope cl C fp s H) elt te)
  (hs : ∀ x, foldedSetIterable iter X.env x = pure x := by intro _; rfl) : PE X (.ListComp elt [⟨target, iter, ifs, 0⟩] scope pos) (tComp wi own.length js g tt te) := by
 refine ⟨?_⟩
 intro pins s σ H Q I h
 rw [eval_ListComp]
 obtain ⟨cl, e, c1, c2⟩ := closure_at (env := X.env) (scope := scope) fun y hy hf => I.ok.has y.1 (.inl (S.free y hy hf))
 refine wpAny_comprehension_free (use := none) rfl hs e S.kind S.loc (thn (hi pins s σ H _ I h) fun v s1 h1 => thn h1 fun itv s2 h2 => ?_)
 obtain ⟨it, fp, tn, J, H2, e, I2, T, st2, f2, q2⟩ := h2
 subst e
 refine comp_block (Q := Q) (RR := fun acc C => compPost (model X.prog X.w) X.A X.xe none (EP X pins σ Q) acc C) hc I2 T st2 f2 S.kind S.cell fr S.cap c1 c2 S.vis hg ht he q2 ?_
 intro D C H' s' I' q hm n1 n2 n3 n4 n5
 obtain ⟨m, hn⟩ := hm
 exact ⟨m, hn, fun h' hs' => ⟨.ref D, H', I'.turned (fun b o hb e => (hs'.2 b hb).trans e) n1 n2 (.inr n3) n4 n5, rfl, q⟩⟩
end
end L2

namespace L2
open PySem PySem.Spec PyProof.Rows
section
variable {X : Cx} {x : Str} {p pos : Pos} {e : Expr} {es : List Expr} {t : TA}

def GInt (mg : Str -> Option Value) (x : Str) (i : Int) : Prop := ∃ t, mg x = some (.int i t)
theorem zP {i : Int} (hg : Gl X x) (hm : GInt X.mg x i) (hd : (x == ("__debug__" : Str)) = false := by decide) : PE X (.Name x pos) (tC (.int i)) := by
 obtain ⟨t, hm⟩ := hm
 exact pe_glob (v := .int i) hg hm ⟨t, rfl⟩ hd
theorem pe_gref {a : Addr} (hg : Gl X x) (hm : X.mg x = some (.ref a)) (hd : (x == ("__debug__" : Str)) = false := by decide) : PE X (.Name x pos) (tC (.ref a)) := pe_glob (v := .ref a) hg hm rfl hd

structure Cal (P : Program) (w : World) (K : PySem.W.Frag) (mg : Str -> Option Value) (base : Heap) (CX : CXT) (k : Nat) (x : Str) (ps : List Str) (sp : Sp) : Prop where
 ex : ∃ f fd, FnOk P w K mg base CX k f fd ps sp /\ mg x = some (.ref f) /\ PySem.W.keepIn K (.ref f) = true /\ Binds K fd ps []
theorem zH {CX : CXT} {k n : Nat} {ps : List Str} {sp : Sp} {E : XK} (C : Cal X.prog X.w X.K X.mg X.base CX k x ps sp) (hr : Room n X.A) (hg : Gl X x) (ha : PA X (e :: es) t) (hx : Passes CX X E) (hk : k <= n := by first | decide | (first|lia|omega)) (hdb : (x == ("__debug__" : Str)) = false := by decide)
  (he : starEach (e :: es) X.env = (false, eval e X.env) :: starEach es X.env := by rfl) (hpl : (backTo pos (starEach es X.env)).any (·.1) = false := by rfl) : PE X (.Call (.Name x p) (e :: es) [] pos) (tCall sp [] E t) := by
 obtain ⟨f, fd, F, hm, kp, hb⟩ := C.ex
 exact pe_call F (hr.mono hk) hg hm kp hb .nil hx ha hdb he hpl
inductive Consts : List Expr -> List V -> Prop where
 | nil : Consts [] []
 | int {i j pos es vs} (r : Consts es vs) : Consts (.Constant (.int i) j pos :: es) (.int i :: vs)
 | str {x j pos es vs} (r : Consts es vs) : Consts (.Constant (.str x) j pos :: es) (.str x :: vs)
theorem yA : ∀ {es : List Expr} {vs : List V}, Consts es vs -> PA X es (fun _ H Q => Q vs H)
 | _, _, .nil => ⟨fun pos pins s σ H Q I h => zC pos pins s σ H Q I h⟩
 | _, _, .int r => ⟨fun pos pins s σ H Q I h => zA zE (yA r) (by rfl) pos pins s σ H Q I h⟩
 | _, _, .str r => ⟨fun pos pins s σ H Q I h => zA zZ (yA r) (by rfl) pos pins s σ H Q I h⟩

def rIsi (K : PySem.W.Frag) : List V -> Hp -> VK -> Prop := fun xs H Q =>
 (∃ x n t b, xs = [x, .ty n] /\ TyOf K H x t /\ PySem.W.kitOne K t (.type n) = some b /\ Q (.bl b) H) \/ ∃ x C t b, xs = [x, .ref C] /\ TyOf K H x t /\ PySem.W.kitOne K t (.ref C) = some b /\ Q (.bl b) H
theorem call_isiK (K : PySem.W.Frag) (hK : X.K = K) : CallR X (.builtin "isinstance") (rIsi K) := by
 subst hK
 intro pins s σ H xs us Q I r h
 rcases h with ⟨x, n, t, b, rfl, ty, e, q⟩ | ⟨x, C, t, b, rfl, ty, e, q⟩
 ·obtain ⟨u, w', rfl, ru, rw'⟩ := vals2 r
  cases rw'
  exact isinst_ok I ru ty e fun tk => ⟨.bl b, H, I.tok tk, rfl, q⟩
 ·obtain ⟨u, w', rfl, ru, rw'⟩ := vals2 r
  cases rw'
  exact isinst_ok I ru ty e fun tk => ⟨.bl b, H, I.tok tk, rfl, q⟩
theorem call_isi : CallR X (.builtin "isinstance") (rIsi X.K) := call_isiK X.K rfl

theorem ix_listK (K : PySem.W.Frag) (hK : X.K = K) : IxR X (rIxL K) := hK ▸ zX
theorem ix_tupK (K : PySem.W.Frag) (hK : X.K = K) : IxR X (rIxT K) := hK ▸ yH
def FirstAt (xs : List V) (y : V) (j : Nat) : Prop := (∃ z, xs[j]? = some z /\ eqV z y = true) /\ ∀ (m : Nat) (z : V), m < j -> xs[m]? = some z -> eqV z y = false
def rIndex (S : Hp -> Addr -> List V -> Prop) : V -> List V -> Hp -> VK -> Prop := fun x vs H Q => ∃ l xs y j, x = .ref l /\ vs = [y] /\ S H l xs /\ flatV y = true /\ xs.all flatV = true /\ FirstAt xs y j /\ Q (.int (j : Nat)) H
theorem first_items {xs : List V} {its : List Value} {y : V} {j : Nat} (r : Vals xs its) (fx : xs.all flatV = true) (f : FirstAt xs y j) :
  ∃ hj : j < its.length, eqU y its[j] = true /\ ∀ m (hm : m < its.length), m < j -> eqU y its[m] = false := by
 obtain ⟨⟨z, hz, ez⟩, hno⟩ := f
 have fz : ∀ {m : Nat} {z : V}, xs[m]? = some z -> flatV z = true := fun {m z} h => List.all_eq_true.mp fx z (List.mem_of_getElem? h)
 obtain ⟨u, hu, ru⟩ := r.get hz
 obtain ⟨hj, eu⟩ := List.getElem?_eq_some_iff.mp hu
 refine ⟨hj, ?_, fun m hm hlt => ?_⟩
 ·rw [eu, eqU_of ru (fz hz)]; exact ez
 ·have hm' : m < xs.length := by rw [r.length]; exact hm
  have hx : xs[m]? = some xs[m] := List.getElem?_eq_getElem hm'
  obtain ⟨u', hu', ru'⟩ := r.get hx
  obtain ⟨_, eu'⟩ := List.getElem?_eq_some_iff.mp hu'
  rw [eu', eqU_of ru' (fz hx)]
  exact hno m _ hlt hx
theorem mt_indexL : MtR X "list.index" (rIndex (SqL X.K)) := by
 intro pins s σ H x vs v us Q I rx rv h
 obtain ⟨l, xs, y, j, rfl, rfl, hl, fy, fx, fa, q⟩ := h
 cases rx
 obtain ⟨u, rfl, ru⟩ := rv.one
 obtain ⟨its, r, pl, hsz⟩ := I.list hl
 obtain ⟨hj, h1, h2⟩ := first_items r fx fa
 obtain ⟨⟨cls, dd, data, sl⟩, n, ho, hc, hd, hdat⟩ := pl
 simp only at hc hd hdat
 subst hc hd hdat
 refine call_meets F.slot_list_index ⟨_, ho, rfl⟩ F.entry_list_index (F.args_list_index_2 _ _)
  (SeqAt.list_indexAt l its.toArray n _ sl u (eqU y) j (by simpa using hj) ?_ (by simpa using h1) (by simpa using h2)) ⟨ho, fun w hw => mem_eqAt ru fy r fx w (by simpa using hw), ?_⟩
 ·have := line63
  have z := r.length
  (first|lia|omega)
 ·exact ⟨.int j, H, I.tok _, ⟨_, rfl⟩, q⟩
end
end L2

namespace L2
open PySem PySem.Spec PyProof.Rows
theorem xY : bootBuiltins "len" = some (.builtin "len") := PySem.boot_len
theorem bt_abs : bootBuiltins "abs" = some (.builtin "abs") := by decide +kernel
theorem wN : bootBuiltins "isinstance" = some (.builtin "isinstance") := by decide +kernel
theorem bt_int : bootBuiltins "int" = some (.type "int") := by decide +kernel
theorem bt_bool : bootBuiltins "bool" = some (.type "bool") := by decide +kernel
theorem bt_list : bootBuiltins "list" = some (.type "list") := by decide +kernel
theorem bt_tuple : bootBuiltins "tuple" = some (.type "tuple") := by decide +kernel
theorem bt_reversed : bootBuiltins "reversed" = some (.type "reversed") := by decide +kernel
theorem small {n : Nat} (h : n <= 1000) : n <= sizeLine := Nat.le_of_lt (small1000 h)
theorem zF {H : Hp} {p : Addr} (h : H p = none) (o : HO) : Same H (upd H p o) := fun b u q => by rw [zK (zI q h)]; exact q

def Scr (K : PySem.W.Frag) (H : Hp) (a : Addr) (ns : List Int) : Prop :=
 (∃ o, H a = some (.frz o (.lst (ns.map V.int)))) \/
  ∃ (o : Obj) (its : Array Value) (n : Nat), K.lookup a = some o /\ o.cls = .type "list" /\ o.dict = none /\ o.data = .seq its n /\ its.size <= sizeLine /\ Vals (ns.map V.int) its.toList
theorem Scr.sq {K : PySem.W.Frag} {H : Hp} {a : Addr} {ns : List Int} (h : Scr K H a ns) : SqL K H a (ns.map V.int) := by
 rcases h with h | h
 ·exact .inl (.inr h)
 ·exact .inr h
theorem Scr.of {K : PySem.W.Frag} {H : Hp} {a : Addr} {ns : List Int} (hO : Only H) (h : SqL K H a (ns.map V.int)) : Scr K H a ns := by
 rcases h with (h | h) | h
 ·rcases hO a with z | ⟨o, xs, z⟩
  ·rw [h] at z; cases z
  ·rw [h] at z; cases z
 ·exact .inl h
 ·exact .inr h
def Keep (st : Addr) (H H' : Hp) : Prop := ∀ b o, b ≠ st -> H b = some o -> H' b = some o
theorem Keep.refl (st : Addr) (H : Hp) : Keep st H H := fun _ _ _ e => e
theorem Keep.trans {st : Addr} {H H1 H2 : Hp} (a : Keep st H H1) (b : Keep st H1 H2) : Keep st H H2 := fun c o n e => b c o n (a c o n e)
theorem Keep.same {st : Addr} {H H1 : Hp} (a : Same H H1) : Keep st H H1 := fun c o _ e => a c o e
theorem Keep.upd {st : Addr} {H : Hp} {o : HO} : Keep st H (upd H st o) := fun c u n e => by rw [zK n]; exact e
theorem Keep.new {st p : Addr} {H : Hp} (o : HO) (h : H p = none) : Keep st H (L2.upd H p o) := Keep.same (zF h o)
def Draw (K : PySem.W.Frag) (H : Hp) (st : Addr) : Prop := ∃ a ns k c, H st = some (.lst [.ref a, .int k, .int c]) /\ Scr K H a ns /\ ns.length <= 63 /\ 0 <= k /\ 0 <= c
structure Drawn (K : PySem.W.Frag) (st : Addr) (H H' : Hp) : Prop where
 draw : Draw K H' st
 keep : Keep st H H'
def spMixed : Sp := fun vs H Q _ => ∃ c k : Int, vs = [.int c, .int k] /\ ∀ r : Int, 0 <= r -> Q (.int r) H
def spLaw (K : PySem.W.Frag) : Sp := fun vs H Q _ => ∃ (a : Addr) (ns : List Int), vs = [.ref a] /\ Scr K H a ns /\ ns.length <= 63 /\ ∀ H', Q (.bl true) H'
theorem atI_int {ns : List Int} {k : Int} (h0 : 0 <= k) (h : k < (ns.length : Int)) : ∃ v : Int, atI (ns.map V.int) k = some (.int v) := by
 have hk : k.toNat < ns.length := by (first|lia|omega)
 have q : atI (ns.map V.int) ((k.toNat : Nat) : Int) = some (.int ns[k.toNat]) := kA (by rw [List.getElem?_map, List.getElem?_eq_getElem hk] <;> rfl)
 rw [show ((k.toNat : Nat) : Int) = k by (first|lia|omega)] at q
 exact ⟨_, q⟩

theorem tyes {σ : St} {H : Hp} {A B : Hp -> Prop} (h : A H) : tYes σ H fun b H4 => if b = true then A H4 else B H4 := by
 show if true = true then A H else B H
 exact iteT h
def CompW (n : Nat) (fs : St) (Pv : Nat -> List V -> Hp -> Prop) (i m : Nat) (σ : St) (H : Hp) : Prop := i <= n /\ m = n - i /\ (∃ v, σ = v :: fs) /\ ∃ ys, Pv i ys H
theorem CompW.next {n : Nat} {fs : St} {Pv : Nat -> List V -> Hp -> Prop} {i : Nat} {v : Option V} {H : Hp} {ys : List V} (hi : i < n) (h : Pv (i + 1) ys H) : ∃ m', m' < n - i /\ CompW n fs Pv (i + 1) m' (v :: fs) H :=
 ⟨n - (i + 1), by (first|lia|omega), by (first|lia|omega), rfl, ⟨v, rfl⟩, ys, h⟩
theorem comp_rng {lo : Int} {n : Nat} {fs : St} {tt : TT} {te : TE} {R : Hp -> Prop} {p : Addr} {H0 : Hp} (Pv : Nat -> List V -> Hp -> Prop) (h0 : Pv 0 [] H0)
  (hs : ∀ i ys H, i < n -> Pv i ys H -> tt (some (.int (lo + (i : Nat))) :: fs) H fun b H4 =>
   if b = true then te (some (.int (lo + (i : Nat))) :: fs) H4 fun v H5 => ∃ ys, H5 p = some (.lst ys) /\ ys.length < sizeLine /\ ∃ m', m' < n - i /\ CompW n fs Pv (i + 1) m' (some (.int (lo + (i : Nat))) :: fs) (upd H5 p (.lst (ys ++ [v])))
   else ∃ m', m' < n - i /\ CompW n fs Pv (i + 1) m' (some (.int (lo + (i : Nat))) :: fs) H4)
  (hd : ∀ ys H, Pv n ys H -> R H) : CompGo (Itr lo n) p (none :: fs) H0 (gName 0) tt te R := by
 refine ⟨CompW n fs Pv, ⟨n, Nat.zero_le _, rfl, ⟨_, rfl⟩, [], h0⟩, fun i m σ' H' w => ?_⟩
 obtain ⟨hi, rfl, ⟨v, rfl⟩, ys, hp⟩ := w
 by_cases hlt : i < n
 ·refine .inr ⟨hlt, fun x H2 y => ?_⟩
  obtain ⟨rfl, rfl⟩ := y
  exact hs i ys _ hlt hp
 ·have : i = n := by (first|lia|omega)
  subst this
  exact .inl ⟨Nat.le_refl _, hd ys H' hp⟩
theorem kit_of {K : PySem.W.Frag} {t : Value} {n : String} {b : Bool} (h : PySem.W.subIn K t (.type n) = some b) (h1 : (t == Value.type n) = false := by decide) (h2 : PySem.W.kitMeta n = true := by decide +kernel) : PySem.W.kitOne K t (.type n) = some b := by
 unfold PySem.W.kitOne PySem.W.kitCls
 rw [h1]
 simp only [Bool.false_eq_true, if_false, h2, if_true]
 exact h
theorem wE {K : PySem.W.Frag} {t : Value} (h : (t == t) = true := by decide) : PySem.W.kitOne K t t = some true := by
 unfold PySem.W.kitOne
 rw [if_pos h]
theorem sqT_of {K : PySem.W.Frag} {a : Addr} {its : Array Value} {n : Nat} {sl : Array (Option Value)} {dd : Option Addr} {xs : List V} (h : K.lookup a = some ⟨.type "tuple", dd, .seq its n, sl⟩) (hz : its.size <= sizeLine) (r : Vals xs its.toList) (H : Hp) : SqT K H a xs :=
 .inr ⟨_, its, n, h, rfl, rfl, hz, r⟩
end L2

namespace L2
open PySem PySem.Spec PySem.W PyProof.Rows
section
variable {prog : Program} {w : World} {A : Around} {K : Frag} {E : Value -> Shared -> Prop} {h : Heap} {g : Array GenState} {d : PySem.Drawn} {t : Nat} {os : OsState} {R : Result -> Shared -> Prop}
variable {nm q : Str} {C N f : Addr} {bs bm bmB : List Value} {hdct : Bool} {sn : List Str} {sub : List Value} {ab : Bool} {col : Option Bool} {dd : Option Addr} {k0 k1 k2 k3 k5 : Option Value} {B newId initId : String}
abbrev excObj (C tp : Addr) : Obj := { cls := .ref C, data := .fields #[.ref tp, .none, .none, .none, .bool false, .none] }
abbrev excHeap (h : Heap) (C : Addr) (rest : List Value) : Heap := (h.push { cls := .type "tuple", data := .seq rest.toArray }).push (excObj C h.objs.size)
theorem exc_make (X : K.In h) (hC : h.get? C = some (excClassObj nm q C N bs bm hdct sn sub ab col dd k0 k1 k2 k3 k5 newId)) (F : ExcBaseFacts B newId initId bmB) (T : OwnTail h bmB bm)
  (hi : findIn K (.ref C) "__init__" = some (some (.ref f))) (hf : typeIn K (.ref f) = some (.type "function")) {rest : List Value} (hrest : rest.length <= sizeLine)
  (hq : codeAny (model prog w) (A.under (.builtin "type.__call__" ⟨.ref C :: rest, []⟩)) (.call (.ref f) ⟨.ref (h.objs.size + 1) :: rest, []⟩) (InitBack (h.objs.size + 1) R) ⟨excHeap h C rest, g, d, t, os⟩) :
  codeAny (model prog w) A (.call (.ref C) ⟨rest, []⟩) R ⟨h, g, d, t, os⟩ := by
 have f1 := tc_lookup
 have f2 := tc_bind (.ref C)
 have hT : (⟨h, g, d, t, os⟩ : Shared).TypeIs (.ref C) "type" := ⟨_, hC, rfl⟩
 refine codeAny_of_tree ?_
 show wpAny _ _ (callAny (.ref C) _) _ _ _
 repeat (any_goals (first | assumption | with_reducible refine wpAny_loadPart_at hC ?_ | wp_step))
 refine ⟨rfl, ?_⟩
 refine codeAny_call_builtin_at (Code.quiet_builtin _ (by decide +kernel)) entry_typeCall (wpAny_check_type_call_sub hC ?_)
 repeat (first | with_reducible refine wpAny_loadPart_at hC ?_ | with_reducible refine wpAny_madeBy_exc hC ?_ | wp_step)
 refine codeAny_call_builtin_code (Code.quiet_builtin _ F.quiet) (wpAny_check_new_subT F T hC ?_)
 refine codeAny_exc_new_subT F T hC ?_ hrest
 show wpAny _ _ _ _ _ _
 have k : ∀ b o, h.get? b = some o -> (excHeap h C rest).get? b = some o := fun b o e => Heap.get?_push_of_some _ (Heap.get?_push_of_some _ e)
 have hx : (excHeap h C rest).get? (h.objs.size + 1) = some (excObj C h.objs.size) := by heap_get
 have t1 : Looks (model prog w) (excHeap h C rest) (typeOf (.ref (h.objs.size + 1))) (.ref C) := (Looks.ld hx).andThen .now
 have hcC : (Value.ref C :: bm).contains (.ref C) = true := by simp
 have i1 := (looks_findIn (M := model prog w) X hi).keeps k
 have b1 := (bind_fn (M := model prog w) X (.ref (h.objs.size + 1)) hf).keeps k
 have s1 : Looks (model prog w) (excHeap h C rest) (isSubtype (.ref C) (.ref C)) true := by
  intro A' Q' E' s' kk hq'
  obtain ⟨h', g', d', t', os'⟩ := s'
  refine wpAny_isSubtype_exc (kk _ _ (k _ _ hC)) ?_
  rw [hcC]; exact hq'
 have n1 : Looks (model prog w) (excHeap h C rest) (isInstance (.ref (h.objs.size + 1)) (.ref C)) true := t1.andThen s1
 refine wpAny_bind (n1.at ?_)
 have c1 : Looks (model prog w) (excHeap h C rest) (specialOf (.ref (h.objs.size + 1)) "__init__") (some (.ref f)) := t1.andThen i1
 unfold callSpecial?
 repeat (first | with_reducible refine wpAny_call ?_ | lk)
 refine codeAny_mono hq fun r s' z => ?_
 rcases r with e | (v | _ | _ | _) <;> first | exact z | exact z.elim | skip
 obtain ⟨rfl, z⟩ := z
 exact wpAny_pure (wpAny_pure z)

structure ExCls (K : Frag) (C : Addr) : Prop where
 cd : ∃ cd, clsIn K C = some cd /\ cd.hasDict = true /\ ∀ self, refuseLoop self "__setattr__" cd.mro = pure ()
 obj : mroIn K C (.type "object") = some true
 base : mroIn K C (.type "BaseException") = some true
 sa : findIn K (.ref C) "__setattr__" = some (some (.builtin "object.__setattr__"))
 ga : findIn K (.ref C) "__getattribute__" = some (some (.builtin "BaseException.__getattribute__"))
 noHook : findIn K (.ref C) "__getattr__" = some none

section
variable {s : Shared} {x : Addr} {ox : Obj} {od : Option Obj} {name : Str} {v : Value} {expr : Bool} {Q : Value -> Shared -> Prop}
theorem exc_getattr (X : K.In s.heap) (I : InstAt s.heap x ox C od) (Ec : ExCls K C) (hf : findObj K C od name = some (.value v)) (hh : handedIn v = true) (hq : Q v { s with toks := s.toks + 1 }) :
  wpAny (model prog w) A (getAttr (.ref x) name expr) Q E s := by
 obtain ⟨h, g, d, t, os⟩ := s
 have L0 := I.type (M := model prog w)
 have L1 := looks_findIn (M := model prog w) X Ec.ga
 have L2' := looks_findIn (M := model prog w) X Ec.noHook
 have L3 := looks_find (M := model prog w) X I hf
 have Lb : Looks (model prog w) h (isInstance (.ref x) (.type "BaseException")) true := L0.andThen (looks_mroIn X Ec.base)
 have f3 := F.excAttr_ValueError.ga.bind (.ref x)
 have hx0 : (expr && onTheHeap (Value.builtin "BaseException.__getattribute__")) = false := by cases expr <;> rfl
 have hk : builtinKind "BaseException.__getattribute__" = some .slot := by decide +kernel
 have hsplit : splitId "BaseException.__getattribute__" = some ("BaseException", "__getattribute__") := by decide +kernel
 unfold getAttr getAttrBy
 refine wpAny_bind (wpAny_mkText (wpAny_holding (wpAny_bind (L0.at (wpAny_bind (L1.at ?_))))))
 show wpAny _ _ (getAttrByItsOwn _ _ _ _ _ _) _ _ _
 unfold getAttrByItsOwn
 refine wpAny_bind (L2'.at (wpAny_bind (wpAny_attempt (wpAny_holding ?_))))
 unfold callGetattribute
 rw [hx0]
 unfold boundAndCalled
 show wpAny _ _ (bindSpecial _ _ >>= _) _ _ _
 rw [f3]
 refine wpAny_bind (wpAny_pure (wpAny_call (codeAny_call_builtin F.excAttr_ValueError.ga.plain F.entry_bexc_ga (@check_slot (model prog w) _ _ _ "BaseException.__getattribute__" "BaseException" "__getattribute__" (.ref x) [.str name t] [] _ hk hsplit Lb (F.args_bexc_ga _ _) ?_))))
 refine wpAny_bind (wpAny_pure (wpAny_bind (wpAny_pure (wpAny_bind (L0.at (wpAny_bind (L3.at ?_)))))))
 refine wpAny_pure ?_
 show wpAny _ _ (handedOut v) _ _ _
 rw [handedOut_of hh]; exact wpAny_pure hq
theorem exc_osa {tk : Tok} {R : Result -> Shared -> Prop} (X : K.In s.heap) (I : InstAt s.heap x ox C od) (Ec : ExCls K C) (ha : findIn K (.ref C) name = some none)
  (hq : wpAny (model prog w) A.in1 (PySem.Builtin.ObjectAttr.storeInOwnDict (.ref x) (.ref C) (.str name tk) name v false)
   (fun fin s' => match fin with | .done f => R (.ok f) s' | .again c' => c'.quiet = true /\ codeAny (model prog w) A c' R s') (fun e s' => R (.error e) s') s) :
  codeAny (model prog w) A (.call (.builtin "object.__setattr__") ⟨[.ref x, .str name tk, v], []⟩) R s := by
 have SF := PySem.F.store_object
 obtain ⟨cd, hc, hd, hp⟩ := Ec.cd
 have sub : Looks (model prog w) s.heap (isInstance (.ref x) (.type "object")) true := I.type.andThen (looks_mroIn X Ec.obj)
 refine codeAny_call_builtin SF.slot.plain SF.entry (@check_slot (model prog w) _ _ s "object.__setattr__" "object" "__setattr__" (.ref x) [.str name tk, v] [] _ SF.kind SF.split sub (SF.args (.ref x) (.str name tk) v) ?_)
 have hm : Looks (model prog w) s.heap (mroOf (.ref C)) cd.mro := (looks_clsIn X hc).andThen .now
 rw [osa_eq, refuse_eq]
 refine wpAny_bind (wpAny_bind (I.type.here (wpAny_bind (hm.here ?_))))
 rw [hp]
 exact wpAny_pure (wpAny_bind (I.type.here (wpAny_bind ((looks_findIn X ha).here (wpAny_bind (wpAny_pure hq))))))
theorem exc_set_new {vs : Array Value} {Qu : Unit -> Shared -> Prop} (X : K.In s.heap) (hx : s.heap.get? x = some ox) (hcl : ox.cls = .ref C) (hdi : ox.dict = none) (hda : ox.data = .fields vs) (Ec : ExCls K C) (ha : findIn K (.ref C) name = some none)
  (hq : ∀ h', h'.Ns1 s.heap.objs.size (fun y => if y = name then some v else none) -> h'.get? x = some { ox with dict := some s.heap.objs.size } -> (∀ b o, b ≠ x -> s.heap.get? b = some o -> h'.get? b = some o) -> Qu () { s with heap := h', toks := s.toks + 2 }) :
  wpAny (model prog w) A (setAttr (.ref x) name v) Qu E s := by
 have I : InstAt s.heap x ox C none := ⟨hx, hcl, by unfold notCls; rw [hda], by rw [hdi]; trivial⟩
 obtain ⟨cd, hc, hd, hp⟩ := id Ec.cd
 refine set_plain X I Ec.sa (exc_osa (s := { s with toks := s.toks + 1 }) X I Ec ha ?_)
 have hxlt := Heap.lt_size hx
 clear I
 obtain ⟨oc, odi, oda, osl⟩ := ox
 dsimp only at hcl hdi hda
 subst hcl hdi hda
 refine wpAny_bind (wpAny_pure (wpAny_bind (wpAny_bind (wpAny_loadPart hx (wpAny_bind (Looks.here (s := { s with toks := s.toks + 1 }) (looks_clsIn X hc) ?_))))))
 rw [hd]
 show wpAny _ _ (alloc { cls := Value.type "dict", data := Data.dict #[] } >>= _) _ _ _
 refine wpAny_bind (wpAny_alloc (wpAny_bind ?_))
 have hx1 := Heap.get?_push_of_some (h := s.heap) ({ cls := Value.type "dict", data := Data.dict #[] } : Obj) hx
 refine wpAny_update hx1 (wpAny_pure ?_)
 have ne : s.heap.objs.size ≠ x := Nat.ne_of_gt hxlt
 have hx2 := Heap.get?_update_self (fun o : Obj => { o with dict := some s.heap.objs.size }) hx1 rfl
 have hd2 : ((s.heap.push ({ cls := Value.type "dict", data := Data.dict #[] } : Obj)).update x fun o => { o with dict := some s.heap.objs.size }).Ns1 s.heap.objs.size (fun _ => none) := by
  refine ⟨_, #[], _, (Heap.get?_update_other _ _ (Ne.symm ne)).trans (Heap.get?_push_size _ rfl), rfl, fun e he => by simp at he, List.Pairwise.nil, fun n => rfl⟩
 refine wpAny_bind (wpAny_pure (wpAny_bind ?_))
 refine wpAny_nsSet1 (s := { s with heap := (s.heap.push ({ cls := Value.type "dict", data := Data.dict #[] } : Obj)).update x fun o => { o with dict := some s.heap.objs.size }, toks := s.toks + 1 }) hd2 fun h' hn2 hs2 => ?_
 have w0 : PySem.Within (fun _ : Str => (none : Option Value)) [] := fun n hn => by first | cases hn | exact absurd rfl hn | simp at hn
 obtain ⟨oD, esD, epD, hoD, hdD, hcD⟩ := hn2.count (PySem.Within.cons name v w0)
 refine wpAny_bind (wpAny_lookBehind hoD (by rw [hdD]; exact pastItsLine_dict (Nat.le_trans hcD (show 1 <= sizeLine + 1 by decide))) ?_)
 refine wpAny_pure (hq _ hn2 ((hs2.2 _ (Ne.symm ne)).trans hx2) fun b o hb e => ?_)
 have hbs : b ≠ s.heap.objs.size := Nat.ne_of_lt (Heap.lt_size e)
 exact (hs2.2 _ hbs).trans ((Heap.get?_update_other _ _ (Ne.symm hb)).trans (Heap.get?_push_of_some _ e))
theorem exc_set_more {vs : Array Value} {dx : Addr} {mA : Str -> Option Value} {ns : List Str} {Qu : Unit -> Shared -> Prop} (X : K.In s.heap) (hx : s.heap.get? x = some ox) (hcl : ox.cls = .ref C) (hdi : ox.dict = some dx) (hda : ox.data = .fields vs) (hn : s.heap.Ns1 dx mA)
  (hw : PySem.Within mA ns) (hsz : ns.length < sizeLine) (Ec : ExCls K C) (ha : findIn K (.ref C) name = some none)
  (hq : ∀ h', h'.Ns1 dx (fun y => if y = name then some v else mA y) -> Heap.SameBut dx s.heap h' -> Qu () { s with heap := h', toks := s.toks + 2 }) :
  wpAny (model prog w) A (setAttr (.ref x) name v) Qu E s := by
 obtain ⟨od, hod, _⟩ := lookIn_ns hn
 have I : InstAt s.heap x ox C (some od) := ⟨hx, hcl, by unfold notCls; rw [hda], by rw [hdi]; exact hod⟩
 obtain ⟨cd, hc, hd, hp⟩ := id Ec.cd
 refine set_plain X I Ec.sa (exc_osa (s := { s with toks := s.toks + 1 }) X I Ec ha ?_)
 clear I
 obtain ⟨oc, odi, oda, osl⟩ := ox
 dsimp only at hcl hdi hda
 subst hcl hdi hda
 refine wpAny_bind (wpAny_pure (wpAny_bind (wpAny_bind (wpAny_loadPart hx (wpAny_bind (Looks.here (s := { s with toks := s.toks + 1 }) (looks_clsIn X hc) ?_))))))
 rw [hd]
 refine wpAny_pure (a := some dx) (wpAny_bind (wpAny_pure (wpAny_bind ?_)))
 refine wpAny_nsSet1 (s := { s with toks := s.toks + 1 }) hn fun h' hn2 hs2 => ?_
 obtain ⟨oD, esD, epD, hoD, hdD, hcD⟩ := hn2.count (PySem.Within.cons name v hw)
 refine wpAny_bind (wpAny_lookBehind hoD (by rw [hdD]; exact pastItsLine_dict (Nat.le_trans hcD (by rw [List.length_cons]; (first|lia|omega)))) ?_)
 exact wpAny_pure (hq _ hn2 hs2)
end
end
end L2

namespace L2
open PySem PySem.Spec PyProof.Rows
def ExO (x C : Addr) (od : Option Addr) : HO := .ext fun h => ∃ o vs, h.get? x = some o /\ o.cls = .ref C /\ o.dict = od /\ o.data = .fields vs /\ 6 <= vs.size
def ExN (x C : Addr) (od : Option Addr) : HO := .ext fun h => ∃ o vs, h.get? x = some o /\ o.cls = .ref C /\ o.dict = od /\ o.data = .fields vs /\ 6 <= vs.size /\ vs[1]? = some .none
def XdO (dx : Addr) (fs : List (Str × V)) : HO := .ext fun h => ∃ mA, h.Ns1 dx mA /\ (∀ f, RelO (fs.lookup f) (mA f)) /\ PySem.Within mA (fs.map (·.1))
section
variable {P : Program} {w : World} {H : Hp} {h : Heap} {x C dx : Addr} {od : Option Addr} {fs : List (Str × V)}
theorem ExO.ok {o : Obj} {vs : Array Value} (e : h.get? x = some o) (hc : o.cls = .ref C) (hd : o.dict = od) (hf : o.data = .fields vs) (hz : 6 <= vs.size) : ObjOk P w H h x (ExO x C od) :=
 ⟨⟨o, vs, e, hc, hd, hf, hz⟩, ⟨o, e⟩, fun h1 h2 ⟨o, vs, e, r⟩ k => ⟨o, vs, k o e, r⟩⟩
theorem ExN.ok {o : Obj} {vs : Array Value} (e : h.get? x = some o) (hc : o.cls = .ref C) (hd : o.dict = od) (hf : o.data = .fields vs) (hz : 6 <= vs.size) (h1 : vs[1]? = some .none) : ObjOk P w H h x (ExN x C od) :=
 ⟨⟨o, vs, e, hc, hd, hf, hz, h1⟩, ⟨o, e⟩, fun g1 g2 ⟨o, vs, e, r⟩ k => ⟨o, vs, k o e, r⟩⟩
theorem ExN.get (ok : HOk P w H h) (e : H x = some (ExN x C od)) : ∃ o vs, h.get? x = some o /\ o.cls = .ref C /\ o.dict = od /\ o.data = .fields vs /\ 6 <= vs.size /\ vs[1]? = some .none := (ok x _ e).1
theorem ExO.get (ok : HOk P w H h) (e : H x = some (ExO x C od)) : ∃ o vs, h.get? x = some o /\ o.cls = .ref C /\ o.dict = od /\ o.data = .fields vs /\ 6 <= vs.size := (ok x _ e).1
theorem XdO.ok {mA : Str -> Option Value} (n : h.Ns1 dx mA) (r : ∀ f, RelO (fs.lookup f) (mA f)) (wi : PySem.Within mA (fs.map (·.1))) : ObjOk P w H h dx (XdO dx fs) := by
 obtain ⟨o, es, ep, e, q⟩ := id n
 exact ⟨⟨mA, n, r, wi⟩, ⟨o, e⟩, fun h1 h2 ⟨mA, n, r⟩ k => ⟨mA, n.at k, r⟩⟩
theorem XdO.get (ok : HOk P w H h) (e : H dx = some (XdO dx fs)) : ∃ mA, h.Ns1 dx mA /\ (∀ f, RelO (fs.lookup f) (mA f)) /\ PySem.Within mA (fs.map (·.1)) := (ok dx _ e).1
end

def tFldX (K : PySem.W.Frag) (ta : TE) (f : Str) : TE := fun σ H Q => ta σ H fun y H1 => ∃ a C d fs v, y = .ref a /\ H1 a = some (ExO a C (some d)) /\ H1 d = some (XdO d fs) /\ ExCls K C /\ NoAttr K C f /\ fs.lookup f = some v /\ Q v H1
def sFldX (K : PySem.W.Frag) (ta tv : TE) (f : Str) : TS := fun D σ H => tv σ H fun y H1 => ta σ H1 fun u H2 => ∃ a C od, u = .ref a /\ H2 a = some (ExN a C od) /\ ExCls K C /\ NoAttr K C f /\
 ((od = none /\ ∀ d, H2 d = none -> D.nx σ (upd (upd H2 d (XdO d [(f, y)])) a (ExN a C (some d)))) \/ ∃ d fs, od = some d /\ H2 d = some (XdO d fs) /\ fs.length < 1000 /\ D.nx σ (upd H2 d (XdO d (putF f y fs))))
section
variable {X : Cx} {o e value : Expr} {f : Str} {pos pos' : Pos} {ta tv : TE}
theorem pe_fldX (he : PE X e ta) (hb : attributeBase e f X.env (eval e X.env) = eval e X.env := by rfl) : PE X (.Attribute e f pos) (tFldX X.K ta f) := by
 refine ⟨?_⟩
 intro pins s σ H Q I h
 refine attr_of hb (thn (he pins s σ H _ I h) fun u s1 hzz => ?_)
 obtain ⟨y, H1, I1, r1, a, C, d, fs, v, hy, ha, hd, ec, na, l, q⟩ := hzz
 subst hy
 cases r1
 obtain ⟨ox, vs, gx, hcl, hdi, hda, _⟩ := ExO.get I1.hok ha
 obtain ⟨mA, n, r, wi⟩ := XdO.get I1.hok hd
 obtain ⟨od, hod, hl⟩ := lookIn_ns n
 have J : PySem.W.InstAt s1.heap a ox C (some od) := ⟨gx, hcl, by unfold PySem.W.notCls; rw [hda], by rw [hdi]; exact hod⟩
 obtain ⟨u, eu, ru⟩ := RelO.some_of (by have := r f; rw [l] at this; exact this)
 obtain ⟨cd, hc, hdd, _⟩ := ec.cd
 refine exc_getattr I1.kIn J ec (v := u) ?_ (handed_of ru) ⟨v, H1, I1.tok _, ru, q⟩
 unfold PySem.W.findObj
 rw [hc, Option.bind_some, na, Option.bind_some]
 simp only [Option.bind_some, PySem.W.ownOf, hdd, if_true, hl, eu]
theorem Inv.excDict {pins : List (Addr × Obj)} {σ : St} {H : Hp} {s : Shared} {h' : Heap} {a C : Addr} {oa ob : HO} {t' : Nat} (I : Inv X pins σ H s) (ha : H a = some (ExN a C none))
  (keep : ∀ b o, b ≠ a -> s.heap.get? b = some o -> h'.get? b = some o) (hat : ∃ o, h'.get? a = some o) (hoa : ObjOk X.prog X.w (upd (upd H s.heap.objs.size ob) a oa) h' a oa) (hob : ObjOk X.prog X.w (upd (upd H s.heap.objs.size ob) a oa) h' s.heap.objs.size ob) :
  Inv X pins σ (upd (upd H s.heap.objs.size ob) a oa) { s with heap := h', toks := t' } := by
 have hd : H s.heap.objs.size = none := I.fresh
 have nda : a ≠ s.heap.objs.size := zI ha hd
 have off : ∀ b u, H b = some u -> u ≠ ExN a C none -> b ≠ a /\ b ≠ s.heap.objs.size := fun b u e ne => ⟨fun z => by rw [z, ha] at e; exact ne (Option.some.inj e).symm, zI e hd⟩
 have up : ∀ b, b ≠ a -> b ≠ s.heap.objs.size -> upd (upd H s.heap.objs.size ob) a oa b = H b := fun b h1 h2 => by rw [zK h1, zK h2]
 refine I.un ⟨fun b o e n _ _ => keep b o (fun z => by rw [z, ha] at n; cases n) e, fun b o e n _ _ => ⟨o.slots, keep b o (fun z => by rw [z, ha] at n; cases n) e⟩, fun b o e n _ => ?_, fun b o e _ => ?_, fun b xs e => ?_, fun b o xs e => ?_, fun b ps e => ?_⟩ fun b u e => ?_
 ·rw [up b (fun z => by rw [z, ha] at n; cases n) (Nat.ne_of_lt (Heap.lt_size e))]; exact n
 ·by_cases z : b = a
  ·subst z; exact hat
  ·exact ⟨o, keep b o z e⟩
 ·obtain ⟨h1, h2⟩ := off b _ e (by intro z; cases z)
  rw [up b h1 h2]; exact e
 ·obtain ⟨h1, h2⟩ := off b _ e (by intro z; cases z)
  rw [up b h1 h2]; exact e
 ·obtain ⟨h1, h2⟩ := off b _ e (by intro z; cases z)
  exact ⟨#[], by rw [up b h1 h2, e]; simp⟩
 ·by_cases z : b = a
  ·subst z; rw [zB] at e; cases e; exact hoa
  ·rw [zK z] at e
   by_cases z2 : b = s.heap.objs.size
   ·subst z2; rw [zB] at e; cases e; exact hob
   ·rw [zK z2] at e
    refine (I.hok b u e).stay (fun c v hc q => keep c v ?_ q) (fun c q => ?_) fun c xs q => ?_
    ·rcases hc with hc | hc
     ·rw [hc]; exact z
     ·exact (off c _ hc (by intro z; cases z)).1
    ·obtain ⟨h1, h2⟩ := off c _ q (by intro z; cases z)
     rw [up c h1 h2]; exact q
    ·obtain ⟨h1, h2⟩ := off c _ q (by intro z; cases z)
     rw [up c h1 h2]; exact q
theorem ps_fldX (ha : PE X o ta) (hv : PE X value tv) (hs : swapsWith value (some (.Attribute o f pos')) pos.line X.env = pure false := by rfl) : PS X (.Assign [.Attribute o f pos'] value pos) (sFldX X.K ta tv f) := by
 refine ⟨?_⟩
 intro pins s σ H D I h
 refine plainObj_wpAny_Assign_Attribute (thn (hv pins s σ H _ I h) fun u s1 ⟨y, H1, I1, ry, q⟩ => thn (ha pins s1 σ H1 _ I1 q) fun ov s2 ⟨x, H2, I2, rx, a, C, od, ex, ea, ec, na, q2⟩ => ?_) hs
 subst ex
 obtain rfl : ov = Value.ref a := rx
 obtain ⟨ox, vs, gx, hcl, hdi, hda, hz, h1⟩ := ExN.get I2.hok ea
 rcases q2 with ⟨rfl, q2⟩ | ⟨d, fs, rfl, hd, hl, q2⟩
 ·refine exc_set_new I2.kIn gx hcl hdi hda ec na fun h' hn hx' keep => ?_
  refine ⟨σ, _, I2.excDict ea keep ⟨_, hx'⟩ (ExN.ok hx' hcl rfl hda hz h1) (XdO.ok hn (fun g => ?_) fun g hg => ?_), q2 _ I2.fresh⟩
  ·show RelO ([(f, y)].lookup g) (if g = f then some u else none)
   by_cases z : g = f
   ·subst z; rw [List.lookup_cons_self, if_pos rfl]; exact ry
   ·rw [List.lookup_cons, beq_eq_false_iff_ne.mpr z, if_neg z]; exact True.intro
  ·by_cases z : g = f
   ·subst z; simp
   ·exact absurd (show (if g = f then some u else none) = none by rw [if_neg z]) hg
 ·obtain ⟨mA, n, r, wi⟩ := XdO.get I2.hok hd
  refine exc_set_more I2.kIn gx hcl hdi hda n wi (by rw [List.length_map, sizeLine_eq]; (first|lia|omega)) ec na fun h' hn sb => ?_
  refine ⟨σ, _, I2.write (x := d) (e := d) (by rw [hd]; exact True.intro) (.inl rfl) (fun b q hb z => (sb.2 b hb).trans z) (let ⟨o, _, _, e', _⟩ := hn; ⟨o, e'⟩) (XdO.ok hn (fun g => ?_) fun g hg => ?_), q2⟩
  ·show RelO ((putF f y fs).lookup g) (if g = f then some u else mA g)
   rw [wB]
   by_cases q : g = f
   ·rw [if_pos q, if_pos q]; exact ry
   ·rw [if_neg q, if_neg q]; exact r g
  ·by_cases q : g = f
   ·rw [q]; exact (qQ f y fs).1
   ·refine (qQ f y fs).2 g (wi g fun z => hg ?_)
    show (if g = f then some u else mA g) = none
    rw [if_neg q]; exact z
end

def Ours (X : Cx) (pins : List (Addr × Obj)) (H : Hp) (T : Addr) : Prop := H T = none /\ X.s₀.heap.objs.size <= T /\ T ≠ X.env.locals /\ ∀ p ∈ X.pn ++ pins, p.1 ≠ T
def Tb (X : Cx) (pins : List (Addr × Obj)) (H : Hp) (x : Addr) (h : Heap) : Prop :=
 ∃ oe vs, h.get? x = some oe /\ oe.data = .fields vs /\ (vs[1]? = some .none \/ ∃ T oT ts fl, vs[1]? = some (.ref T) /\ T ≠ x /\ Ours X pins H T /\ h.get? T = some oT /\ oT.data = .fields ts /\ ts[3]? = some fl /\ (fl = .none \/ fl = rawInt X.env.locals))
def TbAt (X : Cx) (pins : List (Addr × Obj)) (H : Hp) (x : Addr) (fl : Value) (h : Heap) : Prop :=
 ∃ oe vs T oT ts, h.get? x = some oe /\ oe.data = .fields vs /\ vs[1]? = some (.ref T) /\ T ≠ x /\ Ours X pins H T /\ h.get? T = some oT /\ oT.data = .fields ts /\ ts[3]? = some fl
theorem TbAt.tb {X : Cx} {pins : List (Addr × Obj)} {H : Hp} {x : Addr} {fl : Value} {h : Heap} (t : TbAt X pins H x fl h) (hf : fl = .none \/ fl = rawInt X.env.locals) : Tb X pins H x h := by
 obtain ⟨oe, vs, T, oT, ts, e, d, h1, r1, r2, r3, r4, r5⟩ := t
 exact ⟨oe, vs, e, d, .inr ⟨T, oT, ts, fl, h1, r1, r2, r3, r4, r5, hf⟩⟩
section
variable {X : Cx} {pins : List (Addr × Obj)} {σ : St} {H : Hp} {s : Shared} {h' : Heap} {x C : Addr} {od : Option Addr}
theorem Inv.flight (I : Inv X pins σ H s) (hx : H x = some (ExO x C od)) {ch : List Addr} (hch : ∀ b ∈ ch, Ours X pins H b) (ncell : ∀ b ∈ ch, ∀ y c, X.env.cells.lookup y = some c -> c ≠ b)
  (keep : ∀ b o, b ≠ x -> b ∉ ch -> b ∉ frs X.stack -> s.heap.get? b = some o -> h'.get? b = some o) (slot : ∀ b o, b ≠ x -> b ∉ ch -> s.heap.get? b = some o -> ∃ sl, h'.get? b = some { o with slots := sl })
  (hx' : ∃ o vs, h'.get? x = some o /\ o.cls = .ref C /\ o.dict = od /\ o.data = .fields vs /\ 6 <= vs.size) : Inv X pins σ H { s with heap := h' } := by
 have nx : ∀ b, H b = none -> b ≠ x := fun b n z => by rw [z, hx] at n; cases n
 have nst : ∀ b, b ≠ X.env.locals -> b ∉ X.fs -> b ∉ frs X.stack := fun b h1 h2 z => (List.mem_cons.mp (I.stkSub b z)).elim h1 h2
 have nch : ∀ b u, H b = some u -> b ∉ ch := fun b u e z => by rw [(hch b z).1] at e; cases e
 have nfr : ∀ b u, H b = some u -> b ∉ frs X.stack := fun b u e z => by rw [I.stkFree b z] at e; cases e
 refine I.step (g' := s.gens) (d' := s.drawn) (t' := s.toks) (ch := ch) (fun b hb => ⟨.inr (hch b hb).2.1, (hch b hb).2.2.1, ncell b hb, (hch b hb).2.2.2⟩)
  (fun b o hL hf hc e n => keep b o (nx b n) hc (nst b hL hf) e) (fun b o hL hf hc e n => slot b o (nx b n) hc e) (fun b o hc e n => n) (fun b o hc e => ?_) (fun _ _ e => e) (fun _ _ _ e => e) (fun b ps e => ⟨#[], by rw [e]; simp⟩) (fun m hm => ?_) (fun b u e => ?_) I.bare
 ·by_cases z : b = x
  ·subst z; obtain ⟨o, _, g, _⟩ := hx'; exact ⟨o, g⟩
  ·obtain ⟨sl, q⟩ := slot b o z hc e; exact ⟨_, q⟩
 ·obtain ⟨o, es, ep, ho, hd, r⟩ := hm
  obtain ⟨sl, q⟩ := slot _ o (nx _ I.free) (fun z => (hch _ z).2.2.1 rfl) ho
  exact ⟨_, es, ep, q, hd, r⟩
 ·by_cases z : b = x
  ·subst z; rw [hx] at e; cases e
   obtain ⟨o, vs, g, r1, r2, r3, r4⟩ := hx'
   exact ExO.ok g r1 r2 r3 r4
  ·refine (I.hok b u e).stay (fun c v hc q => ?_) (fun _ q => q) fun _ _ q => q
   rcases hc with hc | hc
   ·rw [hc] at q ⊢; exact keep b v z (nch b u e) (nfr b u e) q
   ·exact keep c v (fun z2 => by rw [z2, hx] at hc; cases hc) (nch c _ hc) (nfr c _ hc) q

theorem Ours.ncell {T : Addr} {oT : Obj} {ts : Array Value} (I : Inv X pins σ H s) (g : s.heap.get? T = some oT) (d : oT.data = .fields ts) : ∀ b ∈ [T], ∀ y c, X.env.cells.lookup y = some c -> c ≠ b := fun b hb y c e z => by
 rw [List.mem_singleton.mp hb] at z
 obtain ⟨v, o, ho, hd⟩ := I.cell y c e
 rw [z, g] at ho; cases ho; rw [d] at hd; cases hd
theorem fly_entry {M : Model} {A : Around} {E : Value -> Shared -> Prop} {Q : Unit -> Shared -> Prop} {head : Value} {hadNext : Bool} (I : Inv X pins σ H s) (hst : X.stack = X.env :: X.outer) (hfr : X.env.frame = some X.env.locals) (hA : A.frames = some X.stack)
  (hx : H x = some (ExO x C od)) (hq : ∀ s', Inv X pins σ H s' -> TbAt X pins H x (rawInt X.env.locals) s'.heap -> Q () s') :
  wpAny M A (do let a <- frameOf X.env; let pl <- entryPlaceOf X.env.locals hadNext; let b <- EntryCells.newEntry head a .none (rawInt X.env.locals) .none pl; setField (.ref x) 1 b) Q E s := by
 have hl : s.heap.FunFrames X.base (X.env :: X.outer) := hst ▸ I.stack
 refine wpAny_bind (wpAny_frameOf_fun (hst ▸ hA) hl hfr fun h1 hs1 => ?_)
 refine wpAny_bind (wpAny_entryPlaceOf fun pl hpl => ?_)
 unfold EntryCells.newEntry newFields
 refine wpAny_bind (wpAny_newObj_type ?_ (hpl.sizeOk5 _ _ _ _ _))
 obtain ⟨ox, vs, gx, hcl, hdi, hda, hz⟩ := ExO.get I.hok hx
 have hxf : x ∉ (X.env :: X.outer).filterMap (·.frame) := fun hm => by
  obtain ⟨_, o, ho, hnf⟩ := hl.mem hm
  rw [gx] at ho; cases ho; exact hnf vs hda
 have gx1 : h1.get? x = some ox := (hs1.2.1 x hxf).trans gx
 generalize hob : ({ cls := .type "traceback", dict := none, data := .fields ([head, .ref X.env.locals, .none, rawInt X.env.locals, .none] ++ (if pl.isEmpty then List.replicate 6 Value.none else pl)).toArray } : Obj) = ob
 have gx2 := Heap.get?_push_of_some (h := h1) ob gx1
 have hz1 : 1 < vs.size := by (first|lia|omega)
 refine wpAny_setField gx2 hda hz1 ?_
 have sz : h1.objs.size = s.heap.objs.size := hs1.1
 have hd3 := Obj.data_mapFields hda (·.setIfInBounds 1 (Value.ref h1.objs.size))
 have gx3 := Heap.get?_update_self (Obj.mapFields (·.setIfInBounds 1 (Value.ref h1.objs.size))) gx2 (Obj.isFreed_of_fields hd3)
 have hTx : h1.objs.size ≠ x := Nat.ne_of_gt (Heap.lt_size gx1)
 have gT : (h1.push ob).get? h1.objs.size = some ob := Heap.get?_push_size _ (by rw [<- hob]; rfl)
 have hT : H h1.objs.size = none := by rw [sz]; exact I.fresh
 have keep : ∀ b o, b ≠ x -> h1.get? b = some o -> ((h1.push ob).update x (Obj.mapFields (·.setIfInBounds 1 (Value.ref h1.objs.size)))).get? b = some o := fun b o hb e => by
  rw [Heap.get?_update_other _ _ (Ne.symm hb)]; exact Heap.get?_push_of_some _ e
 have I' : Inv X pins σ H { s with heap := (h1.push ob).update x (Obj.mapFields (·.setIfInBounds 1 (Value.ref h1.objs.size))) } := by
  refine I.flight hx (ch := []) (fun b hb => (nomatch hb)) (fun b hb => (nomatch hb)) (fun b o hb _ hf e => keep b o hb ((hs1.2.1 b (by rw [<- hst]; exact hf)).trans e)) (fun b o hb _ e => ?_) ⟨_, _, gx3, (Obj.cls_mapFields _ _).trans hcl, ?_, hd3, by simp; exact hz⟩
  ·obtain ⟨sl, q⟩ := hs1.2.2 b o e
   exact ⟨sl, keep b _ hb q⟩
  ·obtain ⟨oc, odi, oda, osl⟩ := ox
   simp only at hda
   subst hda
   exact hdi
 refine hq _ I' ⟨_, _, h1.objs.size, ob, _, gx3, hd3, by simp [hz1], hTx, ⟨hT, ?_, ?_, fun p hp z => ?_⟩, ?_, by rw [<- hob], ?_⟩
 ·rw [sz]; exact I.sz
 ·rw [sz]; exact Nat.ne_of_gt I.lt
 ·have := Heap.lt_size (I.pin p hp).1
  rw [z, sz] at this; exact Nat.lt_irrefl _ this
 ·rw [Heap.get?_update_other _ _ (Ne.symm hTx)]; exact gT
 ·first | (simp; done) | (rcases hpl with rfl | ⟨_, _, _, _, _, _, _, rfl⟩ <;> simp)
theorem fly_note {M : Model} {A : Around} {E : Value -> Shared -> Prop} {Q : Unit -> Shared -> Prop} (I : Inv X pins σ H s) (hst : X.stack = X.env :: X.outer) (hfr : X.env.frame = some X.env.locals) (hA : A.frames = some X.stack)
  (hx : H x = some (ExO x C od)) (tb : Tb X pins H x s.heap) (hq : ∀ s', Inv X pins σ H s' -> TbAt X pins H x (rawInt X.env.locals) s'.heap -> Q () s') : wpAny M A (noteFrame (.ref x) X.env) Q E s := by
 obtain ⟨oe, vs, ge, hd, h1⟩ := tb
 unfold noteFrame
 simp only [hfr]
 rcases h1 with h1 | ⟨T, oT, ts, fl, h1, hTx, ours, gT, dT, h3, hfl⟩
 ·refine wpAny_bind (wpAny_field ge hd h1 ?_)
  rw [if_neg (by decide)]
  exact fly_entry I hst hfr hA hx hq
 ·refine wpAny_bind (wpAny_field ge hd h1 ?_)
  rw [if_pos (show (Value.ref T != Value.none) = true from by simp)]
  refine wpAny_bind (wpAny_field gT dT h3 ?_)
  rcases hfl with rfl | rfl
  ·rw [if_neg (show ¬ ((Value.none == rawInt X.env.locals) = true) from by simp [rawInt])]
   refine wpAny_bind (wpAny_setField gT dT (Array.getElem?_eq_some_iff.mp h3).1 ?_)
   have other : ∀ b, b ≠ T -> (s.heap.update T (Obj.mapFields (·.setIfInBounds 3 Value.none))).get? b = s.heap.get? b := fun b hb => Heap.get?_update_other _ _ (Ne.symm hb)
   obtain ⟨ox, ws, gx, r⟩ := ExO.get I.hok hx
   have I' : Inv X pins σ H { s with heap := s.heap.update T (Obj.mapFields (·.setIfInBounds 3 Value.none)) } := by
    refine I.flight hx (ch := [T]) (fun b hb => by rw [List.mem_singleton.mp hb]; exact ours) (Ours.ncell I gT dT) (fun b o hb hc _ e => (other b fun z => hc (by simp [z])).trans e) (fun b o hb hc e => ⟨o.slots, (other b fun z => hc (by simp [z])).trans e⟩) ⟨ox, ws, (other x (Ne.symm hTx)).trans gx, r⟩
   exact fly_entry I' hst hfr hA hx hq
  ·rw [if_pos (show (rawInt X.env.locals == rawInt X.env.locals) = true from by simp)]
   exact wpAny_pure (hq s I ⟨oe, vs, T, oT, ts, ge, hd, h1, hTx, ours, gT, dT, h3⟩)
theorem wK {M : Model} {A : Around} {E : Value -> Shared -> Prop} {Q : Unit -> Shared -> Prop} {fl : Value} {to : Option Addr} (I : Inv X pins σ H s) (hx : H x = some (ExO x C od)) (tb : TbAt X pins H x fl s.heap)
  (hq : ∀ s', Inv X pins σ H s' -> TbAt X pins H x (to.elim Value.none fun f => rawInt f) s'.heap -> Q () s') : wpAny M A (setFlight (.ref x) to) Q E s := by
 obtain ⟨oe, vs, T, oT, ts, ge, hd, h1, hTx, ours, gT, dT, h3⟩ := tb
 unfold setFlight
 refine wpAny_bind (wpAny_field ge hd h1 ?_)
 rw [if_pos (show (Value.ref T != Value.none) = true from by simp)]
 have hsz3 := (Array.getElem?_eq_some_iff.mp h3).1
 refine wpAny_setField gT dT hsz3 (hq _ ?_ ?_)
 ·obtain ⟨ox, ws, gx, r⟩ := ExO.get I.hok hx
  exact I.flight hx (ch := [T]) (fun b hb => by rw [List.mem_singleton.mp hb]; exact ours) (Ours.ncell I gT dT) (fun b o hb hc _ e => (Heap.get?_update_other _ _ (fun z => hc (by simp [z]))).trans e) (fun b o hb hc e => ⟨o.slots, (Heap.get?_update_other _ _ (fun z => hc (by simp [z]))).trans e⟩) ⟨ox, ws, (Heap.get?_update_other _ _ hTx).trans gx, r⟩
 ·exact ⟨oe, vs, T, _, _, (Heap.get?_update_other _ _ hTx).trans ge, hd, h1, hTx, ours, Heap.get?_update_self _ gT (Obj.isFreed_of_fields (Obj.data_mapFields dT _)), Obj.data_mapFields dT _, by simp [hsz3]⟩
end

def CXE (P : Program) (w : World) : CXT := fun outer H s E e s' => ∃ x C d H', e = .ref x /\ s'.os = s.os /\ AllBare s'.gens /\ Un (frs outer) [] H H' s.heap s'.heap /\ HOk P w H' s'.heap /\ H' x = some (ExO x C d) /\
 (∃ oe vs T oT ts, s'.heap.get? x = some oe /\ oe.data = .fields vs /\ vs[1]? = some (.ref T) /\ T ≠ x /\ H' T = none /\ s.heap.objs.size <= T /\ s'.heap.get? T = some oT /\ oT.data = .fields ts /\ ts[3]? = some .none) /\ E (.ref C) d H'
theorem cxe_none {P : Program} {w : World} {outer : List Env} {H : Hp} {s : Shared} {e : Value} {s' : Shared} (h : CXE P w outer H s (fun _ _ _ => False) e s') : False := by
 obtain ⟨_, _, _, _, _, _, _, _, _, _, _, z⟩ := h
 exact z
def FlyW (X : Cx) (E : XK) : Value -> Shared -> Prop := fun e s1 => ∃ x C d pins σ H, e = .ref x /\ Inv X pins σ H s1 /\ H x = some (ExO x C d) /\ Tb X pins H x s1.heap /\ E (.ref C) d H
abbrev Cx.exc (X : Cx) (E : XK) : Cx := X.wish (FlyW X E)
section
variable {X : Cx} {E : XK}
theorem passN {P : Program} {w : World} : Passes (CXE P w) X E0 := fun _ _ _ _ _ _ _ h => (cxe_none h).elim
theorem cxe_fly {pins : List (Addr × Obj)} {σ : St} {H : Hp} {s s' : Shared} {e : Value} (I : Inv X pins σ H s) (h : CXE X.prog X.w X.stack H s E e s') : FlyW X E e s' := by
 obtain ⟨x, C, d, H', rfl, ho, hg, u, hok, hx, ⟨oe, vs, T, oT, ts, ge, hd, h1, hTx, hT, lo, gT, dT, h3⟩, q⟩ := h
 have I' : Inv X pins σ H' s' := I.call' (ch := []) ho u hok hg fun b z => (nomatch z)
 refine ⟨x, C, d, pins, σ, H', rfl, I', hx, ⟨oe, vs, ge, hd, .inr ⟨T, oT, ts, .none, h1, hTx, ⟨hT, Nat.le_trans I.sz lo, Nat.ne_of_gt (Nat.lt_of_lt_of_le I.lt lo), fun p hp z => ?_⟩, gT, dT, h3, .inl rfl⟩⟩, q⟩
 have := Heap.lt_size (I.pin p hp).1
 rw [z] at this
 exact absurd (Nat.lt_of_lt_of_le this lo) (Nat.lt_irrefl _)
theorem passX : Passes (CXE X.prog X.w) (X.exc E) E := fun pins σ H s e s' I h => cxe_fly I.unwish h
theorem fly_leave {e : Value} {s1 : Shared} {E' : Value -> Shared -> Prop} (hst : X.stack = X.env :: X.outer) (hfr : X.env.frame = some X.env.locals) (hex : X.ex = []) (h : FlyW X E e s1) :
  wpAny (model X.prog X.w) X.A (leaving X.env e) (fun _ s'' => CXE X.prog X.w X.outer X.H₀ X.s₀ E e s'') E' s1 := by
 obtain ⟨x, C, d, pins, σ, H, rfl, I, hx, tb, q⟩ := h
 unfold leaving
 refine wpAny_bind (fly_note I hst hfr I.ok.frames hx tb fun s2 I2 t2 => wK (to := none) I2 hx t2 fun s3 I3 t3 => ?_)
 obtain ⟨oe, vs, T, oT, ts, ge, hd, h1, hTx, ours, gT, dT, h3⟩ := t3
 have b := I3.base
 rw [hex] at b
 exact ⟨x, C, d, H, rfl, I3.os, I3.bare, b, I3.hok, hx, ⟨oe, vs, T, oT, ts, ge, hd, h1, hTx, ours.1, ours.2.1, gT, dT, h3⟩, q⟩
theorem qB (hst : X.stack = X.env :: X.outer) (hfr : X.env.frame = some X.env.locals) : PassesOwn (model X.prog X.w) X.A X.env (FlyW X E) := fun e s1 h => by
 obtain ⟨x, C, d, pins, σ, H, rfl, I, hx, tb, q⟩ := h
 refine fly_note I hst hfr I.ok.frames hx tb fun s2 I2 t2 => ?_
 have t2' := t2
 obtain ⟨oe, vs, T, oT, ts, ge, hd, h1, hTx, ours, gT, dT, h3⟩ := t2
 unfold cameBackBy
 refine wpAny_bind (wpAny_field ge hd h1 ?_)
 rw [if_neg (show ¬ ((Value.ref T == Value.none) = true) from by simp)]
 rw [hfr]
 exact wK (to := some X.env.locals) I2 hx t2' fun s3 I3 t3 => ⟨x, C, d, pins, σ, H, rfl, I3, hx, t3.tb (.inr rfl), q⟩
end
section
variable {P : Program} {w : World} {K : PySem.W.Frag} {mg : Str -> Option Value} {base : Heap}
theorem Fun.okN {CX : CXT} {x qual : Str} {st : Stmt} {f : Addr} {fd : FuncData} {N ps : List Str} {k : Nat} {sp : Sp} (F : Fun K x qual st f fd) (S : FnScope N ps (defScope st)) (len : ∀ vs H Q E, sp vs H Q E -> vs.length = ps.length)
  (hbody : ∀ (cdv : Value) (A : Around) (outer : List Env) (s : Shared) (H : Hp) (vs : List V) (Q : VK) (E : XK), Room k (A.deeper (envOfC qual (defScope st) s.heap.objs.size f cdv)) -> sp vs H Q E ->
   ∃ t, PSs (cxOf CX P w K mg base N qual (defScope st) f cdv A outer s H E).nox (defBody st) t /\ t { nx := fun _ H' => Q .non H', rt := Q } (start N vs) H) : FnOk P w K mg base CX (k + 1) f fd ps sp := by
 obtain ⟨oc, od, kV, doc, pm, an, cdv, ct, osl, rfl, lk, hcd⟩ := F.ex
 refine fn_of lk hcd S len fun A outer s H vs Q E hr hsp => ?_
 obtain ⟨t, h, q⟩ := hbody cdv A outer s H vs Q E hr hsp
 exact ⟨t, h.nox, q⟩
theorem Fun.okX {x qual : Str} {st : Stmt} {f : Addr} {fd : FuncData} {N ps : List Str} {k : Nat} {sp : Sp} (F : Fun K x qual st f fd) (S : FnScope N ps (defScope st)) (len : ∀ vs H Q E, sp vs H Q E -> vs.length = ps.length)
  (hbody : ∀ (cdv : Value) (A : Around) (outer : List Env) (s : Shared) (H : Hp) (vs : List V) (Q : VK) (E : XK), Room k (A.deeper (envOfC qual (defScope st) s.heap.objs.size f cdv)) -> sp vs H Q E ->
   ∃ t, PSs ((cxOf (CXE P w) P w K mg base N qual (defScope st) f cdv A outer s H E).exc E) (defBody st) t /\ t { nx := fun _ H' => Q .non H', rt := Q } (start N vs) H) : FnOk P w K mg base (CXE P w) (k + 1) f fd ps sp := by
 obtain ⟨oc, od, kV, doc, pm, an, cdv, ct, osl, rfl, lk, hcd⟩ := F.ex
 refine fn_of lk hcd S len fun A outer s H vs Q E hr hsp => ?_
 obtain ⟨t, h, q⟩ := hbody cdv A outer s H vs Q E hr hsp
 refine ⟨t, ⟨fun pins s1 σ H1 D I hw => ?_⟩, q⟩
 refine wpAny_mono (h pins s1 σ H1 D (I.wish _) hw) (fun fl s2 hs => hs.unwish) fun e s2 fl => ?_
 exact fly_leave rfl rfl rfl fl
end
end L2

namespace L2
open PySem PySem.Spec PyProof.Rows
abbrev bmValue : List Value := [.type "ValueError", .type "Exception", .type "BaseException", .type "object"]
structure ExMk (K : PySem.W.Frag) (C f : Addr) : Prop where
 cls : ∃ (B nw ini : String) (bmB : List Value), ExcBaseFacts B nw ini bmB /\ bmB.contains (.type "BaseException") = true /\ ∃ nm q N bs bm hdct sn sub ab col dd k0 k1 k2 k3 k5, K.lookup C = some (excClassObj nm q C N bs bm hdct sn sub ab col dd k0 k1 k2 k3 k5 nw) /\ ∀ h, K.In h -> OwnTail h bmB bm
 init : PySem.W.findIn K (.ref C) "__init__" = some (some (.ref f))
 fn : PySem.W.typeIn K (.ref f) = some (.type "function")
 kp : PySem.W.keepIn K (.ref C) = true
 ec : ExCls K C
theorem ExMk.ofValue {K : PySem.W.Frag} {C f : Addr} (h : ∃ nm q N bs bm hdct sn sub ab col dd k0 k1 k2 k3 k5, K.lookup C = some (excClassObj nm q C N bs bm hdct sn sub ab col dd k0 k1 k2 k3 k5 "ValueError.__new__") /\ ∀ h, K.In h -> OwnTail h bmValue bm)
  (i : PySem.W.findIn K (.ref C) "__init__" = some (some (.ref f))) (fn : PySem.W.typeIn K (.ref f) = some (.type "function")) (kp : PySem.W.keepIn K (.ref C) = true) (ec : ExCls K C) : ExMk K C f :=
 ⟨⟨_, _, _, bmValue, F.excBase_ValueError, by decide, h⟩, i, fn, kp, ec⟩
section
variable {X : Cx} {pins : List (Addr × Obj)} {σ : St} {H : Hp} {s : Shared}
theorem Inv.excMade (I : Inv X pins σ H s) (C : Addr) (us : List Value) : Inv X pins σ (upd H (s.heap.objs.size + 1) (ExN (s.heap.objs.size + 1) C none)) { s with heap := excHeap s.heap C us } := by
 have gx : (excHeap s.heap C us).get? (s.heap.objs.size + 1) = some (excObj C s.heap.objs.size) := by heap_get
 refine I.laid (t' := s.toks) (fun b o e => Heap.get?_push_of_some _ (Heap.get?_push_of_some _ e)) (Nat.le_succ _) (ExN.ok gx rfl rfl rfl (show 6 <= 6 by decide) rfl)
theorem run_exc {CX : CXT} {k : Nat} {f C : Addr} {fd : FuncData} {ps : List Str} {sp : Sp} {E : XK} {Q : Addr -> Hp -> Prop} {us : List Value} {vs : List V} (M : ExMk X.K C f) (G : FnOk X.prog X.w X.K X.mg X.base CX k f fd ps sp) (hr : Room (k + 1) X.A) (hb : Binds X.K fd ps [])
  (hx : Passes CX X E) (I : Inv X pins σ H s) (r : Vals vs us) (hz : us.length <= sizeLine)
  (h : ∀ x, H x = none -> sp (.ref x :: vs) (upd H x (ExN x C none)) (fun v H2 => v = .non /\ Q x H2) E) :
  wpAny (model X.prog X.w) X.A (call (.ref C) us) (fun u s' => ∃ x H', u = .ref x /\ Inv X pins σ H' s' /\ Q x H') X.xe s := by
 have hq := h (s.heap.objs.size + 1) (I.hok.fresh (Nat.le_succ _))
 have I2 := I.excMade C us
 have r2 : Vals (V.ref (s.heap.objs.size + 1) :: vs) (Value.ref (s.heap.objs.size + 1) :: us) := .cons rfl r
 have hl : (Value.ref (s.heap.objs.size + 1) :: us ++ []).length = ps.length := by
  have e := r2.length
  rw [G.len _ _ _ _ hq] at e
  rw [List.append_nil]
  exact e.symm
 obtain ⟨_, _, _, bmB, BF, hcb, nm, q, N, bs, bm, hdct, sn, sub, ab, col, dd, k0, k1, k2, k3, k5, hC, T⟩ := M.cls
 have KI := I.kIn
 have bd := hb { s with heap := excHeap s.heap C us } (Value.ref (s.heap.objs.size + 1) :: us) I2.kIn hl
 rw [List.append_nil] at bd
 obtain ⟨hh, g, d, t, os⟩ := s
 refine wpAny_call (exc_make KI (KI _ _ hC) BF (T _ KI) M.init M.fn hz (codeAny_mono (G.run _ X.stack _ _ ⟨Value.ref (hh.objs.size + 1) :: us, []⟩ _ _ _ E (hr.make C us []) (I2.env0.make C us []) bd r2 hq) fun r s' hq' => ?_))
 cases r with
 | error e => exact hx pins σ _ _ e s' I2 hq'
 | ok fl =>
  cases fl with
  | ret u =>
   obtain ⟨v, H', I3, rv, ev, q3⟩ := I2.after hq'
   subst ev
   exact ⟨rv, hh.objs.size + 1, H', rfl, I3, q3⟩
  | next => exact False.elim hq'
  | brk => exact False.elim hq'
  | cont => exact False.elim hq'
theorem raise_stmt {M : Model} {A : Around} {E : Value -> Shared -> Prop} {env : Env} {xs : Sem Value} {Q : Flow -> Shared -> Prop} {K : PySem.W.Frag} {C : Addr} {s : Shared} {f : Addr} (hM : ExMk K C f) (hh : A.handled = none)
  (h : wpAny M A xs (fun v s1 => ∃ x oe vs, v = .ref x /\ K.In s1.heap /\ s1.heap.get? x = some oe /\ oe.cls = .ref C /\ oe.data = .fields vs /\ vs[1]? = some .none /\ E (.ref x) s1) E s) :
  wpAny M A (raiseStmt env (some xs) none) Q E s := by
 obtain ⟨_, _, _, bmB, BF, hcb, nm, q, N, bs, bm, hdct, sn, sub, ab, col, dd, k0, k1, k2, k3, k5, hC, T⟩ := hM.cls
 unfold raiseStmt
 refine wpAny_bind (thn h fun v s1 h1 => ?_)
 obtain ⟨x, oe, vs, rfl, KI, ge, hcl, hd, h1, hE⟩ := h1
 have hC1 := KI _ _ hC
 have hcB : (Value.ref C :: bm).contains (.type "BaseException") = true := by rw [List.contains_cons, (T _ KI).hasType hcb, Bool.or_true]
 obtain ⟨hp, g, d, tk, os⟩ := s1
 repeat (first | (with_reducible refine wpAny_loadPart_at ge ?_; try rw [hcl]) | with_reducible refine wpAny_loadPart_at hC1 ?_ | (with_reducible refine wpAny_isSubtype_exc hC1 ?_; rw [hcB]) | with_reducible refine wpAny_field ge hd h1 ?_ | wp_step)
 exact wpAny_raiseNew_none hh hE
theorem Inv.excFlies {x C d : Addr} (I : Inv X pins σ H s) (hx : H x = some (ExN x C (some d))) : Inv X pins σ (upd H x (ExO x C (some d))) s := by
 obtain ⟨o, vs, g, r1, r2, r3, r4, r5⟩ := ExN.get I.hok hx
 exact I.write (h' := s.heap) (t' := s.toks) (x := x) (e := x) (by rw [hx]; exact True.intro) (.inl rfl) (fun _ _ _ q => q) ⟨o, g⟩ (ExO.ok g r1 r2 r3 r4)
end
def tRaise (C : Addr) (sp : Sp) (E : XK) (t : TA) : TS := fun _ σ H => t σ H fun vs H1 => vs.length <= sizeLine /\ ∀ x, H1 x = none ->
 sp (.ref x :: vs) (upd H1 x (ExN x C none)) (fun v H2 => v = .non /\ ∃ d, H2 x = some (ExN x C (some d)) /\ E (.ref C) (some d) (upd H2 x (ExO x C (some d)))) E
section
variable {X : Cx} {E : XK} {k : Nat} {f C : Addr} {fd : FuncData} {ps : List Str} {sp : Sp} {x : Str} {np cpos pos : Pos} {e : Expr} {es : List Expr} {t : TA}
theorem ps_raise (M : ExMk X.K C f) (G : FnOk X.prog X.w X.K X.mg X.base (CXE X.prog X.w) k f fd ps sp) (hr : Room (k + 1) X.A) (hg : Gl (X.exc E) x) (hm : X.mg x = some (.ref C)) (hb : Binds X.K fd ps []) (ha : PA (X.exc E) (e :: es) t) (hc : X.calm = true := by rfl)
  (hdb : (x == ("__debug__" : Str)) = false := by decide) (he : starEach (e :: es) X.env = (false, eval e X.env) :: starEach es X.env := by rfl) (hpl : (backTo cpos (starEach es X.env)).any (·.1) = false := by rfl) :
  PS (X.exc E) (.Raise (some (.Call (.Name x np) (e :: es) [] cpos)) none pos) (tRaise C sp E t) := by
 refine ⟨?_⟩
 intro pins s σ H D I h
 have cal : wpAny (model X.prog X.w) X.A (eval (.Call (.Name x np) (e :: es) [] cpos) X.env) (fun v s1 => ∃ y oe vs, v = .ref y /\ X.K.In s1.heap /\ s1.heap.get? y = some oe /\ oe.cls = .ref C /\ oe.data = .fields vs /\ vs[1]? = some .none /\ FlyW X E (.ref y) s1) (FlyW X E) s := by
  refine wpAny_Call_Name_kw (qV (X := X.exc E) I hg hm ?_ hdb)
  refine PySem.W.callWith_K (h₀ := X.base) I.ok.mod.kin M.kp (thn (ha cpos pins s σ H _ I h) fun us s1 ⟨vs, H1, I1, r, hz, q⟩ => ⟨I1.kIn, ?_⟩) he hpl
  refine thn (run_exc (X := X.exc E) (Q := fun y H2 => ∃ d, H2 y = some (ExN y C (some d)) /\ E (.ref C) (some d) (upd H2 y (ExO y C (some d)))) M G hr hb passX I1 r (by have := r.length; rw [List.nil_append]; (first|lia|omega)) q) fun v s2 ⟨y, H2, ev, I2, d, hy, qe⟩ => ?_
  ·subst ev
   obtain ⟨o, ws, g, r1, r2, r3, r4, r5⟩ := ExN.get I2.hok hy
   exact ⟨y, o, ws, rfl, I2.kIn, g, r1, r3, r5, y, C, some d, pins, σ, _, rfl, I2.unwish.excFlies hy, zB, ⟨o, ws, g, r3, .inl r5⟩, qe⟩
 show wpAny _ _ (exec (.Raise (some (.Call (.Name x np) (e :: es) [] cpos)) none pos) X.env) _ _ _
 rw [arm_exec_Raise]
 refine wpAny_bind (wpAny_standAt (raise_stmt (K := X.K) M (I.ok.hd hc) ?_))
 exact wpAny_bind (thn cal fun v s1 h1 => wpAny_bind (wpAny_standAt (wpAny_pure h1)))
end
end L2

namespace L2
open PySem PySem.Spec PyProof.Rows
section
variable {X : Cx} {pins : List (Addr × Obj)} {σ : St} {H : Hp} {s : Shared}
theorem name_gone {M : Model} {A : Around} {E : Value -> Shared -> Prop} {i : Nat} {n : Str} {pos : Pos} {Q : Unit -> Shared -> Prop} (I : Inv X pins σ H s) (hN : X.N.Nodup) (hi : X.N[i]? = some n) (hl : X.env.scope.names.lookup n = some .local)
  (h : ∀ s', Inv X pins (σ.set i none) H s' -> Q () s') : wpAny M A (do bindName X.env n .none; unbindBehindTheSuite X.env n pos) Q E s := by
 obtain ⟨m, hn, hlk⟩ := id I.loc
 have hcls : (X.env.scope.kind == .class || (X.env.scope.kind == .module && X.env.locals != X.env.globals)) = false := by rw [I.ok.kind]; rfl
 have hiσ : i < σ.length := by rw [I.len]; exact (List.getElem?_eq_some_iff.mp hi).1
 refine wpAny_nameGoes_keeps hl hn hcls fun h' v hn' hs => h _ ?_
 have neL : ∀ b o, X.s₀.heap.get? b = some o -> b ≠ X.env.locals := fun b o e => Nat.ne_of_lt (Nat.lt_of_lt_of_le (Heap.lt_size e) I.ok.above)
 refine ⟨I.ok, I.os, I.bare, ⟨fun b o e n hb hx => (hs.2 b (neL b o e)).trans (I.base.keep b o e n hb hx), fun b o e n hb hx => ?_, I.base.free, fun b o e hx => ?_, I.base.tups, I.base.frzs, I.base.tbls⟩, ⟨_, hn', fun j y v' e1 e2 e3 => ?_⟩, fun y c e => ?_, I.free, I.freeC, fun p hp => ?_, fun b u e => ?_, by simpa using I.len⟩
 ·obtain ⟨sl, e1⟩ := I.base.slot b o e n hb hx
  exact ⟨sl, (hs.2 b (neL b o e)).trans e1⟩
 ·obtain ⟨o', e1⟩ := I.base.there b o e hx
  exact ⟨o', (hs.2 b (neL b o e)).trans e1⟩
 ·by_cases hj : j = i
  ·subst hj
   rw [List.getElem?_set_self hiσ] at e2
   cases e2
  ·rw [List.getElem?_set_ne (Ne.symm hj)] at e2
   obtain ⟨u', r', q⟩ := hlk j y v' e1 e2 e3
   refine ⟨u', r', ?_⟩
   rcases q with ⟨k, e⟩ | ⟨k, c, e, z⟩
   ·refine .inl ⟨k, ?_⟩
    have : y ≠ n := fun e => hj (nodup_ix hN e1 (e ▸ hi))
    simp [this, e]
   ·exact .inr ⟨k, c, e, z.sameBut hs (I.cne y c e)⟩
 ·obtain ⟨w', z⟩ := I.cell y c e
  exact ⟨w', z.sameBut hs (I.cne y c e)⟩
 ·obtain ⟨e, n, ne, nf, d⟩ := I.pin p hp
  exact ⟨(hs.2 p.1 ne).trans e, n, ne, nf, d⟩
 ·refine (I.hok b u e).stay (fun c w' hc q => (hs.2 c ?_).trans q) (fun _ q => q) fun _ _ q => q
  rintro rfl
  rcases hc with rfl | hc
  ·rw [I.free] at e; cases e
  ·rw [I.free] at hc; cases hc
abbrev Cx.mark (X : Cx) (v : Value) : Cx := { X with A := X.A.mark (some v), calm := false, xe := fun _ _ => False }
theorem Inv.mark (I : Inv X pins σ H s) (v : Value) : Inv (X.mark v) pins σ H s :=
 ⟨⟨I.ok.mod, I.ok.kind, I.ok.glob, I.ok.blt, I.ok.above, I.ok.inj, I.ok.has, I.ok.cab, fun z => (nomatch z), I.ok.frames, I.ok.stk, I.ok.exf, I.ok.bs, I.ok.bsz, I.ok.noex, I.ok.exfs, I.ok.funs, I.ok.frf⟩, I.os, I.bare, I.base, I.loc, I.cell, I.free, I.freeC, I.pin, I.hok, I.len⟩
theorem Inv.unmark {v : Value} (hd : X.calm = true -> X.A.handled = none) (I : Inv (X.mark v) pins σ H s) : Inv X pins σ H s :=
 ⟨⟨I.ok.mod, I.ok.kind, I.ok.glob, I.ok.blt, I.ok.above, I.ok.inj, I.ok.has, I.ok.cab, hd, I.ok.frames, I.ok.stk, I.ok.exf, I.ok.bs, I.ok.bsz, I.ok.noex, I.ok.exfs, I.ok.funs, I.ok.frf⟩, I.os, I.bare, I.base, I.loc, I.cell, I.free, I.freeC, I.pin, I.hok, I.len⟩
abbrev Cx.pinned (X : Cx) (pn : List (Addr × Obj)) : Cx := { X with pn := pn }
theorem Inv.topin (I : Inv X pins σ H s) : Inv (X.pinned (X.pn ++ pins)) [] σ H s :=
 ⟨⟨I.ok.mod, I.ok.kind, I.ok.glob, I.ok.blt, I.ok.above, I.ok.inj, I.ok.has, I.ok.cab, I.ok.hd, I.ok.frames, I.ok.stk, I.ok.exf, I.ok.bs, I.ok.bsz, I.ok.noex, I.ok.exfs, I.ok.funs, I.ok.frf⟩, I.os, I.bare, I.base, I.loc, I.cell, I.free, I.freeC, fun p hp => I.pin p (by rw [List.append_nil] at hp; exact hp), I.hok, I.len⟩
theorem Inv.unpin {pins' : List (Addr × Obj)} (I : Inv (X.pinned (X.pn ++ pins)) pins' σ H s) : Inv X pins σ H s :=
 ⟨⟨I.ok.mod, I.ok.kind, I.ok.glob, I.ok.blt, I.ok.above, I.ok.inj, I.ok.has, I.ok.cab, I.ok.hd, I.ok.frames, I.ok.stk, I.ok.exf, I.ok.bs, I.ok.bsz, I.ok.noex, I.ok.exfs, I.ok.funs, I.ok.frf⟩, I.os, I.bare, I.base, I.loc, I.cell, I.free, I.freeC, fun p hp => I.pin p (List.mem_append_left _ hp), I.hok, I.len⟩
end
structure Mch (K : PySem.W.Frag) (C CE : Addr) : Prop where
 sub : PySem.W.subIn K (.ref C) (.ref CE) = some true
 ty : PySem.W.typeIn K (.ref CE) = some (.type "type")
 cl : (PySem.W.clsIn K CE).isSome = true
 base : PySem.W.subIn K (.ref CE) (.type "BaseException") = some true
theorem exc_matches {M : Model} {A : Around} {E : Value -> Shared -> Prop} {K : PySem.W.Frag} {s : Shared} {x C CE : Addr} {oe : Obj} {Q : Bool -> Shared -> Prop} (KI : K.In s.heap) (m : Mch K C CE) (ge : s.heap.get? x = some oe) (hcl : oe.cls = .ref C) (hq : Q true s) :
  wpAny M A (excMatches (.ref x) (.ref CE)) Q E s := by
 obtain ⟨h, g, d, t, os⟩ := s
 have kc : PySem.W.kitCls K (.ref C) (.ref CE) = some true := by
  unfold PySem.W.kitCls
  simp only [m.cl, m.ty, beq_self_eq_true, Bool.and_self, if_true]
  exact m.sub
 obtain ⟨L1, L2', L3⟩ := PySem.W.kit_cls (M := M) (h := h) KI kc
 have L4 := PySem.W.looks_subIn (M := M) (h := h) KI m.base
 have L5 : PySem.W.Looks M h (typeOf (.ref x)) (.ref C) := hcl ▸ (PySem.W.Looks.ld ge).andThen .now
 have L6 : PySem.W.Looks M h (isInstance (.ref CE) (.type "tuple")) false := L1.andThen (PySem.W.Looks.of_pure tc_notTuple)
 have L7 : PySem.W.Looks M h (isExcClass (.ref CE)) true := L2'.andThen L4
 unfold excMatches
 refine wpAny_bind (L6.at (wpAny_bind (wpAny_pure (wpAny_bind ?_))))
 show wpAny M A (forIn [Value.ref CE] PUnit.unit _) _ E _
 simp only [List.forIn_cons, List.forIn_nil]
 refine wpAny_bind (wpAny_bind (L7.at ?_))
 refine wpAny_pure (wpAny_pure (wpAny_bind (L5.at (wpAny_bind (wpAny_bind (wpAny_bind (L3.at ?_)))))))
 exact wpAny_pure (wpAny_pure (wpAny_pure hq))

def behind (D : Ends) (i : Nat) : Ends := { nx := fun σ H => D.nx (σ.set i none) H, rt := D.rt, bk := fun σ H => D.bk (σ.set i none) H, ct := fun σ H => D.ct (σ.set i none) H }
def tTry (K : PySem.W.Frag) (N i : Nat) (CE : Addr) (tb : XK -> TS) (th : TS) : TS := fun D σ H =>
 tb (fun cls dx H1 => ∃ C d, cls = .ref C /\ dx = some d /\ Mch K C CE /\ ∀ (x : Addr) (σ1 : St), H1 x = some (ExO x C (some d)) -> σ1.length = N -> th (behind D i) (σ1.set i (some (.ref x))) H1) D σ H
section
variable {X : Cx}
theorem ps_try {body suite : List Stmt} {b0 : Stmt} {x n : Str} {i : Nat} {CE : Addr} {tb : XK -> TS} {th : TS} {np hpos pos : Pos} (hN : X.N.Nodup) (hi : X.N[i]? = some n) (hl : X.env.scope.names.lookup n = some .local) (hg : Gl X x) (hm : X.mg x = some (.ref CE))
  (hb : ∀ pn E', PSs ((X.pinned pn).exc E') body (tb E')) (hh : ∀ v, PSs (X.mark v) (b0 :: suite) th)
  (hst : X.stack = X.env :: X.outer := by rfl) (hfr : X.env.frame = some X.env.locals := by rfl) (hdb : (x == ("__debug__" : Str)) = false := by decide) :
  PS X (.Try body [.ExceptHandler (some (.Name x np)) (some n) (b0 :: suite) hpos] [] [] pos) (tTry X.K X.N.length i CE tb th) := by
 refine ⟨?_⟩
 intro pins s σ H D I h
 refine wpAny_Try_except ?_
 refine wpAny_mono (hb (X.pn ++ pins) _ [] s σ H D (I.topin.wish _) h) (fun f s1 h1 => ?_) fun e s1 h1 => ?_
 ·cases f with
  | next => obtain ⟨σ1, H1, I1, q⟩ := h1; exact wpAny_execs_nil ⟨σ1, H1, I1.unwish.unpin, q⟩
  | brk => obtain ⟨σ1, H1, I1, q⟩ := h1; exact ⟨σ1, H1, I1.unwish.unpin, q⟩
  | cont => obtain ⟨σ1, H1, I1, q⟩ := h1; exact ⟨σ1, H1, I1.unwish.unpin, q⟩
  | ret u => obtain ⟨v, σ1, H1, I1, r, q⟩ := h1; exact ⟨v, σ1, H1, I1.unwish.unpin, r, q⟩
 ·obtain ⟨y, C0, d0, pins1, σ1, H1, rfl, I1, hy, tb1, C, d, ec, ed, mc, q⟩ := h1
  cases ec
  cases ed
  refine fly_note (X := X.pinned (X.pn ++ pins)) I1 hst hfr I1.ok.frames hy tb1 fun s2 I2 t2 => wK (to := none) I2 hy t2 fun s3 I3 t3 => ?_
  obtain ⟨oe, vs, ge, hcl, hdi, hda, hz⟩ := ExO.get I3.hok hy
  have J3 : Inv X pins σ1 H1 s3 := I3.unpin
  refine wpAny_handleBy_cons (codeAny_handlers_test ?_) (by intro z; cases z)
  refine qV (X := X.mark (.ref y)) (J3.mark _) hg hm ?_ hdb
  refine exc_matches J3.kIn mc ge hcl ?_
  refine codeAny_handlers_suite_as ?_
  refine wK (X := (X.pinned (X.pn ++ pins))) (to := none) I3 hy t3 fun s4 I4 t4 => ?_
  have J4 : Inv X pins σ1 H1 s4 := I4.unpin
  refine wY (X := X.mark (.ref y)) (J4.mark _) hN hi (.inl hl) (v := .ref y) rfl (fun s5 I5 => ?_) (.inr hl)
  refine wpAny_mono (hh (.ref y) pins s5 _ H1 (behind D i) I5 (q y σ1 hy I1.len)) (fun f s6 h6 => ?_) fun _ _ z => z.elim
  have go : ∀ {σ6 : St} {H6 : Hp} {P : Flow -> Shared -> Prop}, Inv (X.mark (.ref y)) pins σ6 H6 s6 -> (∀ s7, Inv X pins (σ6.set i none) H6 s7 -> P f s7) -> wpAny (model X.prog X.w) X.A (do bindName X.env n .none; unbindBehindTheSuite X.env n hpos) (fun _ s7 => P f s7) X.xe s6 :=
   fun {σ6 H6 P} I6 k => name_gone (Inv.unmark I.ok.hd I6) hN hi hl k
  cases f with
  | next => obtain ⟨σ6, H6, I6, q6⟩ := h6; exact go (P := SP X pins D) I6 fun s7 I7 => ⟨_, H6, I7, q6⟩
  | brk => obtain ⟨σ6, H6, I6, q6⟩ := h6; exact go (P := SP X pins D) I6 fun s7 I7 => ⟨_, H6, I7, q6⟩
  | cont => obtain ⟨σ6, H6, I6, q6⟩ := h6; exact go (P := SP X pins D) I6 fun s7 I7 => ⟨_, H6, I7, q6⟩
  | ret u => obtain ⟨v, σ6, H6, I6, r, q6⟩ := h6; exact go (P := SP X pins D) I6 fun s7 I7 => ⟨v, _, H6, I7, r, q6⟩
end
end L2

namespace L2
open PySem PySem.Spec PyProof.Rows
def EqD (K : PySem.W.Frag) (H : Hp) : Nat -> V -> V -> Prop
 | 0, x, y => flatV x = true /\ x = y
 | n + 1, x, y => (flatV x = true /\ x = y) \/ ∃ a b xs ys, x = .ref a /\ y = .ref b /\ ((SqL K H a xs /\ SqL K H b ys) \/ (SqT K H a xs /\ SqT K H b ys)) /\ Paired (EqD K H n) xs ys
theorem EqD.flat {K : PySem.W.Frag} {H : Hp} {x : V} (h : flatV x = true) : ∀ n, EqD K H n x x
 | 0 => ⟨h, rfl⟩
 | _ + 1 => .inl ⟨h, rfl⟩
theorem eqV_same : ∀ {x : V}, flatV x = true -> eqV x x = true
 | .non, _ => rfl
 | .bl b, _ => beq_self_eq_true b
 | .int i, _ => beq_self_eq_true i
 | .str z, _ => beq_self_eq_true z
theorem Paired.get {α β : Type} {F : α -> β -> Prop} : ∀ {xs : List α} {ys : List β}, Paired F xs ys -> ∀ (j : Nat) (x : α) (y : β), xs[j]? = some x -> ys[j]? = some y -> F x y
 | _, _, .nil, j, x, y, h, _ => by simp at h
 | _, _, .cons r t, 0, x, y, h, q => by simp at h q; subst h; subst q; exact r
 | _, _, .cons r t, j + 1, x, y, h, q => Paired.get t j x y (by simpa using h) (by simpa using q)
theorem Paired.len {α β : Type} {F : α -> β -> Prop} : ∀ {xs : List α} {ys : List β}, Paired F xs ys -> xs.length = ys.length
 | _, _, .nil => rfl
 | _, _, .cons _ t => by simp [Paired.len t]
theorem Paired.imp {α β : Type} {F G : α -> β -> Prop} (h : ∀ x y, F x y -> G x y) : ∀ {xs : List α} {ys : List β}, Paired F xs ys -> Paired G xs ys
 | _, _, .nil => .nil
 | _, _, .cons r t => .cons (h _ _ r) (Paired.imp h t)
theorem all_true (n : Nat) : (List.range n).all (fun _ => true) = true := List.all_eq_true.mpr fun _ _ => rfl
section
variable {X : Cx} {pins : List (Addr × Obj)} {σ : St} {H : Hp} {s : Shared}
theorem wF {K : PySem.W.Frag} {xs ys : List V} {us vs : List Value} {R : V -> V -> Prop} (p : Paired R xs ys) (r : Vals xs us) (q : Vals ys vs) (P : Value -> Value -> Prop) (h : ∀ x y u v, R x y -> RelV x u -> RelV y v -> P u v) :
  us.toArray.size = vs.toArray.size /\ ∀ j (h1 : j < us.toArray.size) (h2 : j < vs.toArray.size), P us.toArray[j] vs.toArray[j] := by
 refine ⟨?_, fun j h1 h2 => ?_⟩
 ·have e1 := r.length; have e2 := q.length; have e3 := Paired.len p
  simp only [List.size_toArray]; (first|lia|omega)
 ·have l1 : j < us.length := by simpa using h1
  have l2 : j < vs.length := by simpa using h2
  have e1 := r.length; have e2 := q.length
  have g1 : xs[j]? = some xs[j] := List.getElem?_eq_getElem (by (first|lia|omega))
  have g2 : ys[j]? = some ys[j] := List.getElem?_eq_getElem (by (first|lia|omega))
  simp only [List.getElem_toArray]
  exact h _ _ _ _ (Paired.get p j _ _ g1 g2) (Paired.get r j _ _ g1 (List.getElem?_eq_getElem l1)) (Paired.get q j _ _ g2 (List.getElem?_eq_getElem l2))
theorem eqD_at (I : Inv X pins σ H s) : ∀ (n : Nat) (x y : V) (u v : Value) (A : Around), EqD X.K H n x y -> RelV x u -> RelV y v -> A.units + n <= cLine -> SeqAt.EqAt A s u v true
 | 0, x, y, u, v, A, ⟨f, e⟩, ru, rv, _ => by subst e; rw [<- eqV_same f]; exact eqAt_V ru rv f f
 | n + 1, x, y, u, v, A, .inl ⟨f, e⟩, ru, rv, _ => by subst e; rw [<- eqV_same f]; exact eqAt_V ru rv f f
 | n + 1, x, y, u, v, A, .inr ⟨a, b, xs, ys, ex, ey, hs, p⟩, ru, rv, hu => by
  subst ex ey
  cases ru; cases rv
  by_cases hab : a = b
  ·subst hab; exact SeqAt.EqAt.same _
  refine SeqAt.EqAt.of_refs hab ?_
  rcases hs with ⟨ha, hb⟩ | ⟨ha, hb⟩
  ·obtain ⟨us, r, pa, _⟩ := I.list ha
   obtain ⟨vs, q, pb, _⟩ := I.list hb
   obtain ⟨sz, he⟩ := wF (K := X.K) p r q (fun u v => SeqAt.EqAt A.in1 s u v true) fun x y u v e ru rv => eqD_at I n x y u v A.in1 e ru rv (by show A.units + 1 + n <= _; (first|lia|omega))
   have := SeqAt.RcAt.lists (e := fun _ => true) pa.isList pb.isList sz (by (first|lia|omega)) he
   rwa [all_true] at this
  ·obtain ⟨us, r, pa, _⟩ := I.tuple ha
   obtain ⟨vs, q, pb, _⟩ := I.tuple hb
   obtain ⟨sz, he⟩ := wF (K := X.K) p r q (fun u v => SeqAt.EqAt A.in1 s u v true) fun x y u v e ru rv => eqD_at I n x y u v A.in1 e ru rv (by show A.units + 1 + n <= _; (first|lia|omega))
   have := SeqAt.RcAt.tuples (e := fun _ => true) pa pb (by (first|lia|omega)) he
   rw [all_true, sz, beq_self_eq_true] at this
   exact this
def rEqD (K : PySem.W.Frag) (k : Bool) : R2 := fun x y H Q => ∃ a b xs ys n, x = .ref a /\ y = .ref b /\ ((SqL K H a xs /\ SqL K H b ys) \/ (SqT K H a xs /\ SqT K H b ys)) /\ Paired (EqD K H n) xs ys /\ n <= 100 /\ Q (.bl k) H
theorem op_neD {k : Nat} (hr : Room k X.A) : OpR X (compareOp .NotEq) (rEqD X.K false) := by
 intro pins s σ H x y v u Q I rx ry h
 obtain ⟨a, b, xs, ys, n, rfl, rfl, hs, p, hn, q⟩ := h
 cases rx; cases ry
 have hu := hr.un
 rcases hs with ⟨ha, hb⟩ | ⟨ha, hb⟩
 ·obtain ⟨us, r, pa, _⟩ := I.list ha
  obtain ⟨vs, q', pb, _⟩ := I.list hb
  obtain ⟨sz, he⟩ := wF (K := X.K) p r q' (fun u v => SeqAt.EqAt X.A.in1 s u v true) fun x y u v e ru rv => eqD_at I n x y u v X.A.in1 e ru rv (by show X.A.units + 1 + n <= _; (first|lia|omega))
  have := SeqAt.RcNeAt.lists (e := fun _ => true) pa.isList pb.isList sz (by (first|lia|omega)) he
  rw [all_true] at this
  exact this _ _ _ _ ⟨.bl false, H, I, rfl, q⟩
 ·obtain ⟨us, r, pa, _⟩ := I.tuple ha
  obtain ⟨vs, q', pb, _⟩ := I.tuple hb
  obtain ⟨sz, he⟩ := wF (K := X.K) p r q' (fun u v => SeqAt.EqAt X.A.in1 s u v true) fun x y u v e ru rv => eqD_at I n x y u v X.A.in1 e ru rv (by show X.A.units + 1 + n <= _; (first|lia|omega))
  have := SeqAt.RcNeAt.tuples (e := fun _ => true) pa pb (by (first|lia|omega)) he
  rw [all_true, sz, beq_self_eq_true] at this
  exact this _ _ _ _ ⟨.bl false, H, I, rfl, q⟩
theorem EqD.ints {K : PySem.W.Frag} {H : Hp} : ∀ (ns : List Int), Paired (EqD K H 0) (ns.map V.int) (ns.map V.int)
 | [] => .nil
 | n :: r => .cons ⟨rfl, rfl⟩ (EqD.ints r)
def CDivB (i j : Int) : Prop := 0 < j /\ j.natAbs.log2 < 8000
theorem op_fdivB : OpR X (binaryOp .FloorDiv) (rI CDivB fun i j => .int (i / j)) := opI fun i j _ _ _ _ _ hc q => by
 rw [<- Int.fdiv_eq_ediv_of_nonneg i (by have := hc.1; (first|lia|omega))] at q
 exact floordiv_int (by have := hc.1; (first|lia|omega)) q (.inl (PyProof.noPylong_of_log2 (by have := hc.2; (first|lia|omega))))
def tCut (t : TS) : TS := fun D σ H => ∃ P : St -> Hp -> Prop, t { D with nx := P } σ H /\ ∀ σ' H', P σ' H' -> D.nx σ' H'
theorem jX {st : Stmt} {t : TS} (h : PS X st t) : PS X st (tCut t) := by
 refine ⟨?_⟩
 intro pins s σ H D I hw
 obtain ⟨P, h1, h2⟩ := hw
 refine wpAny_mono (h pins s σ H _ I h1) (fun f s' q => ?_) fun _ _ z => z
 cases f with
 | next => obtain ⟨σ1, H1, I1, q⟩ := q; exact ⟨σ1, H1, I1, h2 _ _ q⟩
 | brk => exact q
 | cont => exact q
 | ret u => exact q
structure CalM (P : Program) (w : World) (K : PySem.W.Frag) (mg : Str -> Option Value) (base : Heap) (CX : CXT) (k : Nat) (C : Addr) (m : Str) (ps : List Str) (sp : Sp) : Prop where
 ex : ∃ f fd, FnOk P w K mg base CX k f fd ps sp /\ Cls K C /\ Meth K C m f /\ Binds K fd ps []
end
section
variable {X : Cx} {o e : Expr} {es : List Expr} {m : Str} {apos pos : Pos} {ta : TE} {t : TA} {E : XK} {C : Addr}
theorem kN {CX : CXT} {k n : Nat} {ps : List Str} {sp : Sp} {pl : Sem Bool} (he : PE X o ta) (G : CalM X.prog X.w X.K X.mg X.base CX k C m ps sp) (hr : Room n X.A) (ha : PA X (e :: es) t) (hx : Passes CX X E) (hk : k <= n := by first | decide | (first|lia|omega))
  (hst : starEach (e :: es) X.env = (false, eval e X.env) :: starEach es X.env := by rfl) (hpl : (backTo pos (starEach es X.env)).any (·.1) = false := by rfl)
  (ht : eval (.Call (.Attribute o m apos) (e :: es) [] pos) X.env = (do
   let ov <- eval o X.env
   standAt apos.atName
   let (f, first) <- holding [ov] (getMethod ov m pl)
   callWith pos f first (backTo pos (starEach (e :: es) X.env)) (backToKw pos (keywordEach [] X.env))) := by rfl) :
  PE X (.Call (.Attribute o m apos) (e :: es) [] pos) (tMeth C m sp [] E ta t) := by
 obtain ⟨f, fd, F, c, hm, hb⟩ := G.ex
 exact pe_meth he c hm F (hr.mono hk) hb .nil hx ha hst hpl ht
theorem kW {CX : CXT} {k n : Nat} {ps : List Str} {sp : Sp} {pl : Sem Bool} (he : PE X o ta) (G : CalM X.prog X.w X.K X.mg X.base CX k C m ps sp) (hr : Room n X.A) (hx : Passes CX X E) (hk : k <= n := by first | decide | (first|lia|omega))
  (ht : eval (.Call (.Attribute o m apos) [] [] pos) X.env = (do
   let ov <- eval o X.env
   standAt apos.atName
   let (f, first) <- holding [ov] (getMethod ov m pl)
   callWith pos f first (backTo pos (starEach [] X.env)) (backToKw pos (keywordEach [] X.env))) := by rfl) :
  PE X (.Call (.Attribute o m apos) [] [] pos) (tMeth C m sp [] E ta tNil) := by
 obtain ⟨f, fd, F, c, hm, hb⟩ := G.ex
 exact pe_meth0 he c hm F (hr.mono hk) hb .nil hx ht
theorem pe_fldXK {f : Str} {te : TE} (K : PySem.W.Frag) (hK : X.K = K) (he : PE X e te) (hb : attributeBase e f X.env (eval e X.env) = eval e X.env := by rfl) : PE X (.Attribute e f pos) (tFldX K te f) := by
 subst hK
 exact pe_fldX he hb
structure CalK (P : Program) (w : World) (K : PySem.W.Frag) (mg : Str -> Option Value) (base : Heap) (CX : CXT) (k : Nat) (x : Str) (C : Addr) (ps : List Str) (sp : Sp) : Prop where
 ex : ∃ f fd, Mk K C f /\ FnOk P w K mg base CX k f fd ps sp /\ mg x = some (.ref C) /\ Binds K fd ps []
theorem pe_makeC {x : Str} {p : Pos} {CX : CXT} {k n : Nat} {ps : List Str} {sp : Sp} (G : CalK X.prog X.w X.K X.mg X.base CX k x C ps sp) (hr : Room n X.A) (hg : Gl X x) (ha : PA X (e :: es) t) (hx : Passes CX X E) (hk : k + 1 <= n := by first | decide | (first|lia|omega))
  (hdb : (x == ("__debug__" : Str)) = false := by decide) (he : starEach (e :: es) X.env = (false, eval e X.env) :: starEach es X.env := by rfl) (hpl : (backTo pos (starEach es X.env)).any (·.1) = false := by rfl) :
  PE X (.Call (.Name x p) (e :: es) [] pos) (tMake C sp [] E t) := by
 obtain ⟨f, fd, M, F, hm, hb⟩ := G.ex
 exact pe_make M F (hr.mono hk) hg hm hb .nil hx ha hdb he hpl
structure CalX (P : Program) (w : World) (K : PySem.W.Frag) (mg : Str -> Option Value) (base : Heap) (k : Nat) (x : Str) (C : Addr) (ps : List Str) (sp : Sp) : Prop where
 ex : ∃ f fd, ExMk K C f /\ FnOk P w K mg base (CXE P w) k f fd ps sp /\ mg x = some (.ref C) /\ Binds K fd ps []
theorem xB {x : Str} {np cpos : Pos} {k n : Nat} {ps : List Str} {sp : Sp} (G : CalX X.prog X.w X.K X.mg X.base k x C ps sp) (hr : Room n X.A) (hg : Gl (X.exc E) x) (ha : PA (X.exc E) (e :: es) t) (hc : X.calm = true := by rfl) (hk : k + 1 <= n := by first | decide | (first|lia|omega))
  (hdb : (x == ("__debug__" : Str)) = false := by decide) (he : starEach (e :: es) X.env = (false, eval e X.env) :: starEach es X.env := by rfl) (hpl : (backTo cpos (starEach es X.env)).any (·.1) = false := by rfl) :
  PS (X.exc E) (.Raise (some (.Call (.Name x np) (e :: es) [] cpos)) none pos) (tRaise C sp E t) := by
 obtain ⟨f, fd, M, F, hm, hb⟩ := G.ex
 exact ps_raise M F (hr.mono hk) hg hm hb ha hc hdb he hpl
end
end L2

namespace L2
open PySem
abbrev Bad := Nat × Str
abbrev Hds := List (Int × Int)
inductive Nd where
 | mk (kind : Int) (place : Nat) (own : List Int) (parts : List Nd)
def takeM (ns : List Int) (p : Nat) : Except Bad Int := match ns[p]? with
 | some n => .ok n
 | none => .error (p, "end")
def withinM (ns : List Int) (p : Nat) (lo hi : Int) : Except Bad Int := match ns[p]? with
 | some n => if n < lo \/ hi < n then .error (p, "range") else .ok n
 | none => .error (p, "end")
def headsM (ns : List Int) : Nat -> Int -> Nat -> Except Bad Hds
 | 0, _, _ => .ok []
 | n + 1, most, p => match withinM ns p 0 most with
  | .error b => .error b
  | .ok a => match withinM ns (p + 1) a 12 with
   | .error b => .error b
   | .ok c => match headsM ns n 4 (p + 2) with
    | .error b => .error b
    | .ok r => .ok ((a, c) :: r)
def headsAllM (ns : List Int) : Except Bad Hds := match withinM ns 0 1 16 with
 | .error b => .error b
 | .ok n => headsM ns n.toNat 0 1
def oneM (r : Except Bad Int) : Except Bad (List Int) := match r with
 | .ok n => .ok [n]
 | .error b => .error b
def ownM (ns : List Int) (heads : Hds) (boxes k : Int) (p : Nat) : Except Bad (List Int) :=
 if k = 0 then oneM (takeM ns p) else if k = 1 \/ k = 2 then oneM (withinM ns p 0 (boxes - 1)) else if k = 3 then oneM (withinM ns p 1 12) else if k = 4 then oneM (withinM ns p 2 12) else if k = 6 then oneM (withinM ns p 0 ((heads.length : Int) - 1)) else .ok []
def partsN : List Int := [1, 2, 2, 2, 2, 2, 2, 2, 2, 2, 3, 1, 0]
def dueM (heads : Hds) (k : Int) (own : List Int) : Int :=
 if k = 0 \/ k = 1 then 0 else if k = 2 then 1 else if k = 3 then own.headD 0 else if k = 4 then 1 + own.headD 0 else if k = 5 then 2 else if k = 6 then (heads.getD (own.headD 0).toNat (0, 0)).1 else partsN.getD (k - 7).toNat 0
def partsM (f : Nat -> Except Bad (Nd × Nat)) : Nat -> Nat -> Except Bad (List Nd × Nat)
 | 0, p => .ok ([], p)
 | n + 1, p => match f p with
  | .error b => .error b
  | .ok a => match partsM f n a.2 with
   | .error b => .error b
   | .ok r => .ok (a.1 :: r.1, r.2)
def nodeM (ns : List Int) (heads : Hds) (boxes : Int) : Nat -> Nat -> Except Bad (Nd × Nat)
 | 0, p => .error (p, "deep")
 | d + 1, p => match withinM ns p 0 19 with
  | .error b => .error b
  | .ok k => match ownM ns heads boxes k (p + 1) with
   | .error b => .error b
   | .ok own => match partsM (nodeM ns heads boxes d) (dueM heads k own).toNat (p + 1 + own.length) with
    | .error b => .error b
    | .ok r => .ok (.mk k p own r.1, r.2)
def bodiesM (ns : List Int) (heads : Hds) : Hds -> Nat -> Except Bad (List Nd × Nat)
 | [], p => .ok ([], p)
 | h :: r, p => match nodeM ns heads h.2 10 p with
  | .error b => .error b
  | .ok a => match bodiesM ns heads r a.2 with
   | .error b => .error b
   | .ok z => .ok (a.1 :: z.1, z.2)
def functionsM (ns : List Int) : Except Bad (Hds × List Nd) := match headsAllM ns with
 | .error b => .error b
 | .ok hs => match bodiesM ns hs hs (1 + 2 * hs.length) with
  | .error b => .error b
  | .ok r => if r.2 < ns.length then .error (r.2, "over") else .ok (hs, r.1)
def NodeAt (H : Hp) : Nat -> V -> Nd -> Prop
 | 0, _, _ => False
 | d + 1, v, .mk k p own ps => ∃ t o q vs, v = .ref t /\ H t = some (.tup [.int k, .int p, .ref o, .ref q]) /\ H o = some (.tup (own.map V.int)) /\ H q = some (.tup vs) /\ Paired (NodeAt H d) vs ps
def FnAt (H : Hp) (v : V) (f : (Int × Int) × Nd) : Prop := ∃ t b, v = .ref t /\ H t = some (.tup [.int f.1.1, .int f.1.2, b]) /\ NodeAt H 10 b f.2
def FnsAt (H : Hp) (l : Addr) (r : Hds × List Nd) : Prop := ∃ rs, H l = some (.lst rs) /\ r.1.length = r.2.length /\ Paired (FnAt H) rs (r.1.zip r.2)
def HeadAt (H : Hp) (v : V) (h : Int × Int) : Prop := ∃ t, v = .ref t /\ H t = some (.tup [.int h.1, .int h.2])
def HeadsAt (H : Hp) (hd : Addr) (hs : Hds) : Prop := ∃ rs, H hd = some (.lst rs) /\ Paired (HeadAt H) rs hs
def LookO (CL dx a : Addr) (p : Nat) : HO := .ins CL dx [("numbers", .ref a), ("place", .int p)]
def Tups (H H' : Hp) : Prop := ∀ b xs, H b = some (.tup xs) -> H' b = some (.tup xs)
theorem Tups.same {H H' : Hp} (h : Same H H') : Tups H H' := fun _ _ e => h _ _ e
theorem Tups.keep {lk CL dx a : Addr} {p : Nat} {H H' : Hp} (e : H lk = some (LookO CL dx a p)) (k : Keep lk H H') : Tups H H' := fun b xs q => k b _ (fun z => by rw [z, e] at q; cases q) q
theorem NodeAt.tups {H H' : Hp} (h : Tups H H') : ∀ {d : Nat} {v : V} {n : Nd}, NodeAt H d v n -> NodeAt H' d v n
 | 0, _, _, z => z.elim
 | d + 1, v, .mk k p own ps, ⟨t, o, q, vs, e, h1, h2, h3, r⟩ => ⟨t, o, q, vs, e, h _ _ h1, h _ _ h2, h _ _ h3, Paired.imp (fun _ _ z => NodeAt.tups h z) r⟩
theorem HeadAt.tups {H H' : Hp} (h : Tups H H') {v : V} {n : Int × Int} : HeadAt H v n -> HeadAt H' v n := fun ⟨t, e, q⟩ => ⟨t, e, h _ _ q⟩
theorem FnAt.tups {H H' : Hp} (h : Tups H H') {v : V} {n : (Int × Int) × Nd} : FnAt H v n -> FnAt H' v n := fun ⟨t, b, e, q, z⟩ => ⟨t, b, e, h _ _ q, z.tups h⟩
theorem HeadsAt.keep {lk CL dx a hd : Addr} {p : Nat} {H H' : Hp} {hs : Hds} (e : H lk = some (LookO CL dx a p)) (k : Keep lk H H') (h : HeadsAt H hd hs) : HeadsAt H' hd hs := by
 obtain ⟨rs, q, r⟩ := h
 exact ⟨rs, k hd _ (fun z => by rw [z, e] at q; cases q) q, Paired.imp (fun _ _ z => z.tups (.keep e k)) r⟩
theorem pair_all {α β γ : Type} {F : α -> γ -> Prop} {G : β -> γ -> Prop} {R : α -> β -> Prop} (h : ∀ x y z, F x z -> G y z -> R x y) : ∀ {xs : List α} {ys : List β} {zs : List γ}, Paired F xs zs -> Paired G ys zs -> Paired R xs ys
 | _, _, _, .nil, .nil => .nil
 | _, _, _, .cons a t, .cons b u => .cons (h _ _ _ a b) (pair_all h t u)
theorem EqD.intsN {K : PySem.W.Frag} {H : Hp} {n : Nat} : ∀ (ns : List Int), Paired (EqD K H n) (ns.map V.int) (ns.map V.int)
 | [] => .nil
 | i :: r => .cons (EqD.flat rfl n) (EqD.intsN r)
def Tells {α : Type} (r : Except Bad α) (ok : α -> Prop) (bad : Nat -> Str -> Prop) : Prop := (∀ a, r = .ok a -> ok a) /\ ∀ p w, r = .error (p, w) -> bad p w
def Fails (CN lk : Addr) (H : Hp) (E : XK) (p : Nat) (w : Str) : Prop := ∀ d H', Keep lk H H' -> H' d = some (XdO d [("place", .int p), ("word", .str w)]) -> E (.ref CN) (some d) H'
theorem Fails.keep {CN lk : Addr} {H H1 : Hp} {E : XK} {p : Nat} {w : Str} (f : Fails CN lk H E p w) (k : Keep lk H H1) : Fails CN lk H1 E p w := fun d H' k' e => f d H' (k.trans k') e
def Looks (CL : Addr) (H : Hp) (lk dx a : Addr) (p : Nat) (ns : List Int) : Prop := H lk = some (LookO CL dx a p) /\ H a = some (.lst (ns.map V.int))
theorem Looks.go {CL lk dx a : Addr} {p p' : Nat} {ns : List Int} {H H' : Hp} (l : Looks CL H lk dx a p ns) (k : Keep lk H H') (e : H' lk = some (LookO CL dx a p')) : Looks CL H' lk dx a p' ns :=
 ⟨e, k a _ (fun z => by have := l.1; rw [<- z, l.2] at this; cases this) l.2⟩
def spInitX (C : Addr) : Sp := fun vs H Q _ => ∃ x y z, vs = [.ref x, y, z] /\ H x = some (ExN x C none) /\
 ∀ d H', d ≠ x -> H d = none -> (∀ b o, b ≠ x -> H b = some o -> H' b = some o) -> H' x = some (ExN x C (some d)) -> H' d = some (XdO d [("place", y), ("word", z)]) -> Q .non H'
def spInitL (CL : Addr) : Sp := fun vs H Q _ => ∃ x dx a, vs = [.ref x, .ref a] /\ H x = some (.ins CL dx []) /\ ∀ H', Keep x H H' -> H' x = some (LookO CL dx a 0) -> Q .non H'
def spWhole : Sp := fun vs H Q _ => ∃ i : Int, vs = [.int i] /\ Q (.bl true) H
def spTk (CL CN : Addr) : Sp := fun vs H Q E => ∃ lk dx a p ns, vs = [.ref lk] /\ Looks CL H lk dx a p ns /\ Tells (takeM ns p) (fun n => Q (.int n) (upd H lk (LookO CL dx a (p + 1)))) (Fails CN lk H E)
def spWithin (CL CN : Addr) : Sp := fun vs H Q E => ∃ lk dx a p ns lo hi, vs = [.ref lk, .int lo, .int hi] /\ Looks CL H lk dx a p ns /\ Tells (withinM ns p lo hi) (fun n => Q (.int n) (upd H lk (LookO CL dx a (p + 1)))) (Fails CN lk H E)
def spHeads (CL CN : Addr) : Sp := fun vs H Q E => ∃ lk dx a ns, vs = [.ref lk] /\ Looks CL H lk dx a 0 ns /\
 Tells (headsAllM ns) (fun hs => ∀ hd H', Keep lk H H' -> H' lk = some (LookO CL dx a (1 + 2 * hs.length)) -> HeadsAt H' hd hs -> Q (.ref hd) H') (Fails CN lk H E)
def spOwn (CL CN : Addr) : Sp := fun vs H Q E => ∃ lk dx a p ns hd hs boxes k, vs = [.ref lk, .int k, .ref hd, .int boxes] /\ Looks CL H lk dx a p ns /\ HeadsAt H hd hs /\
 Tells (ownM ns hs boxes k p) (fun own => ∀ t H', Keep lk H H' -> H' lk = some (LookO CL dx a (p + own.length)) -> H' t = some (.tup (own.map V.int)) -> Q (.ref t) H') (Fails CN lk H E)
def OwnOk (heads : Hds) (k : Int) (own : List Int) : Prop := 0 <= k /\ k <= 19 /\ (k = 3 \/ k = 4 \/ k = 6 -> ∃ n, own = [n] /\ 0 <= n /\ (k = 6 -> n < heads.length) /\ (k ≠ 6 -> n <= 12))
def HdsOk (hs : Hds) : Prop := ∀ h ∈ hs, 0 <= h.1 /\ h.1 <= 4
def spDue : Sp := fun vs H Q _ => ∃ k t own hd hs, vs = [.int k, .ref t, .ref hd] /\ H t = some (.tup (own.map V.int)) /\ HeadsAt H hd hs /\ OwnOk hs k own /\ Q (.int (dueM hs k own)) H
def spNode (CL CN : Addr) (d : Nat) : Sp := fun vs H Q E => ∃ lk dx a p ns hd hs boxes, vs = [.ref lk, .ref hd, .int boxes, .int (11 - (d : Int))] /\ Looks CL H lk dx a p ns /\ HeadsAt H hd hs /\ HdsOk hs /\
 Tells (nodeM ns hs boxes d p) (fun r => ∀ v H', Keep lk H H' -> H' lk = some (LookO CL dx a r.2) -> NodeAt H' d v r.1 -> Q v H') (Fails CN lk H E)
def spFns (CN : Addr) : Sp := fun vs H Q E => ∃ a ns, vs = [.ref a] /\ H a = some (.lst (ns.map V.int)) /\
 Tells (functionsM ns) (fun r => ∀ l H', Same H H' -> H l = none -> FnsAt H' l r -> Q (.ref l) H') (fun p w => ∀ d H', Same H H' -> H' d = some (XdO d [("place", .int p), ("word", .str w)]) -> E (.ref CN) (some d) H')
def spWrong : Sp := fun vs H Q _ => ∃ a ns, vs = [.ref a] /\ H a = some (.lst (ns.map V.int)) /\
 Tells (functionsM ns) (fun _ => ∀ H', Same H H' -> Q .non H') (fun p w => ∀ t H', Same H H' -> H' t = some (.tup [.int (p : Nat), .str w]) -> Q (.ref t) H')
theorem jL {ns : List Int} {p : Nat} {lo hi n : Int} (h : withinM ns p lo hi = .ok n) : ns[p]? = some n /\ lo <= n /\ n <= hi := by
 unfold withinM at h
 cases e : ns[p]? with
 | none => rw [e] at h; cases h
 | some m =>
  rw [e] at h
  simp only at h
  by_cases c : m < lo \/ hi < m
  ·rw [if_pos c] at h; cases h
  ·rw [if_neg c] at h; cases h
   exact ⟨rfl, by (first|lia|omega), by (first|lia|omega)⟩
theorem oneM_ok {r : Except Bad Int} {own : List Int} (h : oneM r = .ok own) : ∃ n, r = .ok n /\ own = [n] := by
 unfold oneM at h
 cases r with
 | error b => cases h
 | ok n => cases h; exact ⟨n, rfl, rfl⟩
theorem own_ok {ns : List Int} {hs : Hds} {boxes k : Int} {p : Nat} {own : List Int} (h0 : 0 <= k) (h1 : k <= 19) (h : ownM ns hs boxes k p = .ok own) : OwnOk hs k own := by
 refine ⟨h0, h1, fun hk => ?_⟩
 unfold ownM at h
 rcases hk with rfl | rfl | rfl
 ·rw [if_neg (by decide), if_neg (by decide), if_pos rfl] at h
  obtain ⟨n, e, rfl⟩ := oneM_ok h
  obtain ⟨_, a, b⟩ := jL e
  exact ⟨n, rfl, by (first|lia|omega), fun z => by (first|lia|omega), fun _ => b⟩
 ·rw [if_neg (by decide), if_neg (by decide), if_neg (by decide), if_pos rfl] at h
  obtain ⟨n, e, rfl⟩ := oneM_ok h
  obtain ⟨_, a, b⟩ := jL e
  exact ⟨n, rfl, by (first|lia|omega), fun z => by (first|lia|omega), fun _ => b⟩
 ·rw [if_neg (by decide), if_neg (by decide), if_neg (by decide), if_neg (by decide), if_pos rfl] at h
  obtain ⟨n, e, rfl⟩ := oneM_ok h
  obtain ⟨_, a, b⟩ := jL e
  exact ⟨n, rfl, by (first|lia|omega), fun _ => by (first|lia|omega), fun z => absurd rfl z⟩
theorem partsN_ok : ∀ k : Nat, 0 <= partsN.getD k 0 /\ partsN.getD k 0 <= 3 := by
 intro k
 by_cases h : k < 13
 ·have : ∀ k : Fin 13, 0 <= partsN.getD k.1 0 /\ partsN.getD k.1 0 <= 3 := by decide
  exact this ⟨k, h⟩
 ·have : partsN[k]? = none := List.getElem?_eq_none (by show 13 <= k; (first|lia|omega))
  rw [List.getD_eq_getElem?_getD, this]; decide
theorem due_ok {hs : Hds} {k : Int} {own : List Int} (o : OwnOk hs k own) (hh : HdsOk hs) : 0 <= dueM hs k own /\ dueM hs k own <= 13 := by
 obtain ⟨h0, h1, h2⟩ := o
 unfold dueM
 by_cases c1 : k = 0 \/ k = 1
 ·rw [if_pos c1]; decide
 rw [if_neg c1]
 by_cases c2 : k = 2
 ·rw [if_pos c2]; decide
 rw [if_neg c2]
 by_cases c3 : k = 3
 ·rw [if_pos c3]
  obtain ⟨n, rfl, a, _, b⟩ := h2 (.inl c3)
  have := b (by (first|lia|omega))
  show 0 <= n /\ n <= 13
  (first|lia|omega)
 rw [if_neg c3]
 by_cases c4 : k = 4
 ·rw [if_pos c4]
  obtain ⟨n, rfl, a, _, b⟩ := h2 (.inr (.inl c4))
  have := b (by (first|lia|omega))
  show 0 <= 1 + n /\ 1 + n <= 13
  (first|lia|omega)
 rw [if_neg c4]
 by_cases c5 : k = 5
 ·rw [if_pos c5]; decide
 rw [if_neg c5]
 by_cases c6 : k = 6
 ·rw [if_pos c6]
  obtain ⟨n, rfl, a, b, _⟩ := h2 (.inr (.inr c6))
  have hn := b c6
  show 0 <= (hs.getD n.toNat (0, 0)).1 /\ (hs.getD n.toNat (0, 0)).1 <= 13
  have hl : n.toNat < hs.length := by (first|lia|omega)
  rw [List.getD_eq_getElem?_getD, List.getElem?_eq_getElem hl]
  have := hh _ (List.getElem_mem hl)
  simp only [Option.getD_some]
  (first|lia|omega)
 rw [if_neg c6]
 have := partsN_ok (k - 7).toNat
 (first|lia|omega)
theorem headsM_ok {ns : List Int} : ∀ {n : Nat} {most : Int} {p : Nat} {hs : Hds}, most <= 4 -> headsM ns n most p = .ok hs -> HdsOk hs /\ hs.length = n
 | 0, _, _, _, _, h => by cases h; exact ⟨fun _ z => (nomatch z), rfl⟩
 | n + 1, most, p, hs, hm, h => by
  unfold headsM at h
  cases e1 : withinM ns p 0 most with
  | error b => rw [e1] at h; cases h
  | ok a =>
   rw [e1] at h; simp only at h
   cases e2 : withinM ns (p + 1) a 12 with
   | error b => rw [e2] at h; cases h
   | ok c =>
    rw [e2] at h; simp only at h
    cases e3 : headsM ns n 4 (p + 2) with
    | error b => rw [e3] at h; cases h
    | ok r =>
     rw [e3] at h; cases h
     obtain ⟨q, l⟩ := headsM_ok (Int.le_refl _) e3
     obtain ⟨_, a0, a1⟩ := jL e1
     exact ⟨fun z hz => by
      rcases List.mem_cons.mp hz with rfl | hz
      ·exact ⟨a0, by show a <= 4; (first|lia|omega)⟩
      ·exact q z hz, by simp [l]⟩
theorem headsAllM_ok {ns : List Int} {hs : Hds} (h : headsAllM ns = .ok hs) : HdsOk hs /\ ns[0]? = some (hs.length : Int) /\ 1 <= hs.length /\ hs.length <= 16 /\ headsM ns hs.length 0 1 = .ok hs := by
 unfold headsAllM at h
 cases e1 : withinM ns 0 1 16 with
 | error b => rw [e1] at h; cases h
 | ok n =>
  rw [e1] at h; simp only at h
  obtain ⟨q, l⟩ := headsM_ok (by decide) h
  obtain ⟨e, a, b⟩ := jL e1
  rw [l]
  refine ⟨q, ?_, by (first|lia|omega), by (first|lia|omega), h⟩
  rw [e]; congr 1; (first|lia|omega)
def joinM {α : Type} (done : List α) (r : Except Bad (List α)) : Except Bad (List α) := match r with
 | .ok r => .ok (done ++ r)
 | .error b => .error b
theorem joinM_nil {α : Type} (r : Except Bad (List α)) : joinM [] r = r := by cases r <;> rfl
def joinP {α : Type} (done : List α) (r : Except Bad (List α × Nat)) : Except Bad (List α × Nat) := match r with
 | .ok r => .ok (done ++ r.1, r.2)
 | .error b => .error b
theorem joinP_nil {α : Type} (r : Except Bad (List α × Nat)) : joinP [] r = r := by cases r <;> rfl
theorem Keep.fresh {lk hd : Addr} {H H' : Hp} {o : HO} (k : Keep lk H H') (h : H hd = none) : Keep lk H (L2.upd H' hd o) := fun b u nb e => by rw [zK (zI e h)]; exact k b u nb e
theorem Tups.upd {b : Addr} {ys : List V} {H : Hp} {o : HO} (h : H b = some (.lst ys)) : Tups H (L2.upd H b o) := fun c xs e => by rw [zK (fun z => by rw [z, h] at e; cases e)]; exact e
theorem Tups.trans {H H1 H2 : Hp} (a : Tups H H1) (b : Tups H1 H2) : Tups H H2 := fun c xs e => b c xs (a c xs e)
theorem Tups.new {b : Addr} {H : Hp} {o : HO} (h : H b = none) : Tups H (L2.upd H b o) := .same (zF h o)
theorem raised {C lk : Addr} {H H1 : Hp} {E E' : XK} {p : Nat} {w : Str} (f : Fails C lk H E p w) (k : Keep lk H H1) : ∀ x, H1 x = none ->
  spInitX C [.ref x, .int (p : Int), .str w] (upd H1 x (ExN x C none)) (fun v H2 => v = .non /\ ∃ d, H2 x = some (ExN x C (some d)) /\ E (.ref C) (some d) (upd H2 x (ExO x C (some d)))) E' := by
 intro x hx
 refine ⟨x, _, _, rfl, zB, fun d H' dx hd kp ex ed => ⟨rfl, d, ex, f d _ (fun b o nb e => ?_) ?_⟩⟩
 ·have e1 := k b o nb e
  have nx : b ≠ x := zI e1 hx
  rw [zK nx]
  exact kp b o nx (by rw [zK nx]; exact e1)
 ·rw [zK dx]; exact ed
end L2

namespace L2
open PySem
def Sub (ns : List Int) : Nat -> List Int -> Prop
 | _, [] => True
 | p, z :: zs => ns[p]? = some z /\ Sub ns (p + 1) zs
theorem Sub.append {ns : List Int} : ∀ {xs ys : List Int} {p : Nat}, Sub ns p (xs ++ ys) -> Sub ns p xs /\ Sub ns (p + xs.length) ys
 | [], _, _, h => ⟨trivial, h⟩
 | x :: xs, ys, p, h => by
  have q := Sub.append h.2
  refine ⟨⟨h.1, q.1⟩, ?_⟩
  rw [show p + (x :: xs).length = p + 1 + xs.length by simp; (first|lia|omega)]
  exact q.2
theorem Sub.behind : ∀ (zs pre : List Int), Sub (pre ++ zs) pre.length zs
 | [], _ => trivial
 | z :: zs, pre => by
  refine ⟨by simp, ?_⟩
  have := Sub.behind zs (pre ++ [z])
  simpa using this
theorem Sub.self (ns : List Int) : Sub ns 0 ns := Sub.behind ns []
def OwnFit (hs : Hds) (boxes k : Int) (own : List Int) : Prop :=
 (k = 0 /\ ∃ n, own = [n]) \/ ((k = 1 \/ k = 2) /\ ∃ n, own = [n] /\ 0 <= n /\ n <= boxes - 1) \/ (k = 3 /\ ∃ n, own = [n] /\ 1 <= n /\ n <= 12) \/ (k = 4 /\ ∃ n, own = [n] /\ 2 <= n /\ n <= 12) \/ (k = 6 /\ ∃ n, own = [n] /\ 0 <= n /\ n <= (hs.length : Int) - 1) \/ ((k = 5 \/ 7 <= k) /\ own = [])
theorem xS {ns : List Int} {p : Nat} {lo hi n : Int} (h : ns[p]? = some n) (h0 : lo <= n) (h1 : n <= hi) : withinM ns p lo hi = .ok n := by
 unfold withinM
 rw [h]
 exact if_neg (by (first|lia|omega))
theorem own_fit {ns : List Int} {hs : Hds} {boxes k : Int} {own : List Int} {p : Nat} (f : OwnFit hs boxes k own) (s : Sub ns p own) : ownM ns hs boxes k p = .ok own := by
 unfold ownM
 rcases f with ⟨rfl, n, rfl⟩ | ⟨hk, n, rfl, a, b⟩ | ⟨rfl, n, rfl, a, b⟩ | ⟨rfl, n, rfl, a, b⟩ | ⟨rfl, n, rfl, a, b⟩ | ⟨hk, rfl⟩
 ·rw [if_pos rfl]; unfold takeM; rw [s.1]; rfl
 ·rw [if_neg (by (first|lia|omega)), if_pos hk, xS s.1 a b]; rfl
 ·rw [if_neg (by decide), if_neg (by decide), if_pos rfl, xS s.1 a b]; rfl
 ·rw [if_neg (by decide), if_neg (by decide), if_neg (by decide), if_pos rfl, xS s.1 a b]; rfl
 ·rw [if_neg (by decide), if_neg (by decide), if_neg (by decide), if_neg (by decide), if_pos rfl, xS s.1 a b]; rfl
 ·rw [if_neg (by (first|lia|omega)), if_neg (by (first|lia|omega)), if_neg (by (first|lia|omega)), if_neg (by (first|lia|omega)), if_neg (by (first|lia|omega))]
structure HdsGood (hs : Hds) : Prop where
 lo : 1 <= hs.length
 hi : hs.length <= 16
 all : ∀ (i : Nat) (h : Int × Int), hs[i]? = some h -> 0 <= h.1 /\ h.1 <= 4 /\ h.1 <= h.2 /\ h.2 <= 12 /\ (i = 0 -> h.1 = 0)
def flat : Hds -> List Int
 | [] => []
 | h :: r => h.1 :: h.2 :: flat r
theorem qR : ∀ hs : Hds, (flat hs).length = 2 * hs.length
 | [] => rfl
 | h :: r => by simp [flat, qR r]; (first|lia|omega)
theorem headsM_flat {ns : List Int} : ∀ {hs : Hds} {most : Int} {p : Nat}, (∀ (i : Nat) (h : Int × Int), hs[i]? = some h -> 0 <= h.1 /\ h.1 <= 4 /\ h.1 <= h.2 /\ h.2 <= 12 /\ (i = 0 -> h.1 <= most)) -> Sub ns p (flat hs) -> headsM ns hs.length most p = .ok hs
 | [], _, _, _, _ => rfl
 | h :: r, most, p, a, s => by
  obtain ⟨a0, a1, a2, a3, a4⟩ := a 0 h rfl
  unfold headsM
  show (match withinM ns p 0 most with | .error b => _ | .ok a => _) = _
  rw [xS s.1 a0 (a4 rfl)]; simp only
  rw [xS s.2.1 a2 a3]; simp only
  rw [headsM_flat (most := 4) (fun i x e => by have := a (i + 1) x (by simpa using e); (first|lia|omega)) s.2.2]
theorem HdsGood.heads {ns : List Int} {hs : Hds} {p : Nat} (g : HdsGood hs) (s : Sub ns p (flat hs)) : headsM ns hs.length 0 p = .ok hs := headsM_flat (fun i h e => by have := g.all i h e; (first|lia|omega)) s
theorem divB {j : Int} (h0 : 0 < j) (h1 : j < 2 ^ 256) : CDivB i j := by
 refine ⟨h0, ?_⟩
 have : j.natAbs.log2 < 256 := (Nat.log2_lt (by (first|lia|omega))).mpr (by (first|lia|omega))
 (first|lia|omega)
def CW (n : Nat) (Pv : Nat -> St -> Hp -> Prop) (i m : Nat) (σ : St) (H : Hp) : Prop := i <= n /\ m = n - i /\ Pv i σ H
theorem CW.next {n : Nat} {Pv : Nat -> St -> Hp -> Prop} {i : Nat} {σ : St} {H : Hp} (hi : i < n) (h : Pv (i + 1) σ H) : ∃ m', m' < n - i /\ CW n Pv (i + 1) m' σ H := ⟨n - (i + 1), by (first|lia|omega), by (first|lia|omega), rfl, h⟩
theorem comp_tup {K : PySem.W.Frag} {a p : Addr} {xs : List V} {g : TG} {tt : TT} {te : TE} {R : Hp -> Prop} {σ0 : St} {H0 : Hp} (Pv : Nat -> St -> Hp -> Prop) (h0 : Pv 0 σ0 H0) (hl : ∀ i σ H, i <= xs.length -> Pv i σ H -> SqT K H a xs)
  (hs : ∀ i x σ H, i < xs.length -> xs[i]? = some x -> Pv i σ H -> g x σ H fun σ3 H3 => tt σ3 H3 fun b H4 =>
   if b = true then te σ3 H4 fun v H5 => ∃ ys, H5 p = some (.lst ys) /\ ys.length < sizeLine /\ ∃ m', m' < xs.length - i /\ CW xs.length Pv (i + 1) m' σ3 (upd H5 p (.lst (ys ++ [v])))
   else ∃ m', m' < xs.length - i /\ CW xs.length Pv (i + 1) m' σ3 H4)
  (hd : ∀ σ H, Pv xs.length σ H -> R H) : CompGo (Itt K a) p σ0 H0 g tt te R := by
 refine ⟨CW xs.length Pv, ⟨_, Nat.zero_le _, rfl, h0⟩, fun i m σ' H' w => ?_⟩
 obtain ⟨hi, rfl, hp⟩ := w
 have q := hl i σ' H' hi hp
 by_cases hlt : i < xs.length
 ·refine .inr ⟨⟨xs, xs[i], q, by simp [hlt]⟩, fun x H2 y => ?_⟩
  obtain ⟨e, y⟩ := y
  subst e
  exact hs i x σ' _ hlt (y xs q) hp
 ·have e : i = xs.length := by (first|lia|omega)
  subst e
  exact .inl ⟨⟨xs, q, Nat.le_refl _⟩, hd σ' H' hp⟩
theorem comp_lst {K : PySem.W.Frag} {a p : Addr} {xs : List V} {g : TG} {tt : TT} {te : TE} {R : Hp -> Prop} {σ0 : St} {H0 : Hp} (Pv : Nat -> St -> Hp -> Prop) (h0 : Pv 0 σ0 H0) (hl : ∀ i σ H, i <= xs.length -> Pv i σ H -> SqL K H a xs)
  (hs : ∀ i x σ H, i < xs.length -> xs[i]? = some x -> Pv i σ H -> g x σ H fun σ3 H3 => tt σ3 H3 fun b H4 =>
   if b = true then te σ3 H4 fun v H5 => ∃ ys, H5 p = some (.lst ys) /\ ys.length < sizeLine /\ ∃ m', m' < xs.length - i /\ CW xs.length Pv (i + 1) m' σ3 (upd H5 p (.lst (ys ++ [v])))
   else ∃ m', m' < xs.length - i /\ CW xs.length Pv (i + 1) m' σ3 H4)
  (hd : ∀ σ H, Pv xs.length σ H -> R H) : CompGo (Itl K a) p σ0 H0 g tt te R := by
 refine ⟨CW xs.length Pv, ⟨_, Nat.zero_le _, rfl, h0⟩, fun i m σ' H' w => ?_⟩
 obtain ⟨hi, rfl, hp⟩ := w
 have q := hl i σ' H' hi hp
 by_cases hlt : i < xs.length
 ·refine .inr ⟨⟨xs, xs[i], q, by simp [hlt]⟩, fun x H2 y => ?_⟩
  obtain ⟨e, y⟩ := y
  subst e
  exact hs i x σ' _ hlt (y xs q) hp
 ·have e : i = xs.length := by (first|lia|omega)
  subst e
  exact .inl ⟨⟨xs, q, Nat.le_refl _⟩, hd σ' H' hp⟩
end L2

namespace L2
open PySem PySem.Spec PyProof.Rows PySem.W
theorem ns_ok {K : Frag} {N : Addr} {c : Value} {d : Option Addr} {es : Array DictEntry} {n : Nat} {sl : Array (Option Value)} (h : K.lookup N = some ⟨c, d, .dict es n, sl⟩) (q : (es.toList.all fun e => match e.key with | .str _ _ => true | _ => false) = true) : nsOkIn K N = true := by
 unfold nsOkIn
 rw [h]
 rw [Array.all_toList] at q
 exact q
theorem exc_tail {K : Frag} {CE nsC : Addr} {c : Value} {dd : Option Addr} {cd : ClassData} {sl : Array (Option Value)} (h : K.lookup CE = some ⟨c, dd, .cls cd, sl⟩) (hn : cd.ns = nsC) (ok : nsOkIn K nsC = true) (ni : nsIn K nsC "__init__" = some none) (h' : Heap) (X : K.In h') : OwnTail h' bmValue (.ref CE :: bmValue) := by
 subst hn
 exact .own (X _ _ h) (.of_isNs (isNs_of_in X ok)) (nsMap_none_of_in X ok ni) .base
theorem exc_cd {K : Frag} {C CE N : Addr} {nm q : Str} {bs : List Value} {sn : List Str} {sub : List Value} {ab : Bool} {col : Option Bool} {dd : Option Addr} {k0 k1 k2 k3 k5 : Option Value} {newId : String} (h : K.lookup C = some (excClassObj nm q C N bs (.ref CE :: bmValue) true sn sub ab col dd k0 k1 k2 k3 k5 newId)) :
  ∃ cd, clsIn K C = some cd /\ cd.hasDict = true /\ ∀ self, refuseLoop self "__setattr__" cd.mro = pure () := by
 refine ⟨_, by unfold clsIn; rw [h], rfl, fun self => ?_⟩
 show refuseLoop self "__setattr__" (.ref C :: .ref CE :: bmValue) = _
 rw [refuseLoop_ref, refuseLoop_ref]
 exact F.store_ValueError.passes self
theorem fn_false {P : Program} {w : World} {K : Frag} {mg : Str -> Option Value} {base : Heap} {CX : CXT} {k : Nat} {f : Addr} {fd : FuncData} {ps : List Str} : FnOk P w K mg base CX k f fd ps (fun _ _ _ _ => False) :=
 ⟨fun _ _ _ _ z => z.elim, fun _ _ _ _ _ _ _ _ _ _ _ _ _ z => z.elim⟩
theorem zU {CX : CXT} {P : Program} {w : World} {K : PySem.W.Frag} {mg : Str -> Option Value} {base : Heap} {N : List Str} {qual : Str} {scope : Scope} {f : Addr} {cd : Value} {A : Around} {outer : List Env} {s : Shared} {H : Hp} {E : XK} :
  (cxOf CX P w K mg base N qual scope f cd A outer s H E).K = K := rfl
end L2

namespace L2
open PySem PySem.Spec PyProof.Rows
namespace Rv
theorem owner : Manifest.owners.lookup (String.ofList ['d', 'e', 's', 'r', 'e', 'v', 'e', 'r'].reverse) = some Manifest.sig_reversed := by kernel_rfl
theorem slot_next : Slot "reversed" "__next__" "reversed.__next__" :=
 .of (owner := "reversed") (n := "__next__") (by rw [typeLookup_type, builtinLookup_eq_fast]; kernel_rfl) (by decide +kernel) (by decide +kernel) (by decide +kernel)
  (by first | exact .inl (by decide +kernel) | exact .inr (by decide +kernel)) (by rw [isSubtype_type]; kernel_rfl)
theorem entry_next : entryFor table "reversed.__next__" = some Builtin.«reversed.__next__» := entryFor_of_tree (by kernel_rfl)
theorem args_next (a : Value) : argsOk "reversed.__next__" ⟨[a], []⟩ := by
 unfold argsOk; rw [signature?_of (id := "reversed.__next__") (n := ['_', '_', 't', 'x', 'e', 'n', '_', '_']) (o := ['d', 'e', 's', 'r', 'e', 'v', 'e', 'r']) (by kernel_rfl) owner]; kernel_rfl
theorem slot_iter : Slot "reversed" "__iter__" "reversed.__iter__" :=
 .of (owner := "reversed") (n := "__iter__") (by rw [typeLookup_type, builtinLookup_eq_fast]; kernel_rfl) (by decide +kernel) (by decide +kernel) (by decide +kernel)
  (by first | exact .inl (by decide +kernel) | exact .inr (by decide +kernel)) (by rw [isSubtype_type]; kernel_rfl)
theorem args_iter (a : Value) : argsOk "reversed.__iter__" ⟨[a], []⟩ := by
 unfold argsOk; rw [signature?_of (id := "reversed.__iter__") (n := ['_', '_', 'r', 'e', 't', 'i', '_', '_']) (o := ['d', 'e', 's', 'r', 'e', 'v', 'e', 'r']) (by kernel_rfl) owner]; kernel_rfl
theorem entry_iter : entryFor table "reversed.__iter__" = some Builtin.«dict_keyiterator.__iter__» :=
 entryFor_alias (id' := "dict_keyiterator.__iter__") (by kernel_rfl) (by first | rfl | decide +kernel | (unfold String.splitOn; simp +decide [String.splitOnAux])) (by decide +kernel) (by kernel_rfl)
theorem slot_init : Slot "reversed" "__init__" "object.__init__" :=
 .of (owner := "object") (n := "__init__") (by rw [typeLookup_type, builtinLookup_eq_fast]; kernel_rfl) (by decide +kernel) (by decide +kernel) (by decide +kernel)
  (by first | exact .inl (by decide +kernel) | exact .inr (by decide +kernel)) (by rw [isSubtype_type]; kernel_rfl)
theorem called : TypeCalled "reversed" "reversed.__new__" "object.__init__" :=
 ⟨by decide +kernel, by decide +kernel, ⟨_, _, F.mro_reversed⟩, F.made_reversed, by decide +kernel, by rw [isSubtype_type]; kernel_rfl, slot_init⟩
theorem tuple_no_rev : typeLookup (.type "tuple") "__reversed__" = pure none := by rw [typeLookup_type, builtinLookup_eq_fast]; kernel_rfl
theorem tuple_no_dict : isSubtype (.type "tuple") (.type "dict") = pure false := by rw [isSubtype_type]; kernel_rfl
end Rv
end L2

namespace L2
open PySem PySem.Spec PyProof.Rows
section
variable {prog : Program} {w : World} {A : Around} {E : Value -> Shared -> Prop} {s : Shared}
def revT (l : Addr) (i : Int) : Obj := { cls := .type "reversed", data := .fields #[.ref l, rawInt i] }
def IsRevT (h : Heap) (a l : Addr) (i : Int) : Prop := ∃ o, h.get? a = some o /\ o.cls = .type "reversed" /\ o.data = .fields #[.ref l, rawInt i]
theorem IsRevT.typeIs {a l : Addr} {i : Int} (x : IsRevT s.heap a l i) : s.TypeIs (.ref a) "reversed" := let ⟨o, ho, hc, _⟩ := x; ⟨o, ho, hc⟩
theorem IsRevT.at {h h' : Heap} {a l : Addr} {i : Int} (x : IsRevT h a l i) (e : ∀ o, h.get? a = some o -> h'.get? a = some o) : IsRevT h' a l i := let ⟨o, ho, r⟩ := x; ⟨o, e _ ho, r⟩
theorem code_revT {l : Addr} {items : Array Value} {Q₁ : Value -> Shared -> Prop} (hl : s.heap.IsTuple l items) (hfit : (items.size : Int) < 2 ^ 63)
  (h : ∀ tk, Q₁ (.ref s.heap.objs.size) { s with heap := s.heap.push (revT l ((items.size : Int) - 1)), toks := tk }) :
  codeAny (model prog w) A (.call (.builtin "reversed.__new__") ⟨[.type "reversed", .ref l], []⟩) (wants Q₁ E) s := by
 have hT : s.TypeIs (.ref l) "tuple" := by obtain ⟨o, ho, hc, _⟩ := hl; exact ⟨o, ho, hc⟩
 refine codeAny_of_tree ?_
 show wpAny _ A.in1 (do checkBuiltinCall "reversed.__new__" ⟨[.type "reversed", .ref l], []⟩; again (.builtin "reversed.__new__" ⟨[.type "reversed", .ref l], []⟩)) _ _ s
 refine wpAny_bind (wpAny_of_eq (F.newCall_reversed_1 _) (wpAny_pure ⟨plainId_quiet F.plain_reversed_new _, codeAny_builtin F.entry_reversed_new ?_⟩))
 rw [Around.under_plainId F.plain_reversed_new _]
 unfold Builtin.«reversed.__new__»
 refine wpAny_bind (wpAny_of_eq (newClass_reversed _) ?_)
 try dsimp only
 refine wpAny_bind (wpAny_of_eq (a := ()) (by first | rfl | kernel_rfl) ?_)
 refine wpAny_bind (wpAny_of_eq (a := ()) (by first | rfl | kernel_rfl) ?_)
 try dsimp only
 refine wpAny_bind (wpAny_specialOf hT Rv.tuple_no_rev ?_)
 try dsimp only
 refine wpAny_bind ?_
 show wpAny _ _ (isInstance (.ref l) (.type "dict") >>= _) _ _ s
 refine wpAny_bind (wpAny_isInstance hT Rv.tuple_no_dict ?_)
 try dsimp only
 show wpAny _ _ (specialOf (.ref l) "__getitem__" >>= _) _ _ s
 refine wpAny_bind (wpAny_specialOf hT F.slot_tuple_getitem.lookup ?_)
 try dsimp only
 show wpAny _ _ (if (["tuple.__getitem__", "str.__getitem__", "bytes.__getitem__", "bytearray.__getitem__", "memoryview.__getitem__", "numpy.ndarray.__getitem__", "sqlite3.Row.__getitem__"].contains "tuple.__getitem__") = true then _ else _) _ _ s
 rw [if_pos (by decide)]
 refine wpAny_pure ?_
 try dsimp only
 rw [if_neg (show ¬ ((!true) = true) from Bool.false_ne_true)]
 refine wpAny_bind (len_tuple hl hfit ?_)
 refine wpAny_bind (wpAny_of_eq (a := some (items.size : Int)) rfl ?_)
 try dsimp only
 refine wpAny_bind ?_
 show wpAny _ _ (newObj (.type "reversed") (.fields #[.ref l, rawInt ((items.size : Int) - 1)])) _ _ _
 refine wpAny_newObj_type ?_ (by size_fits)
 exact wpAny_pure (h _)
theorem call_revT {l : Addr} {items : Array Value} {Q : Value -> Shared -> Prop} (hl : s.heap.IsTuple l items) (hfit : (items.size : Int) < 2 ^ 63)
  (h : ∀ tk, Q (.ref s.heap.objs.size) { s with heap := s.heap.push (revT l ((items.size : Int) - 1)), toks := tk }) : wpAny (model prog w) A (call (.type "reversed") [.ref l]) Q E s := by
 refine callType_codes (Q₁ := fun obj s₁ => obj = .ref s.heap.objs.size /\ ∃ tk, s₁ = { s with heap := s.heap.push (revT l ((items.size : Int) - 1)), toks := tk }) Rv.called (F.typeCall_reversed_1 _) F.entry_object_init (code_revT hl hfit fun tk => ⟨rfl, tk, rfl⟩) ?_
 rintro obj s₁ ⟨rfl, tk, rfl⟩
 have hT : Shared.TypeIs { s with heap := s.heap.push (revT l ((items.size : Int) - 1)), toks := tk } (.ref s.heap.objs.size) "reversed" := ⟨_, Heap.get?_push_size _ rfl, rfl⟩
 exact ⟨hT, F.args_object_init_2 _ _, object_init_meets Rv.called.init.lookup Rv.called.made (by decide) prog w A.in1 _ _ ⟨hT, rfl, h tk⟩⟩
theorem next_revT_item {it l : Addr} {i : Nat} {items : Array Value} {x : Value} {Q : Option Value -> Shared -> Prop} (hit : IsRevT s.heap it l (i : Int)) (hl : s.heap.IsTuple l items) (hx : items[i]? = some x) (hfit : (items.size : Int) < 2 ^ 63)
  (hQ : ∀ h' tk, IsRevT h' it l ((i : Int) - 1) -> Heap.SameBut it s.heap h' -> Q (some x) { s with heap := h', toks := tk }) : wpAny (model prog w) A (pyNext (.ref it)) Q E s := by
 obtain ⟨o, ho, hc, hd⟩ := id hit
 have hT : s.TypeIs (.ref l) "tuple" := by obtain ⟨o, ho, hc, _⟩ := hl; exact ⟨o, ho, hc⟩
 have hi : i < items.size := (Array.getElem?_eq_some_iff.mp hx).1
 unfold pyNext
 refine wpAny_bind (wpAny_attempt (wpAny_callSpecial?_slot (name := Str.ofString "__next__") hit.typeIs Rv.slot_next
  (wpAny_call_entry Rv.slot_next hit.typeIs Rv.entry_next ?_ (Rv.args_next _))))
 unfold Builtin.«reversed.__next__»
 refine wpAny_bind (wpAny_of_eq (a := (Value.ref it, [])) rfl ?_)
 try dsimp only
 refine wpAny_bind (wpAny_field ho hd (x := .ref l) rfl ?_)
 refine wpAny_bind (wpAny_field ho hd (x := rawInt (i : Int)) rfl ?_)
 show wpAny _ _ (if (i : Int) < 0 then _ else _) _ _ s
 rw [if_neg (by (first|lia|omega))]
 show wpAny _ _ (specialOf (.ref l) "__getitem__" >>= _) _ _ s
 refine wpAny_bind (wpAny_specialOf hT F.slot_tuple_getitem.lookup ?_)
 try dsimp only
 rw [if_neg (show ¬ ((some (Value.builtin "tuple.__getitem__")).isNone = true) from Bool.false_ne_true)]
 refine wpAny_bind (wpAny_mkInt ?_)
 refine wpAny_bind (wpAny_attempt (getItem_tuple (j := i) hl (by (first|lia|omega)) (by (first|lia|omega)) ?_ hx ?_))
 ·unfold seqIndex?
  have e : ¬ ((i : Int) < 0) := by (first|lia|omega)
  simp only [if_neg e]
  simp [hi]
 try dsimp only
 refine wpAny_bind (wpAny_field ho hd (x := rawInt (i : Int)) rfl ?_)
 show wpAny _ _ (setField (.ref it) 1 (rawInt ((i : Int) - 1)) >>= _) _ _ _
 refine wpAny_bind (wpAny_setField ho hd (by simp) (wpAny_pure ⟨x, rfl, wpAny_pure (hQ _ _ ?_ (Heap.SameBut.update ..))⟩))
 exact ⟨_, Heap.get?_update_self _ ho (Obj.isFreed_of_fields (Obj.data_mapFields hd _)), (Obj.cls_mapFields ..).trans hc, by
  rw [Obj.data_mapFields hd]; simp⟩
theorem next_revT_end {it l : Addr} {Q : Option Value -> Shared -> Prop} (hh : A.handled = none) (hit : IsRevT s.heap it l (-1))
  (hQ : ∀ h', Heap.ExtBut it s.heap h' -> Q none { s with heap := h' }) : wpAny (model prog w) A (pyNext (.ref it)) Q E s := by
 obtain ⟨o, ho, hc, hd⟩ := id hit
 unfold pyNext
 refine wpAny_bind (wpAny_attempt (wpAny_callSpecial?_slot (name := Str.ofString "__next__") hit.typeIs Rv.slot_next
  (wpAny_call_entry Rv.slot_next hit.typeIs Rv.entry_next ?_ (Rv.args_next _))))
 unfold Builtin.«reversed.__next__»
 refine wpAny_bind (wpAny_of_eq (a := (Value.ref it, [])) rfl ?_)
 try dsimp only
 refine wpAny_bind (wpAny_field ho hd (x := .ref l) rfl ?_)
 refine wpAny_bind (wpAny_field ho hd (x := rawInt (-1)) rfl ?_)
 show wpAny _ _ (if (-1 : Int) < 0 then _ else _) _ _ s
 rw [if_pos (by decide)]
 refine wpAny_bind (wpAny_rule ?_)
 refine wpAny_bind ?_
 show wpAny _ _ (setField (.ref it) 1 (rawInt (-1)) >>= _) _ _ s
 refine wpAny_bind (wpAny_setField ho hd (by simp) ?_)
 have hd3 := Obj.data_mapFields hd (·.setIfInBounds 1 (rawInt (-1)))
 have gx3 := Heap.get?_update_self (Obj.mapFields (·.setIfInBounds 1 (rawInt (-1)))) ho (Obj.isFreed_of_fields hd3)
 refine wpAny_setField gx3 hd3 (by simp) ?_
 refine wpAny_bind ?_
 show wpAny _ _ (newExc (.type "StopIteration") [] >>= _) _ _ _
 refine wpAny_bind ?_
 simp only [newExc, newTuple]
 refine wpAny_bind (wpAny_newObj_type ?_ (by size_fits))
 refine wpAny_bind (m := firstArgMember _ _) (wpAny_of_eq (a := Value.none) (by first | rfl | (simp only [firstArgMember]; rfl)) ?_)
 refine wpAny_newObj_type ?_ (by size_fits)
 simp only [raiseNew]
 refine wpAny_bind (wpAny_handled ?_)
 first | rw [show A.in1.handled = none from hh] | rw [hh]
 refine wpAny_bind (wpAny_pure (wpAny_throw ?_))
 refine wpAny_bind (wpAny_isInstance (T := "StopIteration") (b := true) ⟨_, Heap.get?_push_size _ rfl, rfl⟩ isSubtype_stop ?_)
 refine wpAny_pure (hQ _ (fun b ob hb e => Heap.get?_push_of_some _ (Heap.get?_push_of_some _ ?_)))
 rw [Heap.get?_update_other _ _ (Ne.symm hb), Heap.get?_update_other _ _ (Ne.symm hb)]
 exact e
theorem iter_revT {it l : Addr} {i : Int} {Q : Value -> Shared -> Prop} (hit : IsRevT s.heap it l i) (h : Q (.ref it) s) : wpAny (model prog w) A (pyIter (.ref it)) Q E s := by
 refine wpAny_pyIter_slot hit.typeIs Rv.slot_iter (wpAny_call_entry Rv.slot_iter hit.typeIs Rv.entry_iter ?_ (Rv.args_iter _))
 show wpAny _ _ (ret (.ref it)) _ _ s
 exact wpAny_pure ⟨_, rfl, "reversed", _, hit.typeIs, Rv.slot_next.lookup, h⟩
end
def Itv (K : PySem.W.Frag) (a : Addr) (n : Nat) : It :=
 ⟨fun i H => ∃ xs x, SqT K H a xs /\ xs.length = n /\ xs.reverse[i]? = some x, fun i H x H' => H' = H /\ ∀ xs, SqT K H a xs -> xs.reverse[i]? = some x, fun i H => (∃ xs, SqT K H a xs /\ xs.length = n) /\ n <= i⟩
theorem turn_rev {P : Program} {w : World} {K : PySem.W.Frag} {tg : Expr} (a it : Addr) (n : Nat) : Turn P w K tg (Itv K a n) [it] it (fun i h => i <= n /\ IsRevT h it a ((n : Int) - 1 - (i : Int))) where
 mem := by simp
 obj := fun i h st b hb => by
  have e : b = it := by simpa using hb
  subst e
  obtain ⟨_, o, e, c, d⟩ := st
  exact ⟨o, e, fun v z => by rw [d] at z; cases z⟩
 keep := fun i h h' st k => ⟨st.1, st.2.at fun o e => k it (by simp) o e⟩
 item := by
  intro X hP hw hK hc i pins s σ H E I hf st hg
  subst hP hw hK
  obtain ⟨xs, x, hq, hn, hx⟩ := hg
  obtain ⟨its, rv, p, hz⟩ := I.tuple hq
  have hi : i < xs.length := by
   have := (List.getElem?_eq_some_iff.mp hx).1
   simpa using this
  have hx' : xs[n - 1 - i]? = some x := by
   rw [List.getElem?_reverse hi, hn] at hx
   exact hx
  obtain ⟨u, hu, ru⟩ := rv.get hx'
  obtain ⟨f0, f1, f2, f3, f4, f5⟩ := hf it (by simp)
  have e1 : (n : Int) - 1 - (i : Int) = ((n - 1 - i : Nat) : Int) := by (first|lia|omega)
  have hl := rv.length
  have h63 := line63
  refine next_revT_item (i := n - 1 - i) (by rw [<- e1]; exact st.2) (show s.heap.IsTuple a its.toArray from p) (x := u) (by simpa using hu) (by simp only [List.size_toArray]; (first|lia|omega)) fun h' tk st' sb => ?_
  have I1 : Inv X pins σ H { s with heap := h', toks := tk } := I.turned (t' := tk) (fun b o hb e => (sb.2 b hb).trans e) f0 f1 f3 f4 f5
  obtain ⟨o, e, c, d⟩ := id st'
  have e2 : ((n - 1 - i : Nat) : Int) - 1 = (n : Int) - 1 - ((i + 1 : Nat) : Int) := by (first|lia|omega)
  rw [e2] at st'
  exact ⟨u, rfl, go_of (s := { s with heap := h', toks := tk }) e c d (by decide) ⟨x, H, I1, ru, ⟨rfl, fun ys hy => by rw [I.tuple_inj hy hq]; exact hx⟩, ⟨by (first|lia|omega), st'⟩, fun b hb => (hf b hb).1⟩⟩
 done := by
  intro X hP hw hK hc i pins s σ H E I hf st hg
  subst hP hw hK
  obtain ⟨f0, f1, f2, f3, f4, f5⟩ := hf it (by simp)
  have hi : i = n := by have := st.1; have := hg.2; (first|lia|omega)
  have e1 : (n : Int) - 1 - (i : Int) = -1 := by (first|lia|omega)
  have st2 := st.2
  rw [e1] at st2
  exact next_revT_end (I.ok.hd hc) st2 fun h' eb => ⟨rfl, I.turned (t' := s.toks) (fun b o hb e => eb b o hb e) f0 f1 f3 f4 f5⟩
 self := fun _ _ _ _ _ st h => iter_revT st.2 h
def iRev (K : PySem.W.Frag) (ta : TA) : TI := fun σ H R => ta σ H fun vs H1 => ∃ a xs, vs = [.ref a] /\ SqT K H1 a xs /\ R (Itv K a xs.length) H1
theorem pi_rev {X : Cx} {tg a : Expr} {ta : TA} {p pos : Pos} (hg : Gl X "reversed") (hm : X.mg "reversed" = none) (ha : PA X [a] ta) (hs : starEach [a] X.env = [(false, eval a X.env)] := by rfl) : PI X tg (.Call (.Name "reversed" p) [a] [] pos) (iRev X.K ta) := by
 refine ⟨?_⟩
 intro pins s σ H R I h
 refine Call_ (wD I hg hm bt_reversed (PyProof.Rows.callWith_type1 (thn (ha pos pins s σ H _ I h) fun us s1 ⟨vs, H1, I1, r1, q1⟩ => ?_) hs rfl))
 obtain ⟨b, xs, e, hq, q⟩ := q1
 subst e
 cases r1 with
 | cons r rr =>
  cases rr
  cases r
  obtain ⟨its, rv, pl, hz⟩ := I1.tuple hq
  have hl := rv.length
  have h63 := line63
  refine call_revT (show s1.heap.IsTuple b its.toArray from pl) (by simp only [List.size_toArray]; (first|lia|omega)) fun tk => ?_
  have I2 : Inv X pins σ H1 { s1 with heap := s1.heap.push (revT b (((its.toArray).size : Int) - 1)), toks := tk } := I1.kept fun b o e => Heap.get?_push_of_some _ e
  have st : IsRevT (s1.heap.push (revT b (((its.toArray).size : Int) - 1))) s1.heap.objs.size b ((xs.length : Int) - 1 - ((0 : Nat) : Int)) := ⟨_, Heap.get?_push_size _ rfl, rfl, by rw [List.size_toArray, hl]; simp [revT]⟩
  refine iter_revT (s := { s1 with heap := s1.heap.push (revT b (((its.toArray).size : Int) - 1)), toks := tk }) st ?_
  refine ⟨s1.heap.objs.size, [s1.heap.objs.size], _, _, H1, rfl, I2, turn_rev b _ xs.length, ⟨Nat.zero_le _, st⟩, fun c hc => ?_, q⟩
  have e : c = s1.heap.objs.size := by simpa using hc
  subst e
  exact I1.fpOk (Nat.le_refl _) (I1.hok.fresh (Nat.le_refl _))
theorem for_rev {K : PySem.W.Frag} {a : Addr} {xs : List V} {g : TG} {tb : TS} {D : Ends} {σ : St} {H : Hp} (Pv : Nat -> St -> Hp -> Prop) (h0 : Pv 0 σ H) (hl : ∀ i σ H, i <= xs.length -> Pv i σ H -> SqT K H a xs)
  (hs : ∀ i x σ H, xs.reverse[i]? = some x -> Pv i σ H -> g x σ H fun σ2 H2 => tb { D with nx := Pv (i + 1), ct := Pv (i + 1), bk := D.nx } σ2 H2) (hd : ∀ σ H, Pv xs.length σ H -> D.nx σ H) :
  ∃ W : Nat -> Nat -> St -> Hp -> Prop, (∃ m, W 0 m σ H) /\ ∀ i m σ H, W i m σ H ->
   ((Itv K a xs.length).stop i H /\ D.nx σ H) \/ ((Itv K a xs.length).go i H /\ ∃ N : St -> Hp -> Prop, (∀ σ' H', N σ' H' -> ∃ m', m' < m /\ W (i + 1) m' σ' H') /\ ∀ x H', (Itv K a xs.length).yld i H x H' -> g x σ H' fun σ2 H2 => tb { D with nx := N, ct := N, bk := D.nx } σ2 H2) := by
 refine ⟨fun i m σ H => m = xs.length - i /\ i <= xs.length /\ Pv i σ H, ⟨xs.length, by simp, Nat.zero_le _, h0⟩, ?_⟩
 rintro i m σ H ⟨rfl, hi, p⟩
 have q := hl i σ H hi p
 by_cases hlt : i < xs.length
 ·refine .inr ⟨⟨xs, xs.reverse[i]'(by simpa using hlt), q, rfl, by simp [hlt]⟩, Pv (i + 1), fun σ' H' p' => ⟨xs.length - (i + 1), by (first|lia|omega), rfl, hlt, p'⟩, fun x H' y => ?_⟩
  obtain ⟨e, y⟩ := y
  subst e
  exact hs i x σ _ (y xs q) p
 ·have e : i = xs.length := by (first|lia|omega)
  subst e
  exact .inl ⟨⟨⟨xs, q, rfl⟩, Nat.le_refl _⟩, hd σ H p⟩
end L2

namespace L2
open PySem
mutual
def pre : Nd -> List Nd
 | .mk k p own ps => .mk k p own ps :: preL ps
def preL : List Nd -> List Nd
 | [] => []
 | a :: r => pre a ++ preL r
end
theorem Paired.append {α β : Type} {F : α -> β -> Prop} : ∀ {xs zs : List α} {ys ws : List β}, Paired F xs ys -> Paired F zs ws -> Paired F (xs ++ zs) (ys ++ ws)
 | _, _, _, _, .nil, q => q
 | _, _, _, _, .cons r t, q => .cons r (Paired.append t q)
theorem Paired.rev {α β : Type} {F : α -> β -> Prop} : ∀ {xs : List α} {ys : List β}, Paired F xs ys -> Paired F xs.reverse ys.reverse
 | _, _, .nil => .nil
 | _, _, .cons r t => by
  rw [List.reverse_cons, List.reverse_cons]
  exact Paired.append (Paired.rev t) (.cons r .nil)
theorem Paired.unsnoc {α β : Type} {F : α -> β -> Prop} : ∀ {xs : List α} {x : α} {ys : List β}, Paired F (xs ++ [x]) ys -> ∃ ys' y, ys = ys' ++ [y] /\ Paired F xs ys' /\ F x y
 | [], x, _, .cons r .nil => ⟨[], _, rfl, .nil, r⟩
 | a :: xs, x, _, .cons r t => by
  obtain ⟨ys', y, rfl, p, f⟩ := Paired.unsnoc t
  exact ⟨_ :: ys', y, rfl, .cons r p, f⟩
theorem Same.fresh {H H' : Hp} {p : Addr} {o : HO} (s : Same H H') (h : H p = none) : Same H (upd H' p o) := fun b u e => by rw [zK (zI e h)]; exact s b u e
section
open PySem.Spec PyProof.Rows
variable {X : Cx} {e : Expr} {st : Option Expr} {te : TE} {ts : TO} {p2 pos : Pos}
end
end L2

namespace L2
open PySem PySem.Spec PyProof.Rows
section
variable {X : Cx}
end
end L2

namespace L2
open PySem PySem.W PySem.Spec PySem.Calls PyProof.Rows
section
variable {prog : Program} {w : World} {A : Around} {E : Value -> Shared -> Prop} {K : Frag} {C : Addr} {s : Shared} {x : Addr} {ox : Obj} {od : Option Obj}
end
end L2

namespace L2
open PySem PySem.Spec PyProof.Rows
def FlyS (X : Cx) (E : St -> XK) : Value -> Shared -> Prop := fun e s1 => ∃ x C d pins σ H, e = .ref x /\ Inv X pins σ H s1 /\ H x = some (ExO x C d) /\ Tb X pins H x s1.heap /\ E σ (.ref C) d H
abbrev Cx.excS (X : Cx) (E : St -> XK) : Cx := X.wish (FlyS X E)
def tCallS (sp : Sp) (E : St -> XK) (t : TA) : TE := fun σ H Q => t σ H fun vs H1 => sp vs H1 Q (E σ)
section
variable {X : Cx}
theorem cxe_flyS {E : St -> XK} {pins : List (Addr × Obj)} {σ : St} {H : Hp} {s s' : Shared} {e : Value} (I : Inv X pins σ H s) (h : CXE X.prog X.w X.stack H s (E σ) e s') : FlyS X E e s' := by
 obtain ⟨x, C, d, H', rfl, ho, hg, u, hok, hx, ⟨oe, vs, T, oT, ts, ge, hd, h1, hTx, hT, lo, gT, dT, h3⟩, q⟩ := h
 have I' : Inv X pins σ H' s' := I.call' (ch := []) ho u hok hg fun b z => (nomatch z)
 refine ⟨x, C, d, pins, σ, H', rfl, I', hx, ⟨oe, vs, ge, hd, .inr ⟨T, oT, ts, .none, h1, hTx, ⟨hT, Nat.le_trans I.sz lo, Nat.ne_of_gt (Nat.lt_of_lt_of_le I.lt lo), fun p hp z => ?_⟩, gT, dT, h3, .inl rfl⟩⟩, q⟩
 have := Heap.lt_size (I.pin p hp).1
 rw [z] at this
 exact absurd (Nat.lt_of_lt_of_le this lo) (Nat.lt_irrefl _)
theorem pe_callS {x : Str} {p pos : Pos} {e : Expr} {es : List Expr} {t : TA} {k n : Nat} {ps : List Str} {sp : Sp} {E : St -> XK} (C : Cal X.prog X.w X.K X.mg X.base (CXE X.prog X.w) k x ps sp) (hr : Room n X.A) (hg : Gl (X.excS E) x) (ha : PA (X.excS E) (e :: es) t) (hk : k <= n := by first | decide | (first|lia|omega))
  (hdb : (x == ("__debug__" : Str)) = false := by decide) (he : starEach (e :: es) X.env = (false, eval e X.env) :: starEach es X.env := by rfl) (hpl : (backTo pos (starEach es X.env)).any (·.1) = false := by rfl) :
  PE (X.excS E) (.Call (.Name x p) (e :: es) [] pos) (tCallS sp E t) := by
 obtain ⟨f, fd, F, hm, kp, hb⟩ := C.ex
 refine ⟨?_⟩
 intro pins s σ H Q I h
 refine wpAny_Call_Name_kw (qV I hg hm ?_ hdb)
 refine PySem.W.callWith_K (h₀ := X.base) I.ok.mod.kin kp (thn (ha pos pins s σ H _ I h) fun us s1 ⟨vs, H1, I1, r, q⟩ => ⟨I1.kIn, ?_⟩) he hpl
 have hl : us.length = ps.length := by rw [<- r.length]; exact F.len _ _ _ _ q
 have hb' := hb s1 us I1.kIn (by rw [List.append_nil]; exact hl)
 rw [List.append_nil] at hb'
 refine wpAny_call (codeAny_mono (F.run X.A X.stack s1 H1 ⟨us, []⟩ us vs Q (E σ) (hr.mono hk) I1.unwish.env0 hb' r q) fun rr s' hq => ?_)
 cases rr with
 | error e => exact cxe_flyS I1.unwish hq
 | ok fl =>
  cases fl with
  | ret u => exact I1.after hq
  | next => exact False.elim hq
  | brk => exact False.elim hq
  | cont => exact False.elim hq
def tTryS (K : PySem.W.Frag) (N i : Nat) (CE : Addr) (tb : (St -> XK) -> TS) (th : TS) : TS := fun D σ H =>
 tb (fun σ1 cls dx H1 => ∃ C d, cls = .ref C /\ dx = some d /\ Mch K C CE /\ ∀ (x : Addr), H1 x = some (ExO x C (some d)) -> th (behind D i) (σ1.set i (some (.ref x))) H1) D σ H
theorem ps_tryS {body suite : List Stmt} {b0 : Stmt} {x n : Str} {i : Nat} {CE : Addr} {tb : (St -> XK) -> TS} {th : TS} {np hpos pos : Pos} (hN : X.N.Nodup) (hi : X.N[i]? = some n) (hl : X.env.scope.names.lookup n = some .local) (hg : Gl X x) (hm : X.mg x = some (.ref CE))
  (hb : ∀ pn E', PSs ((X.pinned pn).excS E') body (tb E')) (hh : ∀ v, PSs (X.mark v) (b0 :: suite) th)
  (hst : X.stack = X.env :: X.outer := by rfl) (hfr : X.env.frame = some X.env.locals := by rfl) (hdb : (x == ("__debug__" : Str)) = false := by decide) :
  PS X (.Try body [.ExceptHandler (some (.Name x np)) (some n) (b0 :: suite) hpos] [] [] pos) (tTryS X.K X.N.length i CE tb th) := by
 refine ⟨?_⟩
 intro pins s σ H D I h
 refine wpAny_Try_except ?_
 refine wpAny_mono (hb (X.pn ++ pins) _ [] s σ H D (I.topin.wish _) h) (fun f s1 h1 => ?_) fun e s1 h1 => ?_
 ·cases f with
  | next => obtain ⟨σ1, H1, I1, q⟩ := h1; exact wpAny_execs_nil ⟨σ1, H1, I1.unwish.unpin, q⟩
  | brk => obtain ⟨σ1, H1, I1, q⟩ := h1; exact ⟨σ1, H1, I1.unwish.unpin, q⟩
  | cont => obtain ⟨σ1, H1, I1, q⟩ := h1; exact ⟨σ1, H1, I1.unwish.unpin, q⟩
  | ret u => obtain ⟨v, σ1, H1, I1, r, q⟩ := h1; exact ⟨v, σ1, H1, I1.unwish.unpin, r, q⟩
 ·obtain ⟨y, C0, d0, pins1, σ1, H1, rfl, I1, hy, tb1, C, d, ec, ed, mc, q⟩ := h1
  cases ec
  cases ed
  refine fly_note (X := X.pinned (X.pn ++ pins)) I1 hst hfr I1.ok.frames hy tb1 fun s2 I2 t2 => wK (to := none) I2 hy t2 fun s3 I3 t3 => ?_
  obtain ⟨oe, vs, ge, hcl, hdi, hda, hz⟩ := ExO.get I3.hok hy
  have J3 : Inv X pins σ1 H1 s3 := I3.unpin
  refine wpAny_handleBy_cons (codeAny_handlers_test ?_) (by intro z; cases z)
  refine qV (X := X.mark (.ref y)) (J3.mark _) hg hm ?_ hdb
  refine exc_matches J3.kIn mc ge hcl ?_
  refine codeAny_handlers_suite_as ?_
  refine wK (X := (X.pinned (X.pn ++ pins))) (to := none) I3 hy t3 fun s4 I4 t4 => ?_
  have J4 : Inv X pins σ1 H1 s4 := I4.unpin
  refine wY (X := X.mark (.ref y)) (J4.mark _) hN hi (.inl hl) (v := .ref y) rfl (fun s5 I5 => ?_) (.inr hl)
  refine wpAny_mono (hh (.ref y) pins s5 _ H1 (behind D i) I5 (q y hy)) (fun f s6 h6 => ?_) fun _ _ z => z.elim
  have go : ∀ {σ6 : St} {H6 : Hp} {P : Flow -> Shared -> Prop}, Inv (X.mark (.ref y)) pins σ6 H6 s6 -> (∀ s7, Inv X pins (σ6.set i none) H6 s7 -> P f s7) -> wpAny (model X.prog X.w) X.A (do bindName X.env n .none; unbindBehindTheSuite X.env n hpos) (fun _ s7 => P f s7) X.xe s6 :=
   fun {σ6 H6 P} I6 k => name_gone (Inv.unmark I.ok.hd I6) hN hi hl k
  cases f with
  | next => obtain ⟨σ6, H6, I6, q6⟩ := h6; exact go (P := SP X pins D) I6 fun s7 I7 => ⟨_, H6, I7, q6⟩
  | brk => obtain ⟨σ6, H6, I6, q6⟩ := h6; exact go (P := SP X pins D) I6 fun s7 I7 => ⟨_, H6, I7, q6⟩
  | cont => obtain ⟨σ6, H6, I6, q6⟩ := h6; exact go (P := SP X pins D) I6 fun s7 I7 => ⟨_, H6, I7, q6⟩
  | ret u => obtain ⟨v, σ6, H6, I6, r, q6⟩ := h6; exact go (P := SP X pins D) I6 fun s7 I7 => ⟨v, _, H6, I7, r, q6⟩
end
end L2

namespace L2
open PySem PySem.Spec PyProof.Rows PySem.W
abbrev bmExc : List Value := [.type "Exception", .type "BaseException", .type "object"]
theorem exc_cdE {K : Frag} {C N : Addr} {nm q : Str} {bs : List Value} {sn : List Str} {sub : List Value} {ab : Bool} {col : Option Bool} {dd : Option Addr} {k0 k1 k2 k3 k5 : Option Value} {newId : String} (h : K.lookup C = some (excClassObj nm q C N bs bmExc true sn sub ab col dd k0 k1 k2 k3 k5 newId)) :
  ∃ cd, clsIn K C = some cd /\ cd.hasDict = true /\ ∀ self, refuseLoop self "__setattr__" cd.mro = pure () := by
 refine ⟨_, by unfold clsIn; rw [h], rfl, fun self => ?_⟩
 show refuseLoop self "__setattr__" (.ref C :: bmExc) = _
 rw [refuseLoop_ref]
 exact F.store_Exception.passes self
theorem ExMk.under {K : Frag} {C f N : Addr} {nm q : Str} {bs : List Value} {sn : List Str} {sub : List Value} {ab : Bool} {col : Option Bool} {dd : Option Addr} {k0 k1 k2 k3 k5 : Option Value} (h : K.lookup C = some (excClassObj nm q C N bs bmExc true sn sub ab col dd k0 k1 k2 k3 k5 "Exception.__new__"))
  (i : findIn K (.ref C) "__init__" = some (some (.ref f))) (fn : typeIn K (.ref f) = some (.type "function")) (kp : keepIn K (.ref C) = true) (ec : ExCls K C) : ExMk K C f :=
 ⟨⟨_, _, _, bmExc, F.excBase_Exception, by decide, _, _, _, _, _, _, _, _, _, _, _, _, _, _, _, _, h, fun _ _ => .base⟩, i, fn, kp, ec⟩
section
variable {X : Cx} {pos : Pos} {e : Expr}
theorem pe_fldK {f : Str} {te : TE} (K : PySem.W.Frag) (hK : X.K = K) (he : PE X e te) (hb : attributeBase e f X.env (eval e X.env) = eval e X.env := by rfl) : PE X (.Attribute e f pos) (tFld K te f) := by
 subst hK
 exact xQ he hb
end
end L2

namespace L2
open PySem
def wrongM (ns : List Int) : Option Bad := match functionsM ns with
 | .error b => some b
 | .ok _ => none
end L2

namespace L2
open PySem PySem.Spec PyProof.Rows
end L2

namespace L2
open PySem PySem.Spec PyProof.Rows
end L2

namespace L2
open PySem PySem.Spec PyProof.Rows
section
variable {X : Cx}
end
end L2

namespace L2
open PySem PySem.Spec PyProof.Rows
end L2

namespace L2
open PySem PySem.Spec PyProof.Rows

section
variable {κ : Type} [DecidableEq κ]
def valV (kvs : List (κ × V)) (k : κ) : Option V := (kvs.find? fun kv => decide (kv.1 = k)).map (·.2)
def putK (kvs : List (κ × V)) (k : κ) (v : V) : List (κ × V) :=
 if (kvs.any fun kv => decide (kv.1 = k)) = true then kvs.map (fun kv => if kv.1 = k then (kv.1, v) else kv) else kvs ++ [(k, v)]
theorem valV_pos {p : κ × V} {r : List (κ × V)} {k : κ} (e : p.1 = k) : valV (p :: r) k = some p.2 := by simp [valV, List.find?_cons, e]
theorem valV_neg {p : κ × V} {r : List (κ × V)} {k : κ} (e : ¬ p.1 = k) : valV (p :: r) k = valV r k := by simp [valV, List.find?_cons, e]
theorem valV_any (k : κ) : ∀ kvs : List (κ × V), (kvs.any fun kv => decide (kv.1 = k)) = (valV kvs k).isSome
 | [] => rfl
 | p :: r => by
  rw [List.any_cons]
  by_cases e : p.1 = k
  ·simp only [valV_pos e, decide_eq_true e, Bool.true_or, Option.isSome_some]
  ·rw [valV_neg e, decide_eq_false e, Bool.false_or]; exact valV_any k r
theorem wC (kvs : List (κ × V)) (k : κ) (v : V) : (putK kvs k v).length <= kvs.length + 1 := by
 unfold putK
 split
 ·rw [List.length_map]; (first|lia|omega)
 ·rw [List.length_append, List.length_cons, List.length_nil]; (first|lia|omega)
theorem RelO.isSome_eq {o : Option V} {u : Option Value} (r : RelO o u) : o.isSome = u.isSome := by
 cases o with
 | none => cases u with
  | none => rfl
  | some _ => exact (show False from r).elim
 | some _ => cases u with
  | none => exact (show False from r).elim
  | some _ => rfl
theorem KV.val {kvs : List (κ × V)} {vs : List (κ × Value)} (r : KV kvs vs) (k : κ) : RelO (valV kvs k) (valueAt vs k) := by
 unfold KV at r
 induction r with
 | nil => exact True.intro
 | @cons p q ps qs h t ih =>
  obtain ⟨h1, h2⟩ := h
  by_cases e : p.1 = k
  ·have e' : q.1 = k := h1.symm.trans e
   have b : valueAt (q :: qs) k = some q.2 := by simp [valueAt, List.find?_cons, e']
   rw [valV_pos e, b]; exact h2
  ·have e' : ¬ q.1 = k := fun z => e (h1.trans z)
   have b : valueAt (q :: qs) k = valueAt qs k := by simp [valueAt, List.find?_cons, e']
   rw [valV_neg e, b]; exact ih
theorem KV.any {kvs : List (κ × V)} {vs : List (κ × Value)} (r : KV kvs vs) (k : κ) : (kvs.any fun kv => decide (kv.1 = k)) = vs.any fun kv => decide (kv.1 = k) := by
 unfold KV at r
 induction r with
 | nil => rfl
 | cons h t ih => rw [List.any_cons, List.any_cons, ih, h.1]
theorem KV.repl {kvs : List (κ × V)} {vs : List (κ × Value)} (r : KV kvs vs) (k : κ) {y : V} {u : Value} (ry : RelV y u) :
  KV (kvs.map fun kv => if kv.1 = k then (kv.1, y) else kv) (vs.map fun kv => if kv.1 = k then (kv.1, u) else kv) := by
 unfold KV at r ⊢
 induction r with
 | nil => exact .nil
 | @cons p q ps qs h t ih =>
  rw [List.map_cons, List.map_cons]
  refine .cons ?_ ih
  obtain ⟨h1, h2⟩ := h
  by_cases e : p.1 = k
  ·rw [if_pos e, if_pos (h1.symm.trans e)]; exact ⟨h1, ry⟩
  ·rw [if_neg e, if_neg (fun z => e (h1.trans z))]; exact ⟨h1, h2⟩
theorem KV.put {kvs : List (κ × V)} {vs : List (κ × Value)} (r : KV kvs vs) (k : κ) {y : V} {u : Value} (ry : RelV y u) : KV (putK kvs k y) (stored vs k u) := by
 unfold putK stored
 rw [r.any k]
 by_cases e : (vs.any fun kv => decide (kv.1 = k)) = true
 ·rw [if_pos e, if_pos e]; exact r.repl k ry
 ·rw [if_neg e, if_neg e]; exact Paired.snoc r ⟨rfl, ry⟩
theorem KV.length {kvs : List (κ × V)} {vs : List (κ × Value)} (r : KV kvs vs) : kvs.length = vs.length := Paired.length r
end


theorem kV_is {P : Program} {w : World} {k : Key} {u : Value} (r : RelV (kV k) u) : (mixKind P w).is k u = true := by
 cases k with
 | inl i => obtain ⟨t, e⟩ := (show ∃ t, u = Value.int i t from r); subst e; exact mixKind_int P w i t
 | inr x => obtain ⟨t, e⟩ := (show ∃ t, u = Value.str x t from r); subst e; exact mixKind_str P w x t
theorem items_are {P : Program} {w : World} : ∀ {ks : List Key} {us : List Value}, Vals (ks.map kV) us -> ItemsAre (mixKind P w) ks us
 | [], _, r => by rw [List.map_nil] at r; cases r; exact .nil
 | k :: ks, _, r => by
  rw [List.map_cons] at r
  cases r with
  | cons h t => exact .cons (kV_is h) (items_are t)

abbrev KT (H : Hp) : List (List Key × V) -> List (List Key × Addr × Value) -> Prop := Paired fun p q => p.1 = q.1 /\ H q.2.1 = some (.tup (p.1.map kV)) /\ RelV p.2 q.2.2
theorem KT.val {H : Hp} {kvs : List (List Key × V)} {xs : List (List Key × Addr × Value)} (r : KT H kvs xs) (k : List Key) : RelO (valV kvs k) ((atKey xs k).map (·.2)) := by
 induction r with
 | nil => exact True.intro
 | @cons p q ps qs h t ih =>
  obtain ⟨h1, _, h2⟩ := h
  by_cases e : p.1 = k
  ·have e' : q.1 = k := h1.symm.trans e
   have b : atKey (q :: qs) k = some q.2 := by simp [atKey, List.find?_cons, e']
   rw [valV_pos e, b]; exact h2
  ·have e' : ¬ q.1 = k := fun z => e (h1.trans z)
   have b : atKey (q :: qs) k = atKey qs k := by simp [atKey, List.find?_cons, e']
   rw [valV_neg e, b]; exact ih
theorem KT.repl {H : Hp} {kvs : List (List Key × V)} {xs : List (List Key × Addr × Value)} (r : KT H kvs xs) (k : List Key) {y : V} {u : Value} (ry : RelV y u) :
  KT H (kvs.map fun kv => if kv.1 = k then (kv.1, y) else kv) (xs.map (putAt k u)) := by
 induction r with
 | nil => exact .nil
 | @cons p q ps qs h t ih =>
  rw [List.map_cons, List.map_cons]
  refine .cons ?_ ih
  obtain ⟨h1, h2, h3⟩ := h
  unfold putAt
  by_cases e : p.1 = k
  ·rw [if_pos e, if_pos (h1.symm.trans e)]; exact ⟨h1, h2, ry⟩
  ·rw [if_neg e, if_neg (fun z => e (h1.trans z))]; exact ⟨h1, h2, h3⟩
theorem KT.put {H : Hp} {kvs : List (List Key × V)} {xs : List (List Key × Addr × Value)} (r : KT H kvs xs) (k : List Key) {b : Addr} {y : V} {u : Value} (hb : H b = some (.tup (k.map kV))) (ry : RelV y u) :
  KT H (putK kvs k y) (storedH xs k b u) := by
 have e : (kvs.any fun kv => decide (kv.1 = k)) = (atKey xs k).isSome := by
  rw [valV_any, (r.val k).isSome_eq, Option.isSome_map]
 unfold putK storedH
 rw [e]
 by_cases q : (atKey xs k).isSome = true
 ·rw [if_pos q, if_pos q]; exact r.repl k ry
 ·rw [if_neg q, if_neg q]; exact Paired.snoc r ⟨rfl, hb, ry⟩
theorem KT.keeps {H H' : Hp} {kvs : List (List Key × V)} {xs : List (List Key × Addr × Value)} (r : KT H kvs xs) (ht : ∀ b ys, H b = some (.tup ys) -> H' b = some (.tup ys)) : KT H' kvs xs :=
 Paired.mapP r fun _ _ z => ⟨z.1, ht _ _ z.2.1, z.2.2⟩

section
variable {P : Program} {w : World} {H : Hp} {h : Heap} {a : Addr}
theorem rd_of {u : HO} (ok : HOk P w H h) (e : Rd H a u) : ObjOk P w H h a u := e.ok ok
theorem dk_rd {kvs : List (Key × V)} (ok : HOk P w H h) (e : Rd H a (.dK kvs)) : kvs.length <= sizeLine /\ (a == sysModules) = false /\ ∃ vs, KV kvs vs /\ h.DictOf (mixKind P w) a vs :=
 show ObjOk P w H h a (.dK kvs) from rd_of ok e
theorem dk_of {kvs : List (Key × V)} (ok : HOk P w H h) (e : H a = some (.dK kvs)) : kvs.length <= sizeLine /\ (a == sysModules) = false /\ ∃ vs, KV kvs vs /\ h.DictOf (mixKind P w) a vs := dk_rd ok (.inl e)
theorem key_of {ks : List Key} (ok : HOk P w H h) (e : H a = some (.tup (ks.map kV))) : (tupleKind (mixKind P w)).is h ks a := by
 obtain ⟨_, its, r, o, h1, h2, n, h3⟩ := (show ObjOk P w H h a (.tup (ks.map kV)) from ok a _ e)
 exact ⟨o, its.toArray, n, h1, h2, h3, by simpa using items_are r⟩
theorem dt_rd {kvs : List (List Key × V)} (ok : HOk P w H h) (e : Rd H a (.dT kvs)) : kvs.length <= sizeLine /\ (a == sysModules) = false /\
  ∃ xs, KT H kvs xs /\ h.DictOfH (tupleKind (mixKind P w)) a xs := by
 obtain ⟨z, y, xs, r, o, es, ep, h1, h2, h3, h4, h5⟩ := (show ObjOk P w H h a (.dT kvs) from rd_of ok e)
 refine ⟨z, y, xs, r, o, es, ep, h1, h2, h3, h4, fun x hx => ?_, h5⟩
 have all : ∀ {l : List (List Key × V)} {m : List (List Key × Addr × Value)}, KT H l m -> ∀ x ∈ m, (tupleKind (mixKind P w)).is h x.1 x.2.1 := by
  intro l m q
  induction q with
  | nil => intro x hx; exact nomatch hx
  | @cons p q ps qs hq t ih =>
   intro x hx
   rcases List.mem_cons.mp hx with e | hx
   ·subst e
    exact key_of ok (by rw [<- hq.1]; exact hq.2.1)
   ·exact ih x hx
 exact all r x hx
theorem dt_of {kvs : List (List Key × V)} (ok : HOk P w H h) (e : H a = some (.dT kvs)) : kvs.length <= sizeLine /\ (a == sysModules) = false /\
  ∃ xs, KT H kvs xs /\ h.DictOfH (tupleKind (mixKind P w)) a xs := dt_rd ok (.inl e)
end

def DGet (H : Hp) (a : Addr) (y : V) (r : Option V) : Prop :=
 (∃ kvs k, Rd H a (.dK kvs) /\ y = kV k /\ r = valV kvs k) \/ ∃ kvs k b, Rd H a (.dT kvs) /\ y = .ref b /\ H b = some (.tup (k.map kV)) /\ r = valV kvs k
def DPut (H : Hp) (a : Addr) (y v : V) (H' : Hp) : Prop :=
 (∃ kvs k, H a = some (.dK kvs) /\ y = kV k /\ kvs.length < sizeLine /\ H' = upd H a (.dK (putK kvs k v))) \/
 ∃ kvs k b, H a = some (.dT kvs) /\ y = .ref b /\ H b = some (.tup (k.map kV)) /\ kvs.length < sizeLine /\ H' = upd H a (.dT (putK kvs k v))
theorem DGet.k {H : Hp} {a : Addr} {kvs : List (Key × V)} {k : Key} (e : H a = some (.dK kvs)) : DGet H a (kV k) (valV kvs k) := .inl ⟨kvs, k, .inl e, rfl, rfl⟩
theorem DPut.k {H : Hp} {a : Addr} {kvs : List (Key × V)} {k : Key} {v : V} (e : H a = some (.dK kvs)) (hl : kvs.length < sizeLine) : DPut H a (kV k) v (upd H a (.dK (putK kvs k v))) := .inl ⟨kvs, k, e, rfl, hl, rfl⟩
section
variable {X : Cx} {pins : List (Addr × Obj)} {σ : St} {H : Hp} {s : Shared} {a : Addr} {y v : V} {u r : Value} {o : Option V} {A : Around} {E : Value -> Shared -> Prop}

theorem Inv.big (I : Inv X pins σ H s) : sysModules < s.heap.objs.size := by
 have h : mainGlobals < s.heap.objs.size := (I.mod.glob.keeps I.bk).lt
 exact Nat.lt_trans (by decide) h

theorem d_getItem {Q : Value -> Shared -> Prop} (hu : A.units + 1 < cLine) (I : Inv X pins σ H s) (g : DGet H a y (some v)) (ry : RelV y u) (h : ∀ w' s', Inv X pins σ H s' -> RelV v w' -> Q w' s') :
  wpAny (model X.prog X.w) A (getItem (.ref a) u) Q E s := by
 rcases g with ⟨kvs, k, e, ey, l⟩ | ⟨kvs, k, b, e, ey, eb, l⟩
 ·subst ey
  obtain ⟨z, hd, vs, rel, dd⟩ := dk_rd I.hok e
  obtain ⟨w', hw, rw'⟩ := RelO.some_of (v := v) (o := valueAt vs k) (by rw [l]; exact rel.val k)
  exact wpAny_getItem_of (kV_is ry) dd.mapOf hw (h w' _ (I.tok _) rw')
 ·subst ey
  cases (show u = Value.ref b from ry)
  obtain ⟨z, hd, xs, rel, dd⟩ := dt_rd I.hok e
  obtain ⟨w', hw, rw'⟩ := RelO.some_of (v := v) (o := (atKey xs k).map (·.2)) (by rw [l]; exact rel.val k)
  obtain ⟨p, hp, hp2⟩ := Option.map_eq_some_iff.mp hw
  refine wpAny_getItem_heap (tupleKind_room_in1 hu) (key_of I.hok eb) dd hp ?_
  rw [hp2]
  exact h w' _ (I.tok _) rw'
theorem d_write {h' : Heap} {t' : Nat} {ob : HO} (I : Inv X pins σ H s) (mu : Mut (H a)) (hs : Heap.SameBut a s.heap h') (he : ∃ q, h'.get? a = some q) (new : ObjOk X.prog X.w (upd H a ob) h' a ob) :
  Inv X pins σ (upd H a ob) { s with heap := h', toks := t' } :=
 I.write (x := a) (e := a) mu (.inl rfl) (fun b q hb z => (hs.2 b hb).trans z) he new
theorem dk_new {P : Program} {w : World} {H' : Hp} {h' : Heap} {kvs : List (Key × V)} {vs : List (Key × Value)} (z : kvs.length <= sizeLine) (hd : (a == sysModules) = false) (rel : KV kvs vs) (dd : h'.DictOf (mixKind P w) a vs) :
  ObjOk P w H' h' a (.dK kvs) := ⟨z, hd, vs, rel, dd⟩
theorem d_setItem {H' : Hp} {Q : Unit -> Shared -> Prop} (hu : A.units + 1 < cLine) (I : Inv X pins σ H s) (g : DPut H a y v H') (ry : RelV y u) (rv : RelV v r) (h : ∀ s', Inv X pins σ H' s' -> Q () s') :
  wpAny (model X.prog X.w) A (setItem (.ref a) u r) Q E s := by
 rcases g with ⟨kvs, k, e, ey, l, eH⟩ | ⟨kvs, k, b, e, ey, eb, l, eH⟩
 ·subst ey eH
  obtain ⟨z, hd, vs, rel, dd⟩ := dk_of I.hok e
  have hz : vs.length <= sizeLine := by rw [<- rel.length]; exact z
  have hl : (putK kvs k v).length <= sizeLine := by have := wC kvs k v; (first|lia|omega)
  refine wpAny_setItem_pairs (hsz := hz) (kV_is ry) dd fun h' dd' hs => h _ ?_
  have he : ∃ q, h'.get? a = some q := let ⟨q, _, _, hq, _⟩ := dd'; ⟨q, hq⟩
  exact d_write I (by rw [e]; exact True.intro) hs he (dk_new hl hd (rel.put k rv) dd')
 ·subst ey eH
  cases (show u = Value.ref b from ry)
  obtain ⟨z, hd, xs, rel, dd⟩ := dt_of I.hok e
  have hz : xs.length <= sizeLine := by rw [<- Paired.length rel]; exact z
  have hl : (putK kvs k v).length <= sizeLine := by have := wC kvs k v; (first|lia|omega)
  refine wpAny_setItem_heap (hsz := hz) (tupleKind_room_in1 hu) (key_of I.hok eb) dd fun h' dd' hs => h _ ?_
  obtain ⟨q, es, ep, hq, h2, h3, h4, _, h5⟩ := dd'
  refine d_write I (by rw [e]; exact True.intro) hs ⟨q, hq⟩ ⟨hl, hd, _, (rel.put k eb rv).keeps fun c ys ec => ?_, q, es, ep, hq, h2, h3, h4, h5⟩
  rw [zK (ne_of ec e (fun z => nomatch z))]
  exact ec
end

section
variable {X : Cx} {pins : List (Addr × Obj)} {σ : St} {H : Hp} {s : Shared} {a : Addr} {kvs : List (Key × V)} {k : Key} {u : Value} {A : Around} {E : Value -> Shared -> Prop}
end


def NoSl (i : Expr) : Prop := ∀ ov iv, subscripted i false ov iv = operate [ov, iv] (getItem ov iv)
theorem subD_of {prog : Program} {w : World} {A : Around} {E : Value -> Shared -> Prop} {s : Shared} {env : Env} {value slice : Expr} {pos : Pos} {T id : String} {Q : Value -> Shared -> Prop}
  (hl : typeLookup (.type T) "__getitem__" = pure (some (.builtin id))) (hs : NoSl slice)
  (h : wpAny (model prog w) A (eval value env) (fun o s₁ => wpAny (model prog w) A (eval slice env) (fun i s₂ => s₂.TypeIs o T /\ wpAny (model prog w) A (getItem o i) Q E s₂) E s₁) E s) :
  wpAny (model prog w) A (eval (.Subscript value slice pos) env) Q E s := by
 refine Subscript_ (wpAny_mono h (fun o s₁ h₁ => wpAny_mono h₁ (fun i s₂ h₂ => ?_) fun _ _ x => x) fun _ _ x => x)
 obtain ⟨hT, h₂⟩ := h₂
 unfold subscriptTail
 refine wpAny_bind ?_
 rw [getitemInPython_of_ne hT.not_modules]
 refine wpAny_bind (wpAny_specialOf hT hl ?_)
 have fin : wpAny (model prog w) A (subscripted slice false o i) (fun r s₃ => wpAny (model prog w) A (letTemporaryGo value o r >>= fun _ => pure r) Q E s₃) E s₂ := by
  rw [hs o i]
  exact wpAny_operating (wpAny_mono h₂ (fun r s₃ h₃ => wpAny_bind (wpAny_letTemporaryGo (wpAny_pure h₃))) fun _ _ x => x)
 first
  | exact wpAny_pure (wpAny_bind fin)
  | exact wpAny_bind (wpAny_pure (wpAny_bind fin))
  | exact wpAny_bind fin

theorem dict_typeIs {X : Cx} {pins : List (Addr × Obj)} {σ : St} {H : Hp} {s : Shared} {a : Addr} {y : V} {o : Option V} (I : Inv X pins σ H s) (g : DGet H a y o) : s.TypeIs (.ref a) "dict" := by
 rcases g with ⟨kvs, k, e, _, _⟩ | ⟨kvs, k, b, e, _, _, _⟩
 ·obtain ⟨_, _, vs, _, dd⟩ := dk_rd I.hok e
  exact dd.typeIs
 ·obtain ⟨_, _, xs, _, dd⟩ := dt_rd I.hok e
  exact dd.typeIs
def tDGet (td ty : TE) : TE := fun σ H Q => td σ H fun x H1 => ty σ H1 fun y H2 => ∃ a v, x = .ref a /\ DGet H2 a y (some v) /\ Q v H2
def sDPut (td ty tv : TE) : TS := fun D σ H => tv σ H fun v H1 => td σ H1 fun x H2 => ty σ H2 fun y H3 => ∃ a H4, x = .ref a /\ DPut H3 a y v H4 /\ D.nx σ H4
section
variable {X : Cx} {o i e value : Expr} {pos pos' tpos : Pos} {td ty tv : TE}
theorem yZ (hu : X.A.units + 1 < cLine) (ho : PE X o td) (hi : PE X i ty) (hs : NoSl i) : PE X (.Subscript o i pos) (tDGet td ty) := by
 refine ⟨?_⟩
 intro pins s σ H Q I h
 refine subD_of PySem.F.slot_dict_getitem.lookup hs (thn (ho pins s σ H _ I h) fun u s1 ⟨x, H1, I1, rx, q1⟩ => thn (hi pins s1 σ H1 _ I1 q1) fun iv s2 hzz => ?_)
 obtain ⟨y, H2, I2, ry, a, v, ex, g, q2⟩ := hzz
 subst ex
 obtain rfl : u = Value.ref a := rx
 exact ⟨dict_typeIs I2 g, d_getItem hu I2 g ry fun w' s3 I3 rw' => ⟨v, H2, I3, rw', q2⟩⟩
theorem ps_dput (hu : X.A.units + 1 < cLine) (ho : PE X o td) (hi : PE X i ty) (hv : PE X value tv) (hs : swapsWith value (some (.Subscript o i pos')) pos.line X.env = pure false) :
  PS X (.Assign [.Subscript o i pos'] value pos) (sDPut td ty tv) := by
 refine ⟨?_⟩
 intro pins s σ H D I h
 refine wpAny_Assign_Subscript (thn (hv pins s σ H _ I h) fun r s1 ⟨v, H1, I1, rv, q1⟩ => thn (ho pins s1 σ H1 _ I1 q1) fun u s2 ⟨x, H2, I2, rx, q2⟩ => thn (hi pins s2 σ H2 _ I2 q2) fun iv s3 ⟨y, H3, I3, ry, a, H4, ex, g, q3⟩ => ?_) hs
 subst ex
 obtain rfl : u = Value.ref a := rx
 exact d_setItem hu I3 g ry rv fun s4 I4 => ⟨σ, H4, I4, q3⟩
end


theorem dk_empty {P : Program} {w : World} {H : Hp} (h : Heap) (hb : sysModules < h.objs.size) : ObjOk P w H (h.push { cls := .type "dict", data := .dict #[] }) h.objs.size (.dK []) :=
 ⟨Nat.zero_le _, beq_eq_false_iff_ne.mpr (Ne.symm (Nat.ne_of_lt hb)), [], .nil, Heap.DictOf.new h⟩
section
variable {X : Cx} {pos : Pos}
end

def tPairs : List (TE × TE) -> St -> Hp -> (List (V × V) -> Hp -> Prop) -> Prop
 | [], _, H, Q => Q [] H
 | (tk, tv) :: r, σ, H, Q => tk σ H fun x H1 => tv σ H1 fun y H2 => tPairs r σ H2 fun ps H3 => Q ((x, y) :: ps) H3
abbrev VV : List (V × V) -> List (Value × Value) -> Prop := Paired fun p q => RelV p.1 q.1 /\ RelV p.2 q.2
def PPs (X : Cx) (pos : Pos) (keys : List (Option Expr)) (values : List Expr) (trs : List (TE × TE)) : Prop :=
 ∀ (pins : List (Addr × Obj)) (s : Shared) (σ : St) (H : Hp) (Q : List (V × V) -> Hp -> Prop), Inv X pins σ H s -> tPairs trs σ H Q ->
  wpAny (model X.prog X.w) X.A (evalPairs (pairTrees keys values X.env pos)) (fun vs s' => ∃ ps H', Inv X pins σ H' s' /\ VV ps vs /\ Q ps H') X.xe s
theorem pps_nil {X : Cx} {pos : Pos} : PPs X pos [] [] [] := fun pins s σ H Q I h => pairTrees_nil_walk ⟨[], H, I, .nil, h⟩
theorem kM {X : Cx} {pos : Pos} {k v : Expr} {ks : List (Option Expr)} {vs : List Expr} {tk tv : TE} {trs : List (TE × TE)} (hk : PE X k tk) (hv : PE X v tv) (hr : PPs X pos ks vs trs) :
  PPs X pos (some k :: ks) (v :: vs) ((tk, tv) :: trs) := fun pins s σ H Q I h =>
 pairTrees_cons_walk (thn (hk pins s σ H _ I h) fun u s1 ⟨x, H1, I1, rx, q1⟩ => thn (hv pins s1 σ H1 _ I1 q1) fun w2 s2 ⟨y, H2, I2, ry, q2⟩ =>
  thn (hr pins s2 σ H2 _ I2 q2) fun ws s3 ⟨ps, H3, I3, rel, q3⟩ => ⟨(x, y) :: ps, H3, I3, .cons ⟨rx, ry⟩ rel, q3⟩)

def mergeK (kvs more : List (Key × V)) : List (Key × V) := more.foldl (fun acc kv => putK acc kv.1 kv.2) kvs
theorem KV.merge : ∀ {more : List (Key × V)} {rs : List (Key × Value)} {kvs : List (Key × V)} {vs : List (Key × Value)}, KV more rs -> KV kvs vs -> KV (mergeK kvs more) (merged vs rs) := by
 intro more rs kvs vs r
 unfold KV at r
 induction r generalizing kvs vs with
 | nil => intro q; exact q
 | @cons p q ps qs h t ih =>
  intro r0
  have e : KV (putK kvs p.1 p.2) (stored vs q.1 q.2) := by
   have := r0.put p.1 h.2
   rw [<- h.1]; exact this
  exact ih e
theorem wM : ∀ (more kvs : List (Key × V)), (mergeK kvs more).length <= kvs.length + more.length
 | [], kvs => by show kvs.length <= kvs.length + 0; (first|lia|omega)
 | p :: r, kvs => by
  have h1 := wM r (putK kvs p.1 p.2)
  have h2 := wC kvs p.1 p.2
  show (mergeK (putK kvs p.1 p.2) r).length <= _
  rw [List.length_cons]; (first|lia|omega)
theorem carries_of {P : Program} {w : World} : ∀ {kvs : List (Key × V)} {ws : List (Value × Value)}, VV (kvs.map fun kv => (kV kv.1, kv.2)) ws -> ∃ rs, Carries (mixKind P w) ws rs /\ KV kvs rs
 | [], _, r => by rw [List.map_nil] at r; cases r; exact ⟨[], True.intro, .nil⟩
 | p :: kvs, _, r => by
  rw [List.map_cons] at r
  cases r with
  | @cons a b as bs h t =>
   obtain ⟨rs, c, q⟩ := carries_of (P := P) (w := w) t
   obtain ⟨b1, b2⟩ := b
   exact ⟨(p.1, b2) :: rs, ⟨kV_is h.1, rfl, c⟩, .cons ⟨rfl, h.2⟩ q⟩
def tDisp (trs : List (TE × TE)) : TE := fun σ H Q => ∀ p, H p = none -> tPairs trs σ (upd H p (.dK [])) fun ps H2 => H2 p = some (.dK []) /\ ∃ kvs : List (Key × V), ps = kvs.map (fun kv => (kV kv.1, kv.2)) /\ kvs.length <= 15 /\ Q (.ref p) (upd H2 p (.dK (mergeK [] kvs)))
theorem pe_disp {X : Cx} {pos : Pos} {keys : List (Option Expr)} {values : List Expr} {trs : List (TE × TE)} (h : PPs X pos keys values trs) (hall : keys.all (·.isSome) = true) (hl : keys.length = values.length) (h0 : keys ≠ [])
  (h15 : keys.length <= 15) : PE X (.Dict keys values pos) (tDisp trs) := by
 refine ⟨?_⟩
 intro pins s σ H Q I q
 have hn := I.hok.fresh (Nat.le_refl s.heap.objs.size)
 have I1 := I.laid (a := s.heap.objs.size) (o := .dK []) (h' := s.heap.push { cls := .type "dict", data := .dict #[] }) (t' := s.toks) (fun _ _ q => Heap.get?_push_of_some _ q) (Nat.le_refl _) (dk_empty s.heap I.big)
 refine wpAny_Dict_walk (knd := mixKind X.prog X.w) hall hl h0 h15 (thn (h pins _ σ _ _ I1 (q _ hn)) fun ws s2 hzz => ?_)
 obtain ⟨ps, H2, I2, rel, e, kvs, ep, lk, q2⟩ := hzz
 subst ep
 obtain ⟨rs, c, rk⟩ := carries_of (P := X.prog) (w := X.w) rel
 obtain ⟨z, hd, vs0, r0, dd⟩ := dk_of I2.hok e
 cases r0
 refine ⟨rs, c, dd, fun h' dd' hs => ⟨.ref s.heap.objs.size, _, ?_, rfl, q2⟩⟩
 have hz : (mergeK [] kvs).length <= sizeLine := by
  have h1 := wM kvs []
  rw [List.length_nil] at h1
  rw [sizeLine_eq]; (first|lia|omega)
 have he : ∃ q, h'.get? s.heap.objs.size = some q := let ⟨q, _, _, hq, _⟩ := dd'; ⟨q, hq⟩
 exact d_write I2 (by rw [e]; exact True.intro) hs he (dk_new hz hd (rk.merge .nil) dd')


structure M2 (X : Cx) (o : Expr) (m : Str) (apos : Pos) (e f : Expr) (cpos : Pos) : Prop where
 base : attributeBase o m X.env (eval o X.env) = eval o X.env
 few : ((backTo cpos (starEach [e, f] X.env)).all (fun x => !x.1) && (backToKw cpos (keywordEach [] X.env)).all (fun x => x.1.isSome)
  && decide (([e, f] : List Expr).length + ([] : List Keyword).length + (if ([] : List Keyword).isEmpty then 0 else 1) < 30)) = true
 line : (apos.endLine == cpos.line) = true
 trees : backTo cpos (starEach [e, f] X.env) = [(false, eval e X.env), (false, eval f X.env)]

section
variable {X : Cx} {pins : List (Addr × Obj)} {σ : St} {H : Hp} {s : Shared} {a : Addr} {y d : V} {u r : Value} {o : Option V} {A : Around} {E : Value -> Shared -> Prop}
end

section
variable {X : Cx} {o e f : Expr} {apos cpos : Pos} {td ty tx : TE}
end

section
variable {X : Cx} {pins : List (Addr × Obj)} {σ : St} {H : Hp} {s : Shared} {a : Addr} {kvs : List (Key × V)} {A : Around} {E : Value -> Shared -> Prop}
end


section
variable {X : Cx} {pins : List (Addr × Obj)} {σ : St} {H : Hp} {s : Shared} {a : Addr} {y : V} {u : Value} {A : Around} {E : Value -> Shared -> Prop}
end
end L2
namespace L2
open PySem PySem.Spec PyProof.Rows
section
variable {X : Cx}
end
end L2

namespace L2
open PySem PySem.Spec PyProof.Rows
section
variable {X : Cx}
def CMulB (i j : Int) : Prop := i.natAbs < 2 ^ 2000 /\ j.natAbs < 2 ^ 2000
theorem op_mulB : OpR X (binaryOp .Mult) (rI CMulB fun i j => .int (i * j)) := opI fun i j _ _ _ _ _ hc q => by
 refine mul_int q ?_
 exact IntMulOk.of_le (PyProof.Rows.intBits_le hc.1) (PyProof.Rows.intBits_le hc.2) (by decide)
def CDivZ (i j : Int) : Prop := j ≠ 0 /\ j.natAbs < 2 ^ 2000
theorem op_fdivZ : OpR X (binaryOp .FloorDiv) (rI CDivZ fun i j => .int (i.fdiv j)) := opI fun i j _ _ _ _ _ hc q => by
 have h : j.natAbs.log2 < 2000 := (Nat.log2_lt (by have := hc.1; (first|lia|omega))).mpr hc.2
 exact floordiv_int hc.1 q (.inl (PyProof.noPylong_of_log2 (by (first|lia|omega))))
end
abbrev stD (a : Addr) (k c : Int) : List (Key × V) := [(.inr "script", .ref a), (.inr "at", .int k), (.inr "left", .int c)]
theorem stD_script {H : Hp} {st a : Addr} {k c : Int} (e : H st = some (.dK (stD a k c))) : DGet H st (.str "script") (some (.ref a)) := DGet.k (k := Sum.inr "script") e
theorem stD_at {H : Hp} {st a : Addr} {k c : Int} (e : H st = some (.dK (stD a k c))) : DGet H st (.str "at") (some (.int k)) := DGet.k (k := Sum.inr "at") e
theorem stD_left {H : Hp} {st a : Addr} {k c : Int} (e : H st = some (.dK (stD a k c))) : DGet H st (.str "left") (some (.int c)) := DGet.k (k := Sum.inr "left") e
theorem stD_putAt {H : Hp} {st a : Addr} {k c j : Int} (e : H st = some (.dK (stD a k c))) : DPut H st (.str "at") (.int j) (upd H st (.dK (stD a j c))) := DPut.k (k := Sum.inr "at") e (small1000 (show 3 <= 1000 by decide))
theorem stD_putLeft {H : Hp} {st a : Addr} {k c j : Int} (e : H st = some (.dK (stD a k c))) : DPut H st (.str "left") (.int j) (upd H st (.dK (stD a k j))) := DPut.k (k := Sum.inr "left") e (small1000 (show 3 <= 1000 by decide))
theorem stD_new {a : Addr} {k c : Int} : mergeK [] (stD a k c) = stD a k c := rfl
theorem Scr.keepD {K : PySem.W.Frag} {H H' : Hp} {a st : Addr} {ns : List Int} {xs : List (Key × V)} (h : Scr K H a ns) (hst : H st = some (.dK xs)) (k : Keep st H H') : Scr K H' a ns := by
 rcases h with ⟨o, h⟩ | h
 ·exact .inl ⟨o, k a _ (fun z => by rw [z, hst] at h; cases h) h⟩
 ·exact .inr h
def DrawD (K : PySem.W.Frag) (H : Hp) (st : Addr) : Prop := ∃ a ns k c, H st = some (.dK (stD a k c)) /\ Scr K H a ns /\ ns.length <= 63 /\ 0 <= k /\ 0 <= c
structure DrawnD (K : PySem.W.Frag) (st : Addr) (H H' : Hp) : Prop where
 draw : DrawD K H' st
 keep : Keep st H H'
theorem DrawnD.trans {K : PySem.W.Frag} {st : Addr} {H H1 H2 : Hp} (a : DrawnD K st H H1) (b : DrawnD K st H1 H2) : DrawnD K st H H2 := ⟨b.draw, a.keep.trans b.keep⟩
theorem DrawD.ne {K : PySem.W.Frag} {st b : Addr} {H : Hp} (d : DrawD K H st) (h : H b = none) : st ≠ b := by
 obtain ⟨a, ns, k, c, e, _⟩ := d
 exact zI e h
theorem DrawD.same {K : PySem.W.Frag} {st : Addr} {H H' : Hp} (d : DrawD K H st) (h : Same H H') : DrawD K H' st := by
 obtain ⟨a, ns, k, c, e, s, r⟩ := d
 exact ⟨a, ns, k, c, h _ _ e, s.keepD e (Keep.same h), r⟩
theorem DrawD.drawn {K : PySem.W.Frag} {st : Addr} {H H' : Hp} (d : DrawD K H st) (h : Same H H') : DrawnD K st H H' := ⟨d.same h, Keep.same h⟩
theorem DrawD.new {K : PySem.W.Frag} {st p : Addr} {H : Hp} (d : DrawD K H st) (h : H p = none) (o : HO) : DrawnD K st H (upd H p o) := d.drawn (zF h o)
theorem DrawD.put {K : PySem.W.Frag} {st p : Addr} {H : Hp} {xs ys : List V} (d : DrawD K H st) (hp : H p = some (.lst xs)) : DrawD K (upd H p (.lst ys)) st := by
 obtain ⟨a, ns, k, c, e, s, r⟩ := d
 refine ⟨a, ns, k, c, (by rw [zK (fun z => by rw [z, hp] at e; cases e)]; exact e), ?_, r⟩
 rcases s with ⟨o, s⟩ | s
 ·exact .inl ⟨o, by rw [zK (fun z => by rw [z, hp] at s; cases s)]; exact s⟩
 ·exact .inr s
def spBegin (K : PySem.W.Frag) : Sp := fun vs H Q _ => ∃ (a : Addr) (ns : List Int), vs = [.ref a] /\ Scr K H a ns /\ ns.length <= 63 /\ ∀ st H', H st = none -> Same H H' -> DrawD K H' st -> Q (.ref st) H'
def spTakeD (K : PySem.W.Frag) : Sp := fun vs H Q _ => ∃ (st : Addr) (many : Int), vs = [.ref st, .int many] /\ 0 < many /\ many < 1073741824 /\ DrawD K H st /\ ∀ (r : Int) (H' : Hp), 0 <= r -> r < many -> DrawnD K st H H' -> Q (.int r) H'
def spIntD (K : PySem.W.Frag) (B : Int -> Prop) : Sp := fun vs H Q _ => ∃ (st : Addr), vs = [.ref st] /\ DrawD K H st /\ ∀ (r : Int) (H' : Hp), B r -> DrawnD K st H H' -> Q (.int r) H'
theorem inV_ints (k : Int) : ∀ ns : List Int, inV (.int k) (ns.map V.int) = decide (k ∈ ns)
 | [] => rfl
 | n :: r => by
  have ih := inV_ints k r
  unfold inV at ih ⊢
  rw [List.map_cons, List.any_cons, ih]
  by_cases h : n = k
  ·subst h; simp [eqV]
  ·have h2 : ¬ k = n := fun z => h z.symm
   simp [eqV, h, h2]
theorem vt {a b : Int} (c : decide (V.int a = V.int b) = true) : a = b := by
 have := of_decide_eq_true c
 injection this
theorem vf {a b : Int} (c : ¬ decide (V.int a = V.int b) = true) : a ≠ b := fun e => c (decide_eq_true (by rw [e]))
theorem df {c : Prop} [Decidable c] (h : ¬ decide c = true) : ¬ c := of_decide_eq_false (Bool.eq_false_iff.mpr h)
theorem kK {ns : List Int} {k : Int} (h0 : 0 <= k) (h : k < (ns.length : Int)) : ∃ v : Int, v ∈ ns /\ atI (ns.map V.int) k = some (.int v) := by
 have hk : k.toNat < ns.length := by (first|lia|omega)
 have q : atI (ns.map V.int) ((k.toNat : Nat) : Int) = some (.int ns[k.toNat]) := kA (by rw [List.getElem?_map, List.getElem?_eq_getElem hk] <;> rfl)
 rw [show ((k.toNat : Nat) : Int) = k by (first|lia|omega)] at q
 exact ⟨_, List.getElem_mem hk, q⟩
end L2

namespace L2
open PySem
theorem Paired.yonder {α β : Type} {F : α -> β -> Prop} : ∀ {xs : List α} {ys : List β}, Paired F xs ys -> ∀ {j : Nat} {x : α}, xs[j]? = some x -> ∃ y, ys[j]? = some y /\ F x y
 | _, _, .nil, j, x, h => by cases h
 | _, _, .cons r t, 0, x, h => by cases h; exact ⟨_, rfl, r⟩
 | _, _, .cons r t, j + 1, x, h => Paired.yonder t (by simpa using h)
end L2

namespace L2
open PySem PySem.Spec PyProof.Rows
inductive Tr where
 | mk (kind : Int) (own : List Int) (parts : List Tr)
mutual
def preT : Tr -> List Tr
 | .mk k own ps => .mk k own ps :: preTs ps
def preTs : List Tr -> List Tr
 | [] => []
 | a :: r => preT a ++ preTs r
end
mutual
def nums : Tr -> List Int
 | .mk k own ps => k :: (own ++ numsL ps)
def numsL : List Tr -> List Int
 | [] => []
 | a :: r => nums a ++ numsL r
end
def headN : Tr -> List Int
 | .mk k own _ => k :: own
theorem jY : ∀ (xs ys : List Tr), preTs (xs ++ ys) = preTs xs ++ preTs ys
 | [], ys => by simp [preTs]
 | a :: r, ys => by simp [preTs, jY r ys]
theorem kT : ∀ (xs ys : List Tr), numsL (xs ++ ys) = numsL xs ++ numsL ys
 | [], ys => by simp [numsL]
 | a :: r, ys => by simp [numsL, kT r ys]
theorem preT_pos : ∀ n : Tr, 1 <= (preT n).length
 | .mk k own ps => by simp [preT]
theorem preTs_len : ∀ xs : List Tr, xs.length <= (preTs xs).length
 | [] => by simp [preTs]
 | a :: r => by
  have := preT_pos a
  have := preTs_len r
  simp [preTs]; (first|lia|omega)
theorem qG : ∀ xs : List Tr, (preTs xs.reverse).length = (preTs xs).length
 | [] => rfl
 | a :: r => by simp [preTs, jY, qG r]; (first|lia|omega)
mutual
theorem nums_pre : ∀ t : Tr, (preT t).flatMap headN = nums t
 | .mk k own ps => by
  rw [preT, List.flatMap_cons, nums_preL ps, nums]; rfl
theorem nums_preL : ∀ ts : List Tr, (preTs ts).flatMap headN = numsL ts
 | [] => by simp [preTs, numsL]
 | a :: r => by rw [preTs, List.flatMap_append, nums_pre a, nums_preL r, numsL]
end
mutual
theorem pre_nums : ∀ t : Tr, (preT t).length <= (nums t).length
 | .mk k own ps => by
  have := pre_numsL ps
  simp [preT, nums]; (first|lia|omega)
theorem pre_numsL : ∀ ts : List Tr, (preTs ts).length <= (numsL ts).length
 | [] => by simp [preTs, numsL]
 | a :: r => by
  have := pre_nums a
  have := pre_numsL r
  simp [preTs, numsL]; (first|lia|omega)
end
def TrAt (H : Hp) : Nat -> V -> Tr -> Prop
 | 0, _, _ => False
 | d + 1, v, .mk k own ps => ∃ t pl o q vs, v = .ref t /\ H t = some (.tup [.int k, .int pl, .ref o, .ref q]) /\ H o = some (.tup (own.map V.int)) /\ H q = some (.tup vs) /\ Paired (TrAt H d) vs ps
theorem TrAt.tups {H H' : Hp} (h : Tups H H') : ∀ {d : Nat} {v : V} {n : Tr}, TrAt H d v n -> TrAt H' d v n
 | 0, _, _, z => z.elim
 | d + 1, v, .mk k own ps, ⟨t, pl, o, q, vs, e, h1, h2, h3, r⟩ => ⟨t, pl, o, q, vs, e, h _ _ h1, h _ _ h2, h _ _ h3, Paired.imp (fun _ _ z => TrAt.tups h z) r⟩
theorem TrAt.more {H : Hp} : ∀ {d : Nat} {v : V} {n : Tr}, TrAt H d v n -> TrAt H (d + 1) v n
 | 0, _, _, z => z.elim
 | d + 1, v, .mk k own ps, ⟨t, pl, o, q, vs, e, h1, h2, h3, r⟩ => ⟨t, pl, o, q, vs, e, h1, h2, h3, Paired.imp (fun _ _ z => TrAt.more z) r⟩
theorem TrAt.up {H : Hp} {d : Nat} {v : V} {n : Tr} (h : TrAt H d v n) : ∀ {e : Nat}, d <= e -> TrAt H e v n := fun {e} le => by
 induction le with
 | refl => exact h
 | step _ ih => exact ih.more
theorem TrAt.refl {K : PySem.W.Frag} {H : Hp} : ∀ {d : Nat} {v : V} {n : Tr}, TrAt H d v n -> EqD K H (2 * d) v v
 | 0, _, _, z => z.elim
 | d + 1, v, .mk k own ps, ⟨t, pl, o, q, vs, e, h1, h2, h3, r⟩ =>
  .inr ⟨t, t, _, _, e, e, .inr ⟨.of h1, .of h1⟩, .cons (EqD.flat rfl _) (.cons (EqD.flat rfl _) (.cons (.inr ⟨o, o, _, _, rfl, rfl, .inr ⟨.of h2, .of h2⟩, EqD.intsN own⟩)
   (.cons (.inr ⟨q, q, _, _, rfl, rfl, .inr ⟨.of h3, .of h3⟩, pair_all (F := TrAt H d) (G := TrAt H d) (R := fun x y => x = y -> EqD K H (2 * d) x y) (fun x y z a _ e => by subst e; exact TrAt.refl a) r r |> fun p => by
    have diag : ∀ {xs : List V}, Paired (fun x y => x = y -> EqD K H (2 * d) x y) xs xs -> Paired (EqD K H (2 * d)) xs xs := by
     intro xs p
     induction xs with
     | nil => exact .nil
     | cons a t ih => cases p with
      | cons h u => exact .cons (h rfl) (ih u)
    exact diag p⟩) .nil)))⟩
mutual
def bare : Nd -> Tr
 | .mk k _ own ps => .mk k own (bareL ps)
def bareL : List Nd -> List Tr
 | [] => []
 | a :: r => bare a :: bareL r
end
theorem NodeAt.bare {H : Hp} : ∀ {d : Nat} {v : V} {n : Nd}, NodeAt H d v n -> TrAt H d v (L2.bare n)
 | 0, _, _, z => z.elim
 | d + 1, v, .mk k p own ps, ⟨t, o, q, vs, e, h1, h2, h3, r⟩ => by
  refine ⟨t, p, o, q, vs, e, h1, h2, h3, ?_⟩
  have go : ∀ {xs : List V} {ys : List Nd}, Paired (NodeAt H d) xs ys -> Paired (TrAt H d) xs (bareL ys) := by
   intro xs ys p
   induction p with
   | nil => exact .nil
   | cons h t ih => exact .cons (NodeAt.bare h) ih
  exact go r
abbrev Fn := (Int × Int) × Tr
def FTAt (H : Hp) (d : Nat) (v : V) (f : Fn) : Prop := ∃ t b, v = .ref t /\ H t = some (.tup [.int f.1.1, .int f.1.2, b]) /\ TrAt H d b f.2
theorem FTAt.tups {H H' : Hp} (h : Tups H H') {d : Nat} {v : V} {n : Fn} : FTAt H d v n -> FTAt H' d v n := fun ⟨t, b, e, q, z⟩ => ⟨t, b, e, h _ _ q, z.tups h⟩
theorem FTAt.up {H : Hp} {d e : Nat} (le : d <= e) {v : V} {n : Fn} : FTAt H d v n -> FTAt H e v n := fun ⟨t, b, e, q, z⟩ => ⟨t, b, e, q, z.up le⟩
theorem FTAt.refl {K : PySem.W.Frag} {H : Hp} {d : Nat} {v : V} {n : Fn} : FTAt H d v n -> EqD K H (2 * d + 1) v v := fun ⟨t, b, e, q, z⟩ =>
 .inr ⟨t, t, _, _, e, e, .inr ⟨.of q, .of q⟩, .cons (EqD.flat rfl _) (.cons (EqD.flat rfl _) (.cons z.refl .nil))⟩
theorem FTAt.same {K : PySem.W.Frag} {H : Hp} {d : Nat} : ∀ {vs : List V} {fs : List Fn}, Paired (FTAt H d) vs fs -> Paired (EqD K H (2 * d + 1)) vs vs
 | _, _, .nil => .nil
 | _, _, .cons h t => .cons h.refl (FTAt.same t)
def headsW (fs : List Fn) : List Int := fs.flatMap fun f => [f.1.1, f.1.2]
def bodiesW (fs : List Fn) : List Int := fs.flatMap fun f => nums f.2
def wr (fs : List Fn) : List Int := (fs.length : Int) :: (headsW fs ++ bodiesW fs)
section

theorem list_extend_tup (l : Addr) (items : Array Value) (n : Nat) (b : Addr) (items2 : Array Value) (n2 : Nat) (dd : Option Addr) (sl : Array (Option Value)) (hs0 : ¬(!items.isEmpty && Builtin.List.listTooLong (items.size + items2.size)) = true) (hs1 : items.size <= sizeLine) (hs2 : items.size + items2.size <= sizeLine + 1) :
  Meets (Builtin.«list.extend» ⟨[.ref l, .ref b], []⟩) (fun _ R s => s.heap.get? l = some { cls := .type "list", dict := none, data := .seq items n, slots := #[] } /\ s.heap.get? b = some ⟨.type "tuple", dd, .seq items2 n2, sl⟩ /\ R (.ok (.ret Value.none)) { s with heap := s.heap.update l (Obj.mapSeq fun x => x ++ items2), toks := s.toks }) :=
 .of_wp fun _ _ _ _ σs hyp => by
  obtain ⟨σh, σg, σd, σt, σo⟩ := σs
  obtain ⟨atL, atB, fin⟩ := hyp
  have r1 := AutoSeq1.idx_int
  have r2 := AutoSeq1.sub_tuple_tuple
  have r3 := AutoSeq1.sub_list_list
  have r4 := AutoSeq1.sub_tuple_list
  have r5 := AutoSeq1.sub_list_tuple
  have fits : (items ++ items2).size <= sizeLine + 1 := by simpa using hs2
  wp_walk using (wpAny_updateSeq atL rfl (hz := hs1) (_hz' := fits)), AutoSeq1.wpAny_loadPart' atL, AutoSeq1.wpAny_loadPart' atB
  exact ⟨_, rfl, fin⟩
end
section
variable {X : Cx}
def rExtendT : V -> List V -> Hp -> VK -> Prop := fun x vs H Q => ∃ l b xs zs, x = .ref l /\ vs = [.ref b] /\ H l = some (.lst xs) /\ H b = some (.tup zs) /\ xs.length + zs.length <= sizeLine /\ Q .non (upd H l (.lst (xs ++ zs)))
theorem mt_extendT : MtM X "list.extend" rExtendT := by
 intro pins s σ H x vs v us Q I rx rv h
 obtain ⟨l, b, xs, zs, rfl, rfl, hH, hB, hz, q⟩ := h
 cases rx
 obtain ⟨u, rfl, ru⟩ := rv.one
 cases ru
 obtain ⟨z, its, n, r, hl, e⟩ := I.lstM hH
 obtain ⟨_, its2, r2, p⟩ := (show ObjOk X.prog X.w H s.heap b (.tup zs) from I.hok b _ hB)
 obtain ⟨⟨oc, od, oda, osl⟩, h1, h2, n2, h3⟩ := p
 dsimp only at h2 h3
 subst h2 h3
 have hl2 := r2.length
 have hsz : its.toArray.size + its2.toArray.size <= sizeLine := by rw [List.size_toArray, List.size_toArray]; (first|lia|omega)
 have hlong : ¬ (!its.toArray.isEmpty && Builtin.List.listTooLong (its.toArray.size + its2.toArray.size)) = true := by
  rw [notLongL hsz, Bool.and_false]
  exact Bool.false_ne_true
 refine call_meets F.slot_list_extend ⟨_, e, rfl⟩ F.entry_list_extend (F.args_list_extend_2 _ _)
  (list_extend_tup l its.toArray n b its2.toArray n2 od osl hlong (by rw [List.size_toArray]; (first|lia|omega)) (by (first|lia|omega))) ⟨e, h1, ?_⟩
 refine ⟨.non, _, I.lset (its' := its ++ its2) hH e (by simp) (r.append r2) ?_, rfl, q⟩
 rw [List.length_append]
 (first|lia|omega)
end
def fnsOf (r : Hds × List Nd) : List Fn := r.1.zip (bareL r.2)
theorem fnsOf_at {H : Hp} {l : Addr} {r : Hds × List Nd} (h : FnsAt H l r) : ∃ rs, H l = some (.lst rs) /\ Paired (FTAt H 10) rs (fnsOf r) := by
 obtain ⟨rs, el, ln, pr⟩ := h
 refine ⟨rs, el, ?_⟩
 unfold fnsOf
 obtain ⟨hs, nds⟩ := r
 simp only at ln pr ⊢
 clear el
 induction hs generalizing rs nds with
 | nil => cases pr; exact .nil
 | cons h hs ih =>
  cases nds with
  | nil => cases ln
  | cons n nds =>
   cases pr with
   | cons a t =>
    obtain ⟨t1, b, e, q, z⟩ := a
    exact .cons ⟨t1, b, e, q, z.bare⟩ (ih _ _ (Nat.succ.inj ln) t)
theorem wU (fs : List Fn) : (headsW fs).length = 2 * fs.length := by
 unfold headsW
 induction fs with
 | nil => rfl
 | cons f r ih =>
  have : (List.flatMap (fun f : Fn => [f.1.1, f.1.2]) (f :: r)).length = 2 + (List.flatMap (fun f : Fn => [f.1.1, f.1.2]) r).length := by rw [List.flatMap_cons, List.length_append] <;> rfl
  rw [this, ih, List.length_cons]; (first|lia|omega)
theorem headsW_snoc (fs : List Fn) (f : Fn) : headsW (fs ++ [f]) = headsW fs ++ [f.1.1, f.1.2] := by
 unfold headsW
 rw [List.flatMap_append]; rfl
theorem bodiesW_snoc (fs : List Fn) (f : Fn) : bodiesW (fs ++ [f]) = bodiesW fs ++ nums f.2 := by
 unfold bodiesW
 rw [List.flatMap_append]; simp
theorem wr_len (fs : List Fn) : (wr fs).length = 1 + 2 * fs.length + (bodiesW fs).length := by
 unfold wr
 rw [List.length_cons, List.length_append, wU]; (first|lia|omega)
theorem bodiesW_take (fs : List Fn) (i : Nat) : (bodiesW (fs.take i)).length <= (bodiesW fs).length := by
 have : bodiesW fs = bodiesW (fs.take i) ++ bodiesW (fs.drop i) := by
  unfold bodiesW
  rw [<- List.flatMap_append, List.take_append_drop]
 rw [this, List.length_append]; (first|lia|omega)
theorem flat_take (ts : List Tr) (i : Nat) : ((ts.take i).flatMap headN).length <= (ts.flatMap headN).length := by
 have : ts.flatMap headN = (ts.take i).flatMap headN ++ (ts.drop i).flatMap headN := by rw [<- List.flatMap_append, List.take_append_drop]
 rw [this, List.length_append]; (first|lia|omega)
theorem Same.fails {H H7 : Hp} {sh CN : Addr} {E : XK} {p : Nat} {w : Str} (g : Same H H7) (hs : H sh = none) (t : ∀ dx H', Same H H' -> H' dx = some (XdO dx [("place", .int (p : Nat)), ("word", .str w)]) -> E (.ref CN) (some dx) H') : Fails CN sh H7 E p w :=
 fun dx H' k e => t dx H' (fun b o hb => k b o (zI hb hs) (g _ _ hb)) e
mutual
def okT : Tr -> Prop
 | .mk k own ps => (k = 3 \/ k = 4 -> own ≠ []) /\ okTs ps
def okTs : List Tr -> Prop
 | [] => True
 | a :: r => okT a /\ okTs r
end
end L2

namespace L2
open PySem PySem.Spec PyProof.Rows
section
variable {X : Cx} {tg : Expr}
end
end L2

namespace L2
open PySem PySem.Spec PyProof.Rows
structure RowsAt (H : Hp) (rp : Addr) (rs : List Addr) (rows : List (List Int)) : Prop where
 here : H rp = some (.lst (rs.map V.ref))
 nd : rs.Nodup
 len : rs.length = rows.length
 row : ∀ (n : Nat) (r : Addr) (xs : List Int), rs[n]? = some r -> rows[n]? = some xs -> H r = some (.lst (xs.map V.int))
theorem RowsAt.is {H : Hp} {rp : Addr} {rs : List Addr} {rows : List (List Int)} (h : RowsAt H rp rs rows) {n : Nat} {r : Addr} (e : rs[n]? = some r) : ∃ xs, rows[n]? = some xs /\ H r = some (.lst (xs.map V.int)) := by
 have hn : n < rs.length := (List.getElem?_eq_some_iff.mp e).1
 exact ⟨_, List.getElem?_eq_getElem (by rw [<- h.len]; exact hn), h.row n r _ e (List.getElem?_eq_getElem (by rw [<- h.len]; exact hn))⟩
theorem RowsAt.mem {H : Hp} {rp : Addr} {rs : List Addr} {rows : List (List Int)} (h : RowsAt H rp rs rows) {r : Addr} (e : r ∈ rs) : ∃ xs : List Int, H r = some (.lst (xs.map V.int)) := by
 obtain ⟨n, hn⟩ := List.mem_iff_getElem?.mp e
 obtain ⟨xs, _, q⟩ := h.is hn
 exact ⟨xs, q⟩
theorem RowsAt.out {H : Hp} {rp : Addr} {rs : List Addr} {rows : List (List Int)} (h : RowsAt H rp rs rows) : rp ∉ rs := by
 intro e
 obtain ⟨xs, q⟩ := h.mem e
 rw [h.here] at q
 injection q with q
 injection q with q
 cases rs with
 | nil => cases e
 | cons a t =>
  cases xs with
  | nil => cases q
  | cons x u => rw [List.map_cons, List.map_cons] at q; injection q with q _; cases q
def KeepL (as : List Addr) (H H' : Hp) : Prop := ∀ b o, b ∉ as -> H b = some o -> H' b = some o
theorem KeepL.same {as : List Addr} {H H' : Hp} (h : Same H H') : KeepL as H H' := fun b o _ e => h b o e
theorem KeepL.refl (as : List Addr) (H : Hp) : KeepL as H H := fun _ _ _ e => e
theorem KeepL.trans {as : List Addr} {H H1 H2 : Hp} (a : KeepL as H H1) (b : KeepL as H1 H2) : KeepL as H H2 := fun c o n e => b c o n (a c o n e)
theorem KeepL.upd {as : List Addr} {H : Hp} {a : Addr} {o : HO} (h : a ∈ as) : KeepL as H (upd H a o) := fun c u n e => by
 have z : c ≠ a := fun z => n (by rw [z]; exact h)
 rw [zK z]; exact e
theorem RowsAt.keep {H H' : Hp} {rp : Addr} {rs : List Addr} {rows : List (List Int)} (h : RowsAt H rp rs rows) (k : ∀ b o, b ∈ rp :: rs -> H b = some o -> H' b = some o) : RowsAt H' rp rs rows :=
 ⟨k _ _ (List.mem_cons_self ..) h.here, h.nd, h.len, fun n r xs e q => k _ _ (List.mem_cons_of_mem _ (List.mem_iff_getElem?.mpr ⟨n, e⟩)) (h.row n r xs e q)⟩
theorem RowsAt.same {H H' : Hp} {rp : Addr} {rs : List Addr} {rows : List (List Int)} (h : RowsAt H rp rs rows) (k : Same H H') : RowsAt H' rp rs rows := h.keep fun b o _ e => k b o e
theorem RowsAt.set {H : Hp} {rp r : Addr} {rs : List Addr} {rows : List (List Int)} {n : Nat} (h : RowsAt H rp rs rows) (e : rs[n]? = some r) (ys : List Int) : RowsAt (upd H r (.lst (ys.map V.int))) rp rs (rows.set n ys) := by
 have hm : r ∈ rs := List.mem_iff_getElem?.mpr ⟨n, e⟩
 have hp : rp ≠ r := fun z => h.out (by rw [z]; exact hm)
 refine ⟨by rw [zK hp]; exact h.here, h.nd, by rw [List.length_set]; exact h.len, fun m q xs em ex => ?_⟩
 by_cases hmn : m = n
 ·subst hmn
  rw [e] at em
  cases em
  have hl : m < rows.length := by rw [<- h.len]; exact (List.getElem?_eq_some_iff.mp e).1
  rw [List.getElem?_set_self hl] at ex
  cases ex
  exact zB
 ·rw [List.getElem?_set_ne (Ne.symm hmn)] at ex
  have hq : q ≠ r := by
   intro z
   subst z
   have h1 := (List.getElem?_eq_some_iff.mp em)
   have h2 := (List.getElem?_eq_some_iff.mp e)
   obtain ⟨l1, g1⟩ := h1
   obtain ⟨l2, g2⟩ := h2
   exact hmn ((List.getElem_inj h.nd).mp (g1.trans g2.symm))
  rw [zK hq]
  exact h.row m q xs em ex
theorem RowsAt.push {H : Hp} {rp q : Addr} {rs : List Addr} {rows : List (List Int)} (h : RowsAt H rp rs rows) (hq : H q = none) :
  RowsAt (upd (upd H q (.lst [])) rp (.lst ((rs ++ [q]).map V.ref))) rp (rs ++ [q]) (rows ++ [[]]) := by
 have hnr : q ∉ rs := fun e => by
  obtain ⟨xs, z⟩ := h.mem e
  rw [hq] at z; cases z
 have hnp : q ≠ rp := fun e => by
  have := h.here
  rw [<- e, hq] at this; cases this
 refine ⟨zB, ?_, by rw [List.length_append, List.length_append, h.len] <;> rfl, fun n r xs e ex => ?_⟩
 ·rw [List.nodup_append]
  exact ⟨h.nd, List.nodup_cons.mpr ⟨List.not_mem_nil, List.nodup_nil⟩, fun a ha b hb => by rw [List.mem_singleton] at hb; rw [hb]; exact fun z => hnr (z ▸ ha)⟩
 ·by_cases hn : n < rs.length
  ·rw [List.getElem?_append_left hn] at e
   rw [List.getElem?_append_left (by rw [<- h.len]; exact hn)] at ex
   have hm : r ∈ rs := List.mem_iff_getElem?.mpr ⟨n, e⟩
   have z1 : r ≠ rp := fun z => h.out (by rw [<- z]; exact hm)
   have z2 : r ≠ q := fun z => hnr (by rw [<- z]; exact hm)
   rw [zK z1, zK z2]
   exact h.row n r xs e ex
  ·have hl : n < (rs ++ [q]).length := (List.getElem?_eq_some_iff.mp e).1
   rw [List.length_append, List.length_singleton] at hl
   have hn' : n = rs.length := by (first|lia|omega)
   subst hn'
   rw [List.getElem?_append_right (Nat.le_refl _), Nat.sub_self] at e
   rw [List.getElem?_append_right (by rw [h.len] <;> exact Nat.le_refl _), h.len, Nat.sub_self] at ex
   cases e; cases ex
   rw [zK hnp]
   exact zB
theorem qJ {α : Type} {xs : List α} {k : Int} {v : α} (h0 : 0 <= k) (h : xs[k.toNat]? = some v) : atI xs k = some v := by
 have := kA h
 rwa [show ((k.toNat : Nat) : Int) = k by (first|lia|omega)] at this
theorem yK {H : Hp} {r t : Addr} {o : HO} (h : upd H r o t = none) : t ≠ r /\ H t = none := by
 by_cases e : t = r
 ·subst e; rw [zB] at h; cases h
 ·rw [zK e] at h; exact ⟨e, h⟩
abbrev G100 : Int := 10000000000000000000000000000000000000000000000000000000000000000000000000000000000000000000000000000
def wV (v : Int) : List V := if v ≥ G100 \/ v <= -G100 then [.str "great", .int 0] else [.non, .int v]
def reckV (k a b : Int) : List V :=
 if k = 8 then wV (a + b) else if k = 9 then wV (a - b) else if k = 10 then wV (a * b) else if k = 13 then [.non, .int (if a < b then 1 else 0)] else if k = 14 then [.non, .int (if a = b then 1 else 0)]
 else if b = 0 then [.str "zero", .int 0] else if k = 11 then [.non, .int (a.fdiv b)] else [.non, .int (a.fmod b)]
def rowM (k v0 v1 v2 : Int) (rows : List (List Int)) : List V × List (List Int) :=
 if v0 < 0 \/ v0 ≥ rows.length then ([.str "row", .int 0], rows)
 else if k = 18 then ([.non, .int (rows.getD v0.toNat []).length], rows)
 else if k = 15 then ([.non, .int v1], rows.set v0.toNat (rows.getD v0.toNat [] ++ [v1]))
 else if v1 < 0 \/ v1 ≥ (rows.getD v0.toNat []).length then ([.str "place", .int 0], rows)
 else if k = 17 then ([.non, .int v2], rows.set v0.toNat ((rows.getD v0.toNat []).set v1.toNat v2))
 else ([.non, .int ((rows.getD v0.toNat []).getD v1.toNat 0)], rows)
def worthM (k v0 v1 v2 : Int) (rows : List (List Int)) : List V × List (List Int) :=
 if k = 19 then ([.non, .int rows.length], rows ++ [[]]) else if k ≥ 15 then rowM k v0 v1 v2 rows else (reckV k v0 v1, rows)
def arity (k : Int) : Nat := if k = 19 then 0 else if k = 18 then 1 else if k = 17 then 3 else 2
def spDWithin : Sp := fun vs H Q _ => ∃ v : Int, vs = [.int v] /\ ∀ p H', H p = none -> H' = upd H p (.tup (wV v)) -> Q (.ref p) H'
def spReck : Sp := fun vs H Q _ => ∃ k a b : Int, vs = [.int k, .int a, .int b] /\ a.natAbs < 2 ^ 2000 /\ b.natAbs < 2 ^ 2000 /\ ∀ p H', H p = none -> H' = upd H p (.tup (reckV k a b)) -> Q (.ref p) H'
structure Deed (H H' : Hp) (p rp : Addr) (rs rs' : List Addr) (o : List V × List (List Int)) : Prop where
 new : H p = none
 told : H' p = some (.tup o.1)
 rows : RowsAt H' rp rs' o.2
 keep : KeepL (rp :: rs) H H'
 more : rs' = rs \/ ∃ q, H q = none /\ q ≠ p /\ rs' = rs ++ [q]
def spRow : Sp := fun vs H Q _ => ∃ (k v0 v1 v2 : Int) (vp rp : Addr) (vals : List Int) (rs : List Addr) (rows : List (List Int)), vs = [.int k, .ref vp, .ref rp] /\ H vp = some (.lst (vals.map V.int)) /\
 vals = [v0, v1, v2].take (arity k) /\ 15 <= k /\ k <= 18 /\ vp ∉ rp :: rs /\ RowsAt H rp rs rows /\ (∀ xs ∈ rows, xs.length < sizeLine) /\ ∀ p H', Deed H H' p rp rs rs (rowM k v0 v1 v2 rows) -> Q (.ref p) H'
def spWorth : Sp := fun vs H Q _ => ∃ (k v0 v1 v2 : Int) (vp rp : Addr) (vals : List Int) (rs : List Addr) (rows : List (List Int)), vs = [.int k, .ref vp, .ref rp] /\ H vp = some (.lst (vals.map V.int)) /\
 vals = [v0, v1, v2].take (arity k) /\ 8 <= k /\ k <= 19 /\ vp ∉ rp :: rs /\ RowsAt H rp rs rows /\ (∀ xs ∈ rows, xs.length < sizeLine) /\ rows.length < sizeLine /\ (k <= 14 -> v0.natAbs < 2 ^ 2000 /\ v1.natAbs < 2 ^ 2000) /\
 ∀ p H' rs', Deed H H' p rp rs rs' (worthM k v0 v1 v2 rows) -> Q (.ref p) H'
theorem DrawD.neL {K : PySem.W.Frag} {st b : Addr} {H : Hp} {xs : List V} (d : DrawD K H st) (h : H b = some (.lst xs)) : b ≠ st := by
 obtain ⟨a, ns, k, c, e, _⟩ := d
 intro z
 rw [z, e] at h
 cases h
theorem qT {rows : List (List Int)} {n : Nat} {ys xs : List Int} (h : xs ∈ rows.set n ys) : xs ∈ rows \/ xs = ys := by
 rcases List.mem_or_eq_of_mem_set h with h | h
 ·exact .inl h
 ·exact .inr h
theorem getD_len {rows : List (List Int)} {n N : Nat} (h : ∀ xs ∈ rows, xs.length <= N) : (rows.getD n []).length <= N := by
 rw [List.getD_eq_getElem?_getD]
 cases e : rows[n]? with
 | none => exact Nat.zero_le _
 | some xs => exact h xs (List.mem_iff_getElem?.mpr ⟨n, e⟩)
theorem rowM_len {k v0 v1 v2 : Int} {rows : List (List Int)} {N : Nat} (h : ∀ xs ∈ rows, xs.length <= N) : (rowM k v0 v1 v2 rows).2.length = rows.length /\ ∀ xs ∈ (rowM k v0 v1 v2 rows).2, xs.length <= N + 1 := by
 have old : ∀ xs ∈ rows, xs.length <= N + 1 := fun xs hx => Nat.le_succ_of_le (h xs hx)
 have hg := getD_len (n := v0.toNat) h
 unfold rowM
 split
 ·exact ⟨rfl, old⟩
 split
 ·exact ⟨rfl, old⟩
 split
 ·refine ⟨List.length_set .., fun xs hx => ?_⟩
  rcases qT hx with hx | hx
  ·exact old xs hx
  ·rw [hx, List.length_append, List.length_singleton]; (first|lia|omega)
 split
 ·exact ⟨rfl, old⟩
 split
 ·refine ⟨List.length_set .., fun xs hx => ?_⟩
  rcases qT hx with hx | hx
  ·exact old xs hx
  ·rw [hx, List.length_set]; (first|lia|omega)
 ·exact ⟨rfl, old⟩
theorem worthM_len {k v0 v1 v2 : Int} {rows : List (List Int)} {N : Nat} (h : ∀ xs ∈ rows, xs.length <= N) : rows.length <= (worthM k v0 v1 v2 rows).2.length /\ (worthM k v0 v1 v2 rows).2.length <= rows.length + 1 /\ ∀ xs ∈ (worthM k v0 v1 v2 rows).2, xs.length <= N + 1 := by
 have old : ∀ xs ∈ rows, xs.length <= N + 1 := fun xs hx => Nat.le_succ_of_le (h xs hx)
 unfold worthM
 split
 ·refine ⟨by simp, by simp, fun xs hx => ?_⟩
  rcases List.mem_append.mp hx with hx | hx
  ·exact old xs hx
  ·rw [List.mem_singleton.mp hx]; exact Nat.zero_le _
 split
 ·obtain ⟨e, q⟩ := rowM_len (k := k) (v0 := v0) (v1 := v1) (v2 := v2) h
  exact ⟨by (first|lia|omega), by (first|lia|omega), q⟩
 ·exact ⟨Nat.le_refl _, Nat.le_succ _, old⟩
end L2

namespace L2
open PySem
end L2
namespace L2
open PySem
end L2
namespace L2
open PySem
theorem snoc_get {α : Type} {xs : List α} {x g : α} {j : Nat} (h : (xs ++ [x])[j]? = some g) : xs[j]? = some g \/ j = xs.length /\ g = x := by
 by_cases hj : j < xs.length
 ·rw [List.getElem?_append_left hj] at h
  exact .inl h
 ·rw [List.getElem?_append_right (by (first|lia|omega))] at h
  have : j - xs.length = 0 := by
   have := (List.getElem?_eq_some_iff.mp h).1
   simp at this
   (first|lia|omega)
  rw [this] at h
  cases h
  exact .inr ⟨by (first|lia|omega), rfl⟩
end L2
namespace L2
open PySem
section
variable {X : Cx}
end
end L2

namespace L2
open PySem
end L2

namespace L2
open PySem
end L2

namespace L2
open PySem PySem.Spec PyProof.Rows
section
variable {pg : Program} {wd : World} {B : Around} {xs : Value -> Shared -> Prop}
end
section
variable {X : Cx} {pos : Pos}
end
end L2

namespace L2
open PySem
abbrev Prs := List (Int × Int)
def jmp (rs : Prs) (i : Nat) : Prop := ∃ n, rs[i]? = some (4, n)
instance (rs : Prs) (i : Nat) : Decidable (jmp rs i) :=
 match h : rs[i]? with
 | none => isFalse fun ⟨n, e⟩ => by rw [h] at e; cases e
 | some (op, n) => if e : op = 4 then isTrue ⟨n, by rw [h, e]⟩ else isFalse fun ⟨m, z⟩ => by rw [h] at z; cases z; exact e rfl
def stp (rs : Prs) (i : Nat) : Nat := match rs[i]? with
 | some (op, n) => if op = 4 then n.toNat else i
 | none => i
def its (rs : Prs) : Nat -> Nat -> Nat
 | 0, i => i
 | k + 1, i => stp rs (its rs k i)
end L2
namespace L2
open PySem
end L2

namespace L2
open PySem
inductive Out where
 | go (pc : Nat) (held : List Int) (br : Int)
 | bad (w : Str) (n : Int)
 | done (v : Int)
def pop (held : List Int) (f : List Int -> Int -> Out) : Out := match held.getLast? with
 | none => .bad "stray" 0
 | some v => f held.dropLast v
structure Ads where
 (m dm hd sp rw r0 r1 bd d dd bx hl : Addr)
section
variable {CM CD : Addr} {H0 H : Hp} {A : Ads} {rs : Prs} {pc : Nat} {held : List Int} {br : Int}
end
def FaultS (CF : Addr) (H : Hp) (E : XK) (w : Str) (n : Int) : Prop := ∀ d H', Same H H' -> H' d = some (XdO d [("word", .str w), ("number", .int n)]) -> E (.ref CF) (some d) H'
def spInitF (C : Addr) : Sp := fun vs H Q _ => ∃ x y z, vs = [.ref x, y, z] /\ H x = some (ExN x C none) /\
 ∀ d H', d ≠ x -> H d = none -> (∀ b o, b ≠ x -> H b = some o -> H' b = some o) -> H' x = some (ExN x C (some d)) -> H' d = some (XdO d [("word", y), ("number", z)]) -> Q .non H'
theorem raisedF {C : Addr} {H : Hp} {E E' : XK} {w : Str} {n : Int} (f : FaultS C H E w n) : ∀ x, H x = none ->
  spInitF C [.ref x, .str w, .int n] (upd H x (ExN x C none)) (fun v H2 => v = .non /\ ∃ d, H2 x = some (ExN x C (some d)) /\ E (.ref C) (some d) (upd H2 x (ExO x C (some d)))) E' := by
 intro x hx
 refine ⟨x, _, _, rfl, zB, fun d H' dx hd kp ex ed => ⟨rfl, d, ex, f d _ (fun b o e => ?_) ?_⟩⟩
 ·have nx : b ≠ x := zI e hx
  rw [zK nx]
  exact kp b o nx (by rw [zK nx]; exact e)
 ·rw [zK dx]; exact ed
section
variable {rs : Prs} {f pc a : Nat} {held h : List Int} {br b v n : Int} {w : Str} {r : Int × Int}
end
section
variable {rs : Prs} {f pc a : Nat} {held h : List Int} {br b v n : Int} {w : Str} {r : Int × Int}
end
end L2

namespace L2
open PySem
inductive Ro where
 | m | bd | hd | sp | rw
 | row (i : Nat)
 | d (i : Nat)
 | bx (i : Nat)
 | hl (i : Nat)
structure Fr where
 pc : Nat
 bx : List Int
 hl : List Int
structure MS where
 rows : List (List Int)
 frs : List Fr
 br : Int
 va : Int
structure Pl where
 ad : Ro -> Addr
 dd : Nat -> Addr
 dm : Addr
 uh : List V
 us : List V
def MS.f (s : MS) (i : Nat) : Fr := s.frs.getD i ⟨0, [], []⟩
def MG (CM : Addr) (A : Pl) (br va : Int) : HO := .ins CM A.dm [("heads", .ref (A.ad .hd)), ("steps", .ref (A.ad .sp)), ("rows", .ref (A.ad .rw)), ("breaths", .int br), ("being_done", .ref (A.ad .bd)), ("value", .int va)]
def DG (CD : Addr) (A : Pl) (i : Nat) (pc : Int) : HO := .ins CD (A.dd i) [("at", .int pc), ("boxes", .ref (A.ad (.bx i))), ("held", .ref (A.ad (.hl i)))]
def bdL (A : Pl) (n : Nat) : List V := (List.range n).map fun i => V.ref (A.ad (.d i))
def rwL (A : Pl) (n : Nat) : List Addr := (List.range n).map fun i => A.ad (.row i)
def cont (CM CD : Addr) (A : Pl) (s : MS) : Ro -> HO
 | .m => MG CM A s.br s.va
 | .bd => .lst (bdL A s.frs.length)
 | .hd => .lst A.uh
 | .sp => .lst A.us
 | .rw => .lst ((rwL A s.rows.length).map V.ref)
 | .row i => .lst ((s.rows.getD i []).map V.int)
 | .d i => DG CD A i (s.f i).pc
 | .bx i => .lst ((s.f i).bx.map V.int)
 | .hl i => .lst ((s.f i).hl.map V.int)
section
variable {CM CD : Addr} {H0 H : Hp} {A : Pl} {hs rs : List (List Int)} {s : MS}
end
section
variable {CM CD : Addr} {H0 H H1 : Hp} {A : Pl} {hs rs : List (List Int)} {s : MS}
end
section
variable {CM CD : Addr} {H0 H H1 : Hp} {A : Pl} {hs rs : List (List Int)} {s : MS} {x dx bx hl : Addr} {pc : Nat} {zs : List Int}
end
section
variable {CM CD : Addr} {H0 H H1 : Hp} {A : Pl} {hs rs : List (List Int)} {s : MS}
end
inductive OG where
 | go (s : MS)
 | bad (w : Str) (n : Int) (rows : List (List Int))
section
variable {hs rs : List (List Int)} {s s' : MS} {fuel : Nat} {op n k : Int} {w : Str} {rows : List (List Int)}
end
def Vb (v : Int) : Prop := v.natAbs < 2 ^ 2000
section
variable {CM CD : Addr} {H0 H : Hp} {A : Pl} {hs rs : List (List Int)} {s : MS}
end
theorem wV_two (v : Int) : (∃ i, wV v = [.non, .int i]) \/ ∃ z, wV v = [.str z, .int 0] := by
 unfold wV
 split
 ·exact .inr ⟨_, rfl⟩
 ·exact .inl ⟨_, rfl⟩
theorem reckV_two (k a b : Int) : (∃ i, reckV k a b = [.non, .int i]) \/ ∃ z, reckV k a b = [.str z, .int 0] := by
 unfold reckV
 repeat' split
 all_goals first | exact wV_two _ | exact .inl ⟨_, rfl⟩ | exact .inr ⟨_, rfl⟩
theorem rowM_two (k v0 v1 v2 : Int) (rows : List (List Int)) : (∃ i, (rowM k v0 v1 v2 rows).1 = [.non, .int i]) \/ ∃ z, (rowM k v0 v1 v2 rows).1 = [.str z, .int 0] := by
 unfold rowM
 repeat' split
 all_goals first | exact .inl ⟨_, rfl⟩ | exact .inr ⟨_, rfl⟩
theorem wO (k v0 v1 v2 : Int) (rows : List (List Int)) : (∃ i, (worthM k v0 v1 v2 rows).1 = [.non, .int i]) \/ ∃ z, (worthM k v0 v1 v2 rows).1 = [.str z, .int 0] := by
 unfold worthM
 split
 ·exact .inl ⟨_, rfl⟩
 split
 ·exact rowM_two ..
 ·exact reckV_two ..
theorem three_of : ∀ {vs : List Int} {n : Nat}, vs.length = n -> n <= 3 -> vs = [vs.getD 0 0, vs.getD 1 0, vs.getD 2 0].take n
 | [], _, rfl, _ => rfl
 | [_], _, rfl, _ => rfl
 | [_, _], _, rfl, _ => rfl
 | [_, _, _], _, rfl, _ => rfl
 | _ :: _ :: _ :: _ :: _, _, rfl, h => absurd h (by simp)
theorem arity_le (k : Int) : arity k <= 3 := by unfold arity; split; decide; split; decide; split <;> decide
end L2

namespace L2
open PySem
theorem Vb.small {v : Int} (h : v.natAbs <= 100000) : Vb v := Nat.lt_of_le_of_lt h (show 100000 < 2 ^ 2000 by decide +kernel)
theorem g100_lt : G100.natAbs < 2 ^ 2000 := by decide +kernel
theorem Vb.g100 {v : Int} (h : ¬ (v ≥ G100 \/ v <= -G100)) : Vb v := Nat.lt_trans (show v.natAbs < G100.natAbs by (first|lia|omega)) g100_lt
theorem wV_vb {v i : Int} (e : wV v = [.non, .int i]) : Vb i := by
 unfold wV at e
 split at e
 ·cases e
 ·cases e; exact Vb.g100 (by assumption)
theorem fmod_le {a b : Int} (h0 : ¬ b = 0) : (a.fmod b).natAbs <= b.natAbs := by
 rcases Int.lt_or_gt_of_ne h0 with h | h
 ·have h1 := Int.emod_nonneg a h0
  have h2 := Int.emod_lt_of_neg a h
  rw [Int.fmod_eq_emod]
  split
  ·(first|lia|omega)
  ·(first|lia|omega)
 ·have h1 := Int.fmod_nonneg_of_pos a h
  have h2 := Int.fmod_lt_of_pos a h
  (first|lia|omega)
theorem reckV_vb {k a b i : Int} (ha : Vb a) (hb : Vb b) (e : reckV k a b = [.non, .int i]) : Vb i := by
 unfold reckV at e
 split at e
 ·exact wV_vb e
 split at e
 ·exact wV_vb e
 split at e
 ·exact wV_vb e
 split at e
 ·cases e; exact Vb.small (by split <;> decide)
 split at e
 ·cases e; exact Vb.small (by split <;> decide)
 split at e
 ·cases e
 rename_i b0
 split at e
 ·cases e
  exact Nat.lt_of_le_of_lt (Int.natAbs_fdiv_le_natAbs a b) ha
 ·cases e
  exact Nat.lt_of_le_of_lt (fmod_le b0) hb
theorem rowM_vb {k v0 v1 v2 : Int} {rows : List (List Int)} (h0 : ∀ xs ∈ rows, xs.length <= 60000 /\ ∀ v ∈ xs, Vb v) (h1 : Vb v1) (h2 : Vb v2) : (∀ i, (rowM k v0 v1 v2 rows).1 = [.non, .int i] -> Vb i) /\ ∀ xs ∈ (rowM k v0 v1 v2 rows).2, ∀ v ∈ xs, Vb v := by
 have g : (rows.getD v0.toNat []).length <= 60000 /\ ∀ v ∈ rows.getD v0.toNat [], Vb v := by
  rw [List.getD_eq_getElem?_getD]
  cases e : rows[v0.toNat]? with
  | none => exact ⟨Nat.zero_le _, fun v hv => by cases hv⟩
  | some xs => exact h0 xs (List.mem_iff_getElem?.mpr ⟨_, e⟩)
 have old : ∀ xs ∈ rows, ∀ v ∈ xs, Vb v := fun xs hx => (h0 xs hx).2
 unfold rowM
 split
 ·exact ⟨fun i e => (by cases e), old⟩
 split
 ·refine ⟨fun i e => ?_, old⟩
  cases e
  exact Vb.small (by (first|lia|omega))
 split
 ·refine ⟨fun i e => by cases e; exact h1, fun xs hx v hv => ?_⟩
  rcases qT hx with hx | rfl
  ·exact old xs hx v hv
  ·rcases List.mem_append.mp hv with hv | hv
   ·exact g.2 v hv
   ·rw [List.mem_singleton.mp hv]; exact h1
 split
 ·exact ⟨fun i e => (by cases e), old⟩
 split
 ·refine ⟨fun i e => by cases e; exact h2, fun xs hx v hv => ?_⟩
  rcases qT hx with hx | rfl
  ·exact old xs hx v hv
  ·rcases List.mem_or_eq_of_mem_set hv with hv | hv
   ·exact g.2 v hv
   ·rw [hv]; exact h2
 ·refine ⟨fun i e => ?_, old⟩
  cases e
  rw [List.getD_eq_getElem?_getD]
  cases e : (rows.getD v0.toNat [])[v1.toNat]? with
  | none => exact Vb.small (by decide)
  | some v => exact g.2 v (List.mem_iff_getElem?.mpr ⟨_, e⟩)
theorem worthM_vb {k v0 v1 v2 : Int} {rows : List (List Int)} (h0 : ∀ xs ∈ rows, xs.length <= 60000 /\ ∀ v ∈ xs, Vb v) (hr : rows.length <= 60000) (hv : Vb v0) (h1 : Vb v1) (h2 : Vb v2) : (∀ i, (worthM k v0 v1 v2 rows).1 = [.non, .int i] -> Vb i) /\ ∀ xs ∈ (worthM k v0 v1 v2 rows).2, ∀ v ∈ xs, Vb v := by
 have old : ∀ xs ∈ rows, ∀ v ∈ xs, Vb v := fun xs hx => (h0 xs hx).2
 unfold worthM
 split
 ·refine ⟨fun i e => ?_, fun xs hx v hv => ?_⟩
  ·cases e
   exact Vb.small (by (first|lia|omega))
  ·rcases List.mem_append.mp hx with hx | hx
   ·exact old xs hx v hv
   ·rw [List.mem_singleton.mp hx] at hv; cases hv
 split
 ·exact rowM_vb h0 h1 h2
 ·exact ⟨fun i e => reckV_vb hv h1 e, old⟩
section
variable {j : Nat} {s s' : MS} {n : Int} {hs : List (List Int)}
theorem snoc_vb {ys : List Int} {v : Int} (h : ∀ v ∈ ys, Vb v) (hv : Vb v) : ∀ u ∈ ys ++ [v], Vb u := fun u hu => by
 rcases List.mem_append.mp hu with hu | hu
 ·exact h u hu
 ·rw [List.mem_singleton.mp hu]; exact hv
end
end L2

namespace L2
open PySem
end L2

namespace L2
open PySem
abbrev Hn := Int × List Int
abbrev Stk := List (Nat × Int)
def hnOf : Nd -> Hn
 | .mk k _ own _ => (k, own)
def plOf : Nd -> Nat
 | .mk _ p _ _ => p
def flatH (xs : List Hn) : List Int := xs.flatMap fun x => x.1 :: x.2
def hns (n : Nd) : List Hn := (pre n).map hnOf
def hnsL (ns : List Nd) : List Hn := (preL ns).map hnOf
theorem hns_mk (k : Int) (p : Nat) (own : List Int) (ps : List Nd) : hns (.mk k p own ps) = (k, own) :: hnsL ps := by
 unfold hns hnsL
 rw [pre, List.map_cons] <;> rfl
theorem wJ (a : Nd) (r : List Nd) : hnsL (a :: r) = hns a ++ hnsL r := by
 unfold hns hnsL
 rw [preL, List.map_append]
theorem flatH_append (xs ys : List Hn) : flatH (xs ++ ys) = flatH xs ++ flatH ys := List.flatMap_append
inductive Run (hs : Hds) : Stk -> List Hn -> Stk -> Prop where
 | nil {S : Stk} : Run hs S [] S
 | cons {d : Nat} {b k : Int} {own : List Int} {r : Stk} {xs : List Hn} {S : Stk} (k0 : 0 <= k) (k1 : k <= 19) (f : OwnFit hs b k own) (h : Run hs (List.replicate (dueM hs k own).toNat (d, b) ++ r) xs S) : Run hs ((d + 1, b) :: r) ((k, own) :: xs) S
theorem Run.append {hs : Hds} {S S1 S2 : Stk} {xs ys : List Hn} (h : Run hs S xs S1) (g : Run hs S1 ys S2) : Run hs S (xs ++ ys) S2 := by
 induction h with
 | nil => exact g
 | cons k0 k1 f _ ih => exact .cons k0 k1 f (ih g)
mutual
def depN : Nd -> Nat
 | .mk _ _ _ ps => 1 + depL ps
def depL : List Nd -> Nat
 | [] => 0
 | a :: r => max (depN a) (depL r)
end
mutual
def FitN (hs : Hds) (b : Int) : Nd -> Prop
 | .mk k _ own ps => 0 <= k /\ k <= 19 /\ OwnFit hs b k own /\ ps.length = (dueM hs k own).toNat /\ FitL hs b ps
def FitL (hs : Hds) (b : Int) : List Nd -> Prop
 | [] => True
 | a :: r => FitN hs b a /\ FitL hs b r
end
mutual
def PlN : Nat -> Nd -> Prop
 | p, .mk k q own ps => q = p /\ PlL (p + 1 + own.length) ps
def PlL : Nat -> List Nd -> Prop
 | _, [] => True
 | p, a :: r => PlN p a /\ PlL (p + (flatH (hns a)).length) r
end
theorem rep_due {ps : List Nd} {n d : Nat} {b : Int} (h : ps.length = n) : List.replicate n (d, b) = ps.map fun _ => (d, b) := by
 rw [<- h, List.map_const']
mutual
theorem fit_run {hs : Hds} {b : Int} : ∀ {nd : Nd} {D : Nat} {r : Stk}, FitN hs b nd -> depN nd <= D -> Run hs ((D, b) :: r) (hns nd) r
 | .mk k p own ps, 0, r, _, h => absurd h (by simp only [depN]; (first|lia|omega))
 | .mk k p own ps, D + 1, r, ⟨k0, k1, f, l, g⟩, h => by
  rw [hns_mk]
  exact .cons k0 k1 f (by rw [rep_due l]; exact fit_runL g (by simp only [depN] at h; (first|lia|omega)))
theorem fit_runL {hs : Hds} {b : Int} : ∀ {ps : List Nd} {D : Nat} {r : Stk}, FitL hs b ps -> depL ps <= D -> Run hs ((ps.map fun _ => (D, b)) ++ r) (hnsL ps) r
 | [], D, r, _, _ => .nil
 | a :: ps, D, r, ⟨ga, gs⟩, h => by
  simp only [depL] at h
  rw [wJ]
  exact (fit_run (nd := a) ga (by (first|lia|omega))).append (fit_runL gs (by (first|lia|omega)))
end
mutual
theorem fit_deep {hs : Hds} {b : Int} : ∀ {nd : Nd} {D : Nat} {r : Stk}, FitN hs b nd -> D < depN nd -> ∃ U V r', hns nd = U ++ V /\ Run hs ((D, b) :: r) U ((0, b) :: r')
 | .mk k p own ps, 0, r, _, h => ⟨[], _, r, rfl, .nil⟩
 | .mk k p own ps, D + 1, r, ⟨k0, k1, f, l, g⟩, h => by
  obtain ⟨U, V, r', e, h'⟩ := fit_deepL (r := r) g (show D < depL ps by simp only [depN] at h; (first|lia|omega))
  exact ⟨(k, own) :: U, V, r', by rw [hns_mk, e] <;> rfl, .cons k0 k1 f (by rw [rep_due l]; exact h')⟩
theorem fit_deepL {hs : Hds} {b : Int} : ∀ {ps : List Nd} {D : Nat} {r : Stk}, FitL hs b ps -> D < depL ps -> ∃ U V r', hnsL ps = U ++ V /\ Run hs ((ps.map fun _ => (D, b)) ++ r) U ((0, b) :: r')
 | [], D, r, _, h => absurd h (Nat.not_lt_zero _)
 | a :: ps, D, r, ⟨ga, gs⟩, h => by
  simp only [depL] at h
  by_cases c : D < depN a
  ·obtain ⟨U, V, r', e, h'⟩ := fit_deep (r := (ps.map fun _ => (D, b)) ++ r) ga c
   exact ⟨U, V ++ hnsL ps, r', by rw [wJ, e, List.append_assoc], h'⟩
  ·obtain ⟨U, V, r', e, h'⟩ := fit_deepL (r := r) gs (show D < depL ps by (first|lia|omega))
   exact ⟨hns a ++ U, V, r', by rw [wJ, e, List.append_assoc], (fit_run ga (by (first|lia|omega))).append h'⟩
end
theorem own_len {hs : Hds} {b b' k : Int} {own own' : List Int} (f : OwnFit hs b k own) (g : OwnFit hs b' k own') : own.length = own'.length := by
 unfold OwnFit at f g
 rcases f with ⟨a, n, rfl⟩ | ⟨a, n, rfl, _⟩ | ⟨a, n, rfl, _⟩ | ⟨a, n, rfl, _⟩ | ⟨a, n, rfl, _⟩ | ⟨a, rfl⟩ <;> rcases g with ⟨a', m, rfl⟩ | ⟨a', m, rfl, _⟩ | ⟨a', m, rfl, _⟩ | ⟨a', m, rfl, _⟩ | ⟨a', m, rfl, _⟩ | ⟨a', rfl⟩ <;> first | rfl | (exfalso; (first|lia|omega))
abbrev An := Nd × Nat × Nat
mutual
def annN (dep f : Nat) : Nd -> List An
 | .mk k p own ps => (.mk k p own ps, dep, f) :: annL (dep + 1) f ps
def annL (dep f : Nat) : List Nd -> List An
 | [] => []
 | a :: r => annN dep f a ++ annL dep f r
end
mutual
theorem annN_pre : ∀ (nd : Nd) (dep f : Nat), (annN dep f nd).map (·.1) = pre nd
 | .mk k p own ps, dep, f => by rw [annN, List.map_cons, annL_pre ps, pre]
theorem annL_pre : ∀ (ps : List Nd) (dep f : Nat), (annL dep f ps).map (·.1) = preL ps
 | [], _, _ => by simp [annL, preL]
 | a :: r, dep, f => by rw [annL, List.map_append, annN_pre a, annL_pre r, preL]
end
theorem annN_len (nd : Nd) (dep f : Nat) : (annN dep f nd).length = (hns nd).length := by
 unfold hns
 rw [<- annN_pre nd dep f, List.length_map, List.length_map]
structure Ctx (hs : Hds) (S0 R : Stk) (all : List Hn) (p0 i : Nat) (m : Nd) (e : Nat) (b : Int) : Prop where
 ex : ∃ X Y r, all = X ++ (hns m ++ Y) /\ X.length = i /\ Run hs S0 X ((e, b) :: r) /\ Run hs r Y R /\ plOf m = p0 + (flatH X).length
 fit : FitN hs b m
 dep : depN m <= e
theorem Ctx.after {hs : Hds} {S0 S1 R : Stk} {X0 all : List Hn} {p0 p1 i : Nat} {m : Nd} {e : Nat} {b : Int} (h : Run hs S0 X0 S1) (c : Ctx hs S1 R all p1 i m e b) (hp : p1 = p0 + (flatH X0).length) : Ctx hs S0 R (X0 ++ all) p0 (X0.length + i) m e b := by
 obtain ⟨⟨X, Y, r, e1, e2, e3, e4, e5⟩, f, d⟩ := c
 exact ⟨⟨X0 ++ X, Y, r, by rw [e1, List.append_assoc], by rw [List.length_append, e2], h.append e3, e4, by rw [e5, hp, flatH_append, List.length_append]; (first|lia|omega)⟩, f, d⟩
theorem Ctx.before {hs : Hds} {S0 R1 R : Stk} {Z all : List Hn} {p0 i : Nat} {m : Nd} {e : Nat} {b : Int} (c : Ctx hs S0 R1 all p0 i m e b) (h : Run hs R1 Z R) : Ctx hs S0 R (all ++ Z) p0 i m e b := by
 obtain ⟨⟨X, Y, r, e1, e2, e3, e4, e5⟩, f, d⟩ := c
 exact ⟨⟨X, Y ++ Z, r, by rw [e1, List.append_assoc, List.append_assoc], e2, e3, e4.append h, e5⟩, f, d⟩
mutual
theorem ctxN {hs : Hds} {b : Int} : ∀ {nd : Nd} {d dep f p i : Nat} {R : Stk} {m : Nd} {dm fm : Nat}, FitN hs b nd -> depN nd <= d -> PlN p nd -> (annN dep f nd)[i]? = some (m, dm, fm) -> fm = f /\ ∃ e, e + dm = d + dep /\ Ctx hs ((d, b) :: R) R (hns nd) p i m e b
 | .mk k q own ps, d, dep, f, p, 0, R, m, dm, fm, ft, hd, pl, h => by
  rw [annN] at h
  cases h
  refine ⟨rfl, d, rfl, ⟨⟨[], [], R, by rw [List.append_nil, List.nil_append], rfl, .nil, .nil, ?_⟩, ft, hd⟩⟩
  exact pl.1
 | .mk k q own ps, 0, dep, f, p, i + 1, R, m, dm, fm, ft, hd, pl, h => absurd hd (by simp only [depN]; (first|lia|omega))
 | .mk k q own ps, d + 1, dep, f, p, i + 1, R, m, dm, fm, ⟨k0, k1, fo, l, g⟩, hd, pl, h => by
  rw [annN, List.getElem?_cons_succ] at h
  obtain ⟨e0, e, e1, c⟩ := ctxL (R := R) g (show depL ps <= d by simp only [depN] at hd; (first|lia|omega)) pl.2 h
  refine ⟨e0, e, by (first|lia|omega), ?_⟩
  rw [hns_mk, Nat.add_comm i 1]
  rw [<- rep_due l] at c
  refine Ctx.after (X0 := [(k, own)]) (.cons k0 k1 fo .nil) c ?_
  show p + 1 + own.length = p + ((k :: own) ++ []).length
  rw [List.append_nil, List.length_cons]; (first|lia|omega)
theorem ctxL {hs : Hds} {b : Int} : ∀ {ps : List Nd} {d dep f p i : Nat} {R : Stk} {m : Nd} {dm fm : Nat}, FitL hs b ps -> depL ps <= d -> PlL p ps -> (annL dep f ps)[i]? = some (m, dm, fm) -> fm = f /\ ∃ e, e + dm = d + dep /\ Ctx hs ((ps.map fun _ => (d, b)) ++ R) R (hnsL ps) p i m e b
 | [], _, _, _, _, _, _, _, _, _, _, _, _, h => by rw [annL] at h; simp at h
 | a :: ps, d, dep, f, p, i, R, m, dm, fm, ⟨fa, fs⟩, hd, ⟨pa, pl⟩, h => by
  rw [annL] at h
  simp only [depL] at hd
  rw [wJ]
  by_cases c : i < (annN dep f a).length
  ·rw [List.getElem?_append_left c] at h
   obtain ⟨e0, e, e1, x⟩ := ctxN (R := (ps.map fun _ => (d, b)) ++ R) fa (show depN a <= d by (first|lia|omega)) pa h
   exact ⟨e0, e, e1, x.before (fit_runL fs (by (first|lia|omega)))⟩
  ·rw [List.getElem?_append_right (by (first|lia|omega)), annN_len] at h
   rw [annN_len] at c
   obtain ⟨e0, e, e1, x⟩ := ctxL (R := R) fs (show depL ps <= d by (first|lia|omega)) pl h
   refine ⟨e0, e, e1, ?_⟩
   have y := Ctx.after (fit_run fa (show depN a <= d by (first|lia|omega))) x rfl
   rw [show (hns a).length + (i - (hns a).length) = i by (first|lia|omega)] at y
   exact y
end
end L2

namespace L2
open PySem
structure ES where
 rows : List (List Int)
 br : Int
 bx : List Int
 ct : Nat
inductive ER where
 | val (v : Int) (s : ES)
 | bad (w : Str) (n : Int) (rows : List (List Int)) (ct : Nat × Int)
def ER.bind (r : ER) (f : Int -> ES -> ER) : ER := match r with
 | .val v s => f v s
 | .bad w n rows c => .bad w n rows c
def strayE (s : ES) : ER := .bad "stray" 0 s.rows (s.ct, s.br)
def partsE (f : Tr -> ES -> ER) (k : List Int -> ES -> ER) : List Tr -> List Int -> ES -> ER
 | [], vs, s => k vs s
 | t :: ts, vs, s => (f t s).bind fun v s => partsE f k ts (vs ++ [v]) s
def breE (s : ES) (k : ES -> ER) : ER := if s.br <= 0 then .bad "breath" 0 s.rows (s.ct, s.br - 1) else k { s with br := s.br - 1 }
def loopE (f g : ES -> ER) : Nat -> ES -> ER
 | 0, s => strayE s
 | m + 1, s => (f s).bind fun v s => if v = 0 then .val 0 s else (g s).bind fun _ s => breE s (loopE f g m)
def deedE (k : Int) (vs : List Int) (s : ES) : ER := match worthM k (vs.getD 0 0) (vs.getD 1 0) (vs.getD 2 0) s.rows with
 | ([.non, .int v], rows) => .val v ⟨rows, s.br, s.bx, s.ct + 1⟩
 | ([.str w, _], rows) => .bad w 0 rows (s.ct + 1, s.br)
 | (_, rows) => .bad "stray" 0 rows (s.ct + 1, s.br)
def withE (call : Int -> List Int -> ES -> ER) (k : Int) (own vs : List Int) (s : ES) : ER :=
 if k = 2 then .val (vs.getD 0 0) { s with bx := s.bx.set (own.headD 0).toNat (vs.getD 0 0) }
 else if k = 3 then .val (vs.getD (vs.length - 1) 0) s
 else if k = 6 then call (own.headD 0) vs s
 else if k = 7 then .bad "told" (vs.getD 0 0) s.rows (s.ct, s.br)
 else deedE k vs s
def pickI (v : Int) (n : Nat) : Nat := if v < 0 \/ v ≥ (n : Int) then n - 1 else v.toNat
def evN (call : Int -> List Int -> ES -> ER) : Nat -> Tr -> ES -> ER
 | 0, _, s => strayE s
 | n + 1, .mk k own ps, s =>
  if k = 0 then .val (own.headD 0) s
  else if k = 1 then .val (s.bx.getD (own.headD 0).toNat 0) s
  else if k = 4 then (match ps with
   | [] => strayE s
   | p0 :: r => (evN call n p0 s).bind fun v s => match r[pickI v r.length]? with
    | some t => evN call n t s
    | none => strayE s)
  else if k = 5 then (match ps with
   | [p0, p1] => breE s fun s => loopE (evN call n p0) (evN call n p1) (s.br.toNat + 1) s
   | _ => strayE s)
  else partsE (evN call n) (withE call k own) ps [] s
def evC (P : List Fn) (D : Nat) : Nat -> Int -> List Int -> ES -> ER
 | 0, _, _, s => .bad "deep" 0 s.rows (s.ct, s.br)
 | c + 1, f, vs, s => breE s fun s1 => match P[f.toNat]? with
  | some ((p, b), t) => (evN (evC P D c) D t { s1 with bx := vs ++ List.replicate (b - p).toNat 0 }).bind fun v s2 => .val v { s2 with bx := s.bx }
  | none => strayE s1
mutual
def FitT (hs : Hds) (b : Int) : Nat -> Tr -> Prop
 | 0, _ => False
 | n + 1, .mk k own ps => 0 <= k /\ k <= 19 /\ OwnFit hs b k own /\ ps.length = (dueM hs k own).toNat /\ (∀ v ∈ own, Vb v) /\ FitTs hs b n ps
def FitTs (hs : Hds) (b : Int) : Nat -> List Tr -> Prop
 | _, [] => True
 | n, a :: r => FitT hs b n a /\ FitTs hs b n r
end
mutual
def szT : Tr -> Nat
 | .mk _ _ ps => 1 + szTs ps
def szTs : List Tr -> Nat
 | [] => 0
 | a :: r => szT a + szTs r
end
def RwOk (j : Nat) (rows : List (List Int)) : Prop := 2 <= rows.length /\ rows.length <= j /\ ∀ xs ∈ rows, xs.length <= j /\ ∀ v ∈ xs, Vb v
structure EOk (g : Nat) (s : ES) : Prop where
 b0 : 0 <= s.br
 rw : RwOk (s.ct + g) s.rows
 bx : ∀ v ∈ s.bx, Vb v
def Res (g M U c0 : Nat) (br0 : Int) (bl : Nat) : ER -> Prop
 | .val v s => EOk g s /\ Vb v /\ s.br <= br0 /\ c0 <= s.ct /\ s.bx.length = bl /\ s.ct + M * s.br.toNat <= U
 | .bad _ n rows c => RwOk (c.1 + g) rows /\ c0 <= c.1 /\ c.1 <= U /\ Vb n
section
variable {g M N U U' c0 c1 bl : Nat} {br0 br1 : Int} {r : ER} {f : Int -> ES -> ER} {s : ES} {hs : Hds} {b : Int} {k : Int} {own vs : List Int}
theorem Res.bind (h : Res g M U c1 br1 bl r) (lu : U <= U') (lc : c0 <= c1) (lb : br1 <= br0) (hf : ∀ v s', EOk g s' -> Vb v -> s'.br <= br1 -> c1 <= s'.ct -> s'.bx.length = bl -> s'.ct + M * s'.br.toNat <= U -> Res g M U' c0 br0 bl (f v s')) : Res g M U' c0 br0 bl (r.bind f) := by
 cases r with
 | val v s => exact hf v s h.1 h.2.1 h.2.2.1 h.2.2.2.1 h.2.2.2.2.1 h.2.2.2.2.2
 | bad w n rows c => exact ⟨h.1, Nat.le_trans lc h.2.1, Nat.le_trans h.2.2.1 lu, h.2.2.2⟩
theorem Res.here (h : EOk g s) {v : Int} (hv : Vb v) (lu : s.ct + M * s.br.toNat <= U) (lb : s.br <= br0) (lc : c0 <= s.ct) (hb : s.bx.length = bl) : Res g M U c0 br0 bl (.val v s) := ⟨h, hv, lb, lc, hb, lu⟩
theorem Res.fail (h : EOk g s) {w : Str} {n bl' : Int} (hn : Vb n) (lu : s.ct + M * s.br.toNat <= U) (lc : c0 <= s.ct) : Res g M U c0 br0 bl (.bad w n s.rows (s.ct, bl')) := ⟨h.rw, lc, by (first|lia|omega), hn⟩
theorem kH {xs : List Int} (h : ∀ v ∈ xs, Vb v) (i : Nat) : Vb (xs.getD i 0) := by
 rw [List.getD_eq_getElem?_getD]
 cases e : xs[i]? with
 | none => exact Vb.small (by decide)
 | some v => exact h v (List.mem_of_getElem? e)
theorem vb_headD {xs : List Int} (h : ∀ v ∈ xs, Vb v) : Vb (xs.headD 0) := by
 cases xs with
 | nil => exact Vb.small (by decide)
 | cons a _ => exact h a (List.mem_cons_self ..)
theorem mulbr1 {M : Nat} {x : Int} (h : 0 < x) : M * (x - 1).toNat + M = M * x.toNat := by
 rw [show x.toNat = (x - 1).toNat + 1 by (first|lia|omega), Nat.mul_succ]
theorem Res.breath {k : ES -> ER} (h : EOk g s) (lu : s.ct + M * s.br.toNat <= U) (lc : c0 <= s.ct) (hk : 0 < s.br -> EOk g { s with br := s.br - 1 } -> s.ct + M * (s.br - 1).toNat + M <= U -> Res g M U c0 br0 bl (k { s with br := s.br - 1 })) : Res g M U c0 br0 bl (breE s k) := by
 unfold breE
 by_cases c : s.br <= 0
 ·rw [if_pos c]
  exact Res.fail h (Vb.small (by decide)) lu lc
 ·rw [if_neg c]
  refine hk (by (first|lia|omega)) ⟨by show 0 <= s.br - 1; (first|lia|omega), h.rw, h.bx⟩ ?_
  rw [Nat.add_assoc, mulbr1 (by (first|lia|omega))]
  exact lu
theorem Res.deed (h : EOk g s) (hv : ∀ v ∈ vs, Vb v) (lu : s.ct + 1 + M * s.br.toNat <= U) (lb : s.br <= br0) (lc : c0 <= s.ct) (hb : s.bx.length = bl) (big : s.ct + g <= 60000) : Res g M U c0 br0 bl (deedE k vs s) := by
 obtain ⟨r2, rl, rx⟩ := h.rw
 have hw := worthM_vb (k := k) (fun xs hx => ⟨Nat.le_trans (rx xs hx).1 big, (rx xs hx).2⟩) (Nat.le_trans rl big) (kH hv 0) (kH hv 1) (kH hv 2)
 have hl := worthM_len (k := k) (v0 := vs.getD 0 0) (v1 := vs.getD 1 0) (v2 := vs.getD 2 0) (fun xs hx => (rx xs hx).1)
 have tw := wO k (vs.getD 0 0) (vs.getD 1 0) (vs.getD 2 0) s.rows
 unfold deedE
 generalize worthM k (vs.getD 0 0) (vs.getD 1 0) (vs.getD 2 0) s.rows = o at *
 obtain ⟨o1, o2⟩ := o
 have rw2 : RwOk (s.ct + 1 + g) o2 := ⟨by have := hl.1; dsimp only at this; (first|lia|omega), by have := hl.2.1; dsimp only at this; (first|lia|omega), fun xs hx => ⟨by have := hl.2.2 xs hx; (first|lia|omega), hw.2 xs hx⟩⟩
 rcases tw with ⟨i, e⟩ | ⟨z, e⟩
 ·dsimp only at e
  subst e
  exact ⟨⟨h.b0, rw2, h.bx⟩, hw.1 i rfl, lb, Nat.le_succ_of_le lc, hb, lu⟩
 ·dsimp only at e
  subst e
  exact ⟨rw2, Nat.le_succ_of_le lc, by (first|lia|omega), Vb.small (by decide)⟩
def CallOk (g M N : Nat) (hs : Hds) (call : Int -> List Int -> ES -> ER) : Prop := ∀ (f : Int) (vs : List Int) (s : ES), 0 <= f -> f < hs.length -> vs.length = (hs.getD f.toNat (0, 0)).1.toNat -> (∀ v ∈ vs, Vb v) -> EOk g s -> s.ct + M * s.br.toNat <= N -> Res g M (s.ct + M * s.br.toNat) s.ct s.br s.bx.length (call f vs s)
theorem Res.with_ {call : Int -> List Int -> ES -> ER} (C : CallOk g M N hs call) (fit : OwnFit hs b k own) (k2 : k ≠ 0 /\ k ≠ 1 /\ k ≠ 4 /\ k ≠ 5) (hv : ∀ v ∈ vs, Vb v) (lv : vs.length = (dueM hs k own).toNat) (h : EOk g s) (hbx : (s.bx.length : Int) = b) (lN : s.ct + 1 + M * s.br.toNat <= N) (big : N + g <= 60000) : Res g M (s.ct + 1 + M * s.br.toNat) s.ct s.br s.bx.length (withE call k own vs s) := by
 unfold withE
 by_cases c2 : k = 2
 ·rw [if_pos c2]
  refine ⟨⟨h.b0, h.rw, fun v hm => ?_⟩, kH hv 0, Int.le_refl _, Nat.le_refl _, List.length_set .., by show s.ct + M * s.br.toNat <= _; (first|lia|omega)⟩
  rcases List.mem_or_eq_of_mem_set hm with z | z
  ·exact h.bx v z
  ·rw [z]; exact kH hv 0
 rw [if_neg c2]
 by_cases c3 : k = 3
 ·rw [if_pos c3]
  exact Res.here h (kH hv _) (by (first|lia|omega)) (Int.le_refl _) (Nat.le_refl _) rfl
 rw [if_neg c3]
 by_cases c6 : k = 6
 ·rw [if_pos c6]
  subst c6
  unfold OwnFit at fit
  obtain ⟨n, rfl, n0, n1⟩ : ∃ n, own = [n] /\ 0 <= n /\ n <= (hs.length : Int) - 1 := by
   rcases fit with z | z | z | z | z | z
   ·(first|lia|omega)
   ·(first|lia|omega)
   ·(first|lia|omega)
   ·(first|lia|omega)
   ·exact z.2
   ·(first|lia|omega)
  have := C n vs s n0 (by (first|lia|omega)) lv hv h (by (first|lia|omega))
  cases e : call n vs s with
  | val v s' =>
   rw [e] at this
   show Res _ _ _ _ _ _ (call n vs s)
   rw [e]
   exact ⟨this.1, this.2.1, this.2.2.1, this.2.2.2.1, this.2.2.2.2.1, by have := this.2.2.2.2.2; (first|lia|omega)⟩
  | bad w i rows c =>
   rw [e] at this
   show Res _ _ _ _ _ _ (call n vs s)
   rw [e]
   exact ⟨this.1, this.2.1, by have := this.2.2.1; (first|lia|omega), this.2.2.2⟩
 rw [if_neg c6]
 by_cases c7 : k = 7
 ·rw [if_pos c7]
  exact Res.fail h (kH hv 0) (by (first|lia|omega)) (Nat.le_refl _)
 rw [if_neg c7]
 exact Res.deed h hv (Nat.le_refl _) (Int.le_refl _) (Nat.le_refl _) rfl (by (first|lia|omega))
theorem Res.loop {f g' : ES -> ER} {a c : Nat} (hf : ∀ s, EOk g s -> s.bx.length = bl -> s.ct + M * s.br.toNat + a <= N -> Res g M (s.ct + M * s.br.toNat + a) s.ct s.br bl (f s)) (hg : ∀ s, EOk g s -> s.bx.length = bl -> s.ct + M * s.br.toNat + c <= N -> Res g M (s.ct + M * s.br.toNat + c) s.ct s.br bl (g' s)) (hM : a + c <= M) :
  ∀ (m : Nat) (s : ES), s.br.toNat < m -> EOk g s -> s.bx.length = bl -> s.ct + M * s.br.toNat + a + c <= N -> Res g M (s.ct + M * s.br.toNat + a + c) s.ct s.br bl (loopE f g' m s)
 | 0, s, hm, _, _, _ => absurd hm (Nat.not_lt_zero _)
 | m + 1, s, hm, h, hb, lN => by
  unfold loopE
  refine Res.bind (hf s h hb (by (first|lia|omega))) (by (first|lia|omega)) (Nat.le_refl _) (Int.le_refl _) fun v s1 h1 _ b1 c1 l1 u1 => ?_
  by_cases z : v = 0
  ·rw [if_pos z]
   exact Res.here h1 (Vb.small (by decide)) (by (first|lia|omega)) b1 c1 l1
  rw [if_neg z]
  refine Res.bind (hg s1 h1 l1 (by (first|lia|omega))) (by (first|lia|omega)) c1 b1 fun v2 s2 h2 _ b2 c2 l2 u2 => ?_
  refine Res.breath h2 (by (first|lia|omega)) (Nat.le_trans c1 c2) fun p2 h3 u3 => ?_
  have b0 := h.b0
  have ih := Res.loop hf hg hM m { s2 with br := s2.br - 1 } (by show (s2.br - 1).toNat < m; (first|lia|omega)) h3 l2 (by show s2.ct + M * (s2.br - 1).toNat + a + c <= N; (first|lia|omega))
  generalize loopE f g' m { s2 with br := s2.br - 1 } = o at ih ⊢
  cases o with
  | val v s' => exact ⟨ih.1, ih.2.1, by have := ih.2.2.1; dsimp only at this; (first|lia|omega), by have := ih.2.2.2.1; dsimp only at this; (first|lia|omega), ih.2.2.2.2.1, by have := ih.2.2.2.2.2; dsimp only at this; (first|lia|omega)⟩
  | bad w i rows c' => exact ⟨ih.1, by have := ih.2.1; dsimp only at this; (first|lia|omega), by have := ih.2.2.1; dsimp only at this; (first|lia|omega), ih.2.2.2⟩
theorem FitTs.get {n : Nat} : ∀ {ps : List Tr} {i : Nat} {t : Tr}, FitTs hs b n ps -> ps[i]? = some t -> FitT hs b n t /\ szT t <= szTs ps
 | a :: r, 0, t, h, e => by
  cases e
  unfold FitTs at h
  exact ⟨h.1, Nat.le_add_right ..⟩
 | a :: r, i + 1, t, h, e => by
  unfold FitTs at h
  obtain ⟨x, y⟩ := FitTs.get (ps := r) h.2 e
  exact ⟨x, Nat.le_trans y (Nat.le_add_left ..)⟩
theorem Res.parts {call : Int -> List Int -> ES -> ER} {f : Tr -> ES -> ER} {n : Nat} (C : CallOk g M N hs call) (big : N + g <= 60000) (fit : OwnFit hs b k own) (k2 : k ≠ 0 /\ k ≠ 1 /\ k ≠ 4 /\ k ≠ 5)
  (hf : ∀ t s, FitT hs b n t -> szT t <= M -> EOk g s -> (s.bx.length : Int) = b -> s.ct + M * s.br.toNat + szT t <= N -> Res g M (s.ct + M * s.br.toNat + szT t) s.ct s.br s.bx.length (f t s)) :
  ∀ (ts : List Tr) (vs : List Int) (s : ES), FitTs hs b n ts -> szTs ts <= M -> (∀ v ∈ vs, Vb v) -> vs.length + ts.length = (dueM hs k own).toNat -> EOk g s -> (s.bx.length : Int) = b -> s.ct + M * s.br.toNat + szTs ts + 1 <= N -> Res g M (s.ct + M * s.br.toNat + szTs ts + 1) s.ct s.br s.bx.length (partsE f (withE call k own) ts vs s)
 | [], vs, s, _, _, hv, lv, h, hb, lN => by
  have := Res.with_ C fit k2 hv lv h hb (by show s.ct + 1 + M * s.br.toNat <= N; have : szTs [] = 0 := rfl; (first|lia|omega)) big
  rw [show s.ct + M * s.br.toNat + szTs [] + 1 = s.ct + 1 + M * s.br.toNat by have : szTs [] = 0 := rfl; (first|lia|omega)]
  exact this
 | t :: ts, vs, s, ft, hM, hv, lv, h, hb, lN => by
  unfold FitTs at ft
  have e : szTs (t :: ts) = szT t + szTs ts := rfl
  unfold partsE
  refine Res.bind (hf t s ft.1 (by (first|lia|omega)) h hb (by (first|lia|omega))) (by (first|lia|omega)) (Nat.le_refl _) (Int.le_refl _) fun v s1 h1 v1 b1 c1 l1 u1 => ?_
  have ih := Res.parts C big fit k2 hf ts (vs ++ [v]) s1 ft.2 (by (first|lia|omega)) (fun x hx => by
   rcases List.mem_append.mp hx with z | z
   ·exact hv x z
   ·rw [List.mem_singleton.mp z]; exact v1) (by rw [List.length_append, List.length_singleton]; rw [List.length_cons] at lv; (first|lia|omega)) h1 (by rw [l1]; exact hb) (by (first|lia|omega))
  generalize partsE f (withE call k own) ts (vs ++ [v]) s1 = o at ih ⊢
  cases o with
  | val v s' => exact ⟨ih.1, ih.2.1, Int.le_trans ih.2.2.1 b1, Nat.le_trans c1 ih.2.2.2.1, by rw [ih.2.2.2.2.1, l1], by have := ih.2.2.2.2.2; (first|lia|omega)⟩
  | bad w i rows c' => exact ⟨ih.1, Nat.le_trans c1 ih.2.1, by have := ih.2.2.1; (first|lia|omega), ih.2.2.2⟩
theorem pick_lt {v : Int} {n : Nat} (h : 0 < n) : pickI v n < n := by
 unfold pickI
 split <;> (first|lia|omega)
theorem wW {call : Int -> List Int -> ES -> ER} (C : CallOk g M N hs call) (big : N + g <= 60000) : ∀ (n : Nat) (t : Tr) (s : ES), FitT hs b n t -> szT t <= M -> EOk g s -> (s.bx.length : Int) = b -> s.ct + M * s.br.toNat + szT t <= N -> Res g M (s.ct + M * s.br.toNat + szT t) s.ct s.br s.bx.length (evN call n t s)
 | 0, _, _, f, _, _, _, _ => by unfold FitT at f; exact f.elim
 | n + 1, .mk k own ps, s, f, hM, h, hb, lN => by
  unfold FitT at f
  obtain ⟨k0, k1, fit, lp, vo, fp⟩ := f
  have e : szT (.mk k own ps) = 1 + szTs ps := rfl
  unfold evN
  by_cases c0 : k = 0
  ·rw [if_pos c0]; exact Res.here h (vb_headD vo) (by (first|lia|omega)) (Int.le_refl _) (Nat.le_refl _) rfl
  rw [if_neg c0]
  by_cases c1 : k = 1
  ·rw [if_pos c1]; exact Res.here h (kH h.bx _) (by (first|lia|omega)) (Int.le_refl _) (Nat.le_refl _) rfl
  rw [if_neg c1]
  by_cases c4 : k = 4
  ·rw [if_pos c4]
   subst c4
   obtain ⟨m, rfl, m2, m12⟩ : ∃ m, own = [m] /\ 2 <= m /\ m <= 12 := by
    unfold OwnFit at fit
    rcases fit with z | z | z | z | z | z
    ·(first|lia|omega)
    ·(first|lia|omega)
    ·(first|lia|omega)
    ·exact z.2
    ·(first|lia|omega)
    ·(first|lia|omega)
   have lp' : ps.length = (1 + m).toNat := lp
   cases ps with
   | nil => rw [List.length_nil] at lp'; (first|lia|omega)
   | cons p0 r =>
    rw [List.length_cons] at lp'
    unfold FitTs at fp
    have e2 : szTs (p0 :: r) = szT p0 + szTs r := rfl
    refine Res.bind (wW C big n p0 s fp.1 (by (first|lia|omega)) h hb (by (first|lia|omega))) (by (first|lia|omega)) (Nat.le_refl _) (Int.le_refl _) fun v s1 h1 v1 b1 c1 l1 u1 => ?_
    have hl := pick_lt (v := v) (n := r.length) (by (first|lia|omega))
    rw [List.getElem?_eq_getElem hl]
    dsimp only
    obtain ⟨ft, st⟩ := FitTs.get fp.2 (List.getElem?_eq_getElem hl)
    have ih := wW C big n _ s1 ft (by (first|lia|omega)) h1 (by rw [l1]; exact hb) (by (first|lia|omega))
    generalize evN call n r[pickI v r.length] s1 = o at ih ⊢
    cases o with
    | val v s' => exact ⟨ih.1, ih.2.1, Int.le_trans ih.2.2.1 b1, Nat.le_trans c1 ih.2.2.2.1, by rw [ih.2.2.2.2.1, l1], by have := ih.2.2.2.2.2; (first|lia|omega)⟩
    | bad w i rows c' => exact ⟨ih.1, Nat.le_trans c1 ih.2.1, by have := ih.2.2.1; (first|lia|omega), ih.2.2.2⟩
  rw [if_neg c4]
  by_cases c5 : k = 5
  ·rw [if_pos c5]
   subst c5
   have lp' : ps.length = 2 := lp
   match ps, lp' with
   | [p0, p1], _ =>
    unfold FitTs at fp
    have fp1 : FitT hs b n p1 := by have := fp.2; unfold FitTs at this; exact this.1
    have e2 : szTs [p0, p1] = szT p0 + (szT p1 + 0) := rfl
    dsimp only
    refine Res.breath h (by (first|lia|omega)) (Nat.le_refl _) fun p h1 u1 => ?_
    have ih := Res.loop (f := evN call n p0) (g' := evN call n p1) (a := szT p0) (c := szT p1) (N := N) (fun s' h' hb' ln => by have := wW C big n p0 s' fp.1 (by (first|lia|omega)) h' (by rw [hb']; exact hb) ln; rw [hb'] at this; exact this) (fun s' h' hb' ln => by have := wW C big n p1 s' fp1 (by (first|lia|omega)) h' (by rw [hb']; exact hb) ln; rw [hb'] at this; exact this) (by (first|lia|omega)) ((s.br - 1).toNat + 1) { s with br := s.br - 1 } (Nat.lt_succ_self _) h1 rfl (by show s.ct + M * (s.br - 1).toNat + szT p0 + szT p1 <= N; (first|lia|omega))
    show Res _ _ _ _ _ _ (loopE (evN call n p0) (evN call n p1) ((s.br - 1).toNat + 1) { s with br := s.br - 1 })
    generalize loopE (evN call n p0) (evN call n p1) ((s.br - 1).toNat + 1) { s with br := s.br - 1 } = o at ih ⊢
    cases o with
    | val v s' => exact ⟨ih.1, ih.2.1, by have := ih.2.2.1; dsimp only at this; (first|lia|omega), ih.2.2.2.1, ih.2.2.2.2.1, by have := ih.2.2.2.2.2; dsimp only at this; (first|lia|omega)⟩
    | bad w i rows c' => exact ⟨ih.1, ih.2.1, by have := ih.2.2.1; dsimp only at this; (first|lia|omega), ih.2.2.2⟩
  rw [if_neg c5]
  have := Res.parts C big fit ⟨c0, c1, c4, c5⟩ (fun t s => wW C big n t s) ps [] s fp (by (first|lia|omega)) (fun v hv => (nomatch hv)) (by rw [List.length_nil, Nat.zero_add]; exact lp) h hb (by (first|lia|omega))
  rw [e, show s.ct + M * s.br.toNat + (1 + szTs ps) = s.ct + M * s.br.toNat + szTs ps + 1 by (first|lia|omega)]
  exact this
structure ProgOk (P : List Fn) (D M : Nat) : Prop where
 fit : ∀ (i : Nat) (p b : Int) (t : Tr), P[i]? = some ((p, b), t) -> 0 <= p /\ p <= b /\ b <= 12 /\ FitT (P.map Prod.fst) b D t /\ szT t <= M
theorem evC_ok {P : List Fn} {D : Nat} (pk : ProgOk P D M) (big : N + g <= 60000) : ∀ c, CallOk g M N (P.map Prod.fst) (evC P D c)
 | 0, f, vs, s, f0, f1, lv, hv, h, lN => Res.fail h (Vb.small (by decide)) (Nat.le_refl _) (Nat.le_refl _)
 | c + 1, f, vs, s, f0, f1, lv, hv, h, lN => by
  unfold evC
  refine Res.breath h (Nat.le_refl _) (Nat.le_refl _) fun p1 h1 u1 => ?_
  rw [List.length_map] at f1
  have hf : f.toNat < P.length := by (first|lia|omega)
  have ef := List.getElem?_eq_getElem hf
  generalize P[f.toNat] = fn at ef
  obtain ⟨⟨p, b⟩, t⟩ := fn
  rw [ef]
  dsimp only
  obtain ⟨p0, pb, b12, ft, sz⟩ := pk.fit _ _ _ _ ef
  rw [List.getD_eq_getElem?_getD, List.getElem?_map, ef] at lv
  have lv' : vs.length = p.toNat := lv
  have ih := wW (evC_ok pk big c) big D t ⟨s.rows, s.br - 1, vs ++ List.replicate (b - p).toNat 0, s.ct⟩ ft sz ⟨h1.b0, h1.rw, fun v hm => by
   rcases List.mem_append.mp hm with z | z
   ·exact hv v z
   ·rw [(List.mem_replicate.mp z).2]; exact Vb.small (by decide)⟩ (by show ((vs ++ List.replicate (b - p).toNat 0).length : Int) = b; rw [List.length_append, List.length_replicate]; (first|lia|omega)) (by show s.ct + M * (s.br - 1).toNat + szT t <= N; (first|lia|omega))
  show Res _ _ _ _ _ _ ((evN (evC P D c) D t ⟨s.rows, s.br - 1, vs ++ List.replicate (b - p).toNat 0, s.ct⟩).bind fun v s2 => .val v { s2 with bx := s.bx })
  generalize evN (evC P D c) D t ⟨s.rows, s.br - 1, vs ++ List.replicate (b - p).toNat 0, s.ct⟩ = o at ih ⊢
  cases o with
  | val v s' => exact ⟨⟨ih.1.b0, ih.1.rw, h.bx⟩, ih.2.1, by have := ih.2.2.1; dsimp only at this; show s'.br <= _; (first|lia|omega), ih.2.2.2.1, rfl, by have := ih.2.2.2.2.2; dsimp only at this; show s'.ct + M * s'.br.toNat <= _; (first|lia|omega)⟩
  | bad w i rows c' => exact ⟨ih.1, ih.2.1, by have := ih.2.2.1; dsimp only at this; (first|lia|omega), ih.2.2.2⟩
end
end L2

namespace L2
open PySem
section
variable {ns : List Int} {hs : Hds} {b : Int}
theorem partsW_ok {n : Nat} (ih : ∀ (t : Tr) (p : Nat), FitT hs b n t -> Sub ns p (nums t) -> ∃ nd, nodeM ns hs b n p = .ok (nd, p + (nums t).length) /\ bare nd = t) :
  ∀ (ps : List Tr) (p : Nat), FitTs hs b n ps -> Sub ns p (numsL ps) -> ∃ nds, partsM (nodeM ns hs b n) ps.length p = .ok (nds, p + (numsL ps).length) /\ bareL nds = ps
 | [], p, _, _ => ⟨[], rfl, rfl⟩
 | t :: ps, p, f, s => by
  unfold FitTs at f
  have e : numsL (t :: ps) = nums t ++ numsL ps := rfl
  rw [e] at s ⊢
  obtain ⟨s1, s2⟩ := Sub.append s
  obtain ⟨nd, e1, b1⟩ := ih t p f.1 s1
  obtain ⟨nds, e2, b2⟩ := partsW_ok ih ps _ f.2 s2
  refine ⟨nd :: nds, ?_, ?_⟩
  ·rw [List.length_cons]
   unfold partsM
   rw [e1]
   dsimp only
   rw [e2]
   dsimp only
   rw [List.length_append, Nat.add_assoc]
  ·show bare nd :: bareL nds = _
   rw [b1, b2]
theorem nodeW_ok : ∀ (n : Nat) (t : Tr) (p : Nat), FitT hs b n t -> Sub ns p (nums t) -> ∃ nd, nodeM ns hs b n p = .ok (nd, p + (nums t).length) /\ bare nd = t
 | 0, t, p, f, _ => by unfold FitT at f; exact f.elim
 | n + 1, .mk k own ps, p, f, s => by
  unfold FitT at f
  obtain ⟨k0, k1, of, lp, _, fp⟩ := f
  have e : nums (.mk k own ps) = (k :: own) ++ numsL ps := rfl
  rw [e] at s ⊢
  obtain ⟨s1, s2⟩ := Sub.append (xs := k :: own) s
  obtain ⟨nds, e2, b2⟩ := partsW_ok (nodeW_ok n) ps _ fp s2
  refine ⟨.mk k p own nds, ?_, ?_⟩
  ·unfold nodeM
   rw [xS s1.1 k0 k1]; dsimp only
   rw [own_fit of s1.2]; dsimp only
   rw [show p + 1 + own.length = p + (k :: own).length by rw [List.length_cons]; (first|lia|omega), <- lp, e2]
   dsimp only
   rw [List.length_append, Nat.add_assoc]
  ·show Tr.mk k own (bareL nds) = _
   rw [b2]
theorem bodiesW_ok : ∀ (fs : List Fn) (p : Nat), (∀ f ∈ fs, FitT hs f.1.2 10 f.2) -> Sub ns p (bodiesW fs) -> ∃ nds, bodiesM ns hs (fs.map Prod.fst) p = .ok (nds, p + (bodiesW fs).length) /\ bareL nds = fs.map Prod.snd
 | [], p, _, _ => ⟨[], rfl, rfl⟩
 | f :: fs, p, h, s => by
  have e : bodiesW (f :: fs) = nums f.2 ++ bodiesW fs := List.flatMap_cons ..
  rw [e] at s ⊢
  obtain ⟨s1, s2⟩ := Sub.append s
  obtain ⟨nd, e1, b1⟩ := nodeW_ok 10 f.2 p (h f (List.mem_cons_self ..)) s1
  obtain ⟨nds, e2, b2⟩ := bodiesW_ok fs _ (fun g hg => h g (List.mem_cons_of_mem _ hg)) s2
  refine ⟨nd :: nds, ?_, ?_⟩
  ·rw [List.map_cons]
   unfold bodiesM
   rw [e1]
   dsimp only
   rw [e2]
   dsimp only
   rw [List.length_append, Nat.add_assoc]
  ·show bare nd :: bareL nds = _
   rw [b1, b2] <;> rfl
theorem kO : ∀ fs : List Fn, headsW fs = flat (fs.map Prod.fst)
 | [] => rfl
 | f :: fs => by
  show f.1.1 :: f.1.2 :: headsW fs = f.1.1 :: f.1.2 :: flat (fs.map Prod.fst)
  rw [kO fs]
theorem zip_fns : ∀ fs : List Fn, (fs.map Prod.fst).zip (fs.map Prod.snd) = fs
 | [] => rfl
 | f :: fs => by
  show (f.1, f.2) :: (fs.map Prod.fst).zip (fs.map Prod.snd) = _
  rw [zip_fns fs]
theorem fns_wr {fs : List Fn} (g : HdsGood (fs.map Prod.fst)) (h : ∀ f ∈ fs, FitT (fs.map Prod.fst) f.1.2 10 f.2) : ∃ nds, functionsM (wr fs) = .ok (fs.map Prod.fst, nds) /\ fnsOf (fs.map Prod.fst, nds) = fs := by
 have lm : (fs.map Prod.fst).length = fs.length := List.length_map ..
 have ew : wr fs = ((fs.length : Int) :: flat (fs.map Prod.fst)) ++ bodiesW fs := by
  unfold wr
  rw [kO] <;> rfl
 have s := Sub.self (wr fs)
 rw [ew] at s ⊢
 obtain ⟨s1, s2⟩ := Sub.append (xs := (fs.length : Int) :: flat (fs.map Prod.fst)) s
 have l : 0 + ((fs.length : Int) :: flat (fs.map Prod.fst)).length = 1 + 2 * (fs.map Prod.fst).length := by rw [List.length_cons, qR]; (first|lia|omega)
 rw [l] at s2
 obtain ⟨nds, e, bb⟩ := bodiesW_ok (hs := fs.map Prod.fst) fs _ h s2
 refine ⟨nds, ?_, ?_⟩
 ·have g1 := g.lo
  have g2 := g.hi
  have eh : headsAllM (((fs.length : Int) :: flat (fs.map Prod.fst)) ++ bodiesW fs) = .ok (fs.map Prod.fst) := by
   unfold headsAllM
   rw [xS s1.1 (by (first|lia|omega)) (by (first|lia|omega))]
   dsimp only
   rw [Int.toNat_natCast]
   have := g.heads s1.2
   rw [lm] at this
   exact this
  unfold functionsM
  rw [eh]; dsimp only
  rw [e]
  refine if_neg ?_
  dsimp only
  rw [List.length_append, List.length_cons, qR]
  (first|lia|omega)
 ·show (fs.map Prod.fst).zip (bareL nds) = fs
  rw [bb]
  exact zip_fns fs
end
end L2

namespace L2
open PySem
def Tr3 (H : Hp) : Nat -> V -> Tr -> Prop
 | 0, _, _ => False
 | d + 1, v, .mk k own ps => ∃ t o q vs, v = .ref t /\ H t = some (.tup [.int k, .ref o, .ref q]) /\ H o = some (.tup (own.map V.int)) /\ H q = some (.tup vs) /\ Paired (Tr3 H d) vs ps
theorem Tr3.tups {H H' : Hp} (h : Tups H H') : ∀ {d : Nat} {v : V} {n : Tr}, Tr3 H d v n -> Tr3 H' d v n
 | 0, _, _, z => z.elim
 | d + 1, v, .mk k own ps, ⟨t, o, q, vs, e, h1, h2, h3, r⟩ => ⟨t, o, q, vs, e, h _ _ h1, h _ _ h2, h _ _ h3, Paired.imp (fun _ _ z => Tr3.tups h z) r⟩
theorem Tr3.same {H H' : Hp} (h : Same H H') {d : Nat} {v : V} {n : Tr} (t : Tr3 H d v n) : Tr3 H' d v n := t.tups fun b xs e => h _ _ e
theorem Tr3.more {H : Hp} : ∀ {d : Nat} {v : V} {n : Tr}, Tr3 H d v n -> Tr3 H (d + 1) v n
 | 0, _, _, z => z.elim
 | d + 1, v, .mk k own ps, ⟨t, o, q, vs, e, h1, h2, h3, r⟩ => ⟨t, o, q, vs, e, h1, h2, h3, Paired.imp (fun _ _ z => Tr3.more z) r⟩
theorem Tr3.up {H : Hp} {d : Nat} {v : V} {n : Tr} (h : Tr3 H d v n) : ∀ {e : Nat}, d <= e -> Tr3 H e v n := fun {e} le => by
 induction le with
 | refl => exact h
 | step _ ih => exact ih.more
def F3At (H : Hp) (d : Nat) (v : V) (f : Fn) : Prop := ∃ t b, v = .ref t /\ H t = some (.tup [.int f.1.1, .int f.1.2, b]) /\ Tr3 H d b f.2
theorem F3At.same {H H' : Hp} (h : Same H H') {d : Nat} {v : V} {n : Fn} : F3At H d v n -> F3At H' d v n := fun ⟨t, b, e, q, z⟩ => ⟨t, b, e, h _ _ q, z.same h⟩
def spNumbers (d : Nat) : Sp := fun vs H Q _ => ∃ (v : V) (t : Tr), vs = [v] /\ Tr3 H d v t /\ (nums t).length <= 100000 /\ ∀ l H', Same H H' -> H l = none -> H' l = some (.lst ((nums t).map V.int)) -> Q (.ref l) H'
def spSheetL (d : Nat) : Sp := fun vs H Q _ => ∃ (l : Addr) (rs : List V) (fs : List Fn), vs = [.ref l] /\ H l = some (.lst rs) /\ Paired (F3At H d) rs fs /\ (wr fs).length <= 100000 /\ ∀ l' H', Same H H' -> H l' = none -> H' l' = some (.lst ((wr fs).map V.int)) -> Q (.ref l') H'
end L2

namespace L2
open PySem
abbrev owD (bx : Int) (hd : Addr) (room : Int) (lo ca : Bool) : List (Key × V) := [(.inr "boxes", .int bx), (.inr "heads", .ref hd), (.inr "room", .int room), (.inr "loops", .bl lo), (.inr "calls", .bl ca)]
section
variable {H H1 H2 : Hp} {ow hd st : Addr} {bx room : Int} {lo ca : Bool} {K : PySem.W.Frag} {hs : Hds}
theorem qO (e : H ow = some (.dK (owD bx hd room lo ca))) : DGet H ow (.str "boxes") (some (.int bx)) := DGet.k (k := Sum.inr "boxes") e
theorem owD_heads (e : H ow = some (.dK (owD bx hd room lo ca))) : DGet H ow (.str "heads") (some (.ref hd)) := DGet.k (k := Sum.inr "heads") e
theorem owD_room (e : H ow = some (.dK (owD bx hd room lo ca))) : DGet H ow (.str "room") (some (.int room)) := DGet.k (k := Sum.inr "room") e
theorem owD_loops (e : H ow = some (.dK (owD bx hd room lo ca))) : DGet H ow (.str "loops") (some (.bl lo)) := DGet.k (k := Sum.inr "loops") e
theorem owD_calls (e : H ow = some (.dK (owD bx hd room lo ca))) : DGet H ow (.str "calls") (some (.bl ca)) := DGet.k (k := Sum.inr "calls") e
theorem owD_putRoom {j : Int} (e : H ow = some (.dK (owD bx hd room lo ca))) : DPut H ow (.str "room") (.int j) (upd H ow (.dK (owD bx hd j lo ca))) := DPut.k (k := Sum.inr "room") e (small1000 (show 5 <= 1000 by decide))
structure DrO (K : PySem.W.Frag) (st ow hd : Addr) (hs : Hds) (bx : Int) (lo ca : Bool) (H : Hp) (room : Int) : Prop where
 dr : DrawD K H st
 own : H ow = some (.dK (owD bx hd room lo ca))
 heads : HeadsAt H hd hs
 ne : ow ≠ st
structure MvO (st ow : Addr) (H H' : Hp) : Prop where
 keep : KeepL [st, ow] H H'
 live : ∀ a, H' a = none -> H a = none
theorem MvO.refl : MvO st ow H H := ⟨KeepL.refl _ _, fun _ h => h⟩
theorem MvO.trans (a : MvO st ow H H1) (b : MvO st ow H1 H2) : MvO st ow H H2 := ⟨a.keep.trans b.keep, fun c h => a.live c (b.live c h)⟩
theorem MvO.same (g : Same H H1) : MvO st ow H H1 := ⟨KeepL.same g, fun a h => g.free h⟩
theorem MvO.drawn {K : PySem.W.Frag} (d0 : DrawD K H st) (d : DrawnD K st H H1) : MvO st ow H H1 := ⟨fun b o n e => d.keep b o (fun z => n (by rw [z]; exact List.mem_cons_self ..)) e, fun a h => by
 cases e : H a with
 | none => rfl
 | some o =>
  by_cases z : a = st
  ·obtain ⟨_, _, _, _, q, _⟩ := d.draw
   rw [z, q] at h; cases h
  ·rw [d.keep a o z e] at h; cases h⟩
theorem MvO.tups (m : MvO st ow H H1) (h : DrO K st ow hd hs bx lo ca H room) : Tups H H1 := fun b xs e => m.keep b _ (fun z => by
 rcases List.mem_cons.mp z with z | z
 ·obtain ⟨_, _, _, _, q, _⟩ := h.dr
  rw [z, q] at e; cases e
 ·rw [List.mem_singleton.mp z, h.own] at e; cases e) e
theorem MvO.lst (m : MvO st ow H H1) (h : DrO K st ow hd hs bx lo ca H room) {b : Addr} {xs : List V} (e : H b = some (.lst xs)) : H1 b = some (.lst xs) := m.keep b _ (fun z => by
 rcases List.mem_cons.mp z with z | z
 ·obtain ⟨_, _, _, _, q, _⟩ := h.dr
  rw [z, q] at e; cases e
 ·rw [List.mem_singleton.mp z, h.own] at e; cases e) e
theorem MvO.heads (m : MvO st ow H H1) (h : DrO K st ow hd hs bx lo ca H room) : HeadsAt H1 hd hs := by
 obtain ⟨rs, e, p⟩ := h.heads
 exact ⟨rs, m.lst h e, Paired.imp (fun _ _ ⟨t, a, q⟩ => ⟨t, a, m.tups h _ _ q⟩) p⟩
theorem DrO.drawn (h : DrO K st ow hd hs bx lo ca H room) (d : DrawnD K st H H1) : DrO K st ow hd hs bx lo ca H1 room := ⟨d.draw, d.keep _ _ h.ne h.own, (MvO.drawn h.dr d).heads h, h.ne⟩
theorem DrO.same (h : DrO K st ow hd hs bx lo ca H room) (g : Same H H1) : DrO K st ow hd hs bx lo ca H1 room := ⟨h.dr.same g, g _ _ h.own, (MvO.same g).heads h, h.ne⟩
theorem DrO.put (h : DrO K st ow hd hs bx lo ca H room) (j : Int) : DrO K st ow hd hs bx lo ca (upd H ow (.dK (owD bx hd j lo ca))) j /\ MvO st ow H (upd H ow (.dK (owD bx hd j lo ca))) := by
 have m : MvO st ow H (upd H ow (.dK (owD bx hd j lo ca))) := ⟨KeepL.upd (List.mem_cons_of_mem _ (List.mem_cons_self ..)), fun a q => (yK q).2⟩
 refine ⟨⟨?_, zB, m.heads h, h.ne⟩, m⟩
 obtain ⟨a, ns, k, c, e, sc, l, k0, c0⟩ := h.dr
 refine ⟨a, ns, k, c, by rw [zK (Ne.symm h.ne)]; exact e, ?_, l, k0, c0⟩
 exact sc.keepD h.own Keep.upd
structure Drw (hs : Hds) (bx : Int) (H : Hp) (d : Nat) (room room' : Int) (v : V) (t : Tr) : Prop where
 at_ : Tr3 H d v t
 fit : FitT hs bx d t
 r0 : 0 <= room'
 r1 : room' <= room
 sz : (szT t : Int) + 14 * room' <= 1 + 14 * room
def spDrawT (K : PySem.W.Frag) (d : Nat) : Sp := fun vs H Q _ => ∃ (st ow hd : Addr) (hs : Hds) (bx room deep : Int) (lo ca : Bool), vs = [.ref st, .ref ow, .int deep] /\ DrO K st ow hd hs bx lo ca H room /\ HdsGood hs /\ 0 <= bx /\ bx <= 12 /\ 0 <= room /\ room <= 14 /\ deep <= (d : Int) /\ 1 <= d /\
 ∀ v t room' H', MvO st ow H H' -> DrO K st ow hd hs bx lo ca H' room' -> Drw hs bx H' d room room' v t -> Q v H'
def spLeafT (K : PySem.W.Frag) : Sp := fun vs H Q _ => ∃ (st ow hd : Addr) (hs : Hds) (bx room : Int) (lo ca : Bool), vs = [.ref st, .ref ow] /\ DrO K st ow hd hs bx lo ca H room /\ 0 <= bx /\ bx <= 12 /\ 0 <= room /\
 ∀ v t H', MvO st ow H H' -> DrO K st ow hd hs bx lo ca H' room -> Drw hs bx H' 1 room room v t -> Q v H'
end
end L2

namespace L2
open PySem
structure WA where
 wk : Addr
 dw : Addr
 pr : Addr
 rw : Addr
def WkO (CW : Addr) (A : WA) (br : Int) (dn : Nat) : HO := .ins CW A.dw [("program", .ref A.pr), ("rows", .ref A.rw), ("breaths", .int br), ("done_at_once", .int (dn : Int))]
structure EvAt (CW : Addr) (G : List Fn) (D dn : Nat) (A : WA) (bxa : Addr) (H : Hp) (rs : List Addr) (s : ES) : Prop where
 wk : H A.wk = some (WkO CW A s.br dn)
 rows : RowsAt H A.rw rs s.rows
 prog : ∃ pv, H A.pr = some (.lst pv) /\ Paired (FTAt H D) pv G
 box : H bxa = some (.lst (s.bx.map V.int))
 n1 : bxa ≠ A.rw
 n2 : bxa ∉ rs
 n3 : A.pr ≠ A.rw
 n4 : A.pr ∉ rs
 n5 : A.pr ≠ bxa
def chg (A : WA) (bxa : Addr) (rs : List Addr) : List Addr := A.wk :: bxa :: A.rw :: rs
structure Mv (A : WA) (bxa : Addr) (rs rs' : List Addr) (H H' : Hp) : Prop where
 keep : KeepL (chg A bxa rs) H H'
 fresh : ∀ a ∈ rs', a ∈ rs \/ H a = none
 live : ∀ a, H' a = none -> H a = none
section
variable {CW CF : Addr} {G : List Fn} {D dn : Nat} {A : WA} {bxa : Addr} {H H1 H2 : Hp} {rs rs1 rs2 : List Addr} {s s1 : ES} {Q : VK} {E : XK}
theorem Mv.refl : Mv A bxa rs rs H H := ⟨KeepL.refl _ _, fun _ h => .inl h, fun _ h => h⟩
theorem Mv.same (g : Same H H1) : Mv A bxa rs rs H H1 := ⟨KeepL.same g, fun _ h => .inl h, fun a h => g.free h⟩
theorem Mv.trans (a : Mv A bxa rs rs1 H H1) (b : Mv A bxa rs1 rs2 H1 H2) : Mv A bxa rs rs2 H H2 := by
 refine ⟨fun c o n e => ?_, fun c h => ?_, fun c h => a.live c (b.live c h)⟩
 ·refine b.keep c o (fun m => ?_) (a.keep c o n e)
  rcases List.mem_cons.mp m with z | m
  ·exact n (by rw [z]; exact List.mem_cons_self ..)
  rcases List.mem_cons.mp m with z | m
  ·exact n (by rw [z]; exact List.mem_cons_of_mem _ (List.mem_cons_self ..))
  rcases List.mem_cons.mp m with z | m
  ·exact n (by rw [z]; exact List.mem_cons_of_mem _ (List.mem_cons_of_mem _ (List.mem_cons_self ..)))
  rcases a.fresh c m with z | z
  ·exact n (List.mem_cons_of_mem _ (List.mem_cons_of_mem _ (List.mem_cons_of_mem _ z)))
  ·rw [e] at z; cases z
 ·rcases b.fresh c h with z | z
  ·exact a.fresh c z
  ·exact .inr (a.live c z)
theorem EvAt.wkne (h : EvAt CW G D dn A bxa H rs s) {a : Addr} {xs : List V} (e : H a = some (.lst xs)) : A.wk ≠ a := fun z => by
 have := h.wk
 rw [z, e] at this
 cases this
theorem EvAt.tupne (h : EvAt CW G D dn A bxa H rs s) {a : Addr} {xs : List V} (e : H a = some (.tup xs)) : a ∉ chg A bxa rs := fun m => by
 rcases List.mem_cons.mp m with z | m
 ·rw [z, h.wk] at e; cases e
 rcases List.mem_cons.mp m with z | m
 ·rw [z, h.box] at e; cases e
 rcases List.mem_cons.mp m with z | m
 ·rw [z, h.rows.here] at e; cases e
 ·obtain ⟨xs, q⟩ := h.rows.mem m
  rw [q] at e; cases e
theorem EvAt.tups (h : EvAt CW G D dn A bxa H rs s) (m : Mv A bxa rs rs1 H H1) : Tups H H1 := fun b xs e => m.keep b _ (h.tupne e) e
theorem EvAt.more (h : EvAt CW G D dn A bxa H rs s) (g : Same H H1) : EvAt CW G D dn A bxa H1 rs s := by
 obtain ⟨pv, e, p⟩ := h.prog
 exact ⟨g _ _ h.wk, h.rows.same g, ⟨pv, g _ _ e, Paired.imp (fun _ _ z => z.tups fun b xs q => g _ _ q) p⟩, g _ _ h.box, h.n1, h.n2, h.n3, h.n4, h.n5⟩
theorem Mv.lst (m : Mv A bxa rs rs1 H H1) (h : EvAt CW G D dn A bxa H rs s) {a : Addr} {xs : List V} (e : H a = some (.lst xs)) (n1 : a ≠ bxa) (n2 : a ≠ A.rw) (n3 : a ∉ rs) : H1 a = some (.lst xs) := m.keep a _ (fun z => by
 rcases List.mem_cons.mp z with z | z
 ·exact h.wkne e z.symm
 rcases List.mem_cons.mp z with z | z
 ·exact n1 z
 rcases List.mem_cons.mp z with z | z
 ·exact n2 z
 ·exact n3 z) e
theorem Mv.notin (m : Mv A bxa rs rs1 H H1) {a : Addr} {o : HO} (e : H a = some o) (n : a ∉ rs) : a ∉ rs1 := fun z => by
 rcases m.fresh a z with q | q
 ·exact n q
 ·rw [e] at q; cases q
def EndsE (CW CF : Addr) (G : List Fn) (D dn : Nat) (A : WA) (bxa : Addr) (H : Hp) (rs : List Addr) (Q : VK) (E : XK) : ER -> Prop
 | .val v s => ∀ H' rs', Mv A bxa rs rs' H H' -> EvAt CW G D dn A bxa H' rs' s -> Q (.int v) H'
 | .bad w n rows _ => ∀ d H' rs' br' dn', Mv A bxa rs rs' H H' -> RowsAt H' A.rw rs' rows -> H' A.wk = some (WkO CW A br' dn') -> H' d = some (XdO d [("word", .str w), ("number", .int n)]) -> E (.ref CF) (some d) H'
theorem EndsE.mv {o : ER} (h : EndsE CW CF G D dn A bxa H rs Q E o) (m : Mv A bxa rs rs1 H H1) : EndsE CW CF G D dn A bxa H1 rs1 Q E o := by
 cases o with
 | val v s => exact fun H' rs' m' e => h H' rs' (m.trans m') e
 | bad w n rows c => exact fun d H' rs' br' dn' m' => h d H' rs' br' dn' (m.trans m')
theorem EndsE.seq {r : ER} {f : Int -> ES -> ER} {Q' : VK} (h : EndsE CW CF G D dn A bxa H rs Q E (r.bind f)) (k : ∀ v s' H' rs', r = .val v s' -> Mv A bxa rs rs' H H' -> EvAt CW G D dn A bxa H' rs' s' -> EndsE CW CF G D dn A bxa H' rs' Q E (f v s') -> Q' (.int v) H') : EndsE CW CF G D dn A bxa H rs Q' E r := by
 cases r with
 | val v s => exact fun H' rs' m e => k v s H' rs' rfl m e (EndsE.mv h m)
 | bad w n rows c => exact h
theorem EndsE.fault {w : Str} {n : Int} {rows : List (List Int)} {c : Nat × Int} (h : EndsE CW CF G D dn A bxa H rs Q E (.bad w n rows c)) (ev : EvAt CW G D dn A bxa H rs s) (er : s.rows = rows) : FaultS CF H E w n := fun d H' g e => h d H' rs _ _ (Mv.same g) (by rw [<- er]; exact ev.rows.same g) (g _ _ ev.wk) e
theorem EvAt.putW (h : EvAt CW G D dn A bxa H rs s) (br : Int) (dn' : Nat) : EvAt CW G D dn' A bxa (upd H A.wk (WkO CW A br dn')) rs { s with br := br } /\ Mv A bxa rs rs H (upd H A.wk (WkO CW A br dn')) := by
 have kp : ∀ {b : Addr} {o : HO}, b ≠ A.wk -> H b = some o -> upd H A.wk (WkO CW A br dn') b = some o := fun n e => by rw [zK n]; exact e
 obtain ⟨pv, e, p⟩ := h.prog
 refine ⟨⟨zB, h.rows.keep fun b o m q => kp (fun z => ?_) q, ⟨pv, kp (Ne.symm (h.wkne e)) e, Paired.imp (fun _ _ z => z.tups fun b xs q => kp (fun y => by rw [y, h.wk] at q; cases q) q) p⟩, kp (Ne.symm (h.wkne h.box)) h.box, h.n1, h.n2, h.n3, h.n4, h.n5⟩, ⟨KeepL.upd (List.mem_cons_self ..), fun _ h => .inl h, fun a q => (yK q).2⟩⟩
 rcases List.mem_cons.mp m with y | y
 ·exact h.wkne h.rows.here (by rw [<- z, y])
 ·obtain ⟨xs, q⟩ := h.rows.mem y
  exact h.wkne q z.symm
theorem EvAt.putB (h : EvAt CW G D dn A bxa H rs s) (zs : List Int) : EvAt CW G D dn A bxa (upd H bxa (.lst (zs.map V.int))) rs { s with bx := zs } /\ Mv A bxa rs rs H (upd H bxa (.lst (zs.map V.int))) := by
 have kp : ∀ {b : Addr} {o : HO}, b ≠ bxa -> H b = some o -> upd H bxa (.lst (zs.map V.int)) b = some o := fun n e => by rw [zK n]; exact e
 obtain ⟨pv, e, p⟩ := h.prog
 refine ⟨⟨kp (h.wkne h.box) h.wk, h.rows.keep fun b o m q => kp (fun z => ?_) q, ⟨pv, kp h.n5 e, Paired.imp (fun _ _ z => z.tups fun b xs q => kp (fun y => by rw [y, h.box] at q; cases q) q) p⟩, zB, h.n1, h.n2, h.n3, h.n4, h.n5⟩, ⟨KeepL.upd (List.mem_cons_of_mem _ (List.mem_cons_self ..)), fun _ h => .inl h, fun a q => (yK q).2⟩⟩
 rcases List.mem_cons.mp m with y | y
 ·exact h.n1 (by rw [<- z, y])
 ·exact h.n2 (by rw [<- z]; exact y)
theorem EvAt.deed {p : Addr} {rs' : List Addr} {o : List V × List (List Int)} {c : Nat} (h : EvAt CW G D dn A bxa H rs s) (d : Deed H H1 p A.rw rs rs' o) : EvAt CW G D dn A bxa H1 rs' { s with rows := o.2, ct := c } /\ Mv A bxa rs rs' H H1 := by
 obtain ⟨pv, e, q⟩ := h.prog
 have kp : ∀ {b : Addr} {x : HO}, b ≠ A.rw -> b ∉ rs -> H b = some x -> H1 b = some x := fun n1 n2 e => d.keep _ _ (fun m => by
  rcases List.mem_cons.mp m with z | z
  ·exact n1 z
  ·exact n2 z) e
 have fr : ∀ a ∈ rs', a ∈ rs \/ H a = none := fun a m => by
  rcases d.more with z | ⟨q, hq, _, z⟩
  ·rw [z] at m; exact .inl m
  ·rw [z] at m
   rcases List.mem_append.mp m with y | y
   ·exact .inl y
   ·rw [List.mem_singleton.mp y]; exact .inr hq
 have nin : ∀ {a : Addr} {x : HO}, H a = some x -> a ∉ rs -> a ∉ rs' := fun e n m => by
  rcases fr _ m with z | z
  ·exact n z
  ·rw [e] at z; cases z
 have wn : A.wk ∉ rs := fun m => by
  obtain ⟨xs, z⟩ := h.rows.mem m
  exact h.wkne z rfl
 refine ⟨⟨kp (h.wkne h.rows.here) wn h.wk, d.rows, ⟨pv, kp h.n3 h.n4 e, Paired.imp (fun _ _ z => z.tups fun b xs y => kp (fun m => by rw [m, h.rows.here] at y; cases y) (fun m => by obtain ⟨xs, z⟩ := h.rows.mem m; rw [z] at y; cases y) y) q⟩, kp h.n1 h.n2 h.box, h.n1, nin h.box h.n2, h.n3, nin e h.n4, h.n5⟩, ⟨fun b x n y => d.keep b x (fun m => n (List.mem_cons_of_mem _ (List.mem_cons_of_mem _ m))) y, fr, fun a y => ?_⟩⟩
 cases z : H a with
 | none => rfl
 | some x =>
  by_cases m : a ∈ A.rw :: rs
  ·rcases List.mem_cons.mp m with q | q
   ·rw [q, d.rows.here] at y; cases y
   ·rcases d.more with w | ⟨_, _, _, w⟩
    ·obtain ⟨xs, u⟩ := d.rows.mem (show a ∈ rs' by rw [w]; exact q)
     rw [u] at y; cases y
    ·obtain ⟨xs, u⟩ := d.rows.mem (show a ∈ rs' by rw [w]; exact List.mem_append_left _ q)
     rw [u] at y; cases y
  ·rw [d.keep a x m z] at y; cases y
theorem Mv.other {bx2 : Addr} (m : Mv A bx2 rs rs1 H1 H2) (g : Mv A bxa rs rs H H1) (hb : H bx2 = none) : Mv A bxa rs rs1 H H2 := by
 refine ⟨fun b o n e => m.keep b o (fun z => ?_) (g.keep b o n e), fun a h => ?_, fun a h => g.live a (m.live a h)⟩
 ·rcases List.mem_cons.mp z with z | z
  ·exact n (by rw [z]; exact List.mem_cons_self ..)
  rcases List.mem_cons.mp z with z | z
  ·rw [z, hb] at e; cases e
  ·exact n (List.mem_cons_of_mem _ (List.mem_cons_of_mem _ z))
 ·rcases m.fresh a h with z | z
  ·exact .inl z
  ·exact .inr (g.live a z)
theorem EvAt.back {bx2 : Addr} {dn' : Nat} (h : EvAt CW G D dn A bxa H1 rs s) (m : Mv A bx2 rs rs1 H1 H2) (e : EvAt CW G D dn' A bx2 H2 rs1 s1) (hb : bxa ≠ bx2) : EvAt CW G D dn' A bxa H2 rs1 { s1 with bx := s.bx } := by
 refine ⟨e.wk, e.rows, e.prog, m.keep _ _ (fun z => ?_) h.box, h.n1, m.notin h.box h.n2, e.n3, e.n4, h.n5⟩
 rcases List.mem_cons.mp z with z | z
 ·exact h.wkne h.box z.symm
 rcases List.mem_cons.mp z with z | z
 ·exact hb z
 rcases List.mem_cons.mp z with z | z
 ·exact h.n1 z
 ·exact h.n2 z
theorem EvAt.enter {bx2 : Addr} {zs : List Int} (h : EvAt CW G D dn A bxa H rs s) (g : Same H H1) (hb : H bx2 = none) (e : H1 bx2 = some (.lst (zs.map V.int))) : EvAt CW G D dn A bx2 H1 rs { s with bx := zs } := by
 have h' := h.more g
 obtain ⟨pv, ep, _⟩ := h.prog
 refine ⟨h'.wk, h'.rows, h'.prog, e, fun z => ?_, fun z => ?_, h.n3, h.n4, fun z => ?_⟩
 ·rw [z, h.rows.here] at hb; cases hb
 ·obtain ⟨xs, q⟩ := h.rows.mem z
  rw [q] at hb; cases hb
 ·rw [<- z, ep] at hb; cases hb
theorem EvAt.putV {vl : Addr} {ys : List V} {xs : List V} (h : EvAt CW G D dn A bxa H rs s) (hv : H vl = some (.lst xs)) (n1 : vl ≠ bxa) (n2 : vl ≠ A.rw) (n3 : vl ∉ rs) (n4 : vl ≠ A.pr) : EvAt CW G D dn A bxa (upd H vl (.lst ys)) rs s := by
 have kp : ∀ {b : Addr} {o : HO}, b ≠ vl -> H b = some o -> upd H vl (.lst ys) b = some o := fun n e => by rw [zK n]; exact e
 obtain ⟨pv, e, p⟩ := h.prog
 refine ⟨kp (h.wkne hv) h.wk, h.rows.keep fun b o m q => kp (fun z => ?_) q, ⟨pv, kp (Ne.symm n4) e, Paired.imp (fun _ _ z => z.tups fun b xs q => kp (fun y => by rw [y, hv] at q; cases q) q) p⟩, kp (Ne.symm n1) h.box, h.n1, h.n2, h.n3, h.n4, h.n5⟩
 rcases List.mem_cons.mp m with y | y
 ·exact n2 (by rw [<- z, y])
 ·exact n3 (by rw [<- z]; exact y)
theorem Mv.putV {vl : Addr} {o : HO} (m : Mv A bxa rs rs1 H H1) (h : H vl = none) : Mv A bxa rs rs1 H (upd H1 vl o) :=
 ⟨fun b x n e => by rw [zK (zI e h)]; exact m.keep b x n e, m.fresh, fun a q => m.live a (yK q).2⟩
end
structure PrG (G : List Fn) (D M N g : Nat) : Prop where
 ok : ProgOk G D M
 big : N + g <= 60000
 len : G.length <= 16
def spBreW (CW CF : Addr) : Sp := fun vs H Q E => ∃ (A : WA) (br : Int) (dn : Nat), vs = [.ref A.wk] /\ H A.wk = some (WkO CW A br dn) /\ (br <= 0 -> FaultS CF H E "breath" 0) /\ (0 < br -> Q .non (upd H A.wk (WkO CW A (br - 1) dn)))
def spPickW : Sp := fun vs H Q _ => ∃ (v : Int) (pt : Addr) (x : V) (xs : List V) (y : V), vs = [.int v, .ref pt] /\ H pt = some (.tup (x :: xs)) /\ 0 < xs.length /\ xs.length <= 100 /\ xs[pickI v xs.length]? = some y /\ Q y H
def spCallW (CW CF : Addr) (G : List Fn) (D M N g c : Nat) : Sp := fun vs H Q E => ∃ (A : WA) (bxa : Addr) (rs : List Addr) (s : ES) (f : Int) (vl : Addr) (vals : List Int), vs = [.ref A.wk, .int f, .ref vl] /\ EvAt CW G D (16 - c) A bxa H rs s /\ H vl = some (.lst (vals.map V.int)) /\ 0 <= f /\ f < (G.length : Int) /\ vals.length = ((G.map Prod.fst).getD f.toNat (0, 0)).1.toNat /\ (∀ v ∈ vals, Vb v) /\ EOk g s /\ s.ct + M * s.br.toNat <= N /\
 EndsE CW CF G D (16 - c) A bxa H rs Q E (evC G D c f vals s)
def spWithW (CW CF : Addr) (G : List Fn) (D M N g c : Nat) : Sp := fun vs H Q E => ∃ (A : WA) (bxa : Addr) (rs : List Addr) (s : ES) (k b : Int) (ow vl : Addr) (own vals : List Int), vs = [.ref A.wk, .int k, .ref ow, .ref vl, .ref bxa] /\ EvAt CW G D (16 - c) A bxa H rs s /\ H ow = some (.tup (own.map V.int)) /\ H vl = some (.lst (vals.map V.int)) /\ vl ∉ A.rw :: rs /\ vl ≠ bxa /\ 0 <= k /\ k <= 19 /\ OwnFit (G.map Prod.fst) b k own /\ (k ≠ 0 /\ k ≠ 1 /\ k ≠ 4 /\ k ≠ 5) /\ vals.length = (dueM (G.map Prod.fst) k own).toNat /\ (∀ v ∈ vals, Vb v) /\ EOk g s /\ (s.bx.length : Int) = b /\ s.ct + 1 + M * s.br.toNat <= N /\
 EndsE CW CF G D (16 - c) A bxa H rs Q E (withE (evC G D c) k own vals s)
def spNodeW (CW CF : Addr) (G : List Fn) (D M N g c n : Nat) : Sp := fun vs H Q E => ∃ (A : WA) (bxa : Addr) (rs : List Addr) (s : ES) (v : V) (t : Tr) (b : Int), vs = [.ref A.wk, v, .ref bxa] /\ EvAt CW G D (16 - c) A bxa H rs s /\ TrAt H n v t /\ FitT (G.map Prod.fst) b n t /\ szT t <= M /\ EOk g s /\ (s.bx.length : Int) = b /\ s.ct + M * s.br.toNat + szT t <= N /\
 EndsE CW CF G D (16 - c) A bxa H rs Q E (evN (evC G D c) n t s)
def lvC (D c : Nat) : Nat := c * (D + 3) + 4
def lvW (D c : Nat) : Nat := c * (D + 3) + 5
def lvN (D c n : Nat) : Nat := c * (D + 3) + n + 6
end L2

namespace L2
open PySem
section
variable {H : Hp} {A : WA} {br us dp : Int} {ov : V}
end
theorem F3At.tups {H H' : Hp} (h : Tups H H') {d : Nat} {v : V} {n : Fn} : F3At H d v n -> F3At H' d v n := fun ⟨t, b, e, q, z⟩ => ⟨t, b, e, h _ _ q, z.tups h⟩
section
variable {G : List Fn} {D : Nat} {dp : Int} {A : WA} {bxa : Addr} {H H1 H2 : Hp} {rs rs1 rs2 : List Addr} {s s1 : ES} {us us1 : Int} {Q : VK} {w : Str} {n : Int} {rows : List (List Int)}
end
mutual
def lpN : Tr -> Nat
 | .mk k _ ps => (if k = 5 then 1 else 0) + lpNs ps
def lpNs : List Tr -> Nat
 | [] => 0
 | a :: r => Nat.max (lpN a) (lpNs r)
end
end L2

namespace L2
open PySem
section
variable {hs : Hds} {b : Int} {call : Int -> List Int -> ES -> ER}
def pick4 (ev : Tr -> ES -> ER) : List Tr -> ES -> ER
 | [], s => strayE s
 | p0 :: r, s => (ev p0 s).bind fun v s => match r[pickI v r.length]? with
  | some t => ev t s
  | none => strayE s
def loop5 (ev : Tr -> ES -> ER) : List Tr -> ES -> ER
 | [p0, p1], s => breE s fun s => loopE (ev p0) (ev p1) (s.br.toNat + 1) s
 | _, s => strayE s
theorem evN_succ (n : Nat) (k : Int) (own : List Int) (ps : List Tr) (s : ES) : evN call (n + 1) (.mk k own ps) s =
  if k = 0 then .val (own.headD 0) s
  else if k = 1 then .val (s.bx.getD (own.headD 0).toNat 0) s
  else if k = 4 then pick4 (evN call n) ps s
  else if k = 5 then loop5 (evN call n) ps s
  else partsE (evN call n) (withE call k own) ps [] s := by
 cases ps with
 | nil => rfl
 | cons p0 r =>
 cases r with
 | nil => rfl
 | cons p1 r =>
 cases r with
 | cons _ _ => rfl
 | nil => rfl
theorem partsE_congr {f g : Tr -> ES -> ER} {k : List Int -> ES -> ER} : ∀ (ps : List Tr) (vs : List Int) (s : ES), (∀ t ∈ ps, f t = g t) -> partsE f k ps vs s = partsE g k ps vs s
 | [], _, _, _ => rfl
 | t :: ps, vs, s, h => by
  unfold partsE
  rw [h t (List.mem_cons_self ..)]
  congr 1
  funext v s
  exact partsE_congr ps _ s fun t m => h t (List.mem_cons_of_mem _ m)
theorem FitTs.mem {n : Nat} : ∀ {ps : List Tr} {t : Tr}, FitTs hs b n ps -> t ∈ ps -> FitT hs b n t := fun {ps t} f m => by
 obtain ⟨i, e⟩ := List.getElem?_of_mem m
 exact (FitTs.get f e).1
theorem evN_more : ∀ (n : Nat) (t : Tr), FitT hs b n t -> evN call (n + 1) t = evN call n t
 | 0, t, f => by unfold FitT at f; exact f.elim
 | n + 1, .mk k own ps, f => by
  unfold FitT at f
  have fp := f.2.2.2.2.2
  funext s
  rw [evN_succ, evN_succ]
  have ih : ∀ t ∈ ps, evN call (n + 1) t = evN call n t := fun t m => evN_more n t (FitTs.mem fp m)
  have e4 : pick4 (evN call (n + 1)) ps s = pick4 (evN call n) ps s := by
   cases ps with
   | nil => rfl
   | cons p0 r =>
    unfold pick4; dsimp only
    rw [ih p0 (List.mem_cons_self ..)]
    congr 1
    funext v s
    cases e : r[pickI v r.length]? with
    | none => rfl
    | some t => dsimp only; rw [ih t (List.mem_cons_of_mem _ (List.mem_of_getElem? e))]
  have e5 : loop5 (evN call (n + 1)) ps s = loop5 (evN call n) ps s := by
   cases ps with
   | nil => rfl
   | cons p0 r =>
   cases r with
   | nil => rfl
   | cons p1 r =>
   cases r with
   | cons _ _ => rfl
   | nil =>
    unfold loop5; dsimp only
    rw [ih p0 (List.mem_cons_self ..), ih p1 (List.mem_cons_of_mem _ (List.mem_cons_self ..))]
  rw [e4, e5, partsE_congr ps [] s ih]
end
theorem evC_more {P : List Fn} {hs : Hds} {d : Nat} (h : ∀ (i : Nat) (p b : Int) (t : Tr), P[i]? = some ((p, b), t) -> FitT hs b d t) : ∀ c, evC P (d + 1) c = evC P d c
 | 0 => rfl
 | c + 1 => by
  funext f vs s
  unfold evC
  congr 1
  funext s1
  cases e : P[f.toNat]? with
  | none => rfl
  | some x =>
   obtain ⟨⟨p, b⟩, t⟩ := x
   dsimp only
   rw [evC_more h c, evN_more d t (h _ _ _ _ e)]
theorem evC_up {P : List Fn} {hs : Hds} {d e : Nat} (le : d <= e) (h : ∀ (m : Nat), d <= m -> ∀ (i : Nat) (p b : Int) (t : Tr), P[i]? = some ((p, b), t) -> FitT hs b m t) (c : Nat) : evC P e c = evC P d c := by
 induction le with
 | refl => rfl
 | @step m le ih => rw [evC_more (h m le) c, ih]
end L2

namespace L2
open PySem PySem.Spec PyProof.Rows
section
variable {X : Cx}
def intsTo (n : Nat) : List Int := (List.range n).map fun i => ((i : Nat) : Int)
theorem vals_to : ∀ (n k : Nat) (xs : List Value), xs.length = n -> (∀ i v, xs[i]? = some v -> ∃ t, v = Value.int ((k + i : Nat) : Int) t) -> Vals ((List.range' k n).map fun i => V.int ((i : Nat) : Int)) xs
 | 0, _, [], _, _ => .nil
 | n + 1, k, x :: xs, hl, h => by
  obtain ⟨t, e⟩ := h 0 x rfl
  rw [List.range'_succ, List.map_cons]
  refine .cons ⟨t, by rw [e] <;> rfl⟩ (vals_to n (k + 1) xs (Nat.succ.inj hl) fun i v hv => ?_)
  obtain ⟨t, e⟩ := h (i + 1) v hv
  exact ⟨t, by rw [e, show k + (i + 1) = k + 1 + i by (first|lia|omega)]⟩
def tListR (ta : TA) : TE := fun σ H Q => ta σ H fun vs H1 => ∃ j : Nat, vs = [.int (j : Int)] /\ j <= 4000 /\ ∀ l, H1 l = none -> Q (.ref l) (upd H1 l (.lst ((intsTo j).map V.int)))
theorem pe_listR {a : Expr} {ta : TA} {p pos p2 pos2 : Pos} (hgl : Gl X "list") (hml : X.mg "list" = none) (hgr : Gl X "range") (hmr : X.mg "range" = none) (ha : PA X [a] ta) (hc : X.calm = true := by rfl) (hs : starEach [a] X.env = [(false, eval a X.env)] := by rfl) (hs2 : starEach [.Call (.Name "range" p) [a] [] pos] X.env = [(false, eval (.Call (.Name "range" p) [a] [] pos) X.env)] := by rfl) :
  PE X (.Call (.Name "list" p2) [.Call (.Name "range" p) [a] [] pos] [] pos2) (tListR ta) := by
 refine ⟨?_⟩
 intro pins s σ H Q I h
 refine wpAny_Call_Name_kw (wD I hgl hml bt_list ?_ (by decide) (by decide))
 refine PyProof.Rows.callWith_type1 ?_ hs2 rfl
 rw [hs2]
 show wpAny _ _ (spliced ((false, eval (.Call (.Name "range" p) [a] [] pos) X.env) :: backTo pos2 (starEach [] X.env))) _ _ s
 refine Calls.spliced_cons ?_
 refine Call_ (wD I hgr hmr boot_range (PyProof.Rows.callWith_type1 (thn (ha pos pins s σ H _ I h) fun us s1 ⟨vs, H1, I1, r1, q1⟩ => ?_) hs rfl))
 obtain ⟨j, e, lj, q⟩ := q1
 subst e
 cases r1 with
 | cons r rr =>
  cases rr
  obtain ⟨t, rfl⟩ := r
  refine call_range_1 ?_
  have I2 : Inv X pins σ H1 { s1 with heap := s1.heap.push { cls := .type "range", data := .fields #[.int 0 s1.toks, .int (j : Int) t, .int 1 (s1.toks + 1)] }, toks := s1.toks + 1 + 1 } := I1.kept fun b o e => Heap.get?_push_of_some _ e
  refine wpAny_pure ?_
  refine call_list_range (I.ok.hd hc) (IsRange.new ..) (small_one (by decide) (by decide) (by (first|lia|omega)) (by (first|lia|omega))) (n := j) (by rw [rangeSize_one]; split <;> (first|lia|omega)) (by (first|lia|omega)) fun h' tk acc c' kp e it => ?_
  have e' : h'.get? _ = some { cls := .type "list", dict := none, data := .seq acc.toList.toArray c', slots := #[] } := e
  have vs : Vals ((intsTo j).map V.int) acc.toList := by
   unfold intsTo
   rw [List.map_map, List.range_eq_range']
   refine vals_to j 0 acc.toList (by rw [Array.length_toList]; exact it.1) fun i v hv => ?_
   obtain ⟨t, e⟩ := it.2 i v (by rw [<- Array.getElem?_toList]; exact hv)
   exact ⟨t, by rw [e]; congr 1; (first|lia|omega)⟩
  exact ⟨.ref _, _, I2.laid (t' := tk) kp (Nat.le_refl _) (show ObjOk X.prog X.w _ h' _ (.lst ((intsTo j).map V.int)) from ⟨by rw [List.length_map]; unfold intsTo; rw [List.length_map, List.length_range]; exact Nat.le_trans lj (by decide), acc.toList, c', vs, e'⟩), rfl, q _ (I2.hok.fresh (Nat.le_refl _))⟩
end
end L2

namespace L2
open PySem
mutual
def renT (r p : Int -> Int) : Tr -> Tr
 | .mk k own ps => .mk k (if k = 1 \/ k = 2 then own.map p else if k = 6 then own.map r else own) (renTs r p ps)
def renTs (r p : Int -> Int) : List Tr -> List Tr
 | [] => []
 | a :: t => renT r p a :: renTs r p t
end
theorem wI (r p : Int -> Int) : ∀ ts, renTs r p ts = ts.map (renT r p)
 | [] => rfl
 | a :: t => by
  show renT r p a :: renTs r p t = _
  rw [wI r p t] <;> rfl
structure PmOk (p : Int -> Int) (b b' : Int) : Prop where
 lo : ∀ i, 0 <= i -> i < b -> 0 <= p i
 hi : ∀ i, 0 <= i -> i < b -> p i < b'
 inj : ∀ i j, 0 <= i -> i < b -> 0 <= j -> j < b -> p i = p j -> i = j
structure Rl (p : Int -> Int) (b b' : Int) (s s' : ES) : Prop where
 rows : s'.rows = s.rows
 br : s'.br = s.br
 ct : s'.ct = s.ct
 len : (s.bx.length : Int) = b
 len' : (s'.bx.length : Int) = b'
 box : ∀ i, 0 <= i -> i < b -> s'.bx.getD (p i).toNat 0 = s.bx.getD i.toNat 0
def RR (p : Int -> Int) (b b' : Int) : ER -> ER -> Prop
 | .val v s, r' => ∃ s', r' = .val v s' /\ Rl p b b' s s'
 | .bad w n rows c, r' => r' = .bad w n rows c
section
variable {p : Int -> Int} {b b' : Int} {s s' : ES} {r r' : ER}
theorem RR.bind {f f' : Int -> ES -> ER} (h : RR p b b' r r') (k : ∀ v t t', Rl p b b' t t' -> RR p b b' (f v t) (f' v t')) : RR p b b' (r.bind f) (r'.bind f') := by
 cases r with
 | val v t =>
  obtain ⟨t', rfl, hh⟩ := h
  exact k v t t' hh
 | bad w n rows c =>
  have h : r' = .bad w n rows c := h
  subst h
  rfl
theorem Rl.stray (h : Rl p b b' s s') : RR p b b' (strayE s) (strayE s') := by
 show strayE s' = strayE s
 unfold strayE
 rw [h.rows, h.ct, h.br]
theorem Rl.down (h : Rl p b b' s s') : Rl p b b' { s with br := s.br - 1 } { s' with br := s'.br - 1 } := ⟨h.rows, by show s'.br - 1 = s.br - 1; rw [h.br], h.ct, h.len, h.len', h.box⟩
theorem RR.breath {k k' : ES -> ER} (h : Rl p b b' s s') (hk : ∀ t t', Rl p b b' t t' -> RR p b b' (k t) (k' t')) : RR p b b' (breE s k) (breE s' k') := by
 unfold breE
 rw [h.br]
 by_cases c : s.br <= 0
 ·rw [if_pos c, if_pos c]
  show ER.bad _ _ _ _ = ER.bad _ _ _ _
  rw [h.rows, h.ct]
 ·rw [if_neg c, if_neg c]
  have := h.down
  rw [h.br] at this
  exact hk _ _ this
theorem RR.loop {f g f' g' : ES -> ER} (hf : ∀ t t', Rl p b b' t t' -> RR p b b' (f t) (f' t')) (hg : ∀ t t', Rl p b b' t t' -> RR p b b' (g t) (g' t')) : ∀ (m : Nat) (s s' : ES), Rl p b b' s s' -> RR p b b' (loopE f g m s) (loopE f' g' m s')
 | 0, s, s', h => h.stray
 | m + 1, s, s', h => by
  unfold loopE
  refine RR.bind (hf s s' h) fun v t t' ht => ?_
  by_cases z : v = 0
  ·rw [if_pos z, if_pos z]; exact ⟨t', rfl, ht⟩
  ·rw [if_neg z, if_neg z]
   exact RR.bind (hg t t' ht) fun _ u u' hu => RR.breath hu (RR.loop hf hg m)
theorem RR.parts {a a' : Tr -> ES -> ER} {k k' : List Int -> ES -> ER} {g : Tr -> Tr} {m : Nat} (hk : ∀ ws t t', ws.length = m -> Rl p b b' t t' -> RR p b b' (k ws t) (k' ws t')) : ∀ (ts : List Tr) (vs : List Int) (s s' : ES), (∀ u ∈ ts, ∀ t t', Rl p b b' t t' -> RR p b b' (a u t) (a' (g u) t')) -> vs.length + ts.length = m -> Rl p b b' s s' -> RR p b b' (partsE a k ts vs s) (partsE a' k' (ts.map g) vs s')
 | [], vs, s, s', _, hl, h => hk vs s s' (by rw [<- hl]; rfl) h
 | u :: ts, vs, s, s', ha, hl, h => by
  rw [List.map_cons]
  unfold partsE
  refine RR.bind (ha u (List.mem_cons_self ..) s s' h) fun v t t' ht => RR.parts hk ts _ t t' (fun u m => ha u (List.mem_cons_of_mem _ m)) ?_ ht
  rw [List.length_append, List.length_singleton, <- hl, List.length_cons]
  (first|lia|omega)
theorem RR.deed {k : Int} {vs : List Int} (h : Rl p b b' s s') : RR p b b' (deedE k vs s) (deedE k vs s') := by
 have tw := wO k (vs.getD 0 0) (vs.getD 1 0) (vs.getD 2 0) s.rows
 unfold deedE
 rw [h.rows]
 generalize worthM k (vs.getD 0 0) (vs.getD 1 0) (vs.getD 2 0) s.rows = o at *
 obtain ⟨o1, o2⟩ := o
 rcases tw with ⟨i, e⟩ | ⟨z, e⟩
 ·dsimp only at e
  subst e
  exact ⟨_, rfl, rfl, h.br, by show s'.ct + 1 = s.ct + 1; rw [h.ct], h.len, h.len', h.box⟩
 ·dsimp only at e
  subst e
  show ER.bad _ _ _ _ = ER.bad _ _ _ _
  rw [h.ct, h.br]
theorem getD_set' {xs : List Int} {i j : Nat} {v : Int} (hi : i < xs.length) : (xs.set i v).getD j 0 = if i = j then v else xs.getD j 0 := by
 rw [List.getD_eq_getElem?_getD, List.getElem?_set, List.getD_eq_getElem?_getD]
 by_cases e : i = j
 ·rw [if_pos e, if_pos e, if_pos hi] <;> rfl
 ·rw [if_neg e, if_neg e]
theorem Rl.set (pm : PmOk p b b') (h : Rl p b b' s s') {i v : Int} (i0 : 0 <= i) (ib : i < b) : Rl p b b' { s with bx := s.bx.set i.toNat v } { s' with bx := s'.bx.set (p i).toNat v } := by
 have l := h.len
 have l' := h.len'
 have p0 := pm.lo i i0 ib
 have p1 := pm.hi i i0 ib
 refine ⟨h.rows, h.br, h.ct, by show ((s.bx.set i.toNat v).length : Int) = b; rw [List.length_set]; exact l, by show ((s'.bx.set (p i).toNat v).length : Int) = b'; rw [List.length_set]; exact l', fun j j0 jb => ?_⟩
 show (s'.bx.set (p i).toNat v).getD (p j).toNat 0 = (s.bx.set i.toNat v).getD j.toNat 0
 rw [getD_set' (by (first|lia|omega)), getD_set' (by (first|lia|omega))]
 have q0 := pm.lo j j0 jb
 by_cases e : i = j
 ·subst e
  rw [if_pos rfl, if_pos rfl]
 ·rw [if_neg (fun z => e (pm.inj i j i0 ib j0 jb (by (first|lia|omega)))), if_neg (by (first|lia|omega))]
  exact h.box j j0 jb
end
def CallRR (hs : Hds) (ρ : Int -> Int) (call call' : Int -> List Int -> ES -> ER) : Prop := ∀ (f : Int) (vs : List Int) (p : Int -> Int) (b b' : Int) (s s' : ES), 0 <= f -> f < hs.length -> vs.length = (hs.getD f.toNat (0, 0)).1.toNat -> Rl p b b' s s' -> RR p b b' (call f vs s) (call' (ρ f) vs s')
theorem evN_turn {hs : Hds} {ρ : Int -> Int} {call call' : Int -> List Int -> ES -> ER} (C : CallRR hs ρ call call') {p : Int -> Int} {b b' : Int} (pm : PmOk p b b') : ∀ (n : Nat) (t : Tr) (s s' : ES), FitT hs b n t -> Rl p b b' s s' -> RR p b b' (evN call n t s) (evN call' n (renT ρ p t) s')
 | 0, t, s, s', f, _ => by unfold FitT at f; exact f.elim
 | n + 1, .mk k own ps, s, s', f, h => by
  have ih := evN_turn C pm n
  unfold FitT at f
  obtain ⟨k0, k19, of, lp, vo, fp⟩ := f
  have ip : ∀ u ∈ ps, ∀ t t', Rl p b b' t t' -> RR p b b' (evN call n u t) (evN call' n (renT ρ p u) t') := fun u m t t' ht => by
   obtain ⟨i, e⟩ := List.getElem?_of_mem m
   exact ih u t t' (FitTs.get fp e).1 ht
  have er : renT ρ p (.mk k own ps) = .mk k (if k = 1 \/ k = 2 then own.map p else if k = 6 then own.map ρ else own) (ps.map (renT ρ p)) := by
   show Tr.mk k _ (renTs ρ p ps) = _
   rw [wI]
  rw [er, evN_succ, evN_succ]
  by_cases c0 : k = 0
  ·subst c0
   rw [if_pos rfl, if_pos rfl, if_neg (by decide), if_neg (by decide)]
   exact ⟨s', rfl, h⟩
  rw [if_neg c0, if_neg c0]
  by_cases c1 : k = 1
  ·subst c1
   rw [if_pos rfl, if_pos rfl, if_pos (.inl rfl)]
   obtain ⟨i, rfl, i0, ib⟩ : ∃ i, own = [i] /\ 0 <= i /\ i <= b - 1 := by
    unfold OwnFit at of
    rcases of with ⟨a, _⟩ | ⟨_, z⟩ | ⟨a, _⟩ | ⟨a, _⟩ | ⟨a, _⟩ | ⟨a, _⟩
    ·(first|lia|omega)
    ·exact z
    ·(first|lia|omega)
    ·(first|lia|omega)
    ·(first|lia|omega)
    ·(first|lia|omega)
   refine ⟨s', ?_, h⟩
   show ER.val (s'.bx.getD (p i).toNat 0) s' = ER.val (s.bx.getD i.toNat 0) s'
   rw [h.box i i0 (by (first|lia|omega))]
  rw [if_neg c1, if_neg c1]
  by_cases c4 : k = 4
  ·subst c4
   rw [if_pos rfl, if_pos rfl]
   cases ps with
   | nil => exact h.stray
   | cons p0 r =>
    rw [List.map_cons]
    unfold pick4
    refine RR.bind (ip p0 (List.mem_cons_self ..) s s' h) fun v t t' ht => ?_
    try dsimp only
    rw [List.length_map, List.getElem?_map]
    cases e : r[pickI v r.length]? with
    | none => exact ht.stray
    | some u => exact ip u (List.mem_cons_of_mem _ (List.mem_of_getElem? e)) t t' ht
  rw [if_neg c4, if_neg c4]
  by_cases c5 : k = 5
  ·subst c5
   rw [if_pos rfl, if_pos rfl]
   have lp' : ps.length = 2 := lp
   match ps, lp', ip with
   | [p0, p1], _, ip =>
    show RR p b b' (loop5 (evN call n) [p0, p1] s) (loop5 (evN call' n) [renT ρ p p0, renT ρ p p1] s')
    unfold loop5
    refine RR.breath h fun t t' ht => ?_
    rw [ht.br]
    exact RR.loop (ip p0 (List.mem_cons_self ..)) (ip p1 (List.mem_cons_of_mem _ (List.mem_cons_self ..))) _ t t' ht
  rw [if_neg c5, if_neg c5]
  refine RR.parts (m := ps.length) (fun ws t t' lw ht => ?_) ps [] s s' ip (Nat.zero_add _) h
  unfold withE
  by_cases c2 : k = 2
  ·subst c2
   rw [if_pos rfl, if_pos rfl, if_pos (.inr rfl)]
   obtain ⟨i, rfl, i0, ib⟩ : ∃ i, own = [i] /\ 0 <= i /\ i <= b - 1 := by
    unfold OwnFit at of
    rcases of with ⟨a, _⟩ | ⟨_, z⟩ | ⟨a, _⟩ | ⟨a, _⟩ | ⟨a, _⟩ | ⟨a, _⟩
    ·(first|lia|omega)
    ·exact z
    ·(first|lia|omega)
    ·(first|lia|omega)
    ·(first|lia|omega)
    ·(first|lia|omega)
   have := ht.set pm (v := ws.getD 0 0) i0 (show i < b by (first|lia|omega))
   exact ⟨_, rfl, this⟩
  rw [if_neg c2, if_neg c2]
  by_cases c3 : k = 3
  ·rw [if_pos c3, if_pos c3]
   exact ⟨t', rfl, ht⟩
  rw [if_neg c3, if_neg c3]
  by_cases c6 : k = 6
  ·subst c6
   rw [if_pos rfl, if_pos rfl, if_neg (by decide), if_pos rfl]
   obtain ⟨i, rfl, i0, ib⟩ : ∃ i, own = [i] /\ 0 <= i /\ i <= (hs.length : Int) - 1 := by
    unfold OwnFit at of
    rcases of with ⟨a, _⟩ | ⟨a, _⟩ | ⟨a, _⟩ | ⟨a, _⟩ | ⟨_, z⟩ | ⟨a, _⟩
    ·(first|lia|omega)
    ·(first|lia|omega)
    ·(first|lia|omega)
    ·(first|lia|omega)
    ·exact z
    ·(first|lia|omega)
   exact C i ws p b b' t t' i0 (by (first|lia|omega)) (by rw [lw, lp] <;> rfl) ht
  rw [if_neg c6, if_neg c6]
  by_cases c7 : k = 7
  ·rw [if_pos c7, if_pos c7]
   show ER.bad _ _ _ _ = ER.bad _ _ _ _
   rw [ht.rows, ht.ct, ht.br]
  rw [if_neg c7, if_neg c7]
  exact RR.deed ht
structure Turned (ρ : Int -> Int) (D : Nat) (G G' : List Fn) : Prop where
 fit : ∀ (f : Nat) (p b : Int) (t : Tr), G[f]? = some ((p, b), t) -> 0 <= p /\ p <= b /\ FitT (G.map Prod.fst) b D t
 at_ : ∀ (f : Nat) (p b : Int) (t : Tr), G[f]? = some ((p, b), t) -> ∃ π, PmOk π b (b + 1) /\ (∀ i, 0 <= i -> i < p -> π i = i) /\ G'[(ρ f).toNat]? = some ((p, b + 1), renT ρ π t)
theorem evC_turn {ρ : Int -> Int} {D : Nat} {G G' : List Fn} (T : Turned ρ D G G') : ∀ c, CallRR (G.map Prod.fst) ρ (evC G D c) (evC G' D c)
 | 0 => fun f vs p b b' s s' f0 f1 lv h => by
  show ER.bad _ _ _ _ = ER.bad _ _ _ _
  rw [h.rows, h.ct, h.br]
 | c + 1 => fun f vs p b b' s s' f0 f1 lv h => by
  rw [List.length_map] at f1
  unfold evC
  have hf : f.toNat < G.length := by (first|lia|omega)
  obtain ⟨⟨⟨q, d⟩, t⟩, e⟩ : ∃ x, G[f.toNat]? = some x := ⟨_, List.getElem?_eq_getElem hf⟩
  obtain ⟨q0, qd, ft⟩ := T.fit _ _ _ _ e
  obtain ⟨π, pm, pi, e'⟩ := T.at_ _ _ _ _ e
  rw [show ((f.toNat : Nat) : Int) = f by (first|lia|omega)] at e'
  rw [List.getD_eq_getElem?_getD, List.getElem?_map, e] at lv
  have lv : vs.length = q.toNat := lv
  rw [e, e']
  refine RR.breath h fun u u' hu => ?_
  dsimp only
  have st : Rl π d (d + 1) { u with bx := vs ++ List.replicate (d - q).toNat 0 } { u' with bx := vs ++ List.replicate (d + 1 - q).toNat 0 } := by
   refine ⟨hu.rows, hu.br, hu.ct, ?_, ?_, fun i i0 id => ?_⟩
   ·show ((vs ++ List.replicate (d - q).toNat 0).length : Int) = d
    rw [List.length_append, List.length_replicate]; (first|lia|omega)
   ·show ((vs ++ List.replicate (d + 1 - q).toNat 0).length : Int) = d + 1
    rw [List.length_append, List.length_replicate]; (first|lia|omega)
   ·show (vs ++ List.replicate (d + 1 - q).toNat 0).getD (π i).toNat 0 = (vs ++ List.replicate (d - q).toNat 0).getD i.toNat 0
    rw [List.getD_eq_getElem?_getD, List.getD_eq_getElem?_getD]
    by_cases c : i < q
    ·rw [pi i i0 c, List.getElem?_append_left (by (first|lia|omega)), List.getElem?_append_left (by (first|lia|omega))]
    ·have z0 := pm.lo i i0 id
     have z1 := pm.hi i i0 id
     have z2 : q <= π i := by
      by_cases z : q <= π i
      ·exact z
      ·have := pm.inj i (π i) i0 id z0 (by (first|lia|omega)) (by rw [pi (π i) z0 (by (first|lia|omega))])
       (first|lia|omega)
     rw [List.getElem?_append_right (by (first|lia|omega)), List.getElem?_append_right (by (first|lia|omega)), List.getElem?_replicate, List.getElem?_replicate, if_pos (by (first|lia|omega)), if_pos (by (first|lia|omega))]
  have := evN_turn (evC_turn T c) pm D t _ _ ft st
  generalize evN (evC G D c) D t { u with bx := vs ++ List.replicate (d - q).toNat 0 } = r at this ⊢
  generalize evN (evC G' D c) D (renT ρ π t) { u' with bx := vs ++ List.replicate (d + 1 - q).toNat 0 } = r' at this ⊢
  cases r with
  | val v x =>
   obtain ⟨x', rfl, hx⟩ := this
   exact ⟨_, rfl, hx.rows, hx.br, hx.ct, h.len, h.len', h.box⟩
  | bad w n rows c =>
   have this : r' = .bad w n rows c := this
   subst this
   rfl
theorem turn_out {ρ : Int -> Int} {D : Nat} {G G' : List Fn} (T : Turned ρ D G G') (l : 0 < G.length) (z : ρ 0 = 0) (h0 : ((G.map Prod.fst).getD 0 (0, 0)).1 = 0) (gs : List Int) (br : Int) : RR (fun i => i) 0 0 (evC G D 16 0 [] ⟨[gs, []], br, [], 0⟩) (evC G' D 16 0 [] ⟨[gs, []], br, [], 0⟩) := by
 have := evC_turn T 16 0 [] (fun i => i) 0 0 ⟨[gs, []], br, [], 0⟩ ⟨[gs, []], br, [], 0⟩ (Int.le_refl _) (by rw [List.length_map]; (first|lia|omega)) (by show 0 = ((G.map Prod.fst).getD 0 (0, 0)).1.toNat; rw [h0] <;> rfl) ⟨rfl, rfl, rfl, rfl, rfl, fun i i0 i1 => by (first|lia|omega)⟩
 rw [z] at this
 exact this
mutual
theorem renT_sz (r p : Int -> Int) : ∀ t, szT (renT r p t) = szT t
 | .mk k own ps => by
  show 1 + szTs (renTs r p ps) = 1 + szTs ps
  rw [renTs_sz r p ps]
theorem renTs_sz (r p : Int -> Int) : ∀ ts, szTs (renTs r p ts) = szTs ts
 | [] => rfl
 | a :: t => by
  show szT (renT r p a) + szTs (renTs r p t) = szT a + szTs t
  rw [renT_sz r p a, renTs_sz r p t]
end
structure HdTo (ρ : Int -> Int) (hs hs' : Hds) : Prop where
 at_ : ∀ f : Int, 0 <= f -> f < hs.length -> 0 <= ρ f /\ ρ f < hs'.length /\ (hs'.getD (ρ f).toNat (0, 0)).1 = (hs.getD f.toNat (0, 0)).1
theorem fitTs_of {hs' : Hds} {b' : Int} {n : Nat} : ∀ {ts : List Tr}, (∀ t ∈ ts, FitT hs' b' n t) -> FitTs hs' b' n ts
 | [], _ => by unfold FitTs; trivial
 | a :: r, h => by
  unfold FitTs
  exact ⟨h a (List.mem_cons_self ..), fitTs_of fun t m => h t (List.mem_cons_of_mem _ m)⟩
theorem renT_fit {ρ : Int -> Int} {hs hs' : Hds} (T : HdTo ρ hs hs') (l16 : hs'.length <= 16) {p : Int -> Int} {b b' : Int} (pm : PmOk p b b') (b12 : b' <= 12) : ∀ (n : Nat) (t : Tr), FitT hs b n t -> FitT hs' b' n (renT ρ p t)
 | 0, t, f => by unfold FitT at f; exact f.elim
 | n + 1, .mk k own ps, f => by
  unfold FitT at f
  obtain ⟨k0, k19, of, lp, vo, fp⟩ := f
  have er : renT ρ p (.mk k own ps) = .mk k (if k = 1 \/ k = 2 then own.map p else if k = 6 then own.map ρ else own) (ps.map (renT ρ p)) := by
   show Tr.mk k _ (renTs ρ p ps) = _
   rw [wI]
  rw [er]
  have fp' : FitTs hs' b' n (ps.map (renT ρ p)) := fitTs_of fun t m => by
   obtain ⟨u, hu, rfl⟩ := List.mem_map.mp m
   obtain ⟨i, e⟩ := List.getElem?_of_mem hu
   exact renT_fit T l16 pm b12 n u (FitTs.get fp e).1
  unfold FitT
  refine ⟨k0, k19, ?_, ?_, ?_, fp'⟩
  ·unfold OwnFit at of ⊢
   rcases of with ⟨rfl, i, rfl⟩ | ⟨hk, i, rfl, a, c⟩ | ⟨rfl, i, rfl, z⟩ | ⟨rfl, i, rfl, z⟩ | ⟨rfl, i, rfl, a, c⟩ | ⟨hk, rfl⟩
   ·rw [if_neg (by decide), if_neg (by decide)]; exact .inl ⟨rfl, i, rfl⟩
   ·rw [if_pos hk]
    have := pm.hi i a (by (first|lia|omega))
    exact .inr (.inl ⟨hk, p i, rfl, pm.lo i a (by (first|lia|omega)), by (first|lia|omega)⟩)
   ·rw [if_neg (by decide), if_neg (by decide)]; exact .inr (.inr (.inl ⟨rfl, i, rfl, z⟩))
   ·rw [if_neg (by decide), if_neg (by decide)]; exact .inr (.inr (.inr (.inl ⟨rfl, i, rfl, z⟩)))
   ·rw [if_neg (by decide), if_pos rfl]
    have := T.at_ i a (by (first|lia|omega))
    exact .inr (.inr (.inr (.inr (.inl ⟨rfl, ρ i, rfl, this.1, by (first|lia|omega)⟩))))
   ·rw [if_neg (by (first|lia|omega)), if_neg (by (first|lia|omega))]; exact .inr (.inr (.inr (.inr (.inr ⟨hk, rfl⟩))))
  ·rw [List.length_map, lp]
   unfold OwnFit at of
   unfold dueM
   rcases of with ⟨rfl, i, rfl⟩ | ⟨hk, i, rfl, a, c⟩ | ⟨rfl, i, rfl, z⟩ | ⟨rfl, i, rfl, z⟩ | ⟨rfl, i, rfl, a, c⟩ | ⟨hk, rfl⟩
   ·rfl
   ·rcases hk with rfl | rfl <;> rfl
   ·rfl
   ·rfl
   ·have := T.at_ i a (by (first|lia|omega))
    show ((hs.getD i.toNat (0, 0)).1).toNat = ((hs'.getD (ρ i).toNat (0, 0)).1).toNat
    rw [this.2.2]
   ·rw [if_neg (show ¬ (k = 1 \/ k = 2) by (first|lia|omega)), if_neg (show ¬ k = 6 by (first|lia|omega))]
    rcases hk with rfl | hk
    ·rfl
    ·rw [if_neg (show ¬ (k = 0 \/ k = 1) by (first|lia|omega)), if_neg (show ¬ k = 2 by (first|lia|omega)), if_neg (show ¬ k = 3 by (first|lia|omega)), if_neg (show ¬ k = 4 by (first|lia|omega)), if_neg (show ¬ k = 5 by (first|lia|omega)), if_neg (show ¬ k = 6 by (first|lia|omega))]
     rw [if_neg (show ¬ (k = 0 \/ k = 1) by (first|lia|omega)), if_neg (show ¬ k = 2 by (first|lia|omega)), if_neg (show ¬ k = 3 by (first|lia|omega)), if_neg (show ¬ k = 4 by (first|lia|omega)), if_neg (show ¬ k = 5 by (first|lia|omega)), if_neg (show ¬ k = 6 by (first|lia|omega))]
  ·intro v hv
   unfold OwnFit at of
   by_cases c1 : k = 1 \/ k = 2
   ·rw [if_pos c1] at hv
    rcases of with ⟨z, _⟩ | ⟨hk, i, rfl, a, c⟩ | ⟨z, _⟩ | ⟨z, _⟩ | ⟨z, _⟩ | ⟨z, _⟩
    ·(first|lia|omega)
    ·rw [List.map_cons, List.map_nil, List.mem_singleton] at hv
     have := pm.hi i a (by (first|lia|omega))
     have := pm.lo i a (by (first|lia|omega))
     exact Vb.small (by (first|lia|omega))
    ·(first|lia|omega)
    ·(first|lia|omega)
    ·(first|lia|omega)
    ·(first|lia|omega)
   ·rw [if_neg c1] at hv
    by_cases c6 : k = 6
    ·rw [if_pos c6] at hv
     rcases of with ⟨z, _⟩ | ⟨z, _⟩ | ⟨z, _⟩ | ⟨z, _⟩ | ⟨_, i, rfl, a, c⟩ | ⟨z, _⟩
     ·(first|lia|omega)
     ·(first|lia|omega)
     ·(first|lia|omega)
     ·(first|lia|omega)
     ·rw [List.map_cons, List.map_nil, List.mem_singleton] at hv
      have := T.at_ i a (by (first|lia|omega))
      exact Vb.small (by (first|lia|omega))
     ·(first|lia|omega)
    ·rw [if_neg c6] at hv
     exact vo v hv
structure Pm (lo hi : Int) (zs : List Int) : Prop where
 nd : zs.Nodup
 mem : ∀ x, x ∈ zs ↔ lo <= x /\ x < hi
 len : (zs.length : Int) = hi - lo
theorem ins_perm (zs : List Int) (i : Nat) (x : Int) : (zs.take i ++ x :: zs.drop i).Perm (x :: zs) := by
 have := List.perm_middle (a := x) (l₁ := zs.take i) (l₂ := zs.drop i)
 rw [List.take_append_drop] at this
 exact this
theorem Pm.ins {lo hi : Int} {zs : List Int} (h : Pm lo hi zs) (le : lo <= hi) (i : Nat) : Pm lo (hi + 1) (zs.take i ++ hi :: zs.drop i) := by
 have p := ins_perm zs i hi
 refine ⟨p.nodup_iff.mpr (List.nodup_cons.mpr ⟨fun m => by have := (h.mem hi).mp m; (first|lia|omega), h.nd⟩), fun x => ?_, ?_⟩
 ·rw [p.mem_iff, List.mem_cons, h.mem]; (first|lia|omega)
 ·rw [p.length_eq, List.length_cons]; have := h.len; (first|lia|omega)
theorem Pm.none (lo : Int) : Pm lo lo [] := ⟨List.nodup_nil, fun x => ⟨fun h => (nomatch h), fun h => by (first|lia|omega)⟩, by show ((0 : Nat) : Int) = lo - lo; (first|lia|omega)⟩
theorem Pm.zero {hi : Int} {zs : List Int} (h : Pm 1 hi zs) (h1 : 1 <= hi) : Pm 0 hi (0 :: zs) := by
 refine ⟨List.nodup_cons.mpr ⟨fun m => by have := (h.mem 0).mp m; (first|lia|omega), h.nd⟩, fun x => ?_, ?_⟩
 ·rw [List.mem_cons, h.mem]; (first|lia|omega)
 ·rw [List.length_cons]; have := h.len; (first|lia|omega)
theorem intsTo_get {n i : Nat} (h : i < n) : (intsTo n)[i]? = some (i : Int) := by
 unfold intsTo
 rw [List.getElem?_map, List.getElem?_range h] <;> rfl
theorem Pm.to (n : Nat) : Pm 0 n (intsTo n) := by
 unfold intsTo
 refine ⟨?_, fun x => ?_, by rw [List.length_map, List.length_range]; (first|lia|omega)⟩
 ·refine List.Pairwise.map _ (fun a b h => ?_) List.nodup_range
  intro e
  exact h (by (first|lia|omega))
 ·rw [List.mem_map]
  constructor
  ·rintro ⟨a, ha, rfl⟩
   have := List.mem_range.mp ha
   (first|lia|omega)
  ·intro h
   exact ⟨x.toNat, List.mem_range.mpr (by (first|lia|omega)), by (first|lia|omega)⟩
def ixOf (f : Int) : List Int -> Nat
 | [] => 0
 | a :: r => if a = f then 0 else ixOf f r + 1
theorem ixOf_at {f : Int} : ∀ {zs : List Int}, f ∈ zs -> zs[ixOf f zs]? = some f
 | a :: r, m => by
  unfold ixOf
  by_cases c : a = f
  ·rw [if_pos c, c] <;> rfl
  ·rw [if_neg c, List.getElem?_cons_succ]
   refine ixOf_at ?_
   rcases List.mem_cons.mp m with z | z
   ·exact absurd z.symm c
   ·exact z
theorem ixOf_no {f : Int} : ∀ {zs : List Int} {m : Nat} {x : Int}, m < ixOf f zs -> zs[m]? = some x -> x ≠ f
 | [], m, x, h, e => by cases e
 | a :: r, m, x, h, e => by
  unfold ixOf at h
  by_cases c : a = f
  ·rw [if_pos c] at h; (first|lia|omega)
  ·rw [if_neg c] at h
   cases m with
   | zero => cases e; exact c
   | succ m => exact ixOf_no (zs := r) (by (first|lia|omega)) e
theorem first_ix {f : Int} {zs : List Int} (m : f ∈ zs) : FirstAt (zs.map V.int) (.int f) (ixOf f zs) := by
 refine ⟨⟨.int f, by rw [List.getElem?_map, ixOf_at m] <;> rfl, beq_self_eq_true f⟩, fun i z h e => ?_⟩
 rw [List.getElem?_map] at e
 cases q : zs[i]? with
 | none => rw [q] at e; cases e
 | some x =>
  rw [q] at e
  cases e
  exact beq_eq_false_iff_ne.mpr (ixOf_no h q)
theorem ixOf_lt {f : Int} {zs : List Int} (m : f ∈ zs) : ixOf f zs < zs.length := by
 have := ixOf_at m
 exact (List.getElem?_eq_some_iff.mp this).1
def rhoOf (zs : List Int) (f : Int) : Int := (ixOf f zs : Nat)
def piOf (bs : List Int) (i : Int) : Int := bs.getD i.toNat 0
theorem nd_get : ∀ {zs : List Int} {i j : Nat} {x : Int}, zs.Nodup -> zs[i]? = some x -> zs[j]? = some x -> i = j
 | [], i, j, x, _, e, _ => by cases e
 | a :: r, 0, 0, x, _, _, _ => rfl
 | a :: r, 0, j + 1, x, n, e, e' => by
  cases e
  exact absurd (List.mem_of_getElem? (l := r) e') (List.nodup_cons.mp n).1
 | a :: r, i + 1, 0, x, n, e, e' => by
  cases e'
  exact absurd (List.mem_of_getElem? (l := r) e) (List.nodup_cons.mp n).1
 | a :: r, i + 1, j + 1, x, n, e, e' => by
  have := nd_get (zs := r) (List.nodup_cons.mp n).2 e e'
  (first|lia|omega)
theorem Pm.ok {b : Int} {bs : List Int} (h : Pm 0 b bs) : PmOk (piOf bs) b (b + 1) := by
 have l := h.len
 have at_ : ∀ i, 0 <= i -> i < b -> bs[i.toNat]? = some (piOf bs i) := fun i i0 ib => by
  have : i.toNat < bs.length := by (first|lia|omega)
  unfold piOf
  rw [List.getD_eq_getElem?_getD, List.getElem?_eq_getElem this] <;> rfl
 have m : ∀ i, 0 <= i -> i < b -> 0 <= piOf bs i /\ piOf bs i < b := fun i i0 ib => (h.mem _).mp (List.mem_of_getElem? (at_ i i0 ib))
 refine ⟨fun i i0 ib => (m i i0 ib).1, fun i i0 ib => by have := (m i i0 ib).2; (first|lia|omega), fun i j i0 ib j0 jb e => ?_⟩
 have a := at_ i i0 ib
 rw [e] at a
 have := nd_get h.nd a (at_ j j0 jb)
 (first|lia|omega)
end L2

namespace L2
open PySem PySem.Spec PyProof.Rows
section
variable {X : Cx}
def rInsert : V -> List V -> Hp -> VK -> Prop := fun x vs H Q => ∃ l xs i y, x = .ref l /\ vs = [.int i, y] /\ H l = some (.lst xs) /\ 0 <= i /\ i <= (xs.length : Int) /\ xs.length < 1000 /\ Q .non (upd H l (.lst (xs.take i.toNat ++ y :: xs.drop i.toNat)))
theorem mt_insert : MtM X "list.insert" rInsert := by
 intro pins s σ H x vs v us Q I rx rv h
 obtain ⟨l, xs, i, y, rfl, rfl, hH, i0, i1, hz, q⟩ := h
 cases rx
 obtain ⟨u1, u2, rfl, ru1, ru2⟩ := rv.two
 obtain ⟨t, rfl⟩ := ru1
 obtain ⟨z, its, n, r, hl, e⟩ := I.lstM hH
 have sl : (1000 : Nat) <= sizeLine := by decide
 have li : i.toNat <= its.length := by (first|lia|omega)
 refine call_meets F.slot_list_insert ⟨_, e, rfl⟩ F.entry_list_insert (F.args_list_insert_3 _ _ _) (AutoSeq1.list_insert_list_int_val_1 l its.toArray n i t u2 (by rw [fitsIndex_both (by (first|lia|omega)) (by (first|lia|omega))]; decide) (by rw [List.size_toArray]; (first|lia|omega))) ⟨e, ?_⟩
 refine ⟨.non, _, I.lset (its' := its.take i.toNat ++ u2 :: its.drop i.toNat) hH e ?_ ((r.take _).append (.cons ru2 (r.drop _))) ?_, rfl, q⟩
 ·show (its.toArray.extract 0 (if i < 0 then (i + (its.toArray.size : Int)).toNat else min i.toNat its.toArray.size)).push u2 ++ its.toArray.extract (if i < 0 then (i + (its.toArray.size : Int)).toNat else min i.toNat its.toArray.size) = _
  rw [if_neg (by (first|lia|omega)), List.size_toArray, Nat.min_eq_left li]
  apply Array.toList_inj.mp
  simp
  exact List.take_of_length_le (by rw [List.length_drop]; exact Nat.le_refl _)
 ·rw [List.length_append, List.length_cons, List.length_take, List.length_drop]
  (first|lia|omega)
end
end L2

namespace L2
open PySem PySem.W PySem.W.X
theorem walkX_of {q : Program} {loose : List Str} {XP : (Str -> Option Value) -> Heap -> Prop} {as : List Addr} {K : Params -> Frag} {n t : Nat} {r : RowW} {d : DefRec} {kwd : List (Str × Expr)} {run : Value -> List Value -> Sem Value} (e : ∀ P, as = (K P).map (·.1))
  (h : WalkO q loose XP (fun w h => (K w.params).In h) r d kwd run) : WalkX q loose XP (obsZ as) (valZ K n t) r d kwd run := by
 intro w s₀ s₁ mg mb G y a o pm cd doc dV kV h1 h2 h3 h4 h5 h6 args vals as' L h7 h8 h9 h10 h11
 have Y : (K w.params).In s₁.heap := InK.keeps (K := K) w s₀.heap s₁.heap (z_facts e y).2.1 L.keeps
 exact h w s₀ s₁ mg mb G Y a o pm cd doc dV kV h1 h2 h3 h4 h5 h6 args vals as' h7 h8 h9 h10 h11
end L2


















namespace OcL
open PySem L2
def top (i : Nat) : Stmt := PySem.Challenge.pw_ownchain_k22_whole_functions_in_another.main.body.getD i (.Pass ⟨0, 0, 0, 0⟩)
abbrev kE : Stmt := top 20
theorem sc_parts_of : FnScope ["kind"] ["kind"] (defScope kE) := ⟨rfl, rfl, rfl, by decide +kernel, rfl, by decide +kernel, by decide +kernel⟩
abbrev qK : Stmt := top 23
theorem sc_within : FnScope ["value"] ["value"] (defScope qK) := ⟨rfl, rfl, rfl, by decide +kernel, rfl, by decide +kernel, by decide +kernel⟩
abbrev kD : Stmt := top 24
theorem sc_reckoned : FnScope ["kind", "first", "second"] ["kind", "first", "second"] (defScope kD) := ⟨rfl, rfl, rfl, by decide +kernel, rfl, by decide +kernel, by decide +kernel⟩
abbrev xO : Stmt := top 25
theorem jW : FnScope ["kind", "values", "rows", "number", "row", "place"] ["kind", "values", "rows"] (defScope xO) := ⟨rfl, rfl, rfl, by decide +kernel, rfl, by decide +kernel, by decide +kernel⟩
abbrev wH : Stmt := top 26
theorem sc_worth : FnScope ["kind", "values", "rows"] ["kind", "values", "rows"] (defScope wH) := ⟨rfl, rfl, rfl, by decide +kernel, rfl, by decide +kernel, by decide +kernel⟩
abbrev yM : Stmt := inClass (top 29) 0
theorem wL : FnScope ["self", "place", "word"] ["self", "place", "word"] (defScope yM) := ⟨rfl, rfl, rfl, by decide +kernel, rfl, by decide +kernel, by decide +kernel⟩
abbrev kG : Stmt := top 38
theorem sc_is_whole : FnScope ["thing"] ["thing"] (defScope kG) := ⟨rfl, rfl, rfl, by decide +kernel, rfl, by decide +kernel, by decide +kernel⟩
abbrev yU : Stmt := inClass (top 39) 0
theorem sc_Look___init__ : FnScope ["self", "numbers"] ["self", "numbers"] (defScope yU) := ⟨rfl, rfl, rfl, by decide +kernel, rfl, by decide +kernel, by decide +kernel⟩
abbrev jU : Stmt := inClass (top 39) 1
theorem sc_Look_take : FnScope ["self", "number"] ["self"] (defScope jU) := ⟨rfl, rfl, rfl, by decide +kernel, rfl, by decide +kernel, by decide +kernel⟩
abbrev yO : Stmt := inClass (top 39) 2
theorem jI : FnScope ["self", "least", "most", "place", "number"] ["self", "least", "most"] (defScope yO) := ⟨rfl, rfl, rfl, by decide +kernel, rfl, by decide +kernel, by decide +kernel⟩
abbrev jC : Stmt := top 40
theorem xK : FnScope ["look", "heads", "most_params", "function", "params"] ["look"] (defScope jC) := ⟨rfl, rfl, rfl, by decide +kernel, rfl, by decide +kernel, by decide +kernel⟩
abbrev kB : Stmt := top 41
theorem sc_take_own : FnScope ["look", "kind", "heads", "boxes"] ["look", "kind", "heads", "boxes"] (defScope kB) := ⟨rfl, rfl, rfl, by decide +kernel, rfl, by decide +kernel, by decide +kernel⟩
abbrev jN : Stmt := top 42
theorem sc_parts_due : FnScope ["kind", "numbers", "heads"] ["kind", "numbers", "heads"] (defScope jN) := ⟨rfl, rfl, rfl, by decide +kernel, rfl, by decide +kernel, by decide +kernel⟩
abbrev xU : Stmt := top 43
theorem xZ : FnScope ["look", "heads", "boxes", "deep", "place", "kind", "numbers", "parts", "part"] ["look", "heads", "boxes", "deep"] (defScope xU) := ⟨rfl, rfl, rfl, by decide +kernel, rfl, by decide +kernel, by decide +kernel⟩
abbrev jO : Stmt := top 44
theorem jA : FnScope ["sheet", "look", "heads", "told", "params", "boxes"] ["sheet"] (defScope jO) := ⟨rfl, rfl, rfl, by decide +kernel, rfl, by decide +kernel, by decide +kernel⟩
abbrev wG : Stmt := top 45
theorem sc_wrong : FnScope ["numbers", "e"] ["numbers"] (defScope wG) := ⟨rfl, rfl, rfl, by decide +kernel, rfl, by decide +kernel, by decide +kernel⟩
abbrev kF : Stmt := top 46
theorem kL : FnScope ["body", "told", "waiting", "node", "part"] ["body"] (defScope kF) := ⟨rfl, rfl, rfl, by decide +kernel, rfl, by decide +kernel, by decide +kernel⟩
abbrev kC : Stmt := top 47
theorem yF : FnScope ["functions", "sheet", "params", "boxes", "body", "kind", "place", "numbers", "parts", "found"] ["functions"] (defScope kC) := ⟨rfl, rfl, rfl, by decide +kernel, rfl, by decide +kernel, by decide +kernel⟩
abbrev yQ : Stmt := inClass (top 51) 0
theorem sc_Fault___init__ : FnScope ["self", "word", "number"] ["self", "word", "number"] (defScope yQ) := ⟨rfl, rfl, rfl, by decide +kernel, rfl, by decide +kernel, by decide +kernel⟩
abbrev yT : Stmt := inClass (top 52) 0
theorem sc_Work___init__ : FnScope ["self", "program", "given", "breaths"] ["self", "program", "given", "breaths"] (defScope yT) := ⟨rfl, rfl, rfl, by decide +kernel, rfl, by decide +kernel, by decide +kernel⟩
abbrev xA : Stmt := inClass (top 52) 1
theorem sc_Work_breathe : FnScope ["self"] ["self"] (defScope xA) := ⟨rfl, rfl, rfl, by decide +kernel, rfl, by decide +kernel, by decide +kernel⟩
abbrev qL : Stmt := top 53
theorem sc_picked : FnScope ["value", "parts", "last"] ["value", "parts"] (defScope qL) := ⟨rfl, rfl, rfl, by decide +kernel, rfl, by decide +kernel, by decide +kernel⟩
abbrev jD : Stmt := top 54
theorem yX : FnScope ["work", "function", "values", "params", "boxes", "body", "value"] ["work", "function", "values"] (defScope jD) := ⟨rfl, rfl, rfl, by decide +kernel, rfl, by decide +kernel, by decide +kernel⟩
abbrev jP : Stmt := top 55
theorem wP : FnScope ["work", "kind", "numbers", "values", "boxes", "fault", "value"] ["work", "kind", "numbers", "values", "boxes"] (defScope jP) := ⟨rfl, rfl, rfl, by decide +kernel, rfl, by decide +kernel, by decide +kernel⟩
abbrev jQ : Stmt := top 56
theorem jM : FnScope ["work", "node", "boxes", "kind", "place", "numbers", "parts", "values", "part"] ["work", "node", "boxes"] (defScope jQ) := ⟨rfl, rfl, rfl, by decide +kernel, rfl, by decide +kernel, by decide +kernel⟩
abbrev s_run : Stmt := top 57
theorem sc_run : FnScope ["sheet", "given", "breaths", "work", "value", "e"] ["sheet", "given", "breaths"] (defScope s_run) := ⟨rfl, rfl, rfl, by decide +kernel, rfl, by decide +kernel, by decide +kernel⟩
abbrev jH : Stmt := top 59
theorem sc__law_begin : FnScope ["_law_script"] ["_law_script"] (defScope jH) := ⟨rfl, rfl, rfl, by decide +kernel, rfl, by decide +kernel, by decide +kernel⟩
abbrev jG : Stmt := top 60
theorem qF : FnScope ["_law_cell", "_law_k", "_law_one", "_law_two"] ["_law_cell", "_law_k"] (defScope jG) := ⟨rfl, rfl, rfl, by decide +kernel, rfl, by decide +kernel, by decide +kernel⟩
abbrev jR : Stmt := top 61
theorem jB : FnScope ["_law_state", "_law_most", "_law_script", "_law_k", "_law_cell", "_law_found"] ["_law_state", "_law_most"] (defScope jR) := ⟨rfl, rfl, rfl, by decide +kernel, rfl, by decide +kernel, by decide +kernel⟩
abbrev xP : Stmt := top 62
theorem kZ : FnScope ["_law_state", "_law_way", "_law_edge"] ["_law_state"] (defScope xP) := ⟨rfl, rfl, rfl, by decide +kernel, rfl, by decide +kernel, by decide +kernel⟩
abbrev jS : Stmt := top 63
theorem sc__law_leaf : FnScope ["_law_state", "_law_own", "_law_boxes"] ["_law_state", "_law_own"] (defScope jS) := ⟨rfl, rfl, rfl, by decide +kernel, rfl, by decide +kernel, by decide +kernel⟩
abbrev xI : Stmt := top 64
theorem qD : FnScope ["_law_state", "_law_own", "_law_deep", "_law_many", "_law_found", "_law_k"] ["_law_state", "_law_own", "_law_deep", "_law_many"] (defScope xI) := ⟨rfl, rfl, rfl, by decide +kernel, rfl, by decide +kernel, by decide +kernel⟩
abbrev yP : Stmt := top 65
theorem sc__law_row_part : FnScope ["_law_state", "_law_own", "_law_deep"] ["_law_state", "_law_own", "_law_deep"] (defScope yP) := ⟨rfl, rfl, rfl, by decide +kernel, rfl, by decide +kernel, by decide +kernel⟩
abbrev yI : Stmt := top 66
theorem wQ : FnScope ["_law_state", "_law_own", "_law_deep"] ["_law_state", "_law_own", "_law_deep"] (defScope yI) := ⟨rfl, rfl, rfl, by decide +kernel, rfl, by decide +kernel, by decide +kernel⟩
abbrev yR : Stmt := top 67
theorem jJ : FnScope ["_law_state", "_law_own", "_law_deep", "_law_kind", "_law_parts_here"] ["_law_state", "_law_own", "_law_deep"] (defScope yR) := ⟨rfl, rfl, rfl, by decide +kernel, rfl, by decide +kernel, by decide +kernel⟩
abbrev xH : Stmt := top 68
theorem kI : FnScope ["_law_state", "_law_own", "_law_deep", "_law_box", "_law_less_one", "_law_behind"] ["_law_state", "_law_own", "_law_deep"] (defScope xH) := ⟨rfl, rfl, rfl, by decide +kernel, rfl, by decide +kernel, by decide +kernel⟩
abbrev xW : Stmt := top 69
theorem sc__law_call : FnScope ["_law_state", "_law_own", "_law_deep", "_law_number_here"] ["_law_state", "_law_own", "_law_deep"] (defScope xW) := ⟨rfl, rfl, rfl, by decide +kernel, rfl, by decide +kernel, by decide +kernel⟩
abbrev xV : Stmt := top 70
theorem kR : FnScope ["_law_state", "_law_own", "_law_deep", "_law_way", "_law_many"] ["_law_state", "_law_own", "_law_deep"] (defScope xV) := ⟨rfl, rfl, rfl, by decide +kernel, rfl, by decide +kernel, by decide +kernel⟩
abbrev jT : Stmt := top 71
theorem qS : FnScope ["_law_state", "_law_head", "_law_heads", "_law_way", "_law_own", "_law_many"] ["_law_state", "_law_head", "_law_heads", "_law_way"] (defScope jT) := ⟨rfl, rfl, rfl, by decide +kernel, rfl, by decide +kernel, by decide +kernel⟩
abbrev yL : Stmt := top 72
theorem xR : FnScope ["_law_state", "_law_most", "_law_way", "_law_heads", "_law_k", "_law_params"] ["_law_state", "_law_most", "_law_way"] (defScope yL) := ⟨rfl, rfl, rfl, by decide +kernel, rfl, by decide +kernel, by decide +kernel⟩
abbrev yS : Stmt := top 73
theorem jK : FnScope ["_law_node_here", "_law_found", "_law_part"] ["_law_node_here"] (defScope yS) := ⟨rfl, rfl, rfl, by decide +kernel, rfl, by decide +kernel, by decide +kernel⟩
abbrev jE : Stmt := top 74
theorem xL : FnScope ["_law_functions_drawn", "_law_found", "_law_one"] ["_law_functions_drawn"] (defScope jE) := ⟨rfl, rfl, rfl, by decide +kernel, rfl, by decide +kernel, by decide +kernel⟩
abbrev xJ : Stmt := top 75
theorem sc__law_given : FnScope ["_law_state"] ["_law_state"] (defScope xJ) := ⟨rfl, rfl, rfl, by decide +kernel, rfl, by decide +kernel, by decide +kernel⟩
abbrev jF : Stmt := top 76
theorem qE : FnScope ["_law_state", "_law_many", "_law_order_here", "_law_k"] ["_law_state", "_law_many"] (defScope jF) := ⟨rfl, rfl, rfl, by decide +kernel, rfl, by decide +kernel, by decide +kernel⟩
abbrev yV : Stmt := top 77
theorem xM : FnScope ["_law_node_here", "_law_order_here", "_law_boxes", "_law_place", "_law_kind", "_law_own", "_law_parts_here"] ["_law_node_here", "_law_order_here", "_law_boxes", "_law_place"] (defScope yV) := ⟨rfl, rfl, rfl, by decide +kernel, rfl, by decide +kernel, by decide +kernel⟩
abbrev s_law : Stmt := top 78
theorem xT : FnScope ["_law_script", "_law_state", "_law_some", "_law_order_here", "_law_turned_ones", "_law_k", "_law_params", "_law_many", "_law_body_here", "_law_boxes", "_law_box", "_law_handed", "_law_other", "_law_sheet_here", "_law_breaths", "_law_given_here", "_law_found"] ["_law_script"] (defScope s_law) := ⟨rfl, rfl, rfl, by decide +kernel, rfl, by decide +kernel, by decide +kernel⟩
structure Txt (K : PySem.W.Frag) (mg : Str -> Option Value) (aP CL CN : Addr) : Prop where
 n_len : mg "len" = none
 n_abs : mg "abs" = none
 n_range : mg "range" = none
 n_isinstance : mg "isinstance" = none
 n_int : mg "int" = none
 n_bool : mg "bool" = none
 n_list : mg "list" = none
 n_tuple : mg "tuple" = none
 m_NUMBER : GInt mg "NUMBER" 0
 m_GET : GInt mg "GET" 1
 m_SET : GInt mg "SET" 2
 m_ALL : GInt mg "ALL" 3
 m_PICK : GInt mg "PICK" 4
 m_LOOP : GInt mg "LOOP" 5
 m_CALL : GInt mg "CALL" 6
 m_FAIL : GInt mg "FAIL" 7
 m_NEW : GInt mg "NEW" 19
 m_MOST_FUNCTIONS : GInt mg "MOST_FUNCTIONS" 16
 m_MOST_PARAMS : GInt mg "MOST_PARAMS" 4
 m_MOST_BOXES : GInt mg "MOST_BOXES" 12
 m_MOST_DEEP : GInt mg "MOST_DEEP" 10
 m_MOST_MANY : GInt mg "MOST_MANY" 12
 m_LEAST_ALL : GInt mg "LEAST_ALL" 1
 m_LEAST_PICK : GInt mg "LEAST_PICK" 2
 m_PARTS : mg "PARTS" = some (.ref aP)
 m_NoSheet : mg "NoSheet" = some (.ref CN)
 parts : ∀ H, SqT K H aP (partsN.map V.int)
 kint : PySem.W.kitOne K (.type "int") (.type "int") = some true
 kbool : PySem.W.kitOne K (.type "int") (.type "bool") = some false
 klist : PySem.W.kitOne K (.type "list") (.type "list") = some true
 ktup : PySem.W.kitOne K (.type "tuple") (.type "tuple") = some true
 look : Cls K CL
 lnum : NoAttr K CL "numbers"
 lplace : NoAttr K CL "place"
 exc : ExCls K CN
 xplace : NoAttr K CN "place"
 xword : NoAttr K CN "word"
 mch : Mch K CN CN
structure TxtD (K : PySem.W.Frag) (mg : Str -> Option Value) : Prop where
 n_len : mg "len" = none
 n_abs : mg "abs" = none
 n_range : mg "range" = none
 n_isinstance : mg "isinstance" = none
 n_int : mg "int" = none
 n_bool : mg "bool" = none
 n_str : mg "str" = none
 n_tuple : mg "tuple" = none
 n_list : mg "list" = none
 m_ADD : GInt mg "ADD" 8
 m_SUB : GInt mg "SUB" 9
 m_MUL : GInt mg "MUL" 10
 m_QUO : GInt mg "QUO" 11
 m_LESS : GInt mg "LESS" 13
 m_SAME : GInt mg "SAME" 14
 m_PUSH : GInt mg "PUSH" 15
 m_PUT : GInt mg "PUT" 17
 m_SIZE : GInt mg "SIZE" 18
 m_NEW : GInt mg "NEW" 19
 m_GREAT : GInt mg "GREAT" 10000000000000000000000000000000000000000000000000000000000000000000000000000000000000000000000000000
 kstr : PySem.W.kitOne K (.type "str") (.type "str") = some true
 kistr : PySem.W.kitOne K (.type "int") (.type "str") = some false
 kbool : PySem.W.kitOne K (.type "int") (.type "bool") = some false
 ktup : PySem.W.kitOne K (.type "tuple") (.type "tuple") = some true
structure TxtR (K : PySem.W.Frag) (mg : Str -> Option Value) (aP CL CN CW CF : Addr) : Prop extends Txt K mg aP CL CN where
 d : TxtD K mg
 m_MOST_DONE_AT_ONCE : GInt mg "MOST_DONE_AT_ONCE" 16
 m_ANSWER : GInt mg "ANSWER" 1
 m_Fault : mg "Fault" = some (.ref CF)
 work : Cls K CW
 wprogram : NoAttr K CW "program"
 wrows : NoAttr K CW "rows"
 wbreaths : NoAttr K CW "breaths"
 wdone : NoAttr K CW "done_at_once"
 excF : ExCls K CF
 fword : NoAttr K CF "word"
 fnumber : NoAttr K CF "number"
 mchF : Mch K CF CF

section
variable {P : Program} {w : World} {K : PySem.W.Frag} {mg : Str -> Option Value} {base : Heap} {f : Addr} {fd : FuncData} {aP CL CN : Addr}
set_option maxHeartbeats 4000000

theorem ok_initX (T : Txt K mg aP CL CN) (F : Fun K "__init__" "NoSheet.__init__" yM f fd) : FnOk P w K mg base (CXE P w) 1 f fd ["self", "place", "word"] (spInitX CN) := by
 refine F.okN wL (fun vs H Q E h => ?_) (fun cdv A outer s H vs Q E hr h => ?_)
 ·obtain ⟨x, y, z, rfl, _⟩ := h
  rfl
 obtain ⟨x, y, z, rfl, hx, q⟩ := h
 refine ⟨_, (zD (ps_fldX (pv 0) (pv 1))
   (zG (ps_fldX (pv 0) (pv 2)))), ?_⟩
 try dsimp only [Cx.nox, Cx.exc, Cx.wish, zU]
 refine ⟨_, rfl, _, rfl, x, CN, none, rfl, hx, T.exc, T.xplace, .inl ⟨rfl, fun d hd => ?_⟩⟩
 have nd : d ≠ x := fun e => by rw [e, hx] at hd; cases hd
 refine ⟨_, rfl, _, rfl, x, CN, some d, rfl, zB, T.exc, T.xword, .inr ⟨d, [("place", y)], rfl, by rw [zK nd]; exact zB, (show 1 < 1000 by decide), ?_⟩⟩
 refine q d _ nd hd (fun b o nb e => ?_) ?_ zB
 ·rw [zK (zI e hd), zK nb, zK (zI e hd)]; exact e
 ·rw [zK (Ne.symm nd)]; exact zB
theorem ok_initL (T : Txt K mg aP CL CN) (F : Fun K "__init__" "Look.__init__" yU f fd) : FnOk P w K mg base (CXE P w) 1 f fd ["self", "numbers"] (spInitL CL) := by
 refine F.okN sc_Look___init__ (fun vs H Q E h => ?_) (fun cdv A outer s H vs Q E hr h => ?_)
 ·obtain ⟨x, dx, a, rfl, _⟩ := h
  rfl
 obtain ⟨x, dx, a, rfl, hx, q⟩ := h
 refine ⟨_, (zD (ps_fld (pv 0) (pv 1) rfl)
   (zG (ps_fld (pv 0) zE rfl))), ?_⟩
 try dsimp only [Cx.nox, Cx.exc, Cx.wish, zU]
 refine ⟨_, rfl, _, rfl, x, CL, dx, _, rfl, hx, T.look, T.lnum, (show 0 < 1000 by decide), ?_⟩
 refine ⟨_, rfl, x, CL, dx, _, rfl, zB, T.look, T.lplace, (show 1 < 1000 by decide), ?_⟩
 refine q _ (fun b o nb e => ?_) zB
 rw [zK nb, zK nb]; exact e
theorem ok_whole (T : Txt K mg aP CL CN) (F : Fun K "is_whole" "is_whole" kG f fd) : FnOk P w K mg base (CXE P w) 1 f fd ["thing"] spWhole := by
 refine F.okN sc_is_whole (fun vs H Q E h => ?_) (fun cdv A outer s H vs Q E hr h => ?_)
 ·obtain ⟨i, rfl, _⟩ := h
  rfl
 obtain ⟨i, rfl, q⟩ := h
 refine ⟨_, (zG (zM (pe_and (yD call_isi rfl T.n_isinstance wN (zA (pv 0) (zA (pe_bltn (v := .ty "int") rfl T.n_int bt_int rfl) zC))) (pe_one (pe_not (yD call_isi rfl T.n_isinstance wN (zA (pv 0) (zA (pe_bltn (v := .ty "bool") rfl T.n_bool bt_bool rfl) zC)))))))), ?_⟩
 try dsimp only [Cx.nox, Cx.exc, Cx.wish, zU]
 refine ⟨_, rfl, .inl ⟨_, _, _, true, rfl, .int i, T.kint, _, rfl, iteT ?_⟩⟩
 exact ⟨_, rfl, .inl ⟨_, _, _, false, rfl, .int i, T.kbool, _, rfl, q⟩⟩
theorem ok_tk (T : Txt K mg aP CL CN) (F : Fun K "take" "Look.take" jU f fd) (Cis_whole : Cal P w K mg base (CXE P w) 1 "is_whole" ["thing"] spWhole) (CNoSheet : CalX P w K mg base 1 "NoSheet" CN ["self", "place", "word"] (spInitX CN)) :
  FnOk P w K mg base (CXE P w) 3 f fd ["self"] (spTk CL CN) := by
 refine F.okX sc_Look_take (fun vs H Q E h => ?_) (fun cdv A outer s H vs Q E hr h => ?_)
 ·obtain ⟨lk, dx, a, p, ns, rfl, _⟩ := h
  rfl
 obtain ⟨lk, dx, a, p, ns, rfl, ⟨hl, ha⟩, t1, t2⟩ := h
 refine ⟨_, (zD (zS (zJ op_ge (xQ (pv 0) rfl) (yD zY rfl T.n_len xY (zA (xQ (pv 0) rfl) zC)) (nomark _)) (zG (xB CNoSheet hr rfl (zA (xQ (pv 0) rfl) (zA zZ zC)))) zN)
   (zD (zO (i := 1) sc_Look_take.nd rfl (Or.inl rfl) (zT zX (xQ (pv 0) rfl) (xQ (pv 0) rfl) (fun _ _ => rfl)))
   (zD (zS (pt_not (pt_val (zH Cis_whole hr rfl (zA (pv 1) zC) passX))) (zG (xB CNoSheet hr rfl (zA (xQ (pv 0) rfl) (zA zZ zC)))) zN)
   (zD (kU (pv 0) zE in_add)
   (zG (zM (pv 1))))))), ?_⟩
 try dsimp only [Cx.nox, Cx.exc, Cx.wish, zU]
 refine ⟨_, rfl, lk, CL, dx, _, _, rfl, hl, T.look, T.lplace, rfl, _, rfl, lk, CL, dx, _, _, rfl, hl, T.look, T.lnum, rfl, a, _, rfl, .inl (.of ha), _, _, rfl, rfl, _, rfl, ?_⟩
 have hz : (ns.map V.int).length = ns.length := List.length_map ..
 refine ite2 (fun c => ?_) (fun c => ?_)
 ·have c' := of_decide_eq_true c
  have e : takeM ns p = .error (p, "end") := by
   unfold takeM
   rw [List.getElem?_eq_none (by (first|lia|omega))]
  exact ⟨_, rfl, lk, CL, dx, _, _, rfl, hl, T.look, T.lplace, rfl, small (show 2 <= 1000 by decide), raised (t2 _ _ e) (Keep.refl _ _)⟩
 ·have hp : p < ns.length := by
   refine Nat.lt_of_not_le fun z => c (decide_eq_true ?_)
   (first|lia|omega)
  have ep : ns[p]? = some ns[p] := List.getElem?_eq_getElem hp
  generalize ns[p] = n at ep
  have at_ : atI (ns.map V.int) (p : Int) = some (.int n) := kA (by rw [List.getElem?_map, ep]; rfl)
  have e : takeM ns p = .ok n := by unfold takeM; rw [ep]
  refine ⟨_, rfl, lk, CL, dx, _, _, rfl, hl, T.look, T.lnum, rfl, _, rfl, lk, CL, dx, _, _, rfl, hl, T.look, T.lplace, rfl, a, _, _, _, rfl, rfl, .of ha, at_, ?_⟩
  refine ⟨_, rfl, n, rfl, _, rfl, iteF ?_⟩
  refine ⟨_, rfl, lk, CL, dx, _, _, rfl, hl, T.look, T.lplace, rfl, _, _, rfl, rfl, dx, _, hl, (show 2 < 1000 by decide), ?_⟩
  exact ⟨_, rfl, t1 n e⟩
theorem ok_within (T : Txt K mg aP CL CN) (F : Fun K "take_within" "Look.take_within" yO f fd) (Mtake : CalM P w K mg base (CXE P w) 3 CL "take" ["self"] (spTk CL CN)) (CNoSheet : CalX P w K mg base 1 "NoSheet" CN ["self", "place", "word"] (spInitX CN)) :
  FnOk P w K mg base (CXE P w) 4 f fd ["self", "least", "most"] (spWithin CL CN) := by
 refine F.okX jI (fun vs H Q E h => ?_) (fun cdv A outer s H vs Q E hr h => ?_)
 ·obtain ⟨lk, dx, a, p, ns, lo, hi, rfl, _⟩ := h
  rfl
 obtain ⟨lk, dx, a, p, ns, lo, hi, rfl, ⟨hl, ha⟩, t1, t2⟩ := h
 refine ⟨_, (zD (zO (i := 3) jI.nd rfl (Or.inl rfl) (xQ (pv 0) rfl))
   (zD (zO (i := 4) jI.nd rfl (Or.inl rfl) (kW (pv 0) Mtake hr passX))
   (zD (zS (PW.pt (qX (zJ qZ (pv 4) (pv 1) (nomark _)) (qA (zJ op_gt (pv 4) (pv 2) (nomark _))))) (zG (xB CNoSheet hr rfl (zA (pv 3) (zA zZ zC)))) zN)
   (zG (zM (pv 4)))))), ?_⟩
 try dsimp only [Cx.nox, Cx.exc, Cx.wish, zU]
 refine ⟨_, rfl, lk, CL, dx, _, _, rfl, hl, T.look, T.lplace, rfl, ?_⟩
 refine ⟨_, rfl, lk, dx, _, rfl, hl, rfl, lk, dx, a, p, ns, rfl, ⟨hl, ha⟩, fun n e => ?_, fun pl wd e => ?_⟩
 ·have ep : ns[p]? = some n := by
   unfold takeM at e
   cases q : ns[p]? with
   | none => rw [q] at e; cases e
   | some m => rw [q] at e; cases e; rfl
  have bad : n < lo \/ hi < n -> withinM ns p lo hi = .error (p, "range") := fun c => by unfold withinM; rw [ep]; exact if_pos c
  have k1 : Keep lk H (upd H lk (LookO CL dx a (p + 1))) := Keep.upd
  refine ⟨_, rfl, _, rfl, _, _, rfl, rfl, _, rfl, ite2 (fun c => ?_) (fun c => ?_)⟩
  ·exact iteT ⟨_, rfl, small (show 2 <= 1000 by decide), raised (t2 _ _ (bad (.inl (of_decide_eq_true c)))) k1⟩
  ·refine ⟨_, rfl, _, rfl, _, _, rfl, rfl, _, rfl, ite2 (fun c2 => ?_) (fun c2 => ?_)⟩
   ·exact ⟨_, rfl, small (show 2 <= 1000 by decide), raised (t2 _ _ (bad (.inr (of_decide_eq_true c2)))) k1⟩
   ·refine ⟨_, rfl, t1 n ?_⟩
    unfold withinM; rw [ep]
    exact if_neg (fun z => z.elim (fun z => c (decide_eq_true z)) fun z => c2 (decide_eq_true z))
 ·refine t2 pl wd ?_
  unfold takeM at e
  unfold withinM
  cases q : ns[p]? with
  | none => rw [q] at e; exact e
  | some m => rw [q] at e; cases e
def InvHeads (lk hd dx a : Addr) (H : Hp) (ns : List Int) (n : Int) (i : Nat) (σ' : St) (H' : Hp) : Prop := ∃ (done : Hds) (rs : List V) (most : Int) (v3 v4 : Option V), σ' = [some (.ref lk), some (.ref hd), some (.int most), v3, v4] /\ most <= 4 /\ done.length = i /\ Keep lk H H' /\
   H' lk = some (LookO CL dx a (1 + 2 * i)) /\ H' hd = some (.lst rs) /\ Paired (HeadAt H') rs done /\ headsM ns n.toNat 0 1 = joinM done (headsM ns (n.toNat - i) most (1 + 2 * i))
theorem ok_heads (T : Txt K mg aP CL CN) (F : Fun K "take_heads" "take_heads" jC f fd) (Mtake_within : CalM P w K mg base (CXE P w) 4 CL "take_within" ["self", "least", "most"] (spWithin CL CN)) :
  FnOk P w K mg base (CXE P w) 5 f fd ["look"] (spHeads CL CN) := by
 refine F.okX xK (fun vs H Q E h => ?_) (fun cdv A outer s H vs Q E hr h => ?_)
 ·obtain ⟨lk, dx, a, ns, rfl, _⟩ := h
  rfl
 obtain ⟨lk, dx, a, ns, rfl, ⟨hl, ha⟩, t1, t2⟩ := h
 refine ⟨_, (zD (zO (i := 1) xK.nd rfl (Or.inl rfl) (yC zC))
   (zD (zO (i := 2) xK.nd rfl (Or.inl rfl) zE)
   (zD (xX (qB rfl rfl) rfl (qM rfl T.n_range (zA (kN (pv 0) Mtake_within hr (zA zE (zA (zP rfl T.m_MOST_FUNCTIONS) zC)) passX) zC)) (zR (i := 3) xK.nd rfl (Or.inl rfl)) (zD (zO (i := 4) xK.nd rfl (Or.inl rfl) (kN (pv 0) Mtake_within hr (zA zE (zA (pv 2) zC)) passX))
   (zD (yG (jZ PySem.F.plainAttrs_list PySem.F.slot_list_append PySem.F.type_list_append yJ (pv 1) (zA (zL (zA (pv 4) (zA (kN (pv 0) Mtake_within hr (zA (pv 4) (zA (zP rfl T.m_MOST_BOXES) zC)) passX) zC))) zC)))
   (zG (zO (i := 2) xK.nd rfl (Or.inl rfl) (zP rfl T.m_MOST_PARAMS))))))
   (zG (zM (pv 1)))))), ?_⟩
 try dsimp only [Cx.nox, Cx.exc, Cx.wish, zU]
 refine ⟨small (show 0 <= 1000 by decide), fun hd hhd => ?_⟩
 have nlh : lk ≠ hd := zI hl hhd
 have k1 : Keep lk H (upd H hd (.lst [])) := Keep.new _ hhd
 have l1 : Looks CL (upd H hd (.lst [])) lk dx a 0 ns := Looks.go ⟨hl, ha⟩ k1 (by rw [zK nlh]; exact hl)
 refine ⟨_, rfl, lk, dx, _, rfl, l1.1, rfl, lk, dx, a, 0, ns, 1, 16, rfl, l1, fun n e => ?_, fun p wd e => ?_⟩
 ·obtain ⟨_, n1, n16⟩ := jL e
  have eh : headsAllM ns = headsM ns n.toNat 0 1 := by unfold headsAllM; rw [e]
  refine ⟨n, rfl, by (first|lia|omega), by (first|lia|omega), kY (lo := 0) (n := n.toNat) (InvHeads (CL := CL) lk hd dx a H ns n) ⟨[], [], 0, _, _, rfl, by decide, rfl, k1.trans Keep.upd, zB, ?_, .nil, (joinM_nil _).symm⟩ ?_ ?_⟩
  ·rw [zK (Ne.symm nlh)]; exact zB
  ·rintro i σ' H' hi ⟨done, rs, most, v3, v4, rfl, hm, hn, kp, el, eh', pr, eq⟩
   obtain ⟨m, em⟩ : ∃ m, n.toNat - i = m + 1 := ⟨n.toNat - i - 1, by (first|lia|omega)⟩
   have L1 : Looks CL H' lk dx a (1 + 2 * i) ns := Looks.go ⟨hl, ha⟩ kp el
   refine ⟨_, rfl, lk, dx, _, rfl, el, rfl, _, rfl, lk, dx, a, _, ns, 0, most, rfl, L1, fun x ex => ?_, fun p wd ex => ?_⟩
   ·have L2' : Looks CL (upd H' lk (LookO CL dx a (1 + 2 * i + 1))) lk dx a (1 + 2 * i + 1) ns := L1.go Keep.upd zB
    have eh2 : (upd H' lk (LookO CL dx a (1 + 2 * i + 1))) hd = some (.lst rs) := by rw [zK (Ne.symm nlh)]; exact eh'
    refine ⟨_, rfl, .inl ⟨rfl, _, .of eh2⟩, _, rfl, _, rfl, lk, dx, _, rfl, zB, rfl, _, rfl, lk, dx, a, _, ns, x, 12, rfl, L2', fun y ey => ?_, fun p wd ey => ?_⟩
    ·refine ⟨small (show 2 <= 1000 by decide), fun q hq => ?_⟩
     generalize hH2 : upd (upd H' lk (LookO CL dx a (1 + 2 * i + 1))) lk (LookO CL dx a (1 + 2 * i + 1 + 1)) = H2 at hq
     have k2 : Keep lk H' H2 := by rw [<- hH2]; exact Keep.trans Keep.upd Keep.upd
     have e2 : H2 lk = some (LookO CL dx a (1 + 2 * i + 1 + 1)) := by rw [<- hH2]; exact zB
     have h2 : H2 hd = some (.lst rs) := k2 hd _ (Ne.symm nlh) eh'
     have nq : hd ≠ q := zI h2 hq
     have ql : lk ≠ q := zI e2 hq
     have h3 : upd H2 q (.tup [.int x, .int y]) hd = some (.lst rs) := by rw [zK nq]; exact h2
     have len : rs.length <= 16 := by have := Paired.len pr; (first|lia|omega)
     refine ⟨hd, rs, _, rfl, rfl, h3, small1000 (by (first|lia|omega)), ?_⟩
     have tp : Tups H' (upd (upd H2 q (.tup [.int x, .int y])) hd (.lst (rs ++ [.ref q]))) := .trans (.keep el k2) (.trans (.new hq) (.upd h3))
     refine ⟨done ++ [(x, y)], _, 4, _, _, rfl, by decide, by simp [hn], (kp.trans (k2.trans (Keep.new _ hq))).fresh hhd, ?_, zB, Paired.snoc (Paired.imp (fun _ _ z => z.tups tp) pr) ⟨q, rfl, ?_⟩, ?_⟩
     ·rw [zK nlh, zK ql]; exact e2
     ·rw [zK (Ne.symm nq)]; exact zB
     ·rw [eq, em, show n.toNat - (i + 1) = m by (first|lia|omega), show 1 + 2 * (i + 1) = 1 + 2 * i + 2 by (first|lia|omega)]
      conv => lhs; unfold headsM
      rw [ex]; simp only; rw [ey]; simp only
      cases headsM ns m 4 (1 + 2 * i + 2) with
      | error b => rfl
      | ok r => show Except.ok _ = Except.ok _; rw [List.append_assoc]; rfl
    ·refine (t2 p wd ?_).keep (kp.trans Keep.upd)
     rw [eh, eq, em]
     unfold headsM
     rw [ex]; simp only; rw [ey]; rfl
   ·refine (t2 p wd ?_).keep kp
    rw [eh, eq, em]
    unfold headsM
    rw [ex]; rfl
  ·rintro σ' H' ⟨done, rs, most, v3, v4, rfl, hm, hn, kp, el, eh', pr, eq⟩
   refine ⟨_, rfl, t1 done ?_ hd H' kp (by rw [hn]; exact el) ⟨rs, eh', pr⟩⟩
   rw [eh, eq, Nat.sub_self]
   show Except.ok (done ++ []) = _
   rw [List.append_nil]
 ·exact (t2 p wd (by unfold headsAllM; rw [e])).keep k1
theorem vt {i j : Int} (c : decide (V.int i = V.int j) = true) : i = j := by
 have := of_decide_eq_true c
 injection this
theorem vf {i j : Int} (c : ¬ decide (V.int i = V.int j) = true) : i ≠ j := fun z => c (decide_eq_true (congrArg V.int z))
theorem ok_own (T : Txt K mg aP CL CN) (F : Fun K "take_own" "take_own" kB f fd) (Mtake : CalM P w K mg base (CXE P w) 3 CL "take" ["self"] (spTk CL CN)) (Mtake_within : CalM P w K mg base (CXE P w) 4 CL "take_within" ["self", "least", "most"] (spWithin CL CN)) :
  FnOk P w K mg base (CXE P w) 5 f fd ["look", "kind", "heads", "boxes"] (spOwn CL CN) := by
 refine F.okX sc_take_own (fun vs H Q E h => ?_) (fun cdv A outer s H vs Q E hr h => ?_)
 ·obtain ⟨lk, dx, a, p, ns, hd, hs, boxes, k, rfl, _⟩ := h
  rfl
 obtain ⟨lk, dx, a, p, ns, hd, hs, boxes, k, rfl, L1, hh, t1, t2⟩ := h
 refine ⟨_, (zD (zS (zJ yB (pv 1) (zP rfl T.m_NUMBER) (nomark _)) (zG (zM (zL (zA (kW (pv 0) Mtake hr passX) zC)))) zN)
   (zD (zS (PW.pt (qX (zJ yB (pv 1) (zP rfl T.m_GET) (nomark _)) (qA (zJ yB (pv 1) (zP rfl T.m_SET) (nomark _))))) (zG (zM (zL (zA (kN (pv 0) Mtake_within hr (zA zE (zA (zQ xG (pv 3) zE) zC)) passX) zC)))) zN)
   (zD (zS (zJ yB (pv 1) (zP rfl T.m_ALL) (nomark _)) (zG (zM (zL (zA (kN (pv 0) Mtake_within hr (zA (zP rfl T.m_LEAST_ALL) (zA (zP rfl T.m_MOST_MANY) zC)) passX) zC)))) zN)
   (zD (zS (zJ yB (pv 1) (zP rfl T.m_PICK) (nomark _)) (zG (zM (zL (zA (kN (pv 0) Mtake_within hr (zA (zP rfl T.m_LEAST_PICK) (zA (zP rfl T.m_MOST_MANY) zC)) passX) zC)))) zN)
   (zD (zS (zJ yB (pv 1) (zP rfl T.m_CALL) (nomark _)) (zG (zM (zL (zA (kN (pv 0) Mtake_within hr (zA zE (zA (zQ xG (yD zY rfl T.n_len xY (zA (pv 2) zC)) zE) zC)) passX) zC)))) zN)
   (zG (zM (zL zC)))))))), ?_⟩
 try dsimp only [Cx.nox, Cx.exc, Cx.wish, zU]
 have hl := L1.1
 have fin : ∀ n, ownM ns hs boxes k p = .ok [n] -> 1 <= sizeLine /\ ∀ t, upd H lk (LookO CL dx a (p + 1)) t = none -> Q (.ref t) (upd (upd H lk (LookO CL dx a (p + 1))) t (.tup [.int n])) := fun n e => by
  refine ⟨small (by decide), fun t ht => t1 [n] e t _ (Keep.trans Keep.upd (Keep.new _ ht)) ?_ zB⟩
  rw [zK (zI (zB (H := H) (a := lk) (o := LookO CL dx a (p + 1))) ht)]
  exact zB
 refine ⟨_, rfl, rfl, _, rfl, ite2 (fun c => ?_) (fun c0 => ?_)⟩
 ·have o : ownM ns hs boxes k p = oneM (takeM ns p) := if_pos (vt c)
  exact ⟨_, rfl, lk, dx, _, rfl, hl, rfl, lk, dx, a, p, ns, rfl, L1, fun n e => fin n (by rw [o, e]; rfl), fun pl wd e => t2 _ _ (by rw [o, e]; rfl)⟩
 have n0 := vf c0
 have one : ∀ lo hi, (∀ r, withinM ns p lo hi = r -> ownM ns hs boxes k p = oneM r) -> Looks CL H lk dx a p ns /\ Tells (withinM ns p lo hi) (fun n => 1 <= sizeLine /\ ∀ t, upd H lk (LookO CL dx a (p + 1)) t = none -> Q (.ref t) (upd (upd H lk (LookO CL dx a (p + 1))) t (.tup [.int n]))) (Fails CN lk H E) :=
  fun lo hi o => ⟨L1, fun n e => fin n (o _ e), fun pl wd e => t2 _ _ (o _ e)⟩
 have br12 : k = 1 \/ k = 2 -> ∀ r, withinM ns p 0 (boxes - 1) = r -> ownM ns hs boxes k p = oneM r := fun z r e => by unfold ownM; rw [if_neg n0, if_pos z, e]
 refine ⟨_, rfl, rfl, _, rfl, ite2 (fun c => iteT ?_) (fun c1 => ?_)⟩
 ·exact ⟨_, rfl, lk, dx, _, rfl, hl, rfl, _, rfl, _, _, rfl, rfl, lk, dx, a, p, ns, 0, boxes - 1, rfl, one _ _ (br12 (.inl (vt c)))⟩
 refine ⟨_, rfl, rfl, _, rfl, ite2 (fun c => ?_) (fun c2 => ?_)⟩
 ·exact ⟨_, rfl, lk, dx, _, rfl, hl, rfl, _, rfl, _, _, rfl, rfl, lk, dx, a, p, ns, 0, boxes - 1, rfl, one _ _ (br12 (.inr (vt c)))⟩
 have n12 : ¬ (k = 1 \/ k = 2) := fun z => z.elim (vf c1) (vf c2)
 refine ⟨_, rfl, rfl, _, rfl, ite2 (fun c => ?_) (fun c3 => ?_)⟩
 ·exact ⟨_, rfl, lk, dx, _, rfl, hl, rfl, lk, dx, a, p, ns, 1, 12, rfl, one _ _ fun r e => by unfold ownM; rw [if_neg n0, if_neg n12, if_pos (vt c), e]⟩
 refine ⟨_, rfl, rfl, _, rfl, ite2 (fun c => ?_) (fun c4 => ?_)⟩
 ·exact ⟨_, rfl, lk, dx, _, rfl, hl, rfl, lk, dx, a, p, ns, 2, 12, rfl, one _ _ fun r e => by unfold ownM; rw [if_neg n0, if_neg n12, if_neg (vf c3), if_pos (vt c), e]⟩
 refine ⟨_, rfl, rfl, _, rfl, ite2 (fun c => ?_) (fun c6 => ?_)⟩
 ·obtain ⟨rs, eh, pr⟩ := id hh
  have ln : rs.length = hs.length := Paired.len pr
  exact ⟨_, rfl, lk, dx, _, rfl, hl, rfl, _, rfl, hd, _, rfl, .inl (.of eh), _, _, rfl, rfl, lk, dx, a, p, ns, 0, _, rfl, one _ _ fun r e => by unfold ownM; rw [if_neg n0, if_neg n12, if_neg (vf c3), if_neg (vf c4), if_pos (vt c), <- ln, e]⟩
 ·refine ⟨small (show 0 <= 1000 by decide), fun t ht => t1 [] ?_ t _ (Keep.new _ ht) ?_ zB⟩
  ·unfold ownM; rw [if_neg n0, if_neg n12, if_neg (vf c3), if_neg (vf c4), if_neg (vf c6)]
  ·rw [zK (zI hl ht)]; exact hl
def spParts : Sp := fun vs H Q _ => ∃ (k : Nat) (v : Int), vs = [.int (7 + (k : Int))] /\ partsN[k]? = some v /\ Q (.int v) H
theorem ok_parts (T : Txt K mg aP CL CN) (F : Fun K "parts_of" "parts_of" kE f fd) : FnOk P w K mg base (CXE P w) 1 f fd ["kind"] spParts := by
 refine F.okN sc_parts_of (fun vs H Q E h => ?_) (fun cdv A outer s H vs Q E hr h => ?_)
 ·obtain ⟨k, v, rfl, _⟩ := h
  rfl
 obtain ⟨k, v, rfl, hk, q⟩ := h
 refine ⟨_, (zG (zM (zT yH (pe_gref rfl T.m_PARTS) (zQ xG (pv 0) (zP rfl T.m_FAIL)) (fun _ _ => rfl)))), ?_⟩
 try dsimp only [Cx.nox, Cx.exc, Cx.wish, zU]
 refine ⟨_, rfl, _, _, rfl, rfl, aP, _, _, _, rfl, rfl, T.parts _, ?_, q⟩
 rw [show (7 : Int) + (k : Int) - 7 = (k : Int) by (first|lia|omega)]
 exact kA (by rw [List.getElem?_map, hk]; rfl)
theorem ok_due (T : Txt K mg aP CL CN) (F : Fun K "parts_due" "parts_due" jN f fd) (Cparts_of : Cal P w K mg base (CXE P w) 1 "parts_of" ["kind"] spParts) :
  FnOk P w K mg base (CXE P w) 2 f fd ["kind", "numbers", "heads"] spDue := by
 refine F.okN sc_parts_due (fun vs H Q E h => ?_) (fun cdv A outer s H vs Q E hr h => ?_)
 ·obtain ⟨k, t, own, hd, hs, rfl, _⟩ := h
  rfl
 obtain ⟨k, t, own, hd, hs, rfl, ht, ⟨rs, eh, pr⟩, ⟨h0, h1, hk⟩, q⟩ := h
 refine ⟨_, (zD (zS (PW.pt (qX (zJ yB (pv 0) (zP rfl T.m_NUMBER) (nomark _)) (qA (zJ yB (pv 0) (zP rfl T.m_GET) (nomark _))))) (zG (zM zE)) zN)
   (zD (zS (zJ yB (pv 0) (zP rfl T.m_SET) (nomark _)) (zG (zM zE)) zN)
   (zD (zS (zJ yB (pv 0) (zP rfl T.m_ALL) (nomark _)) (zG (zM (zT yH (pv 1) zE (fun _ _ => rfl)))) zN)
   (zD (zS (zJ yB (pv 0) (zP rfl T.m_PICK) (nomark _)) (zG (zM (zQ yY zE (zT yH (pv 1) zE (fun _ _ => rfl))))) zN)
   (zD (zS (zJ yB (pv 0) (zP rfl T.m_LOOP) (nomark _)) (zG (zM zE)) zN)
   (zD (zS (zJ yB (pv 0) (zP rfl T.m_CALL) (nomark _)) (zG (zM (zT yH (zT zX (pv 2) (zT yH (pv 1) zE (fun _ _ => rfl)) (fun _ _ => rfl)) zE (fun _ _ => rfl)))) zN)
   (zG (zM (zH Cparts_of hr rfl (zA (pv 0) zC) passN))))))))), ?_⟩
 try dsimp only [Cx.nox, Cx.exc, Cx.wish, zU]
 have due0 : k = 0 \/ k = 1 -> dueM hs k own = 0 := fun z => if_pos z
 refine ⟨_, rfl, rfl, _, rfl, ite2 (fun c => iteT ?_) (fun c0 => ?_)⟩
 ·rw [due0 (.inl (vt c))] at q; exact q
 refine ⟨_, rfl, rfl, _, rfl, ite2 (fun c => ?_) (fun c1 => ?_)⟩
 ·rw [due0 (.inr (vt c))] at q; exact q
 have n01 : ¬ (k = 0 \/ k = 1) := fun z => z.elim (vf c0) (vf c1)
 unfold dueM at q
 rw [if_neg n01] at q
 refine ⟨_, rfl, rfl, _, rfl, ite2 (fun c => ?_) (fun c2 => ?_)⟩
 ·rw [if_pos (vt c)] at q; exact q
 rw [if_neg (vf c2)] at q
 refine ⟨_, rfl, rfl, _, rfl, ite2 (fun c => ?_) (fun c3 => ?_)⟩
 ·rw [if_pos (vt c)] at q
  obtain ⟨n, rfl, _⟩ := hk (.inl (vt c))
  exact ⟨_, rfl, t, _, _, _, rfl, rfl, .of ht, rfl, q⟩
 rw [if_neg (vf c3)] at q
 refine ⟨_, rfl, rfl, _, rfl, ite2 (fun c => ?_) (fun c4 => ?_)⟩
 ·rw [if_pos (vt c)] at q
  obtain ⟨n, rfl, _⟩ := hk (.inr (.inl (vt c)))
  exact ⟨_, rfl, t, _, _, _, rfl, rfl, .of ht, rfl, _, _, rfl, rfl, q⟩
 rw [if_neg (vf c4)] at q
 refine ⟨_, rfl, rfl, _, rfl, ite2 (fun c => ?_) (fun c5 => ?_)⟩
 ·rw [if_pos (vt c)] at q; exact q
 rw [if_neg (vf c5)] at q
 refine ⟨_, rfl, rfl, _, rfl, ite2 (fun c => ?_) (fun c6 => ?_)⟩
 ·rw [if_pos (vt c)] at q
  obtain ⟨n, rfl, n0, n1, _⟩ := hk (.inr (.inr (vt c)))
  have hn : n.toNat < hs.length := by have := n1 (vt c); (first|lia|omega)
  have ln : rs.length = hs.length := Paired.len pr
  have e1 : hs[n.toNat]? = some hs[n.toNat] := List.getElem?_eq_getElem hn
  have e2 : rs[n.toNat]? = some rs[n.toNat] := List.getElem?_eq_getElem (by (first|lia|omega))
  obtain ⟨tt, er, et⟩ := Paired.get pr _ _ _ e2 e1
  have av : atI rs n = some (.ref tt) := by
   have := kA (xs := rs) e2
   rw [show ((n.toNat : Nat) : Int) = n by (first|lia|omega), er] at this
   exact this
  refine ⟨_, rfl, _, rfl, t, _, _, _, rfl, rfl, .of ht, rfl, hd, rs, n, _, rfl, rfl, .of eh, av, tt, _, _, _, rfl, rfl, .of et, rfl, ?_⟩
  have : (hs.getD ([n].headD 0).toNat (0, 0)).1 = hs[n.toNat].1 := by
   show (hs.getD n.toNat (0, 0)).1 = _
   rw [List.getD_eq_getElem?_getD, e1]; rfl
  rw [this] at q
  exact q
 ·rw [if_neg (vf c6)] at q
  have n0 := vf c0; have n1 := vf c1; have n2 := vf c2; have n3 := vf c3; have n4 := vf c4; have n5 := vf c5; have n6 := vf c6
  have hk7 : (k - 7).toNat < 13 := by (first|lia|omega)
  have e1 : partsN[(k - 7).toNat]? = some (partsN.getD (k - 7).toNat 0) := by
   rw [List.getD_eq_getElem?_getD, List.getElem?_eq_getElem (by exact hk7)]; rfl
  exact ⟨_, rfl, (k - 7).toNat, _, (by rw [show (7 : Int) + ((k - 7).toNat : Int) = k by (first|lia|omega)]; rfl), e1, q⟩
def spPrev (CL CN : Addr) : Nat -> Sp
 | 0 => fun _ _ _ _ => False
 | d + 1 => spNode CL CN d
def InvNode (lk hd dx a t ps : Addr) (boxes k N : Int) (d p : Nat) (own : List Int) (H : Hp) (ns : List Int) (hs : Hds) (i : Nat) (σ' : St) (H' : Hp) : Prop := ∃ (done : List Nd) (vs : List V) (p' : Nat) (v8 : Option V), σ' = [some (.ref lk), some (.ref hd), some (.int boxes), some (.int (11 - ((d + 1 : Nat) : Int))), some (.int (p : Int)), some (.int k), some (.ref t), some (.ref ps), v8] /\ done.length = i /\ Keep lk H H' /\
   H' lk = some (LookO CL dx a p') /\ H' t = some (.tup (own.map V.int)) /\ H' ps = some (.lst vs) /\ Paired (NodeAt H' d) vs done /\ partsM (nodeM ns hs boxes d) N.toNat (p + 1 + own.length) = joinP done (partsM (nodeM ns hs boxes d) (N.toNat - i) p')
theorem ok_node (d : Nat) (hd10 : d <= 10) (T : Txt K mg aP CL CN) (F : Fun K "take_node" "take_node" xU f fd) (CNoSheet : CalX P w K mg base 1 "NoSheet" CN ["self", "place", "word"] (spInitX CN)) (Mtake_within : CalM P w K mg base (CXE P w) 4 CL "take_within" ["self", "least", "most"] (spWithin CL CN))
  (Ctake_own : Cal P w K mg base (CXE P w) 5 "take_own" ["look", "kind", "heads", "boxes"] (spOwn CL CN)) (Cparts_due : Cal P w K mg base (CXE P w) 2 "parts_due" ["kind", "numbers", "heads"] spDue)
  (Ctake_node : Cal P w K mg base (CXE P w) (5 + d) "take_node" ["look", "heads", "boxes", "deep"] (spPrev CL CN d)) : FnOk P w K mg base (CXE P w) (5 + d + 1) f fd ["look", "heads", "boxes", "deep"] (spNode CL CN d) := by
 refine F.okX xZ (fun vs H Q E h => ?_) (fun cdv A outer s H vs Q E hr h => ?_)
 ·obtain ⟨lk, dx, a, p, ns, hd, hs, boxes, rfl, _⟩ := h
  rfl
 obtain ⟨lk, dx, a, p, ns, hd, hs, boxes, rfl, L1, hh, ho, t1, t2⟩ := h
 refine ⟨_, (zD (zO (i := 4) xZ.nd rfl (Or.inl rfl) (xQ (pv 0) rfl))
   (zD (zS (zJ op_gt (pv 3) (zP rfl T.m_MOST_DEEP) (nomark _)) (zG (xB CNoSheet hr rfl (zA (pv 4) (zA zZ zC)))) zN)
   (zD (zO (i := 5) xZ.nd rfl (Or.inl rfl) (kN (pv 0) Mtake_within hr (zA (zP rfl T.m_NUMBER) (zA (zP rfl T.m_NEW) zC)) passX))
   (zD (zO (i := 6) xZ.nd rfl (Or.inl rfl) (zH Ctake_own hr rfl (zA (pv 0) (zA (pv 5) (zA (pv 1) (zA (pv 2) zC)))) passX))
   (zD (zO (i := 7) xZ.nd rfl (Or.inl rfl) (yC zC))
   (zD (xX (qB rfl rfl) rfl (qM rfl T.n_range (zA (zH Cparts_due hr rfl (zA (pv 5) (zA (pv 6) (zA (pv 1) zC))) passX) zC)) (zR (i := 8) xZ.nd rfl (Or.inl rfl)) (zG (yG (jZ PySem.F.plainAttrs_list PySem.F.slot_list_append PySem.F.type_list_append yJ (pv 7) (zA (zH Ctake_node hr rfl (zA (pv 0) (zA (pv 1) (zA (pv 2) (zA (zQ yY (pv 3) zE) zC)))) passX) zC)))))
   (zG (zM (zL (zA (pv 5) (zA (pv 4) (zA (pv 6) (zA (kX qI rfl T.n_tuple bt_tuple (zA (pv 7) zC)) zC))))))))))))), ?_⟩
 try dsimp only [Cx.nox, Cx.exc, Cx.wish, zU]
 have hl := L1.1
 refine ⟨_, rfl, lk, CL, dx, _, _, rfl, hl, T.look, T.lplace, rfl, ?_⟩
 refine ⟨_, rfl, _, _, rfl, rfl, _, rfl, ite2 (fun c => ?_) (fun c => ?_)⟩
 ·have d0 : d = 0 := by have := of_decide_eq_true c; (first|lia|omega)
  subst d0
  exact ⟨_, rfl, small (show 2 <= 1000 by decide), raised (t2 p "deep" rfl) (Keep.refl _ _)⟩
 cases d with
 | zero => exact absurd (decide_eq_true (by decide)) c
 | succ d =>
 refine ⟨_, rfl, lk, dx, _, rfl, hl, rfl, lk, dx, a, p, ns, 0, 19, rfl, L1, fun k ek => ?_, fun pl wd ek => t2 pl wd (by unfold nodeM; rw [ek])⟩
 obtain ⟨_, k0, k19⟩ := jL ek
 have ka : Keep lk H (upd H lk (LookO CL dx a (p + 1))) := Keep.upd
 have La := L1.go ka zB
 refine ⟨_, rfl, _, rfl, _, rfl, _, rfl, lk, dx, a, p + 1, ns, hd, hs, boxes, k, rfl, La, hh.keep hl ka, fun own eo t H2 k2 el2 et2 => ?_, fun pl wd eo => ?_⟩
 rotate_left
 ·exact (t2 pl wd (by unfold nodeM; rw [ek]; simp only; rw [eo])).keep ka
 have oo := own_ok k0 k19 eo
 have kb := ka.trans k2
 refine ⟨small (show 0 <= 1000 by decide), fun ps hps => ?_⟩
 have g3 := zF hps (.lst [])
 have nps : lk ≠ ps := zI el2 hps
 have ntp : t ≠ ps := zI et2 hps
 have kc : Keep lk H (upd H2 ps (.lst [])) := kb.trans (Keep.same g3)
 have elc := g3 _ _ el2
 obtain ⟨j0, j13⟩ := due_ok oo ho
 generalize hN : dueM hs k own = N at j0 j13
 have nHp : H ps = none := by
  cases e : H ps with
  | none => rfl
  | some o => rw [kb ps o (Ne.symm nps) e] at hps; cases hps
 refine ⟨_, rfl, _, rfl, _, rfl, k, t, own, hd, hs, rfl, g3 _ _ et2, hh.keep hl kc, oo, N, by rw [hN], by (first|lia|omega), by (first|lia|omega), ?_⟩
 have en : nodeM ns hs boxes (d + 1) p = match partsM (nodeM ns hs boxes d) N.toNat (p + 1 + own.length) with
   | .error b => .error b
   | .ok r => .ok (.mk k p own r.1, r.2) := by
  conv => lhs; unfold nodeM
  rw [ek]; simp only; rw [eo]; simp only; rw [hN] <;> rfl
 refine kY (lo := 0) (n := N.toNat) (InvNode (CL := CL) lk hd dx a t ps boxes k N d p own H ns hs)
   ⟨[], [], _, _, rfl, rfl, kc, elc, g3 _ _ et2, zB, .nil, (joinP_nil _).symm⟩ ?_ ?_
 ·rintro i σ' H' hi ⟨done, vs, p', v8, rfl, hn, kp, el, et, ep, pr, eq⟩
  obtain ⟨m, em⟩ : ∃ m, N.toNat - i = m + 1 := ⟨N.toNat - i - 1, by (first|lia|omega)⟩
  have L2' : Looks CL H' lk dx a p' ns := L1.go kp el
  have ed : (11 - ((d + 1 : Nat) : Int)) + 1 = 11 - (d : Int) := by (first|lia|omega)
  refine ⟨_, rfl, .inl ⟨rfl, _, .of ep⟩, _, rfl, _, rfl, _, rfl, _, rfl, _, _, rfl, rfl, lk, dx, a, p', ns, hd, hs, boxes, congrArg (fun z => [V.ref lk, V.ref hd, V.int boxes, V.int z]) ed, L2', hh.keep hl kp, ho, fun r er v H3 k3 el3 nv => ?_, fun pl wd er => ?_⟩
  ·have ep3 : H3 ps = some (.lst vs) := k3 ps _ (Ne.symm nps) ep
   have len : vs.length <= 13 := by have := Paired.len pr; (first|lia|omega)
   refine ⟨ps, vs, _, rfl, rfl, ep3, small1000 (by (first|lia|omega)), ?_⟩
   have tp : Tups H' (upd H3 ps (.lst (vs ++ [v]))) := .trans (.keep el k3) (.upd ep3)
   have ntl : t ≠ lk := fun z => by rw [z, el] at et; cases et
   refine ⟨done ++ [r.1], _, r.2, _, rfl, by simp [hn], (kp.trans k3).fresh nHp, ?_, ?_, zB, Paired.snoc (Paired.imp (fun _ _ z => z.tups tp) pr) (nv.tups (.upd ep3)), ?_⟩
   ·rw [zK nps]; exact el3
   ·rw [zK ntp]; exact k3 t _ ntl et
   ·rw [eq, em, show N.toNat - (i + 1) = m by (first|lia|omega)]
    conv => lhs; unfold partsM
    rw [er]; simp only
    cases partsM (nodeM ns hs boxes d) m r.2 with
    | error b => rfl
    | ok r => show Except.ok _ = Except.ok _; rw [List.append_assoc]; rfl
  ·refine (t2 pl wd ?_).keep kp
   rw [en, eq, em]
   conv => lhs; unfold partsM
   rw [er]; rfl
 ·rintro σ' H' ⟨done, vs, p', v8, rfl, hn, kp, el, et, ep, pr, eq⟩
  rw [Nat.sub_self] at eq
  have eq' : partsM (nodeM ns hs boxes d) N.toNat (p + 1 + own.length) = .ok (done, p') := by rw [eq]; show Except.ok (done ++ [], p') = _; rw [List.append_nil]
  refine ⟨_, rfl, _, rfl, _, rfl, _, rfl, ps, vs, rfl, .inl ⟨.of ep, fun q hq => ?_⟩⟩
  refine ⟨small (show 4 <= 1000 by decide), fun u hu => ?_⟩
  have s1 := zF hq (.tup vs)
  have s2 := zF hu (.tup [.int k, .int (p : Int), .ref t, .ref q])
  refine t1 (.mk k p own done, p') (by rw [en, eq']) (.ref u) _ (kp.trans (Keep.same (s1.trans s2))) (s2 _ _ (s1 _ _ el)) ?_
  exact ⟨u, t, q, vs, rfl, zB, s2 _ _ (s1 _ _ et), s2 _ _ zB, Paired.imp (fun _ _ z => z.tups (.same (s1.trans s2))) pr⟩
theorem ok_nodes (T : Txt K mg aP CL CN) (F : Fun K "take_node" "take_node" xU f fd) (CNoSheet : CalX P w K mg base 1 "NoSheet" CN ["self", "place", "word"] (spInitX CN)) (Mtake_within : CalM P w K mg base (CXE P w) 4 CL "take_within" ["self", "least", "most"] (spWithin CL CN))
  (Ctake_own : Cal P w K mg base (CXE P w) 5 "take_own" ["look", "kind", "heads", "boxes"] (spOwn CL CN)) (Cparts_due : Cal P w K mg base (CXE P w) 2 "parts_due" ["kind", "numbers", "heads"] spDue)
  (hm : mg "take_node" = some (.ref f)) (hk : PySem.W.keepIn K (.ref f) = true) (hb : Binds K fd ["look", "heads", "boxes", "deep"] []) : ∀ d, d <= 10 -> FnOk P w K mg base (CXE P w) (5 + d + 1) f fd ["look", "heads", "boxes", "deep"] (spNode CL CN d) := by
 intro d
 induction d with
 | zero => exact fun h => ok_node 0 h T F CNoSheet Mtake_within Ctake_own Cparts_due ⟨⟨_, _, fn_false, hm, hk, hb⟩⟩
 | succ d ih => exact fun h => ok_node (d + 1) h T F CNoSheet Mtake_within Ctake_own Cparts_due ⟨⟨_, _, ih (by (first|lia|omega)), hm, hk, hb⟩⟩
def InvFns (a lk hd tl dx : Addr) (rs : List V) (hs : Hds) (ns : List Int) (H1 : Hp) (i : Nat) (σ' : St) (H' : Hp) : Prop := ∃ (done : List Nd) (vs : List V) (p' : Nat) (v4 v5 : Option V), σ' = [some (.ref a), some (.ref lk), some (.ref hd), some (.ref tl), v4, v5] /\ i <= rs.length /\ done.length = i /\ Keep lk H1 H' /\ H' lk = some (LookO CL dx a p') /\
   H' hd = some (.lst rs) /\ Paired (HeadAt H') rs hs /\ H' tl = some (.lst vs) /\ Paired (FnAt H') vs ((hs.take i).zip done) /\ bodiesM ns hs hs (1 + 2 * hs.length) = joinP done (bodiesM ns hs (hs.drop i) p')
theorem ok_fns (T : Txt K mg aP CL CN) (F : Fun K "functions" "functions" jO f fd) (CNoSheet : CalX P w K mg base 1 "NoSheet" CN ["self", "place", "word"] (spInitX CN)) (CLook : CalK P w K mg base (CXE P w) 1 "Look" CL ["self", "numbers"] (spInitL CL))
  (Ctake_heads : Cal P w K mg base (CXE P w) 5 "take_heads" ["look"] (spHeads CL CN)) (Ctake_node : Cal P w K mg base (CXE P w) 16 "take_node" ["look", "heads", "boxes", "deep"] (spNode CL CN 10)) :
  FnOk P w K mg base (CXE P w) 17 f fd ["sheet"] (spFns CN) := by
 refine F.okX jA (fun vs H Q E h => ?_) (fun cdv A outer s H vs Q E hr h => ?_)
 ·obtain ⟨a, ns, rfl, _⟩ := h
  rfl
 obtain ⟨a, ns, rfl, ha, t1, t2⟩ := h
 refine ⟨_, (zD (zO (i := 1) jA.nd rfl (Or.inl rfl) (pe_makeC CLook hr rfl (zA (pv 0) zC) passX))
   (zD (zO (i := 2) jA.nd rfl (Or.inl rfl) (zH Ctake_heads hr rfl (zA (pv 1) zC) passX))
   (zD (zO (i := 3) jA.nd rfl (Or.inl rfl) (yC zC))
   (zD (xX (qB rfl rfl) rfl (kS (pv 2)) (qH rfl (zW (zR (i := 4) jA.nd rfl (Or.inl rfl)) (zW (zR (i := 5) jA.nd rfl (Or.inl rfl)) kJ))) (zG (yG (jZ PySem.F.plainAttrs_list PySem.F.slot_list_append PySem.F.type_list_append yJ (pv 3) (zA (zL (zA (pv 4) (zA (pv 5) (zA (zH Ctake_node hr rfl (zA (pv 1) (zA (pv 2) (zA (pv 5) (zA zE zC)))) passX) zC)))) zC)))))
   (zD (zS (zJ qZ (xQ (pv 1) rfl) (yD zY rfl T.n_len xY (zA (pv 0) zC)) (nomark _)) (zG (xB CNoSheet hr rfl (zA (xQ (pv 1) rfl) (zA zZ zC)))) zN)
   (zG (zM (pv 3)))))))), ?_⟩
 try dsimp only [Cx.nox, Cx.exc, Cx.wish, zU]
 refine ⟨_, rfl, fun lk dx hlk hdx ndx => ⟨lk, dx, a, rfl, zB, fun H1 k1 el1 => ⟨rfl, ?_⟩⟩⟩
 have nla : a ≠ lk := zI ha hlk
 have same0 : ∀ {H' : Hp}, Keep lk (upd (upd H dx (.own lk)) lk (.ins CL dx [])) H' -> Same H H' := fun {H'} k b o e => by
  refine k b o (zI e hlk) ?_
  rw [zK (zI e hlk), zK (zI e hdx)]; exact e
 have L1 : Looks CL H1 lk dx a 0 ns := ⟨el1, same0 k1 _ _ ha⟩
 have bad : ∀ {H' : Hp} {p : Nat} {wd : Str}, Keep lk H1 H' -> functionsM ns = .error (p, wd) -> Fails CN lk H' E p wd := fun {H' p wd} k e d H'' k' ed => t2 p wd e d H'' (same0 (k1.trans (k.trans k'))) ed
 refine ⟨_, rfl, lk, dx, a, ns, rfl, L1, fun hs eh hd H2 k2 el2 hh => ?_, fun p wd e => bad (Keep.refl _ _) (by unfold functionsM; rw [e])⟩
 obtain ⟨ho, _, l1, l16, _⟩ := headsAllM_ok eh
 refine ⟨small (show 0 <= 1000 by decide), fun tl htl => ?_⟩
 have g3 := zF htl (.lst [])
 have nlt : lk ≠ tl := zI el2 htl
 have kc : Keep lk H1 (upd H2 tl (.lst [])) := k2.trans (Keep.same g3)
 obtain ⟨rs, ehd, pr⟩ := id hh
 have nht : hd ≠ tl := zI ehd htl
 have nhl : hd ≠ lk := fun z => by rw [z, el2] at ehd; cases ehd
 have lr : rs.length = hs.length := Paired.len pr
 have ef : functionsM ns = match bodiesM ns hs hs (1 + 2 * hs.length) with
   | .error b => .error b
   | .ok r => if r.2 < ns.length then .error (r.2, "over") else .ok (hs, r.1) := by unfold functionsM; rw [eh] <;> rfl
 have nHt : H1 tl = none := by
  cases e : H1 tl with
  | none => rfl
  | some o => rw [k2 tl o (Ne.symm nlt) e] at htl; cases htl
 have nH0 : H tl = none := (same0 k1).free nHt
 refine ⟨_, rfl, hd, rfl, ⟨rs, .of (g3 _ _ ehd)⟩, kP (xs := rs) (InvFns (CL := CL) a lk hd tl dx rs hs ns H1)
   ⟨[], [], _, _, _, rfl, Nat.zero_le _, rfl, kc, g3 _ _ el2, g3 _ _ ehd, Paired.imp (fun _ _ z => z.tups (.same g3)) pr, zB, .nil, (joinP_nil _).symm⟩ ?_ ?_ ?_⟩
 ·rintro i σ' H' _ ⟨done, vs, p', v4, v5, rfl, hi, hn, kp, el, eh', pr', et, pf, eq⟩
  exact .of eh'
 ·rintro i x σ' H' hx ⟨done, vs, p', v4, v5, rfl, _, hn, kp, el, eh', pr', et, pf, eq⟩
  have hi : i < rs.length := (List.getElem?_eq_some_iff.mp hx).1
  have e1 : hs[i]? = some hs[i] := List.getElem?_eq_getElem (by (first|lia|omega))
  generalize hs[i] = hx1 at e1
  obtain ⟨u, rfl, eu⟩ := Paired.get pr' i _ _ hx e1
  have dr : hs.drop i = hx1 :: hs.drop (i + 1) := by
   have := List.drop_eq_getElem_cons (l := hs) (i := i) (by (first|lia|omega))
   rw [this]; congr 1
   exact Option.some.inj ((List.getElem?_eq_getElem (by (first|lia|omega))).symm.trans e1)
  have tk : hs.take (i + 1) = hs.take i ++ [hx1] := by rw [List.take_add_one, e1]; rfl
  refine ⟨u, _, rfl, .of eu, rfl, _, _, rfl, _, _, rfl, rfl, ?_⟩
  have L2' : Looks CL H' lk dx a p' ns := L1.go kp el
  refine ⟨_, rfl, .inl ⟨rfl, _, .of et⟩, _, rfl, _, rfl, _, rfl, _, rfl, _, rfl, lk, dx, a, p', ns, hd, hs, hx1.2, rfl, L2', ⟨rs, eh', pr'⟩, ho, fun r er v H3 k3 el3 nv => ?_, fun pl wd er => ?_⟩
  ·refine ⟨small (show 3 <= 1000 by decide), fun q hq => ?_⟩
   have s1 := zF hq (.tup [.int hx1.1, .int hx1.2, v])
   have et3 := s1 _ _ (k3 tl _ (Ne.symm nlt) et)
   have len : vs.length <= 16 := by
    have := Paired.len pf
    rw [List.length_zip, List.length_take] at this
    (first|lia|omega)
   refine ⟨tl, vs, _, rfl, rfl, et3, small1000 (by (first|lia|omega)), ?_⟩
   have tq : Tups H3 (upd (upd H3 q (.tup [.int hx1.1, .int hx1.2, v])) tl (.lst (vs ++ [.ref q]))) := .trans (.same s1) (.upd et3)
   have tp := Tups.trans (.keep el k3) tq
   have ntq : tl ≠ q := zI (k3 tl _ (Ne.symm nlt) et) hq
   have nql : lk ≠ q := zI el3 hq
   refine ⟨done ++ [r.1], _, r.2, _, _, rfl, hi, by simp [hn], (kp.trans (k3.trans (Keep.same s1))).fresh nHt, ?_, ?_, Paired.imp (fun _ _ z => z.tups tp) pr', zB, ?_, ?_⟩
   ·rw [zK nlt]; exact s1 _ _ el3
   ·rw [zK nht]; exact s1 _ _ (k3 hd _ nhl eh')
   ·rw [tk, List.zip_append (by rw [List.length_take]; (first|lia|omega))]
    exact Paired.snoc (Paired.imp (fun _ _ z => z.tups tp) pf) ⟨q, v, rfl, by rw [zK (Ne.symm ntq)]; exact zB, nv.tups tq⟩
   ·rw [eq, dr]
    conv => lhs; unfold bodiesM
    rw [er]; simp only
    cases bodiesM ns hs (hs.drop (i + 1)) r.2 with
    | error b => rfl
    | ok r => show Except.ok _ = Except.ok _; rw [List.append_assoc]; rfl
  ·refine bad kp ?_
   rw [ef, eq, dr]
   conv => lhs; unfold bodiesM
   rw [er]; rfl
 ·rintro σ' H' ⟨done, vs, p', v4, v5, rfl, _, hn, kp, el, eh', pr', et, pf, eq⟩
  rw [lr, List.drop_length] at eq
  have eq' : bodiesM ns hs hs (1 + 2 * hs.length) = .ok (done, p') := by rw [eq]; show Except.ok (done ++ [], p') = _; rw [List.append_nil]
  have ea : H' a = some (.lst (ns.map V.int)) := kp a _ nla L1.2
  have hz : (ns.map V.int).length = ns.length := List.length_map ..
  refine ⟨_, rfl, lk, CL, dx, _, _, rfl, el, T.look, T.lplace, rfl, _, rfl, a, _, rfl, .inl (.of ea), _, _, rfl, rfl, _, rfl, ite2 (fun c => ?_) (fun c => ?_)⟩
  ·have c' : p' < ns.length := by have := of_decide_eq_true c; (first|lia|omega)
   refine ⟨_, rfl, lk, CL, dx, _, _, rfl, el, T.look, T.lplace, rfl, small (show 2 <= 1000 by decide), raised (bad (p := p') (wd := "over") kp ?_) (Keep.refl _ _)⟩
   rw [ef, eq']; exact if_pos c'
  ·refine ⟨_, rfl, t1 (hs, done) ?_ tl H' (same0 (k1.trans kp)) nH0 ⟨vs, et, by show hs.length = done.length; (first|lia|omega), ?_⟩⟩
   ·rw [ef, eq']
    exact if_neg fun z => c (decide_eq_true (by (first|lia|omega)))
   ·rw [lr, List.take_length] at pf; exact pf

end
section
variable {P : Program} {w : World} {K : PySem.W.Frag} {mg : Str -> Option Value} {base : Heap} {f : Addr} {fd : FuncData}
set_option maxHeartbeats 4000000

theorem ok_dwithin (T : TxtD K mg) (F : Fun K "within" "within" qK f fd) : FnOk P w K mg base (CXE P w) 1 f fd ["value"] spDWithin := by
 refine F.okN sc_within (fun vs H Q E h => ?_) (fun cdv A outer s H vs Q E hr h => ?_)
 ·obtain ⟨v, rfl, _⟩ := h
  rfl
 obtain ⟨v, rfl, q⟩ := h
 refine ⟨_, (zD (zS (PW.pt (qX (zJ op_ge (pv 0) (zP rfl T.m_GREAT) (nomark _)) (qA (zJ op_le (pv 0) (pe_un un_neg (zP rfl T.m_GREAT)) (nomark _))))) (zG (zM (zL (yA (.str (.int .nil)))))) zN)
   (zG (zM (zL (zA kQ (zA (pv 0) zC)))))), ?_⟩
 try dsimp only [Cx.nox, Cx.exc, Cx.wish, zU]
 refine ⟨_, rfl, _, _, rfl, rfl, _, rfl, ?_⟩
 have hit : v ≥ G100 \/ v <= -G100 -> wV v = [.str "great", .int 0] := fun c => if_pos c
 refine ite2 (fun c => ?_) (fun c => ?_)
 ·refine ⟨small (show 2 <= 1000 by decide), fun t ht => q _ _ ht ?_⟩
  rw [hit (.inl (of_decide_eq_true c))]
 refine ⟨_, rfl, _, rfl, _, _, rfl, rfl, _, rfl, ?_⟩
 refine ite2 (fun c2 => ?_) (fun c2 => ?_)
 ·refine ⟨small (show 2 <= 1000 by decide), fun t ht => q _ _ ht ?_⟩
  rw [hit (.inr (of_decide_eq_true c2))]
 ·refine ⟨_, rfl, small (show 2 <= 1000 by decide), fun t ht => q _ _ ht ?_⟩
  have c1' := of_decide_eq_false (Bool.eq_false_iff.mpr c)
  have c2' := of_decide_eq_false (Bool.eq_false_iff.mpr c2)
  have : wV v = [.non, .int v] := if_neg fun z => by rcases z with z | z; exact c1' z; exact c2' z
  rw [this]
theorem ok_reckoned (T : TxtD K mg) (F : Fun K "reckoned" "reckoned" kD f fd) (Cwithin : Cal P w K mg base (CXE P w) 1 "within" ["value"] spDWithin) : FnOk P w K mg base (CXE P w) 2 f fd ["kind", "first", "second"] spReck := by
 refine F.okN sc_reckoned (fun vs H Q E h => ?_) (fun cdv A outer s H vs Q E hr h => ?_)
 ·obtain ⟨k, a, b, rfl, _⟩ := h
  rfl
 obtain ⟨k, a, b, rfl, ha, hb, q⟩ := h
 refine ⟨_, (zD (zS (zJ yB (pv 0) (zP rfl T.m_ADD) (nomark _)) (zG (zM (zH Cwithin hr rfl (zA (zQ yY (pv 1) (pv 2)) zC) passN))) zN)
   (zD (zS (zJ yB (pv 0) (zP rfl T.m_SUB) (nomark _)) (zG (zM (zH Cwithin hr rfl (zA (zQ xG (pv 1) (pv 2)) zC) passN))) zN)
   (zD (zS (zJ yB (pv 0) (zP rfl T.m_MUL) (nomark _)) (zG (zM (zH Cwithin hr rfl (zA (zQ op_mulB (pv 1) (pv 2)) zC) passN))) zN)
   (zD (zS (zJ yB (pv 0) (zP rfl T.m_LESS) (nomark _)) (zG (zM (zL (zA kQ (zA (pe_ifExp (zJ qZ (pv 1) (pv 2) (nomark _)) zE zE) zC))))) zN)
   (zD (zS (zJ yB (pv 0) (zP rfl T.m_SAME) (nomark _)) (zG (zM (zL (zA kQ (zA (pe_ifExp (zJ yB (pv 1) (pv 2) (nomark _)) zE zE) zC))))) zN)
   (zD (zS (zJ yB (pv 2) zE (nomark _)) (zG (zM (zL (yA (.str (.int .nil)))))) zN)
   (zD (zS (zJ yB (pv 0) (zP rfl T.m_QUO) (nomark _)) (zG (zM (zL (zA kQ (zA (zQ op_fdivZ (pv 1) (pv 2)) zC))))) zN)
   (zG (zM (zL (zA kQ (zA (zQ op_modN (pv 1) (pv 2)) zC)))))))))))), ?_⟩
 try dsimp only [Cx.nox, Cx.exc, Cx.wish, zU]
 refine ⟨_, rfl, rfl, _, rfl, ?_⟩
 refine ite2 (fun c8 => ?_) (fun c8 => ?_)
 ·have e := vt c8
  subst e
  exact ⟨_, rfl, _, rfl, _, _, rfl, rfl, _, rfl, fun p H' hp e => q p H' hp e⟩
 have e8 := vf c8
 refine ⟨_, rfl, rfl, _, rfl, ?_⟩
 refine ite2 (fun c9 => ?_) (fun c9 => ?_)
 ·have e := vt c9
  subst e
  exact ⟨_, rfl, _, rfl, _, _, rfl, rfl, _, rfl, fun p H' hp e => q p H' hp e⟩
 have e9 := vf c9
 refine ⟨_, rfl, rfl, _, rfl, ?_⟩
 refine ite2 (fun c10 => ?_) (fun c10 => ?_)
 ·have e := vt c10
  subst e
  exact ⟨_, rfl, _, rfl, _, _, rfl, rfl, ⟨ha, hb⟩, _, rfl, fun p H' hp e => q p H' hp e⟩
 have e10 := vf c10
 refine ⟨_, rfl, rfl, _, rfl, ?_⟩
 refine ite2 (fun c13 => ?_) (fun c13 => ?_)
 ·have e := vt c13
  subst e
  refine ⟨_, rfl, _, rfl, _, _, rfl, rfl, _, rfl, ?_⟩
  refine ite2 (fun cl => ?_) (fun cl => ?_)
  ·refine ⟨small (show 2 <= 1000 by decide), fun t ht => q _ _ ht ?_⟩
   have : reckV 13 a b = [.non, .int (if a < b then 1 else 0)] := rfl
   rw [this, if_pos (of_decide_eq_true cl)]
  ·refine ⟨small (show 2 <= 1000 by decide), fun t ht => q _ _ ht ?_⟩
   have : reckV 13 a b = [.non, .int (if a < b then 1 else 0)] := rfl
   rw [this, if_neg (of_decide_eq_false (Bool.eq_false_iff.mpr cl))]
 have e13 := vf c13
 refine ⟨_, rfl, rfl, _, rfl, ?_⟩
 refine ite2 (fun c14 => ?_) (fun c14 => ?_)
 ·have e := vt c14
  subst e
  refine ⟨_, rfl, _, rfl, rfl, _, rfl, ?_⟩
  refine ite2 (fun cl => ?_) (fun cl => ?_)
  ·refine ⟨small (show 2 <= 1000 by decide), fun t ht => q _ _ ht ?_⟩
   have : reckV 14 a b = [.non, .int (if a = b then 1 else 0)] := rfl
   rw [this, if_pos (vt cl)]
  ·refine ⟨small (show 2 <= 1000 by decide), fun t ht => q _ _ ht ?_⟩
   have : reckV 14 a b = [.non, .int (if a = b then 1 else 0)] := rfl
   rw [this, if_neg (vf cl)]
 have e14 := vf c14
 have rest : reckV k a b = if b = 0 then [.str "zero", .int 0] else if k = 11 then [.non, .int (a.fdiv b)] else [.non, .int (a.fmod b)] := by
  unfold reckV
  rw [if_neg e8, if_neg e9, if_neg e10, if_neg e13, if_neg e14]
 refine ⟨_, rfl, rfl, _, rfl, ?_⟩
 refine ite2 (fun c0 => ?_) (fun c0 => ?_)
 ·refine ⟨small (show 2 <= 1000 by decide), fun t ht => q _ _ ht ?_⟩
  rw [rest, if_pos (vt c0)]
 have e0 := vf c0
 rw [if_neg e0] at rest
 refine ⟨_, rfl, rfl, _, rfl, ?_⟩
 refine ite2 (fun c11 => ?_) (fun c11 => ?_)
 ·refine ⟨_, rfl, _, rfl, _, _, rfl, rfl, ⟨e0, hb⟩, small (show 2 <= 1000 by decide), fun t ht => q _ _ ht ?_⟩
  rw [rest, if_pos (vt c11)]
 ·refine ⟨_, rfl, _, rfl, _, _, rfl, rfl, e0, small (show 2 <= 1000 by decide), fun t ht => q _ _ ht ?_⟩
  rw [rest, if_neg (vf c11)]
theorem ok_drow (T : TxtD K mg) (F : Fun K "done_to_row" "done_to_row" xO f fd) : FnOk P w K mg base (CXE P w) 1 f fd ["kind", "values", "rows"] spRow := by
 refine F.okN jW (fun vs H Q E h => ?_) (fun cdv A outer s H vs Q E hr h => ?_)
 ·obtain ⟨k, v0, v1, v2, vp, rp, vals, rs, rows, rfl, _⟩ := h
  rfl
 obtain ⟨k, v0, v1, v2, vp, rp, vals, rs, rows, rfl, hv, ev, hk0, hk1, hout, hR, hlen, q⟩ := h
 refine ⟨_, (zD (zO (i := 3) jW.nd rfl (Or.inl rfl) (zT zX (pv 1) zE (fun _ _ => rfl)))
   (zD (zS (PW.pt (qX (zJ qZ (pv 3) zE (nomark _)) (qA (zJ op_ge (pv 3) (yD zY rfl T.n_len xY (zA (pv 2) zC)) (nomark _))))) (zG (zM (zL (yA (.str (.int .nil)))))) zN)
   (zD (zO (i := 4) jW.nd rfl (Or.inl rfl) (zT zX (pv 2) (pv 3) (fun _ _ => rfl)))
   (zD (zS (zJ yB (pv 0) (zP rfl T.m_SIZE) (nomark _)) (zG (zM (zL (zA kQ (zA (yD zY rfl T.n_len xY (zA (pv 4) zC)) zC))))) zN)
   (zD (zS (zJ yB (pv 0) (zP rfl T.m_PUSH) (nomark _)) (zD (yG (jZ PySem.F.plainAttrs_list PySem.F.slot_list_append PySem.F.type_list_append yJ (pv 4) (zA (zT zX (pv 1) zE (fun _ _ => rfl)) zC)))
   (zG (zM (zL (zA kQ (zA (zT zX (pv 1) zE (fun _ _ => rfl)) zC)))))) zN)
   (zD (zO (i := 5) jW.nd rfl (Or.inl rfl) (zT zX (pv 1) zE (fun _ _ => rfl)))
   (zD (zS (PW.pt (qX (zJ qZ (pv 5) zE (nomark _)) (qA (zJ op_ge (pv 5) (yD zY rfl T.n_len xY (zA (pv 4) zC)) (nomark _))))) (zG (zM (zL (yA (.str (.int .nil)))))) zN)
   (zD (zS (zJ yB (pv 0) (zP rfl T.m_PUT) (nomark _)) (zG (wA (zT zX (pv 1) zE (fun _ _ => rfl)) (pg_sub (pv 4) (pv 5) set_list))) zN)
   (zG (zM (zL (zA kQ (zA (zT zX (pv 4) (pv 5) (fun _ _ => rfl)) zC))))))))))))), ?_⟩
 try dsimp only [Cx.nox, Cx.exc, Cx.wish, zU]
 have ar : (arity k = 1 /\ k = 18) \/ (arity k = 2 /\ k ≠ 17 /\ k ≠ 18) \/ (arity k = 3 /\ k = 17) := by
  unfold arity
  by_cases h18 : k = 18
  ·subst h18; exact .inl ⟨rfl, rfl⟩
  ·by_cases h17 : k = 17
   ·subst h17; exact .inr (.inr ⟨rfl, rfl⟩)
   ·rw [if_neg (show ¬ k = 19 by (first|lia|omega)), if_neg h18, if_neg h17]; exact .inr (.inl ⟨rfl, h17, h18⟩)
 have a0 : atI (vals.map V.int) 0 = some (.int v0) := by
  rcases ar with ⟨e, _⟩ | ⟨e, _⟩ | ⟨e, _⟩ <;> rw [ev, e] <;> rfl
 have a1 : k ≠ 18 -> atI (vals.map V.int) 1 = some (.int v1) := fun n => by
  rcases ar with ⟨e, z⟩ | ⟨e, _⟩ | ⟨e, _⟩
  ·exact absurd z n
  ·rw [ev, e] <;> rfl
  ·rw [ev, e] <;> rfl
 have a2 : k = 17 -> atI (vals.map V.int) 2 = some (.int v2) := fun n => by
  rcases ar with ⟨e, z⟩ | ⟨e, z, _⟩ | ⟨e, _⟩
  ·(first|lia|omega)
  ·(first|lia|omega)
  ·rw [ev, e] <;> rfl
 refine ⟨_, rfl, vp, _, _, _, rfl, rfl, SqL.of hv, a0, ?_⟩
 refine ⟨_, rfl, _, _, rfl, rfl, _, rfl, ?_⟩
 have stay : ∀ (out : List V) (p : Addr), H p = none -> Deed H (upd H p (.tup out)) p rp rs rs (out, rows) := fun out p hp =>
  ⟨hp, zB, hR.same (zF hp _), KeepL.same (zF hp _), .inl rfl⟩
 have bad : v0 < 0 \/ v0 ≥ rows.length -> rowM k v0 v1 v2 rows = ([.str "row", .int 0], rows) := fun z => if_pos z
 have hrl : ((rs.map V.ref).length : Int) = rows.length := by rw [List.length_map, hR.len]
 refine ite2 (fun c => ?_) (fun c => ?_)
 ·exact ⟨small (show 2 <= 1000 by decide), fun t ht => q _ _ (by rw [bad (.inl (of_decide_eq_true c))]; exact stay _ _ ht)⟩
 refine ⟨_, rfl, _, rfl, rp, _, rfl, .inl (SqL.of hR.here), _, _, rfl, rfl, _, rfl, ?_⟩
 refine ite2 (fun c2 => ?_) (fun c2 => ?_)
 ·exact ⟨small (show 2 <= 1000 by decide), fun t ht => q _ _ (by rw [bad (.inr (by have := of_decide_eq_true c2; rw [hrl] at this; exact this))]; exact stay _ _ ht)⟩
 have n0 : 0 <= v0 := by have := df c; (first|lia|omega)
 have n1 : v0 < rows.length := by have := df c2; rw [hrl] at this; (first|lia|omega)
 have good : rowM k v0 v1 v2 rows = (if k = 18 then ([.non, .int (rows.getD v0.toNat []).length], rows)
  else if k = 15 then ([.non, .int v1], rows.set v0.toNat (rows.getD v0.toNat [] ++ [v1]))
  else if v1 < 0 \/ v1 ≥ (rows.getD v0.toNat []).length then ([.str "place", .int 0], rows)
  else if k = 17 then ([.non, .int v2], rows.set v0.toNat ((rows.getD v0.toNat []).set v1.toNat v2))
  else ([.non, .int ((rows.getD v0.toNat []).getD v1.toNat 0)], rows)) := if_neg (by (first|lia|omega))
 have hn : v0.toNat < rs.length := by rw [hR.len]; (first|lia|omega)
 have er : rs[v0.toNat]? = some rs[v0.toNat] := List.getElem?_eq_getElem hn
 generalize rs[v0.toNat] = r at er
 obtain ⟨xs, ex, hr1⟩ := hR.is er
 have gx : rows.getD v0.toNat [] = xs := by rw [List.getD_eq_getElem?_getD, ex] <;> rfl
 rw [gx] at good
 have hxs : xs.length < sizeLine := hlen xs (List.mem_iff_getElem?.mpr ⟨_, ex⟩)
 have hrm : r ∈ rs := List.mem_iff_getElem?.mpr ⟨_, er⟩
 have hvr : vp ≠ r := fun z => hout (by rw [z]; exact List.mem_cons_of_mem _ hrm)
 have hxl : ((xs.map V.int).length : Int) = xs.length := by rw [List.length_map]
 refine ⟨_, rfl, _, rfl, rp, _, _, _, rfl, rfl, SqL.of hR.here, qJ n0 (by rw [List.getElem?_map, er] <;> rfl), ?_⟩
 refine ⟨_, rfl, rfl, _, rfl, ?_⟩
 refine ite2 (fun c18 => ?_) (fun c18 => ?_)
 ·refine ⟨_, rfl, r, _, rfl, .inl (SqL.of hr1), small (show 2 <= 1000 by decide), fun t ht => q _ _ ?_⟩
  rw [good, if_pos (vt c18), hxl]
  exact stay _ _ ht
 have e18 := vf c18
 rw [if_neg e18] at good
 refine ⟨_, rfl, rfl, _, rfl, ?_⟩
 refine ite2 (fun c15 => ?_) (fun c15 => ?_)
 ·refine ⟨_, rfl, .inl ⟨rfl, _, SqL.of hr1⟩, _, rfl, vp, _, _, _, rfl, rfl, SqL.of hv, a1 e18, r, _, _, rfl, rfl, hr1, (by rw [List.length_map]; exact hxs), ?_⟩
  have e1 : xs.map V.int ++ [V.int v1] = (xs ++ [v1]).map V.int := by rw [List.map_append] <;> rfl
  have hR1 := hR.set er (xs ++ [v1])
  rw [<- e1] at hR1
  have hv1 : upd H r (.lst (xs.map V.int ++ [V.int v1])) vp = some (.lst (vals.map V.int)) := by rw [zK hvr]; exact hv
  refine ⟨_, rfl, vp, _, _, _, rfl, rfl, SqL.of hv1, a1 e18, small (show 2 <= 1000 by decide), fun t ht => q _ _ ?_⟩
  rw [good, if_pos (vt c15)]
  exact ⟨(yK ht).2, zB, hR1.same (zF ht _), (KeepL.upd (List.mem_cons_of_mem _ hrm)).trans (KeepL.same (zF ht _)), .inl rfl⟩
 have e15 := vf c15
 rw [if_neg e15] at good
 refine ⟨_, rfl, vp, _, _, _, rfl, rfl, SqL.of hv, a1 e18, ?_⟩
 refine ⟨_, rfl, _, _, rfl, rfl, _, rfl, ?_⟩
 refine ite2 (fun c => ?_) (fun c => ?_)
 ·refine ⟨small (show 2 <= 1000 by decide), fun t ht => q _ _ ?_⟩
  rw [good, if_pos (.inl (of_decide_eq_true c))]
  exact stay _ _ ht
 refine ⟨_, rfl, _, rfl, r, _, rfl, .inl (SqL.of hr1), _, _, rfl, rfl, _, rfl, ?_⟩
 refine ite2 (fun c2 => ?_) (fun c2 => ?_)
 ·refine ⟨small (show 2 <= 1000 by decide), fun t ht => q _ _ ?_⟩
  rw [good, if_pos (.inr (by have := of_decide_eq_true c2; rw [hxl] at this; exact this))]
  exact stay _ _ ht
 have p0 : 0 <= v1 := by have := df c; (first|lia|omega)
 have p1 : v1 < xs.length := by have := df c2; rw [hxl] at this; (first|lia|omega)
 rw [if_neg (by (first|lia|omega))] at good
 refine ⟨_, rfl, rfl, _, rfl, ?_⟩
 refine ite2 (fun c17 => ?_) (fun c17 => ?_)
 ·have ei : ixN (xs.map V.int).length v1 = some v1.toNat := by
   unfold ixN
   rw [if_pos p0, if_pos (by rw [hxl]; exact p1)]
  have e1 : (xs.map V.int).set v1.toNat (.int v2) = (xs.set v1.toNat v2).map V.int := by rw [List.map_set]
  have hR1 := hR.set er (xs.set v1.toNat v2)
  rw [<- e1] at hR1
  have hr2 : upd H r (.lst ((xs.map V.int).set v1.toNat (.int v2))) r = some (.lst ((xs.map V.int).set v1.toNat (.int v2))) := zB
  refine ⟨_, rfl, vp, _, _, _, rfl, rfl, SqL.of hv, a2 (vt c17), _, rfl, _, rfl, r, _, _, _, rfl, rfl, hr1, ei, ?_⟩
  refine ⟨_, rfl, _, rfl, r, _, _, _, rfl, rfl, SqL.of hr2, qJ p0 (List.getElem?_set_self (by rw [List.length_map]; (first|lia|omega))), small (show 2 <= 1000 by decide), fun t ht => q _ _ ?_⟩
  rw [good, if_pos (vt c17)]
  exact ⟨(yK ht).2, zB, hR1.same (zF ht _), (KeepL.upd (List.mem_cons_of_mem _ hrm)).trans (KeepL.same (zF ht _)), .inl rfl⟩
 ·have ev1 : xs[v1.toNat]? = some xs[v1.toNat] := List.getElem?_eq_getElem (by (first|lia|omega))
  have gd : xs.getD v1.toNat 0 = xs[v1.toNat] := by rw [List.getD_eq_getElem?_getD, ev1] <;> rfl
  refine ⟨_, rfl, _, rfl, r, _, _, _, rfl, rfl, SqL.of hr1, qJ p0 (by rw [List.getElem?_map, ev1] <;> rfl), small (show 2 <= 1000 by decide), fun t ht => q _ _ ?_⟩
  rw [good, if_neg (vf c17), gd]
  exact stay _ _ ht
theorem ok_worth (T : TxtD K mg) (F : Fun K "worth" "worth" wH f fd) (Cdone_to_row : Cal P w K mg base (CXE P w) 1 "done_to_row" ["kind", "values", "rows"] spRow) (Creckoned : Cal P w K mg base (CXE P w) 2 "reckoned" ["kind", "first", "second"] spReck) :
  FnOk P w K mg base (CXE P w) 3 f fd ["kind", "values", "rows"] spWorth := by
 refine F.okN sc_worth (fun vs H Q E h => ?_) (fun cdv A outer s H vs Q E hr h => ?_)
 ·obtain ⟨k, v0, v1, v2, vp, rp, vals, rs, rows, rfl, _⟩ := h
  rfl
 obtain ⟨k, v0, v1, v2, vp, rp, vals, rs, rows, rfl, hv, ev, hk0, hk1, hout, hR, hlen, hmany, hb, q⟩ := h
 refine ⟨_, (zD (zS (zJ yB (pv 0) (zP rfl T.m_NEW) (nomark _)) (zD (yG (jZ PySem.F.plainAttrs_list PySem.F.slot_list_append PySem.F.type_list_append yJ (pv 2) (zA (yC zC) zC)))
   (zG (zM (zL (zA kQ (zA (zQ xG (yD zY rfl T.n_len xY (zA (pv 2) zC)) zE) zC)))))) zN)
   (zD (zS (zJ op_ge (pv 0) (zP rfl T.m_PUSH) (nomark _)) (zG (zM (zH Cdone_to_row hr rfl (zA (pv 0) (zA (pv 1) (zA (pv 2) zC))) passN))) zN)
   (zG (zM (zH Creckoned hr rfl (zA (pv 0) (zA (zT zX (pv 1) zE (fun _ _ => rfl)) (zA (zT zX (pv 1) zE (fun _ _ => rfl)) zC))) passN))))), ?_⟩
 try dsimp only [Cx.nox, Cx.exc, Cx.wish, zU]
 refine ⟨_, rfl, rfl, _, rfl, ?_⟩
 refine ite2 (fun c19 => ?_) (fun c19 => ?_)
 ·have e := vt c19
  subst e
  refine ⟨_, rfl, .inl ⟨rfl, _, SqL.of hR.here⟩, small (Nat.zero_le _), fun l hl => ?_⟩
  have hlp : rp ≠ l := fun z => by rw [<- z, hR.here] at hl; cases hl
  have h1 : upd H l (.lst []) rp = some (.lst (rs.map V.ref)) := by rw [zK hlp]; exact hR.here
  have e1 : (rs ++ [l]).map V.ref = rs.map V.ref ++ [V.ref l] := by rw [List.map_append] <;> rfl
  have hR1 := hR.push hl
  rw [e1] at hR1
  refine ⟨rp, rs.map V.ref, .ref l, rfl, rfl, h1, (by rw [List.length_map, hR.len]; exact hmany), ?_⟩
  refine ⟨_, rfl, rp, _, rfl, .inl (SqL.of zB), _, _, rfl, rfl, small (show 2 <= 1000 by decide), fun t ht => q t _ (rs ++ [l]) ?_⟩
  have en : V.int ((((rs.map V.ref ++ [V.ref l]).length : Nat) : Int) - 1) = V.int rows.length := by rw [List.length_append, List.length_map, hR.len, List.length_singleton]; congr 1; (first|lia|omega)
  show Deed H (upd _ t (HO.tup [V.non, V.int ((((rs.map V.ref ++ [V.ref l]).length : Nat) : Int) - 1)])) t rp rs (rs ++ [l]) (worthM 19 v0 v1 v2 rows)
  rw [en]
  have m19 : worthM 19 v0 v1 v2 rows = ([.non, .int rows.length], rows ++ [[]]) := rfl
  rw [m19]
  refine ⟨(yK (yK ht).2).2, zB, hR1.same (zF ht _), ?_, .inr ⟨l, hl, Ne.symm (yK (yK ht).2).1, rfl⟩⟩
  exact ((KeepL.same (zF hl _)).trans (KeepL.upd (List.mem_cons_self ..))).trans (KeepL.same (zF ht _))
 have e19 := vf c19
 refine ⟨_, rfl, _, _, rfl, rfl, _, rfl, ?_⟩
 refine ite2 (fun c15 => ?_) (fun c15 => ?_)
 ·have c15' := of_decide_eq_true c15
  refine ⟨_, rfl, _, rfl, _, rfl, k, v0, v1, v2, vp, rp, vals, rs, rows, rfl, hv, ev, c15', by (first|lia|omega), hout, hR, hlen, fun p H' d => q p H' rs ?_⟩
  have : worthM k v0 v1 v2 rows = rowM k v0 v1 v2 rows := by unfold worthM; rw [if_neg e19, if_pos c15']
  rw [this]
  exact d
 ·have c15' := df c15
  have ar : arity k = 2 := by
   unfold arity
   rw [if_neg e19, if_neg (show ¬ k = 18 by (first|lia|omega)), if_neg (show ¬ k = 17 by (first|lia|omega))]
  rw [ar] at ev
  have a0 : atI (vals.map V.int) 0 = some (.int v0) := by rw [ev] <;> rfl
  have a1 : atI (vals.map V.int) 1 = some (.int v1) := by rw [ev] <;> rfl
  obtain ⟨b0, b1⟩ := hb (by (first|lia|omega))
  refine ⟨_, rfl, _, rfl, vp, _, _, _, rfl, rfl, SqL.of hv, a0, _, rfl, vp, _, _, _, rfl, rfl, SqL.of hv, a1, k, v0, v1, rfl, b0, b1, fun p H' hp e => q p H' rs ?_⟩
  have : worthM k v0 v1 v2 rows = (reckV k v0 v1, rows) := by unfold worthM; rw [if_neg e19, if_neg c15']
  rw [this, e]
  exact ⟨hp, zB, hR.same (zF hp _), KeepL.same (zF hp _), .inl rfl⟩

end
section
variable {P : Program} {w : World} {K : PySem.W.Frag} {mg : Str -> Option Value} {base : Heap} {f : Addr} {fd : FuncData} {aP CL CN CW CF : Addr}
set_option maxHeartbeats 4000000

theorem iteN {c : Bool} {A B : Prop} (e : c = false) (h : B) : if c = true then A else B := by
 rw [e]; exact iteF h
theorem iteY {c : Bool} {A B : Prop} (e : c = true) (h : A) : if c = true then A else B := by
 rw [e]; exact iteT h
theorem ok_initF (T : TxtR K mg aP CL CN CW CF) (F : Fun K "__init__" "Fault.__init__" yQ f fd) : FnOk P w K mg base (CXE P w) 1 f fd ["self", "word", "number"] (spInitF CF) := by
 refine F.okN sc_Fault___init__ (fun vs H Q E h => ?_) (fun cdv A outer s H vs Q E hr h => ?_)
 ·obtain ⟨x, y, z, rfl, _⟩ := h
  rfl
 obtain ⟨x, y, z, rfl, hx, q⟩ := h
 refine ⟨_, (zD (ps_fldX (pv 0) (pv 1))
   (zG (ps_fldX (pv 0) (pv 2)))), ?_⟩
 try dsimp only [Cx.nox, Cx.exc, Cx.wish, zU]
 refine ⟨_, rfl, _, rfl, x, CF, none, rfl, hx, T.excF, T.fword, .inl ⟨rfl, fun d hd => ?_⟩⟩
 have nd : d ≠ x := fun e => by rw [e, hx] at hd; cases hd
 refine ⟨_, rfl, _, rfl, x, CF, some d, rfl, zB, T.excF, T.fnumber, .inr ⟨d, [("word", y)], rfl, by rw [zK nd]; exact zB, (show 1 < 1000 by decide), ?_⟩⟩
 refine q d _ nd hd (fun b o nb e => ?_) ?_ zB
 ·rw [zK (zI e hd), zK nb, zK (zI e hd)]; exact e
 ·rw [zK (Ne.symm nd)]; exact zB
theorem ok_breW (T : TxtR K mg aP CL CN CW CF) (F : Fun K "breathe" "Work.breathe" xA f fd) (CFault : CalX P w K mg base 1 "Fault" CF ["self", "word", "number"] (spInitF CF)) : FnOk P w K mg base (CXE P w) 3 f fd ["self"] (spBreW CW CF) := by
 refine F.okX sc_Work_breathe (fun vs H Q E h => ?_) (fun cdv A outer s H vs Q E hr h => ?_)
 ·obtain ⟨A, br, dn, rfl, _⟩ := h
  rfl
 obtain ⟨A, br, dn, rfl, hm, t2, t1⟩ := h
 refine ⟨_, (zD (zS (zJ op_le (xQ (pv 0) rfl) zE (nomark _)) (zG (xB CFault hr rfl (yA (.str (.int .nil))))) zN)
   (zG (kU (pv 0) zE in_sub))), ?_⟩
 try dsimp only [Cx.nox, Cx.exc, Cx.wish, zU]
 refine ⟨_, rfl, A.wk, CW, A.dw, _, _, rfl, hm, T.work, T.wbreaths, rfl, _, _, rfl, rfl, _, rfl, ite2 (fun c => ?_) (fun c => ?_)⟩
 ·have c' := of_decide_eq_true c
  exact ⟨small (show 2 <= 1000 by decide), raisedF (t2 c')⟩
 ·have c' := df c
  refine ⟨_, rfl, A.wk, CW, A.dw, _, _, rfl, hm, T.work, T.wbreaths, rfl, _, _, rfl, rfl, A.dw, _, hm, (show 4 < 1000 by decide), ?_⟩
  exact t1 (by (first|lia|omega))
theorem ok_pickW (T : TxtR K mg aP CL CN CW CF) (F : Fun K "picked" "picked" qL f fd) : FnOk P w K mg base (CXE P w) 1 f fd ["value", "parts"] spPickW := by
 refine F.okN sc_picked (fun vs H Q E h => ?_) (fun cdv A outer s H vs Q E hr h => ?_)
 ·obtain ⟨v, pt, x, xs, y, rfl, _⟩ := h
  rfl
 obtain ⟨v, pt, x, xs, y, rfl, ep, l0, l100, ey, q⟩ := h
 refine ⟨_, (zD (zO (i := 2) sc_picked.nd rfl (Or.inl rfl) (zQ xG (yD zY rfl T.n_len xY (zA (pv 1) zC)) zE))
   (zD (zS (PW.pt (qX (zJ qZ (pv 0) zE (nomark _)) (qA (zJ op_ge (pv 0) (pv 2) (nomark _))))) (zG (zM (zT yH (pv 1) (pv 2) (fun _ _ => rfl)))) zN)
   (zG (zM (zT yH (pv 1) (zQ yY zE (pv 0)) (fun _ _ => rfl)))))), ?_⟩
 try dsimp only [Cx.nox, Cx.exc, Cx.wish, zU]
 refine ⟨_, rfl, pt, _, rfl, .inr (SqT.of ep), _, _, rfl, rfl, ?_⟩
 have out : v < 0 \/ v ≥ (xs.length : Int) -> Q y H -> atI (x :: xs) (((x :: xs).length : Int) - 1) = some y := fun c _ => by
  have e1 : pickI v xs.length = xs.length - 1 := if_pos c
  rw [e1] at ey
  refine qJ (by rw [List.length_cons]; (first|lia|omega)) ?_
  rw [show (((x :: xs).length : Int) - 1).toNat = (xs.length - 1) + 1 by rw [List.length_cons]; (first|lia|omega), List.getElem?_cons_succ]
  exact ey
 refine ⟨_, rfl, _, _, rfl, rfl, _, rfl, ite2 (fun c => iteT ?_) (fun c => ⟨_, rfl, _, rfl, _, _, rfl, rfl, _, rfl, ite2 (fun c2 => ?_) (fun c2 => ?_)⟩)⟩
 ·have c' := of_decide_eq_true c
  exact ⟨_, rfl, _, rfl, pt, _, _, _, rfl, rfl, SqT.of ep, out (.inl c') q, q⟩
 ·have c' := of_decide_eq_true c2
  rw [List.length_cons] at c'
  exact ⟨_, rfl, _, rfl, pt, _, _, _, rfl, rfl, SqT.of ep, out (.inr (by (first|lia|omega))) q, q⟩
 ·have c' := df c
  have c2' := df c2
  rw [List.length_cons] at c2'
  have e1 : pickI v xs.length = v.toNat := if_neg (by (first|lia|omega))
  rw [e1] at ey
  refine ⟨_, rfl, _, rfl, _, _, rfl, rfl, pt, _, _, _, rfl, rfl, SqT.of ep, ?_, q⟩
  refine qJ (by (first|lia|omega)) ?_
  rw [show (1 + v).toNat = v.toNat + 1 by (first|lia|omega), List.getElem?_cons_succ]
  exact ey
theorem rep_flat (vals : List Int) (n : Nat) : vals.map V.int ++ (List.replicate n [V.int 0]).flatten = (vals ++ List.replicate n (0 : Int)).map V.int := by
 rw [List.map_append, List.map_replicate]
 congr 1
 induction n with
 | zero => rfl
 | succ n ih => rw [List.replicate_succ, List.replicate_succ, List.flatten_cons, ih] <;> rfl
theorem ok_callW {G : List Fn} {D M N g : Nat} (pk : PrG G D M N g) (T : TxtR K mg aP CL CN CW CF) (F : Fun K "do_call" "do_call" jD f fd) (CFault : CalX P w K mg base 1 "Fault" CF ["self", "word", "number"] (spInitF CF)) (Mbreathe : CalM P w K mg base (CXE P w) 3 CW "breathe" ["self"] (spBreW CW CF)) (c : Nat) (c16 : c + 1 <= 16) (Cdo_node : Cal P w K mg base (CXE P w) (lvN D c D) "do_node" ["work", "node", "boxes"] (spNodeW CW CF G D M N g c D)) : FnOk P w K mg base (CXE P w) (lvC D (c + 1)) f fd ["work", "function", "values"] (spCallW CW CF G D M N g (c + 1)) := by
 have hl : lvC D (c + 1) = (lvN D c D + 1) + 0 := by
  unfold lvC lvN
  rw [Nat.succ_mul]
  (first|lia|omega)
 rw [hl]
 have hn : 6 <= lvN D c D := by unfold lvN; (first|lia|omega)
 refine F.okX yX (fun vs H Q E h => ?_) (fun cdv Ar outer s0 H vs Q E hr h => ?_)
 ·obtain ⟨A, bxa, rs, s, fn, vl, vals, rfl, _⟩ := h
  rfl
 obtain ⟨A, bxa, rs, s, fn, vl, vals, rfl, ev, evl, f0, f1, lv, vv, ok, lN, ends⟩ := h
 refine ⟨_, (zD (zS (zJ yB (xQ (pv 0) rfl) (zP rfl T.m_MOST_DONE_AT_ONCE) (nomark _)) (zG (xB CFault hr rfl (yA (.str (.int .nil))))) zN)
   (zD (yG (kW (pv 0) Mbreathe hr passX))
   (zD (wA (zT zX (xQ (pv 0) rfl) (pv 1) (fun _ _ => rfl)) (qH rfl (zW (zR (i := 3) yX.nd rfl (Or.inl rfl)) (zW (zR (i := 4) yX.nd rfl (Or.inl rfl)) (zW (zR (i := 5) yX.nd rfl (Or.inl rfl)) kJ)))))
   (zD (kU (pv 0) zE in_add)
   (zD (zO (i := 6) yX.nd rfl (Or.inl rfl) (zH Cdo_node hr rfl (zA (pv 0) (zA (pv 5) (zA (zQ wT (pv 2) (zQ op_rep (yC (zA zE zC)) (zQ xG (pv 4) (pv 3)))) zC))) passX))
   (zD (kU (pv 0) zE in_sub)
   (zG (zM (pv 6))))))))), ?_⟩
 try dsimp only [Cx.nox, Cx.exc, Cx.wish, zU]
 obtain ⟨dn, hdn⟩ : ∃ dn, dn = 16 - (c + 1) := ⟨_, rfl⟩
 rw [<- hdn] at ev ends
 have hdn2 : 16 - c = dn + 1 := by (first|lia|omega)
 refine ⟨_, rfl, A.wk, CW, A.dw, _, _, rfl, ev.wk, T.work, T.wdone, rfl, rfl, _, rfl, ite2 (fun cc => ?_) (fun cc => ?_)⟩
 ·have c' := vt cc
  (first|lia|omega)
 refine ⟨_, rfl, A.wk, A.dw, _, rfl, ev.wk, rfl, A, s.br, dn, rfl, ev.wk, fun hb => ?_, fun hb => ?_⟩
 ·unfold evC breE at ends
  rw [if_pos hb] at ends
  exact ends.fault ev rfl
 unfold evC breE at ends
 rw [if_neg (by (first|lia|omega))] at ends
 have ef : G[fn.toNat]? = some (G[fn.toNat]'(by (first|lia|omega))) := List.getElem?_eq_getElem (by (first|lia|omega))
 generalize G[fn.toNat]'(by (first|lia|omega)) = fnn at ef
 obtain ⟨⟨p, b⟩, tr⟩ := fnn
 rw [ef] at ends
 dsimp only at ends
 obtain ⟨p0, pb, b12, fit, sz⟩ := pk.ok.fit _ _ _ _ ef
 rw [List.getD_eq_getElem?_getD, List.getElem?_map, ef] at lv
 have lv' : vals.length = p.toNat := lv
 obtain ⟨ev1, m1⟩ := ev.putW (s.br - 1) dn
 obtain ⟨pv, epv, ppv⟩ := id ev1.prog
 have lpv := Paired.len ppv
 have hfn : fn.toNat < pv.length := by (first|lia|omega)
 obtain ⟨fnx, hfx, th, body, eth, hth, trb⟩ := Paired.yonder ppv (List.getElem?_eq_getElem hfn)
 rw [ef] at hfx
 cases hfx
 have atf : atI pv fn = some (.ref th) := qJ f0 (by rw [List.getElem?_eq_getElem hfn, eth])
 refine ⟨_, rfl, A.wk, CW, A.dw, _, _, rfl, zB, T.work, T.wprogram, rfl, _, rfl, A.pr, _, _, _, rfl, rfl, SqL.of epv, atf, th, _, rfl, SqT.of hth, rfl, _, _, rfl, _, _, rfl, _, _, rfl, rfl, ?_⟩
 refine ⟨_, rfl, A.wk, CW, A.dw, _, _, rfl, zB, T.work, T.wdone, rfl, _, _, rfl, rfl, A.dw, _, zB, (show 4 < 1000 by decide), ?_⟩
 obtain ⟨ev2, m2⟩ := ev1.putW (s.br - 1) (dn + 1)
 have m12 := m1.trans m2
 have evl2 : upd (upd H A.wk (WkO CW A (s.br - 1) dn)) A.wk (WkO CW A (s.br - 1) (dn + 1)) vl = some (.lst (vals.map V.int)) := by
  rw [zK (Ne.symm (ev.wkne evl)), zK (Ne.symm (ev.wkne evl))]
  exact evl
 refine ⟨_, rfl, _, rfl, _, rfl, small (show 1 <= 1000 by decide), fun z a1 => ?_⟩
 have g1 := zF a1 (.lst [.int 0])
 refine ⟨_, rfl, _, rfl, _, _, rfl, rfl, z, _, _, rfl, rfl, zB, by show -(2 ^ 63) <= b - p; (first|lia|omega), by show b - p < 2 ^ 63; (first|lia|omega), small (show 1 * (b - p).toNat <= 1000 by (first|lia|omega)), fun y a2 => ?_⟩
 have g2 := zF a2 (.lst (List.replicate (b - p).toNat [V.int 0]).flatten)
 have lfl : (List.replicate (b - p).toNat [V.int 0]).flatten.length <= 12 := by rw [len_rep]; show _ * 1 <= 12; (first|lia|omega)
 refine ⟨vl, y, _, _, rfl, rfl, (g1.trans g2) _ _ evl2, zB, small (show (vals.map V.int).length + (List.replicate (b - p).toNat [V.int 0]).flatten.length <= 1000 by rw [List.length_map]; (first|lia|omega)), fun bx2 a3 => ?_⟩
 have g3 := zF a3 (.lst (vals.map V.int ++ (List.replicate (b - p).toNat [V.int 0]).flatten))
 have gg := g1.trans (g2.trans g3)
 have hb2 := (g1.trans g2).free a3
 have hbH := m12.live _ hb2
 have ev3 := ev2.enter (zs := vals ++ List.replicate (b - p).toNat 0) gg hb2 (by rw [zB, rep_flat])
 have evb := ev2.more gg
 have nb : bxa ≠ bx2 := zI ev.box hbH
 have trb3 : TrAt _ D body tr := trb.tups fun q xs e => gg _ _ (ev1.tups m2 q xs e)
 have mo : ∀ {rs4 : List Addr} {H4 : Hp}, Mv A bx2 rs rs4 _ H4 -> Mv A bxa rs rs4 H H4 := fun m => Mv.other m (m12.trans (Mv.same gg)) hbH
 have m0 := mulbr1 (M := M) (x := s.br) hb
 refine ⟨A, bx2, rs, ⟨s.rows, s.br - 1, vals ++ List.replicate (b - p).toNat 0, s.ct⟩, body, tr, b, rfl, by rw [hdn2]; exact ev3, trb3, fit, sz, ⟨by show 0 <= s.br - 1; (first|lia|omega), ok.rw, fun v hm => ?_⟩, by show ((vals ++ List.replicate (b - p).toNat 0).length : Int) = b; rw [List.length_append, List.length_replicate]; (first|lia|omega), by show s.ct + M * (s.br - 1).toNat + szT tr <= N; (first|lia|omega), ?_⟩
 ·rcases List.mem_append.mp hm with q | q
  ·exact vv v q
  ·rw [(List.mem_replicate.mp q).2]; exact Vb.small (by decide)
 rw [hdn2]
 generalize evN (evC G D c) D tr ⟨s.rows, s.br - 1, vals ++ List.replicate (b - p).toNat 0, s.ct⟩ = rr at ends ⊢
 cases rr with
 | bad w n rows ct => exact fun d H4 rs4 br' dn' m4 r4 w4 e4 => ends d H4 rs4 br' dn' (mo m4) r4 w4 e4
 | val v s' =>
  intro H4 rs4 m4 e4
  obtain ⟨e5, m5⟩ := (evb.back m4 e4 nb).putW s'.br dn
  refine ⟨_, rfl, A.wk, CW, A.dw, _, _, rfl, e4.wk, T.work, T.wdone, rfl, _, _, rfl, rfl, A.dw, _, e4.wk, (show 4 < 1000 by decide), _, rfl, ?_⟩
  have := ends _ rs4 ((mo m4).trans m5) e5
  unfold WkO at this
  rw [show ((dn : Nat) : Int) = ((dn + 1 : Nat) : Int) - 1 by (first|lia|omega)] at this
  exact this
theorem ok_callW0 {G : List Fn} {D M N g : Nat} (T : TxtR K mg aP CL CN CW CF) (F : Fun K "do_call" "do_call" jD f fd) (CFault : CalX P w K mg base 1 "Fault" CF ["self", "word", "number"] (spInitF CF)) (Mbreathe : CalM P w K mg base (CXE P w) 3 CW "breathe" ["self"] (spBreW CW CF)) {spx : Sp} (Cdo_node : Cal P w K mg base (CXE P w) 3 "do_node" ["work", "node", "boxes"] spx) : FnOk P w K mg base (CXE P w) (lvC D 0) f fd ["work", "function", "values"] (spCallW CW CF G D M N g 0) := by
 have hl : lvC D 0 = 3 + 1 := by unfold lvC; (first|lia|omega)
 rw [hl]
 refine F.okX yX (fun vs H Q E h => ?_) (fun cdv Ar outer s0 H vs Q E hr h => ?_)
 ·obtain ⟨A, bxa, rs, s, fn, vl, vals, rfl, _⟩ := h
  rfl
 obtain ⟨A, bxa, rs, s, fn, vl, vals, rfl, ev, evl, f0, f1, lv, vv, ok, lN, ends⟩ := h
 refine ⟨_, (zD (zS (zJ yB (xQ (pv 0) rfl) (zP rfl T.m_MOST_DONE_AT_ONCE) (nomark _)) (zG (xB CFault hr rfl (yA (.str (.int .nil))))) zN)
   (zD (yG (kW (pv 0) Mbreathe hr passX))
   (zD (wA (zT zX (xQ (pv 0) rfl) (pv 1) (fun _ _ => rfl)) (qH rfl (zW (zR (i := 3) yX.nd rfl (Or.inl rfl)) (zW (zR (i := 4) yX.nd rfl (Or.inl rfl)) (zW (zR (i := 5) yX.nd rfl (Or.inl rfl)) kJ)))))
   (zD (kU (pv 0) zE in_add)
   (zD (zO (i := 6) yX.nd rfl (Or.inl rfl) (zH Cdo_node hr rfl (zA (pv 0) (zA (pv 5) (zA (zQ wT (pv 2) (zQ op_rep (yC (zA zE zC)) (zQ xG (pv 4) (pv 3)))) zC))) passX))
   (zD (kU (pv 0) zE in_sub)
   (zG (zM (pv 6))))))))), ?_⟩
 try dsimp only [Cx.nox, Cx.exc, Cx.wish, zU]
 refine ⟨_, rfl, A.wk, CW, A.dw, _, _, rfl, ev.wk, T.work, T.wdone, rfl, rfl, _, rfl, ite2 (fun cc => ?_) (fun cc => ?_)⟩
 ·unfold evC at ends
  exact ⟨small (show 2 <= 1000 by decide), raisedF (ends.fault ev rfl)⟩
 ·exact absurd rfl (vf cc)
theorem ok_withW {G : List Fn} {D M N g : Nat} (pk : PrG G D M N g) (T : TxtR K mg aP CL CN CW CF) (F : Fun K "do_with" "do_with" jP f fd) (CFault : CalX P w K mg base 1 "Fault" CF ["self", "word", "number"] (spInitF CF)) (c : Nat) (Cdo_call : Cal P w K mg base (CXE P w) (lvC D c) "do_call" ["work", "function", "values"] (spCallW CW CF G D M N g c)) (Cworth : Cal P w K mg base (CXE P w) 3 "worth" ["kind", "values", "rows"] spWorth) : FnOk P w K mg base (CXE P w) (lvW D c) f fd ["work", "kind", "numbers", "values", "boxes"] (spWithW CW CF G D M N g c) := by
 have hl : lvW D c = lvC D c + 1 := by unfold lvC lvW; (first|lia|omega)
 rw [hl]
 have hn : 4 <= lvC D c := by unfold lvC; (first|lia|omega)
 refine F.okX wP (fun vs H Q E h => ?_) (fun cdv Ar outer s0 H vs Q E hr h => ?_)
 ·obtain ⟨A, bxa, rs, s, k, b, ow, vl, own, vals, rfl, _⟩ := h
  rfl
 obtain ⟨A, bxa, rs, s, k, b, ow, vl, own, vals, rfl, ev, eow, evl, nvl, nvb, k0, k19, fit, k2, lv, vv, ok, hbx, lN, ends⟩ := h
 refine ⟨_, (zD (zS (zJ yB (pv 1) (zP rfl T.m_SET) (nomark _)) (zD (wA (zT zX (pv 3) zE (fun _ _ => rfl)) (pg_sub (pv 4) (zT yH (pv 2) zE (fun _ _ => rfl)) set_list))
   (zG (zM (zT zX (pv 3) zE (fun _ _ => rfl))))) zN)
   (zD (zS (zJ yB (pv 1) (zP rfl T.m_ALL) (nomark _)) (zG (zM (zT zX (pv 3) (pe_un un_neg zE) (fun _ _ => rfl)))) zN)
   (zD (zS (zJ yB (pv 1) (zP rfl T.m_CALL) (nomark _)) (zG (zM (zH Cdo_call hr rfl (zA (pv 0) (zA (zT yH (pv 2) zE (fun _ _ => rfl)) (zA (pv 3) zC))) passX))) zN)
   (zD (zS (zJ yB (pv 1) (zP rfl T.m_FAIL) (nomark _)) (zG (xB CFault hr rfl (zA zZ (zA (zT zX (pv 3) zE (fun _ _ => rfl)) zC)))) zN)
   (zD (wA (zH Cworth hr rfl (zA (pv 1) (zA (pv 3) (zA (xQ (pv 0) rfl) zC))) passX) (qH rfl (zW (zR (i := 5) wP.nd rfl (Or.inl rfl)) (zW (zR (i := 6) wP.nd rfl (Or.inl rfl)) kJ))))
   (zD (zS (zJ op_notN (pv 5) kQ (nomark _)) (zG (xB CFault hr rfl (zA (pv 5) (zA zE zC)))) zN)
   (zG (zM (pv 6))))))))), ?_⟩
 try dsimp only [Cx.nox, Cx.exc, Cx.wish, zU]
 have at0 : 0 < vals.length -> atI (vals.map V.int) 0 = some (.int (vals.getD 0 0)) := fun h => kA (j := 0) (by
  rw [List.getElem?_map, List.getD_eq_getElem?_getD, List.getElem?_eq_getElem h] <;> rfl)
 have hs := List.length_map (f := Prod.fst) (as := G)
 refine ⟨_, rfl, rfl, _, rfl, ite2 (fun c2 => ?_) (fun c2 => ?_)⟩
 ·have c2' := vt c2
  subst c2'
  obtain ⟨n, rfl, n0, n1⟩ : ∃ n, own = [n] /\ 0 <= n /\ n <= b - 1 := by
   unfold OwnFit at fit
   rcases fit with z | z | z | z | z | z
   ·(first|lia|omega)
   ·exact z.2
   ·(first|lia|omega)
   ·(first|lia|omega)
   ·(first|lia|omega)
   ·(first|lia|omega)
  have lv' : vals.length = 1 := lv
  have ixk : ixN (s.bx.map V.int).length n = some n.toNat := by
   unfold ixN
   rw [List.length_map, if_pos (by (first|lia|omega)), if_pos (by (first|lia|omega))]
  obtain ⟨e1, m1⟩ := ev.putB (s.bx.set n.toNat (vals.getD 0 0))
  have ends' := ends _ rs m1 e1
  rw [List.map_set] at ends'
  refine ⟨_, rfl, vl, _, _, _, rfl, rfl, SqL.of evl, at0 (by (first|lia|omega)), _, rfl, _, rfl, ow, _, _, _, rfl, rfl, SqT.of eow, rfl, bxa, _, _, _, rfl, rfl, ev.box, ixk, ?_⟩
  exact ⟨_, rfl, vl, _, _, _, rfl, rfl, SqL.of (by rw [zK nvb]; exact evl), at0 (by (first|lia|omega)), ends'⟩
 have c2' := vf c2
 unfold withE at ends
 rw [if_neg c2'] at ends
 refine ⟨_, rfl, rfl, _, rfl, ite2 (fun c3 => ?_) (fun c3 => ?_)⟩
 ·have c3' := vt c3
  subst c3'
  rw [if_pos rfl] at ends
  obtain ⟨n, rfl, n0, n1⟩ : ∃ n, own = [n] /\ 1 <= n /\ n <= 12 := by
   unfold OwnFit at fit
   rcases fit with z | z | z | z | z | z
   ·(first|lia|omega)
   ·(first|lia|omega)
   ·exact z.2
   ·(first|lia|omega)
   ·(first|lia|omega)
   ·(first|lia|omega)
  have lv' : vals.length = n.toNat := lv
  obtain ⟨ys, y, rfl⟩ : ∃ ys y, vals = ys ++ [y] := ⟨vals.dropLast, vals.getLast (fun e => by rw [e] at lv'; rw [List.length_nil] at lv'; (first|lia|omega)), (List.dropLast_concat_getLast _).symm⟩
  refine ⟨_, rfl, _, rfl, vl, _, _, _, rfl, rfl, SqL.of evl, by rw [List.map_append]; exact atI_last _ _, ?_⟩
  have := ends H rs Mv.refl ev
  rw [List.getD_eq_getElem?_getD, List.length_append, List.length_singleton, Nat.add_sub_cancel, List.getElem?_concat_length] at this
  exact this
 have c3' := vf c3
 rw [if_neg c3'] at ends
 refine ⟨_, rfl, rfl, _, rfl, ite2 (fun c6 => ?_) (fun c6 => ?_)⟩
 ·have c6' := vt c6
  subst c6'
  rw [if_pos rfl] at ends
  obtain ⟨n, rfl, n0, n1⟩ : ∃ n, own = [n] /\ 0 <= n /\ n <= ((G.map Prod.fst).length : Int) - 1 := by
   unfold OwnFit at fit
   rcases fit with z | z | z | z | z | z
   ·(first|lia|omega)
   ·(first|lia|omega)
   ·(first|lia|omega)
   ·(first|lia|omega)
   ·exact z.2
   ·(first|lia|omega)
  exact ⟨_, rfl, _, rfl, ow, _, _, _, rfl, rfl, SqT.of eow, rfl, _, rfl, A, bxa, rs, s, n, vl, vals, rfl, ev, evl, n0, by (first|lia|omega), lv, vv, ok, by (first|lia|omega), ends⟩
 have c6' := vf c6
 rw [if_neg c6'] at ends
 have ow0 : own = [] := by
  unfold OwnFit at fit
  rcases fit with z | z | z | z | z | z
  ·(first|lia|omega)
  ·(first|lia|omega)
  ·(first|lia|omega)
  ·(first|lia|omega)
  ·(first|lia|omega)
  ·exact z.2
 subst ow0
 refine ⟨_, rfl, rfl, _, rfl, ite2 (fun c7 => ?_) (fun c7 => ?_)⟩
 ·have c7' := vt c7
  subst c7'
  rw [if_pos rfl] at ends
  have lv' : vals.length = 1 := lv
  refine ⟨_, rfl, vl, _, _, _, rfl, rfl, SqL.of evl, at0 (by (first|lia|omega)), small (show 2 <= 1000 by decide), raisedF (ends.fault ev rfl)⟩
 have c7' := vf c7
 rw [if_neg c7'] at ends
 have k8 : 8 <= k := by (first|lia|omega)
 have la : vals.length = arity k := by
  rw [lv]
  obtain rfl | rfl | rfl | rfl | rfl | rfl | rfl | rfl | rfl | rfl | rfl | rfl : k = 8 \/ k = 9 \/ k = 10 \/ k = 11 \/ k = 12 \/ k = 13 \/ k = 14 \/ k = 15 \/ k = 16 \/ k = 17 \/ k = 18 \/ k = 19 := by (first|lia|omega)
  all_goals rfl
 obtain ⟨r2, rl, rx⟩ := ok.rw
 have big := pk.big
 have sl : (60000 : Nat) < sizeLine := by decide
 refine ⟨_, rfl, _, rfl, _, rfl, A.wk, CW, A.dw, _, _, rfl, ev.wk, T.work, T.wrows, rfl, k, vals.getD 0 0, vals.getD 1 0, vals.getD 2 0, vl, A.rw, vals, rs, s.rows, rfl, evl, three_of la (arity_le k), k8, k19, nvl, ev.rows, fun xs hx => by have := (rx xs hx).1; (first|lia|omega), by (first|lia|omega), fun _ => ⟨kH vv 0, kH vv 1⟩, fun p H1 rs1 Dd => ?_⟩
 obtain ⟨e1, m1⟩ := ev.deed (c := s.ct + 1) Dd
 have tw := wO k (vals.getD 0 0) (vals.getD 1 0) (vals.getD 2 0) s.rows
 have told := Dd.told
 unfold deedE at ends
 obtain ⟨o, ho⟩ : ∃ o, o = worthM k (vals.getD 0 0) (vals.getD 1 0) (vals.getD 2 0) s.rows := ⟨_, rfl⟩
 rw [<- ho] at tw told ends e1
 obtain ⟨o1, o2⟩ := o
 rcases tw with ⟨i, e⟩ | ⟨z, e⟩
 ·cases e
  refine ⟨p, _, rfl, SqT.of told, rfl, _, _, rfl, _, _, rfl, rfl, ?_⟩
  exact ⟨_, rfl, rfl, _, rfl, iteNS rfl ⟨_, rfl, ends _ _ m1 e1⟩⟩
 ·cases e
  have ends' : EndsE CW CF G D (16 - c) A bxa H rs Q E (.bad z 0 o2 (s.ct + 1, s.br)) := ends
  refine ⟨p, _, rfl, SqT.of told, rfl, _, _, rfl, _, _, rfl, rfl, ?_⟩
  refine ⟨_, rfl, rfl, _, rfl, iteY (by rw [decide_eq_false (by intro h; cases h)]; rfl) ?_⟩
  exact ⟨_, rfl, small (show 2 <= 1000 by decide), raisedF ((EndsE.mv ends' m1).fault e1 rfl)⟩

end
section
variable {P : Program} {w : World} {K : PySem.W.Frag} {mg : Str -> Option Value} {base : Heap} {f : Addr} {fd : FuncData} {aP CL CN CW CF : Addr}
set_option maxHeartbeats 4000000

theorem len_sz : ∀ ps : List Tr, ps.length <= szTs ps
 | [] => Nat.le_refl _
 | .mk k own qs :: r => by
  have := len_sz r
  show r.length + 1 <= (1 + szTs qs) + szTs r
  (first|lia|omega)
theorem ok_nodeW {G : List Fn} {D M N g : Nat} (pk : PrG G D M N g) (T : TxtR K mg aP CL CN CW CF) (F : Fun K "do_node" "do_node" jQ f fd) (Mbreathe : CalM P w K mg base (CXE P w) 3 CW "breathe" ["self"] (spBreW CW CF)) (Cpicked : Cal P w K mg base (CXE P w) 1 "picked" ["value", "parts"] spPickW) (c n : Nat) (Cdo_with : Cal P w K mg base (CXE P w) (lvW D c) "do_with" ["work", "kind", "numbers", "values", "boxes"] (spWithW CW CF G D M N g c)) (Cdo_node : Cal P w K mg base (CXE P w) (lvN D c n) "do_node" ["work", "node", "boxes"] (spNodeW CW CF G D M N g c n)) : FnOk P w K mg base (CXE P w) (lvN D c (n + 1)) f fd ["work", "node", "boxes"] (spNodeW CW CF G D M N g c (n + 1)) := by
 have hl : lvN D c (n + 1) = lvN D c n + 1 := by unfold lvN; (first|lia|omega)
 rw [hl]
 have hw : lvW D c <= lvN D c n := by unfold lvN lvW; (first|lia|omega)
 have hn : 6 <= lvN D c n := by unfold lvN; (first|lia|omega)
 refine F.okX jM (fun vs H Q E h => ?_) (fun cdv Ar outer s0 H vs Q E hr h => ?_)
 ·obtain ⟨A, bxa, rs, s, v, t, b, rfl, _⟩ := h
  rfl
 obtain ⟨A, bxa, rs, s, v, ⟨k, own, ps⟩, b, rfl, ev, ⟨tn, pl, ow, pt, pvs, rfl, etn, eow, ept, pp⟩, fit, sz, ok, hbx, lN, ends⟩ := h
 unfold FitT at fit
 obtain ⟨k0, k19, of, lp, vo, fp⟩ := fit
 have esz : szT (.mk k own ps) = 1 + szTs ps := rfl
 refine ⟨_, (zD (wA (pv 1) (qH rfl (zW (zR (i := 3) jM.nd rfl (Or.inl rfl)) (zW (zR (i := 4) jM.nd rfl (Or.inl rfl)) (zW (zR (i := 5) jM.nd rfl (Or.inl rfl)) (zW (zR (i := 6) jM.nd rfl (Or.inl rfl)) kJ))))))
   (zD (zS (zJ yB (pv 3) (zP rfl T.m_NUMBER) (nomark _)) (zG (zM (zT yH (pv 5) zE (fun _ _ => rfl)))) zN)
   (zD (zS (zJ yB (pv 3) (zP rfl T.m_GET) (nomark _)) (zG (zM (zT zX (pv 2) (zT yH (pv 5) zE (fun _ _ => rfl)) (fun _ _ => rfl)))) zN)
   (zD (zS (zJ yB (pv 3) (zP rfl T.m_PICK) (nomark _)) (zG (zM (zH Cdo_node hr rfl (zA (pv 0) (zA (zH Cpicked hr rfl (zA (zH Cdo_node hr rfl (zA (pv 0) (zA (zT yH (pv 6) zE (fun _ _ => rfl)) (zA (pv 2) zC))) passX) (zA (pv 6) zC)) passX) (zA (pv 2) zC))) passX))) zN)
   (zD (zS (zJ yB (pv 3) (zP rfl T.m_LOOP) (nomark _)) (zD (yG (kW (pv 0) Mbreathe hr passX))
   (zD (ps_while (qB rfl rfl) (zJ op_ne (zH Cdo_node hr rfl (zA (pv 0) (zA (zT yH (pv 6) zE (fun _ _ => rfl)) (zA (pv 2) zC))) passX) zE (nomark _)) (zD (yG (zH Cdo_node hr rfl (zA (pv 0) (zA (zT yH (pv 6) zE (fun _ _ => rfl)) (zA (pv 2) zC))) passX))
   (zG (yG (kW (pv 0) Mbreathe hr passX)))))
   (zG (zM zE)))) zN)
   (zD (zO (i := 7) jM.nd rfl (Or.inl rfl) (yC zC))
   (zD (xX (qB rfl rfl) rfl (pi_tup (pv 6)) (zR (i := 8) jM.nd rfl (Or.inl rfl)) (zG (yG (jZ PySem.F.plainAttrs_list PySem.F.slot_list_append PySem.F.type_list_append yJ (pv 7) (zA (zH Cdo_node hr rfl (zA (pv 0) (zA (pv 8) (zA (pv 2) zC))) passX) zC)))))
   (zG (zM (zH Cdo_with hr rfl (zA (pv 0) (zA (pv 3) (zA (pv 5) (zA (pv 7) (zA (pv 2) zC))))) passX)))))))))), ?_⟩
 try dsimp only [Cx.nox, Cx.exc, Cx.wish, zU]
 refine ⟨_, rfl, tn, _, rfl, SqT.of etn, rfl, _, _, rfl, _, _, rfl, _, _, rfl, _, _, rfl, rfl, ?_⟩
 have big := pk.big
 have C := evC_ok (g := g) (N := N) pk.ok big c
 have node : ∀ (t : Tr) (s : ES), FitT (G.map Prod.fst) b n t -> szT t <= M -> EOk g s -> (s.bx.length : Int) = b -> s.ct + M * s.br.toNat + szT t <= N -> Res g M (s.ct + M * s.br.toNat + szT t) s.ct s.br s.bx.length (evN (evC G D c) n t s) := fun t s => wW C big n t s
 unfold evN at ends
 refine ⟨_, rfl, rfl, _, rfl, ite2 (fun c0 => ?_) (fun c0 => ?_)⟩
 ·have c0' := vt c0
  subst c0'
  rw [if_pos rfl] at ends
  obtain ⟨m, rfl⟩ : ∃ m, own = [m] := by
   unfold OwnFit at of
   rcases of with z | z | z | z | z | z
   ·exact z.2
   all_goals (first|lia|omega)
  exact ⟨_, rfl, ow, _, _, _, rfl, rfl, SqT.of eow, rfl, ends H rs Mv.refl ev⟩
 have c0' := vf c0
 rw [if_neg c0'] at ends
 refine ⟨_, rfl, rfl, _, rfl, ite2 (fun c1 => ?_) (fun c1 => ?_)⟩
 ·have c1' := vt c1
  subst c1'
  rw [if_pos rfl] at ends
  obtain ⟨m, rfl, m0, m1⟩ : ∃ m, own = [m] /\ 0 <= m /\ m <= b - 1 := by
   unfold OwnFit at of
   rcases of with z | z | z | z | z | z
   ·(first|lia|omega)
   ·exact z.2
   all_goals (first|lia|omega)
  have hm : m.toNat < s.bx.length := by (first|lia|omega)
  refine ⟨_, rfl, _, rfl, ow, _, _, _, rfl, rfl, SqT.of eow, rfl, bxa, _, _, _, rfl, rfl, SqL.of ev.box, qJ m0 (by rw [List.getElem?_map, List.getElem?_eq_getElem hm] <;> rfl), ?_⟩
  have := ends H rs Mv.refl ev
  rw [show ([m] : List Int).headD 0 = m from rfl, List.getD_eq_getElem?_getD, List.getElem?_eq_getElem hm] at this
  exact this
 have c1' := vf c1
 rw [if_neg c1'] at ends
 refine ⟨_, rfl, rfl, _, rfl, ite2 (fun c4 => ?_) (fun c4 => ?_)⟩
 ·have c4' := vt c4
  subst c4'
  rw [if_pos rfl] at ends
  obtain ⟨m, rfl, m2, m12⟩ : ∃ m, own = [m] /\ 2 <= m /\ m <= 12 := by
   unfold OwnFit at of
   rcases of with z | z | z | z | z | z
   ·(first|lia|omega)
   ·(first|lia|omega)
   ·(first|lia|omega)
   ·exact z.2
   all_goals (first|lia|omega)
  have lp' : ps.length = (1 + m).toNat := lp
  cases pp with
  | nil => rw [List.length_nil] at lp'; (first|lia|omega)
  | @cons v0 p0 rv r tr0 pr =>
   rw [List.length_cons] at lp'
   unfold FitTs at fp
   have e2 : szTs (p0 :: r) = szT p0 + szTs r := rfl
   have lrv := Paired.len pr
   have res := node p0 s fp.1 (by (first|lia|omega)) ok hbx (by (first|lia|omega))
   refine ⟨_, rfl, _, rfl, _, rfl, pt, _, _, _, rfl, rfl, SqT.of ept, kA (j := 0) rfl, _, rfl, A, bxa, rs, s, v0, p0, b, rfl, ev, tr0, fp.1, by (first|lia|omega), ok, hbx, by (first|lia|omega), EndsE.seq ends fun v s1 H1 rs1 er m1 e1 ends1 => ?_⟩
   rw [er] at res
   obtain ⟨ok1, _, b1, ct1, l1, u1⟩ := res
   have hl := pick_lt (v := v) (n := r.length) (by (first|lia|omega))
   have hlv : pickI v rv.length < rv.length := by rw [lrv]; exact hl
   rw [List.getElem?_eq_getElem hl] at ends1
   dsimp only at ends1
   obtain ⟨ft, st⟩ := FitTs.get fp.2 (List.getElem?_eq_getElem hl)
   have tp := ev.tups m1
   have ey : rv[pickI v rv.length]? = some rv[pickI v rv.length] := List.getElem?_eq_getElem hlv
   obtain ⟨ty, hty, tyt⟩ := Paired.yonder pr ey
   rw [lrv, List.getElem?_eq_getElem hl] at hty
   injection hty with hty
   rw [<- hty] at tyt
   exact ⟨_, rfl, v, pt, v0, rv, _, rfl, tp _ _ ept, by (first|lia|omega), by (first|lia|omega), ey, _, rfl, A, bxa, rs1, s1, _, _, b, rfl, e1, tyt.tups tp, ft, by (first|lia|omega), ok1, by rw [l1]; exact hbx, by (first|lia|omega), ends1⟩
 have c4' := vf c4
 rw [if_neg c4'] at ends
 refine ⟨_, rfl, rfl, _, rfl, ite2 (fun c5 => ?_) (fun c5 => ?_)⟩
 ·have c5' := vt c5
  subst c5'
  rw [if_pos rfl] at ends
  have lp' : ps.length = 2 := lp
  cases pp with
  | nil => cases lp'
  | @cons v0 p0 rv r tr0 pr =>
  cases pr with
  | nil => cases lp'
  | @cons v1 p1 rv r tr1 pr =>
  cases pr with
  | cons _ _ => rw [List.length_cons, List.length_cons, List.length_cons] at lp'; (first|lia|omega)
  | nil =>
  unfold FitTs at fp
  have fp1 : FitT (G.map Prod.fst) b n p1 := by have := fp.2; unfold FitTs at this; exact this.1
  have e2 : szTs [p0, p1] = szT p0 + (szT p1 + 0) := rfl
  dsimp only at ends
  refine ⟨_, rfl, A.wk, A.dw, _, rfl, ev.wk, rfl, A, s.br, 16 - c, rfl, ev.wk, fun hb => ?_, fun hb => ?_⟩
  ·unfold breE at ends
   rw [if_pos hb] at ends
   exact ends.fault ev rfl
  unfold breE at ends
  rw [if_neg (by (first|lia|omega))] at ends
  obtain ⟨ev1, m1⟩ := ev.putW (s.br - 1) (16 - c)
  have mm := mulbr1 (M := M) (x := s.br) hb
  refine ⟨fun m σ' H' => ∃ (rs' : List Addr) (s' : ES), σ' = [some (.ref A.wk), some (.ref tn), some (.ref bxa), some (.int 5), some (.int pl), some (.ref ow), some (.ref pt), none, none] /\ Mv A bxa rs rs' H H' /\ EvAt CW G D (16 - c) A bxa H' rs' s' /\ EOk g s' /\ (s'.bx.length : Int) = b /\ s'.br.toNat < m /\ s'.ct + M * s'.br.toNat + szT p0 + szT p1 <= N /\ EndsE CW CF G D (16 - c) A bxa H rs Q E (loopE (evN (evC G D c) n p0) (evN (evC G D c) n p1) m s'),
   ⟨(s.br - 1).toNat + 1, rs, { s with br := s.br - 1 }, rfl, m1, ev1, ⟨by show 0 <= s.br - 1; (first|lia|omega), ok.rw, ok.bx⟩, hbx, Nat.lt_succ_self _, by show s.ct + M * (s.br - 1).toNat + szT p0 + szT p1 <= N; (first|lia|omega), ends⟩, ?_⟩
  rintro m σ' H' ⟨rs', s', rfl, mv, e', ok', hb', hm, ln', ends'⟩
  obtain ⟨m', rfl⟩ : ∃ m', m = m' + 1 := ⟨m - 1, by (first|lia|omega)⟩
  unfold loopE at ends'
  have tp := ev.tups mv
  have res := node p0 s' fp.1 (by (first|lia|omega)) ok' hb' (by (first|lia|omega))
  refine ⟨_, rfl, _, rfl, pt, _, _, _, rfl, rfl, SqT.of (tp _ _ ept), kA (j := 0) rfl, _, rfl, A, bxa, rs', s', v0, p0, b, rfl, e', tr0.tups tp, fp.1, by (first|lia|omega), ok', hb', by (first|lia|omega), EndsE.seq (EndsE.mv ends' mv) fun v s1 H1 rs1 er m1 e1 _ => ?_⟩
  rw [er] at res ends'
  obtain ⟨ok1, _, b1, ct1, l1, u1⟩ := res
  have hb1 : (s1.bx.length : Int) = b := by rw [l1]; exact hb'
  have mv1 := mv.trans m1
  have ends1 : EndsE CW CF G D (16 - c) A bxa H rs Q E (if v = 0 then .val 0 s1 else (evN (evC G D c) n p1 s1).bind fun _ s => breE s (loopE (evN (evC G D c) n p0) (evN (evC G D c) n p1) m')) := ends'
  refine ⟨rfl, _, rfl, ?_⟩
  by_cases z : v = 0
  ·refine iteN (by rw [z]; rfl) ?_
   rw [if_pos z] at ends1
   exact ends1 H1 rs1 mv1 e1
  refine iteY (by rw [decide_eq_false (fun h => z (by injection h))]; rfl) ?_
  rw [if_neg z] at ends1
  refine ⟨_, fun σ' H' w => ⟨m', Nat.lt_succ_self _, w⟩, ?_⟩
  have tp1 := ev.tups mv1
  have res := node p1 s1 fp1 (by (first|lia|omega)) ok1 hb1 (by (first|lia|omega))
  refine ⟨_, rfl, _, rfl, pt, _, _, _, rfl, rfl, SqT.of (tp1 _ _ ept), kA (j := 1) rfl, _, rfl, A, bxa, rs1, s1, v1, p1, b, rfl, e1, tr1.tups tp1, fp1, by (first|lia|omega), ok1, hb1, by (first|lia|omega), EndsE.seq (EndsE.mv ends1 mv1) fun v2 s2 H2 rs2 er2 m2 e2 _ => ?_⟩
  rw [er2] at res ends1
  obtain ⟨ok2, _, b2, ct2, l2, u2⟩ := res
  have mv2 := mv1.trans m2
  have ends2 : EndsE CW CF G D (16 - c) A bxa H rs Q E (breE s2 (loopE (evN (evC G D c) n p0) (evN (evC G D c) n p1) m')) := ends1
  refine ⟨_, rfl, A.wk, A.dw, _, rfl, e2.wk, rfl, A, s2.br, 16 - c, rfl, e2.wk, fun hb => ?_, fun hb => ?_⟩
  ·unfold breE at ends2
   rw [if_pos hb] at ends2
   exact (EndsE.mv ends2 mv2).fault e2 rfl
  unfold breE at ends2
  rw [if_neg (by (first|lia|omega))] at ends2
  obtain ⟨e3, m3⟩ := e2.putW (s2.br - 1) (16 - c)
  have mm2 := mulbr1 (M := M) (x := s2.br) hb
  have b0 := ok'.b0
  exact ⟨rs2, { s2 with br := s2.br - 1 }, rfl, mv2.trans m3, e3, ⟨by show 0 <= s2.br - 1; (first|lia|omega), ok2.rw, ok2.bx⟩, by show (s2.bx.length : Int) = b; rw [l2]; exact hb1, by show (s2.br - 1).toNat < m'; (first|lia|omega), by show s2.ct + M * (s2.br - 1).toNat + szT p0 + szT p1 <= N; (first|lia|omega), ends2⟩
 have c5' := vf c5
 rw [if_neg c5'] at ends
 refine ⟨small (show 0 <= 1000 by decide), fun vl hvl => ?_⟩
 have g0 := zF hvl (.lst [])
 have ev0 := ev.more g0
 obtain ⟨ppv, epr, _⟩ := ev.prog
 have nv1 : vl ≠ bxa := Ne.symm (zI ev.box hvl)
 have nv2 : vl ≠ A.rw := Ne.symm (zI ev.rows.here hvl)
 have nv3 : vl ∉ rs := fun z => by
  obtain ⟨xs, q⟩ := ev.rows.mem z
  rw [q] at hvl; cases hvl
 have nv4 : vl ≠ A.pr := Ne.symm (zI epr hvl)
 have lpv := Paired.len pp
 refine ⟨_, rfl, pt, rfl, ⟨_, SqT.of (g0 _ _ ept)⟩, for_tup (xs := pvs) (fun i σ' H' => ∃ (rs' : List Addr) (s' : ES) (vals : List Int) (v8 : Option V), σ' = [some (.ref A.wk), some (.ref tn), some (.ref bxa), some (.int k), some (.int pl), some (.ref ow), some (.ref pt), some (.ref vl), v8] /\ Mv A bxa rs rs' H H' /\ EvAt CW G D (16 - c) A bxa H' rs' s' /\ H' vl = some (.lst (vals.map V.int)) /\ vl ∉ rs' /\ vals.length = i /\ (∀ v ∈ vals, Vb v) /\ EOk g s' /\ (s'.bx.length : Int) = b /\ s'.ct + M * s'.br.toNat + szTs (ps.drop i) + 1 <= N /\ EndsE CW CF G D (16 - c) A bxa H rs Q E (partsE (evN (evC G D c) n) (withE (evC G D c) k own) (ps.drop i) vals s'))
  ⟨rs, s, [], none, rfl, Mv.same g0, ev0, zB, nv3, rfl, fun v hv => (nomatch hv), ok, hbx, by rw [List.drop_zero]; (first|lia|omega), by rw [List.drop_zero]; exact ends⟩ ?_ ?_ ?_⟩
 ·rintro i σ' H' _ ⟨rs', s', vals, v8, _, mv, _⟩
  exact SqT.of (ev.tups mv _ _ ept)
 ·rintro i x σ' H' hx ⟨rs', s', vals, v8, rfl, mv, e', evl, nv', lvs, vv, ok', hb', ln', ends'⟩
  have hi : i < pvs.length := (List.getElem?_eq_some_iff.mp hx).1
  obtain ⟨ti, hti, tri⟩ := Paired.yonder pp hx
  have ed : ps.drop i = ti :: ps.drop (i + 1) := by
   have hi' : i < ps.length := by (first|lia|omega)
   rw [List.drop_eq_getElem_cons hi']
   rw [List.getElem?_eq_getElem hi'] at hti
   injection hti with hti
   rw [hti]
  rw [ed] at ln' ends'
  have e2 : szTs (ti :: ps.drop (i + 1)) = szT ti + szTs (ps.drop (i + 1)) := rfl
  obtain ⟨fti, sti⟩ := FitTs.get fp hti
  unfold partsE at ends'
  have tp := ev.tups mv
  have res := node ti s' fti (by (first|lia|omega)) ok' hb' (by (first|lia|omega))
  refine ⟨_, rfl, .inl ⟨rfl, _, SqL.of evl⟩, _, rfl, _, rfl, _, rfl, A, bxa, rs', s', x, ti, b, rfl, e', tri.tups tp, fti, by (first|lia|omega), ok', hb', by (first|lia|omega), EndsE.seq (EndsE.mv ends' mv) fun v s1 H1 rs1 er m1 e1 _ => ?_⟩
  rw [er] at res ends'
  obtain ⟨ok1, v1, b1, ct1, l1, u1⟩ := res
  have evl1 := m1.lst e' evl nv1 nv2 nv'
  have nv1' := m1.notin evl nv'
  refine ⟨vl, _, _, rfl, rfl, evl1, by rw [List.length_map]; have := len_sz ps; have sl : (60000 : Nat) < sizeLine := (by decide); (first|lia|omega), ?_⟩
  refine ⟨rs1, s1, vals ++ [v], _, rfl, (mv.trans m1).putV hvl, e1.putV evl1 nv1 nv2 nv1' nv4, by rw [zB, List.map_append] <;> rfl, nv1', by rw [List.length_append, lvs] <;> rfl, fun y hy => ?_, ok1, by rw [l1]; exact hb', by (first|lia|omega), ends'⟩
  rcases List.mem_append.mp hy with z | z
  ·exact vv y z
  ·rw [List.mem_singleton.mp z]; exact v1
 ·rintro σ' H' ⟨rs', s', vals, v8, rfl, mv, e', evl, nv', lvs, vv, ok', hb', ln', ends'⟩
  rw [lpv, List.drop_length] at ln' ends'
  have e2 : szTs [] = 0 := rfl
  have tp := ev.tups mv
  refine ⟨_, rfl, _, rfl, _, rfl, _, rfl, _, rfl, A, bxa, rs', s', k, b, ow, vl, own, vals, rfl, e', tp _ _ eow, evl, fun z => ?_, nv1, k0, k19, of, ⟨c0', c1', c4', c5'⟩, by rw [lvs, lpv]; exact lp, vv, ok', hb', by (first|lia|omega), EndsE.mv ends' mv⟩
  rcases List.mem_cons.mp z with z | z
  ·exact nv2 z
  ·exact nv' z

end
section
variable {P : Program} {w : World} {K : PySem.W.Frag} {mg : Str -> Option Value} {base : Heap} {f : Addr} {fd : FuncData} {aP CL CN CW CF : Addr}
set_option maxHeartbeats 4000000

def noSp : Sp := fun _ _ _ _ => False
theorem ok_noSp {P : Program} {w : World} {K : PySem.W.Frag} {mg : Str -> Option Value} {base : Heap} {CX : CXT} {k : Nat} {f : Addr} {fd : FuncData} {ps : List Str} : FnOk P w K mg base CX k f fd ps noSp := ⟨fun _ _ _ _ h => h.elim, fun _ _ _ _ _ _ _ _ _ _ _ _ _ h => h.elim⟩
section
variable {fc fw fn : Addr} {fdc fdw fdn : FuncData}
theorem ok_runner {G : List Fn} {D M N g : Nat} (pk : PrG G D M N g) (T : TxtR K mg aP CL CN CW CF) (CFault : CalX P w K mg base 1 "Fault" CF ["self", "word", "number"] (spInitF CF)) (Mbreathe : CalM P w K mg base (CXE P w) 3 CW "breathe" ["self"] (spBreW CW CF)) (Cpicked : Cal P w K mg base (CXE P w) 1 "picked" ["value", "parts"] spPickW) (Cworth : Cal P w K mg base (CXE P w) 3 "worth" ["kind", "values", "rows"] spWorth)
  (Fc : Fun K "do_call" "do_call" jD fc fdc) (mc : mg "do_call" = some (.ref fc)) (kc : PySem.W.keepIn K (.ref fc) = true) (bc : Binds K fdc ["work", "function", "values"] [])
  (Fw : Fun K "do_with" "do_with" jP fw fdw) (mw : mg "do_with" = some (.ref fw)) (kw : PySem.W.keepIn K (.ref fw) = true) (bw : Binds K fdw ["work", "kind", "numbers", "values", "boxes"] [])
  (Fn : Fun K "do_node" "do_node" jQ fn fdn) (mn : mg "do_node" = some (.ref fn)) (kn : PySem.W.keepIn K (.ref fn) = true) (bn : Binds K fdn ["work", "node", "boxes"] []) :
  ∀ c, c <= 16 -> Cal P w K mg base (CXE P w) (lvC D c) "do_call" ["work", "function", "values"] (spCallW CW CF G D M N g c) /\ ∀ n, Cal P w K mg base (CXE P w) (lvN D c n) "do_node" ["work", "node", "boxes"] (spNodeW CW CF G D M N g c n) := by
 have step : ∀ c, c <= 16 -> FnOk P w K mg base (CXE P w) (lvC D c) fc fdc ["work", "function", "values"] (spCallW CW CF G D M N g c) -> Cal P w K mg base (CXE P w) (lvC D c) "do_call" ["work", "function", "values"] (spCallW CW CF G D M N g c) /\ ∀ n, Cal P w K mg base (CXE P w) (lvN D c n) "do_node" ["work", "node", "boxes"] (spNodeW CW CF G D M N g c n) := fun c hc h => by
  have C1 : Cal P w K mg base (CXE P w) (lvC D c) "do_call" ["work", "function", "values"] (spCallW CW CF G D M N g c) := ⟨⟨_, _, h, mc, kc, bc⟩⟩
  have C2 : Cal P w K mg base (CXE P w) (lvW D c) "do_with" ["work", "kind", "numbers", "values", "boxes"] (spWithW CW CF G D M N g c) := ⟨⟨_, _, ok_withW pk T Fw CFault c C1 Cworth, mw, kw, bw⟩⟩
  refine ⟨C1, fun n => ?_⟩
  induction n with
  | zero => exact ⟨⟨_, _, ⟨fun vs H Q E h => by obtain ⟨_, _, _, _, _, _, _, rfl, _⟩ := h; rfl, fun _ _ _ _ _ _ _ _ _ _ _ _ _ h => by obtain ⟨_, _, _, _, _, _, _, _, _, h, _⟩ := h; exact h.elim⟩, mn, kn, bn⟩⟩
  | succ n ih => exact ⟨⟨_, _, ok_nodeW pk T Fn Mbreathe Cpicked c n C2 ih, mn, kn, bn⟩⟩
 intro c
 induction c with
 | zero => exact fun h => step 0 h (ok_callW0 T Fc CFault Mbreathe (spx := noSp) ⟨⟨_, _, ok_noSp, mn, kn, bn⟩⟩)
 | succ c ih => exact fun h => step (c + 1) h (ok_callW pk T Fc CFault Mbreathe c h ((ih (by (first|lia|omega))).2 D))
end
def spInitW (CW : Addr) : Sp := fun vs H Q _ => ∃ (x dx pr gv : Addr) (br : Int) (gs : List Int), vs = [.ref x, .ref pr, .ref gv, .int br] /\ H x = some (.ins CW dx []) /\ H gv = some (.lst (gs.map V.int)) /\ gs.length <= 4000 /\
 ∀ (rw r0 r1 : Addr) H', H rw = none -> H r0 = none -> H r1 = none -> r0 ≠ r1 -> (∀ b o, b ≠ x -> H b = some o -> H' b = some o) -> (∀ b, H' b = none -> H b = none) -> H' x = some (WkO CW ⟨x, dx, pr, rw⟩ br 0) -> H' rw = some (.lst [.ref r0, .ref r1]) -> H' r0 = some (.lst (gs.map V.int)) -> H' r1 = some (.lst []) -> Q .non H'
theorem ok_initW (T : TxtR K mg aP CL CN CW CF) (F : Fun K "__init__" "Work.__init__" yT f fd) : FnOk P w K mg base (CXE P w) 1 f fd ["self", "program", "given", "breaths"] (spInitW CW) := by
 refine F.okN sc_Work___init__ (fun vs H Q E h => ?_) (fun cdv Ar outer s0 H vs Q E hr h => ?_)
 ·obtain ⟨x, dx, pr, gv, br, gs, rfl, _⟩ := h
  rfl
 obtain ⟨x, dx, pr, gv, br, gs, rfl, hx, hg, lg, q⟩ := h
 refine ⟨_, (zD (ps_fld (pv 0) (pv 1) rfl)
   (zD (ps_fld (pv 0) (yC (zA (kX qW rfl T.n_list bt_list (zA (pv 2) zC)) (zA (yC zC) zC))) rfl)
   (zD (ps_fld (pv 0) (pv 3) rfl)
   (zG (ps_fld (pv 0) zE rfl))))), ?_⟩
 try dsimp only [Cx.nox, Cx.exc, Cx.wish, zU]
 have ng : gv ≠ x := fun z => by rw [z, hx] at hg; cases hg
 refine ⟨_, rfl, _, rfl, x, CW, dx, _, rfl, hx, T.work, T.wprogram, (show 0 < 1000 by decide), ?_⟩
 refine ⟨_, rfl, gv, _, rfl, .inl (SqL.of (by rw [zK ng]; exact hg)), fun r0 a0 => ⟨small (show 0 <= 1000 by decide), fun r1 a1 => ⟨small (show 2 <= 1000 by decide), fun rw a2 => ?_⟩⟩⟩
 have s0 := zF a0 (.lst (gs.map V.int))
 have s1 := zF a1 (.lst [])
 have s2 := zF a2 (.lst [.ref r0, .ref r1])
 have s012 := s0.trans (s1.trans s2)
 have x0 := (yK a0)
 have x1 := yK (s0.free a1)
 have x2 := yK ((s0.trans s1).free a2)
 have n01 : r0 ≠ r1 := fun e => by rw [<- e, zB] at a1; cases a1
 refine ⟨_, rfl, x, CW, dx, _, rfl, s012 _ _ zB, T.work, T.wrows, (show 1 < 1000 by decide), ?_⟩
 refine ⟨_, rfl, _, rfl, x, CW, dx, _, rfl, zB, T.work, T.wbreaths, (show 2 < 1000 by decide), ?_⟩
 refine ⟨_, rfl, x, CW, dx, _, rfl, zB, T.work, T.wdone, (show 3 < 1000 by decide), ?_⟩
 have keep : ∀ {b : Addr} {o : HO} {o1 o2 o3 : HO}, b ≠ x -> upd (upd (upd (upd H x (.ins CW dx [("program", .ref pr)])) r0 (.lst (gs.map V.int))) r1 (.lst [])) rw (.lst [.ref r0, .ref r1]) b = some o -> upd (upd (upd (upd (upd (upd (upd H x (.ins CW dx [("program", .ref pr)])) r0 (.lst (gs.map V.int))) r1 (.lst [])) rw (.lst [.ref r0, .ref r1])) x o1) x o2) x o3 b = some o := fun n e => by rw [zK n, zK n, zK n]; exact e
 refine q rw r0 r1 _ x2.2 x0.2 x1.2 n01 (fun b o n e => ?_) (fun b e => ?_) zB (keep x2.1 zB) (keep x0.1 ((s1.trans s2) _ _ zB)) (keep x1.1 (s2 _ _ zB))
 ·refine keep n (s012 _ _ ?_)
  rw [zK n]
  exact e
 ·have e1 := (yK e).2
  have e2 := (yK e1).2
  have e3 := (yK e2).2
  exact (yK (s012.free e3)).2

end
section
variable {P : Program} {w : World} {K : PySem.W.Frag} {mg : Str -> Option Value} {base : Heap} {f : Addr} {fd : FuncData} {aP CL CN CW CF : Addr}
set_option maxHeartbeats 4000000

def outE : ER -> Str × Int × List Int
 | .val v s => ("done", v, s.rows.getD 1 [])
 | .bad w n rows _ => (w, n, rows.getD 1 [])
def begE (G : List Fn) (gs : List Int) (br : Int) : ER := evC G 10 16 0 [] ⟨[gs, []], br, [], 0⟩
def spRunW : Sp := fun vs H Q _ => ∃ (sh gv : Addr) (br : Int) (ns gs : List Int) (r : Hds × List Nd) (M N g : Nat), vs = [.ref sh, .ref gv, .int br] /\ H sh = some (.lst (ns.map V.int)) /\ functionsM ns = .ok r /\ PrG (fnsOf r) 10 M N g /\ 0 < (fnsOf r).length /\ ((fnsOf r).map Prod.fst).getD 0 (0, 0) = (0, (((fnsOf r).map Prod.fst).getD 0 (0, 0)).2) /\ H gv = some (.lst (gs.map V.int)) /\ gs.length <= g /\ 2 <= g /\ g <= 4000 /\ (∀ v ∈ gs, Vb v) /\ 0 <= br /\ M * br.toNat <= N /\
 ∀ t r1 H', Same H H' -> H t = none -> H r1 = none -> H' t = some (.tup [.str (outE (begE (fnsOf r) gs br)).1, .int (outE (begE (fnsOf r) gs br)).2.1, .ref r1]) -> H' r1 = some (.lst ((outE (begE (fnsOf r) gs br)).2.2.map V.int)) -> Q (.ref t) H'
section
variable {fc fw fn : Addr} {fdc fdw fdn : FuncData}
theorem ok_runW (T : TxtR K mg aP CL CN CW CF) (F : Fun K "run" "run" s_run f fd) (CFault : CalX P w K mg base 1 "Fault" CF ["self", "word", "number"] (spInitF CF)) (Mbreathe : CalM P w K mg base (CXE P w) 3 CW "breathe" ["self"] (spBreW CW CF)) (Cpicked : Cal P w K mg base (CXE P w) 1 "picked" ["value", "parts"] spPickW) (Cworth : Cal P w K mg base (CXE P w) 3 "worth" ["kind", "values", "rows"] spWorth)
  (Fc : Fun K "do_call" "do_call" jD fc fdc) (mc : mg "do_call" = some (.ref fc)) (kc : PySem.W.keepIn K (.ref fc) = true) (bc : Binds K fdc ["work", "function", "values"] [])
  (Fw : Fun K "do_with" "do_with" jP fw fdw) (mw : mg "do_with" = some (.ref fw)) (kw : PySem.W.keepIn K (.ref fw) = true) (bw : Binds K fdw ["work", "kind", "numbers", "values", "boxes"] [])
  (Fn : Fun K "do_node" "do_node" jQ fn fdn) (mn : mg "do_node" = some (.ref fn)) (kn : PySem.W.keepIn K (.ref fn) = true) (bn : Binds K fdn ["work", "node", "boxes"] [])
  (CWork : CalK P w K mg base (CXE P w) 1 "Work" CW ["self", "program", "given", "breaths"] (spInitW CW)) (Cfunctions : Cal P w K mg base (CXE P w) 17 "functions" ["sheet"] (spFns CN)) : FnOk P w K mg base (CXE P w) 213 f fd ["sheet", "given", "breaths"] spRunW := by
 refine F.okN sc_run (fun vs H Q E h => ?_) (fun cdv Ar outer s0 H vs Q E hr h => ?_)
 ·obtain ⟨sh, gv, br, ns, gs, r, M, N, g, rfl, _⟩ := h
  rfl
 obtain ⟨sh, gv, br, ns, gs, r, M, N, g, rfl, hsh, hf, pk, l0, p0, hgv, lg, g2, g4, vg, b0, lN, q⟩ := h
 have Cdo_call : Cal P w K mg base (CXE P w) 212 "do_call" ["work", "function", "values"] (spCallW CW CF (fnsOf r) 10 M N g 16) := (ok_runner pk T CFault Mbreathe Cpicked Cworth Fc mc kc bc Fw mw kw bw Fn mn kn bn 16 (Nat.le_refl _)).1
 refine ⟨_, (zD (zO (i := 3) sc_run.nd rfl (Or.inl rfl) (pe_makeC CWork hr rfl (zA (zH Cfunctions hr rfl (zA (pv 0) zC) passN) (zA (pv 1) (zA (pv 2) zC))) passN))
   (zD (ps_tryS (i := 5) sc_run.nd rfl rfl rfl T.m_Fault (fun _ _ => (zG (zO (i := 4) sc_run.nd rfl (Or.inl rfl) (pe_callS Cdo_call hr rfl (zA (pv 3) (zA zE (zA (yC zC) zC))))))) (fun _ => (zG (zM (zL (zA (pe_fldXK K rfl (pv 5)) (zA (pe_fldXK K rfl (pv 5)) (zA (zT (ix_listK K rfl) (pe_fldK K rfl (pv 3)) (zP rfl T.m_ANSWER) (fun _ _ => rfl)) zC))))))))
   (zG (zM (zL (zA zZ (zA (pv 4) (zA (zT zX (xQ (pv 3) rfl) (zP rfl T.m_ANSWER) (fun _ _ => rfl)) zC)))))))), ?_⟩
 try dsimp only [Cx.nox, Cx.exc, Cx.wish, zU]
 refine ⟨_, rfl, sh, ns, rfl, hsh, ⟨fun a e => ?_, fun p w e => by rw [hf] at e; cases e⟩⟩
 rw [hf] at e
 cases e
 intro pr H1 s1 hpr FA
 obtain ⟨pv, epv, ppv⟩ := fnsOf_at FA
 refine ⟨_, rfl, _, rfl, fun x dx hx hdx ndx => ?_⟩
 have s2 := zF hdx (.own x)
 have hx1 : upd H1 dx (.own x) x = none := by rw [zK (Ne.symm ndx)]; exact hx
 have s3 := zF hx1 (.ins CW dx [])
 have s23 := s2.trans s3
 refine ⟨x, dx, pr, gv, br, gs, rfl, zB, (s1.trans s23) _ _ hgv, by (first|lia|omega), fun rw r0 r1 H2 hrw hr0 hr1 n01 kp lv ex erw er0 er1 => ⟨rfl, ?_⟩⟩
 refine ⟨_, rfl, small (show 0 <= 1000 by decide), fun vl hvl => ?_⟩
 have s4 := zF hvl (.lst [])
 have g13 : Same H1 (upd H2 vl (.lst [])) := fun b o e => s4 _ _ (kp b o (zI e hx) (s23 _ _ e))
 have new1 : ∀ {a : Addr}, upd (upd H1 dx (.own x)) x (.ins CW dx []) a = none -> H1 a = none := fun h => s23.free h
 have vl1 : H1 vl = none := new1 (lv _ hvl)
 have g0 : Same H (upd H2 vl (.lst [])) := s1.trans g13
 have nw : ∀ {a : Addr} {o : HO}, H2 a = some o -> vl ≠ a := fun e => Ne.symm (zI e hvl)
 have ev : EvAt CW (fnsOf r) 10 0 ⟨x, dx, pr, rw⟩ vl (upd H2 vl (.lst [])) [r0, r1] ⟨[gs, []], br, [], 0⟩ := by
  refine ⟨s4 _ _ ex, ⟨s4 _ _ erw, ?_, rfl, fun n a xs e1 e2 => ?_⟩, ⟨pv, g13 _ _ epv, Paired.imp (fun _ _ z => z.tups fun b xs e => g13 _ _ e) ppv⟩, zB, nw erw, fun m => ?_, zI epv (new1 hrw), fun m => ?_, zI epv vl1⟩
  ·exact List.nodup_cons.mpr ⟨fun m => n01 (List.mem_singleton.mp m), List.nodup_cons.mpr ⟨List.not_mem_nil, List.nodup_nil⟩⟩
  ·match n, e1, e2 with
   | 0, e1, e2 => cases e1; cases e2; exact s4 _ _ er0
   | 1, e1, e2 => cases e1; cases e2; exact s4 _ _ er1
  ·rcases List.mem_cons.mp m with z | z
   ·exact nw er0 z
   ·exact nw er1 (List.mem_singleton.mp z)
  ·rcases List.mem_cons.mp m with z | z
   ·exact zI epv (new1 hr0) z
   ·exact zI epv (new1 hr1) (List.mem_singleton.mp z)
 have ok : EOk g ⟨[gs, []], br, [], 0⟩ := ⟨b0, ⟨Nat.le_refl 2, by show 2 <= 0 + g; (first|lia|omega), fun xs hx => by
  rcases List.mem_cons.mp hx with z | z
  ·rw [z]; exact ⟨by (first|lia|omega), vg⟩
  ·rw [List.mem_singleton.mp z]; exact ⟨Nat.zero_le _, fun v hv => (nomatch hv)⟩⟩, fun v hv => (nomatch hv)⟩
 have lv0 : ([] : List Int).length = (((fnsOf r).map Prod.fst).getD (0 : Int).toNat (0, 0)).1.toNat := by
  show 0 = (((fnsOf r).map Prod.fst).getD 0 (0, 0)).1.toNat
  rw [p0] <;> rfl
 have res := evC_ok (g := g) (N := N) pk.ok pk.big 16 0 [] ⟨[gs, []], br, [], 0⟩ (Int.le_refl _) (by rw [List.length_map]; (first|lia|omega)) lv0 (fun v hv => (nomatch hv)) ok (by show 0 + M * br.toNat <= N; (first|lia|omega))
 have chgH : ∀ {a : Addr}, a ∈ chg ⟨x, dx, pr, rw⟩ vl [r0, r1] -> H a = none := fun {a} m => by
  refine s1.free ?_
  rcases List.mem_cons.mp m with z | m
  ·rw [z]; exact hx
  rcases List.mem_cons.mp m with z | m
  ·rw [z]; exact vl1
  rcases List.mem_cons.mp m with z | m
  ·rw [z]; exact new1 hrw
  rcases List.mem_cons.mp m with z | m
  ·rw [z]; exact new1 hr0
  ·rw [List.mem_singleton.mp m]; exact new1 hr1
 have hand : ∀ {H4 : Hp} {rs4 : List Addr} {rows : List (List Int)} {wd : Str} {k : Int}, Mv ⟨x, dx, pr, rw⟩ vl [r0, r1] rs4 (upd H2 vl (.lst [])) H4 -> RowsAt H4 rw rs4 rows -> 2 <= rows.length -> outE (begE (fnsOf r) gs br) = (wd, k, rows.getD 1 []) ->
   ∃ a1, atI (rs4.map V.ref) 1 = some (.ref a1) /\ ∀ t, H4 t = none -> Q (.ref t) (upd H4 t (.tup [.str wd, .int k, .ref a1])) := fun {H4 rs4 rows wd k} m4 r4 l2 eo => by
  have hl : 1 < rs4.length := by rw [r4.len]; (first|lia|omega)
  have ea : rs4[1]? = some rs4[1] := List.getElem?_eq_getElem hl
  have er : rows[1]? = some (rows.getD 1 []) := by
   rw [List.getD_eq_getElem?_getD, List.getElem?_eq_getElem (by (first|lia|omega))] <;> rfl
  have sH : Same H H4 := fun b o e => m4.keep b o (fun m => by rw [chgH m] at e; cases e) (g0 b o e)
  refine ⟨rs4[1], kA (j := 1) (by rw [List.getElem?_map, ea] <;> rfl), fun t ht => ?_⟩
  have s5 := zF ht (.tup [.str wd, .int k, .ref rs4[1]])
  refine q t rs4[1] _ (sH.trans s5) (sH.free ht) ?_ (by rw [eo]; exact zB) (by rw [eo]; exact s5 _ _ (r4.row 1 _ _ ea er))
  rcases m4.fresh _ (List.mem_of_getElem? ea) with z | z
  ·exact chgH (List.mem_cons_of_mem _ (List.mem_cons_of_mem _ (List.mem_cons_of_mem _ z)))
  ·exact g0.free z
 refine ⟨⟨x, dx, pr, rw⟩, vl, [r0, r1], ⟨[gs, []], br, [], 0⟩, 0, vl, [], rfl, ev, zB, Int.le_refl _, by (first|lia|omega), lv0, fun v hv => (nomatch hv), ok, by show 0 + M * br.toNat <= N; (first|lia|omega), ?_⟩
 have eo : outE (begE (fnsOf r) gs br) = outE (evC (fnsOf r) 10 16 0 [] ⟨[gs, []], br, [], 0⟩) := rfl
 generalize evC (fnsOf r) 10 16 0 [] ⟨[gs, []], br, [], 0⟩ = o at res eo ⊢
 cases o with
 | val v s' =>
  intro H4 rs4 m4 e4
  obtain ⟨a1, hat, hq⟩ := hand m4 e4.rows res.1.rw.1 eo
  exact ⟨_, rfl, _, rfl, x, CW, dx, _, _, rfl, e4.wk, T.work, T.wrows, rfl, rw, _, _, _, rfl, rfl, SqL.of e4.rows.here, hat, small (show 3 <= 1000 by decide), fun t ht => hq t ht⟩
 | bad wd k rows ct =>
  intro d H4 rs4 br' dn' m4 r4 w4 e4
  obtain ⟨a1, hat, hq⟩ := hand m4 r4 res.1.1 eo
  exact ⟨CF, d, rfl, rfl, T.mchF, fun xx exx => ⟨_, rfl, xx, CF, d, _, _, rfl, exx, e4, T.excF, T.fword, rfl, _, rfl, xx, CF, d, _, _, rfl, exx, e4, T.excF, T.fnumber, rfl, _, rfl, x, CW, dx, _, _, rfl, w4, T.work, T.wrows, rfl, rw, _, _, _, rfl, rfl, SqL.of r4.here, hat, small (show 3 <= 1000 by decide), fun t ht => hq t ht⟩⟩
end

end
section
variable {P : Program} {w : World} {K : PySem.W.Frag} {mg : Str -> Option Value} {base : Heap} {f : Addr} {fd : FuncData}
set_option maxHeartbeats 4000000

theorem ok_mixed (F : Fun K "_law_mixed" "_law_mixed" jG f fd) : FnOk P w K mg base (CXE P w) 1 f fd ["_law_cell", "_law_k"] spMixed := by
 refine F.okN qF (fun vs H Q E h => ?_) (fun cdv A outer s H vs Q E hr h => ?_)
 ·obtain ⟨c, k, rfl, _⟩ := h
  rfl
 obtain ⟨c, k, rfl, q⟩ := h
 refine ⟨_, (zD (zO (i := 2) qF.nd rfl (Or.inl rfl) (zQ wS (zQ wR (zQ yY (zQ yY (zQ wS (pv 0) zE) (zQ wR zE (pv 1))) zE) zE) zE))
   (zD (zO (i := 3) qF.nd rfl (Or.inl rfl) (zQ wS (zQ yY (zQ yY (zQ wR (pv 2) (pv 2)) (zQ wR zE (pv 2))) (pv 1)) zE))
   (zG (zM (zQ op_fdivB (zQ wS (zQ yY (zQ yY (zQ wR (pv 3) (pv 3)) (zQ wR zE (pv 3))) (zQ wR zE (pv 1))) zE) zE))))), ?_⟩
 try dsimp only [Cx.nox, Cx.exc, Cx.wish, zU]
 have p1 : (0 : Int) < 2147483629 := by decide
 have p2 : (0 : Int) < 2147483647 := by decide
 have p4 : (0 : Int) < 1073741789 := by decide
 refine ⟨_, rfl, _, _, rfl, rfl, p1, _, rfl, _, _, rfl, rfl, .inl ⟨by decide, by decide⟩, _, _, rfl, rfl, _, _, rfl, rfl, _, _, rfl, rfl, .inr ⟨by decide, by decide⟩, _, _, rfl, rfl, p2, ?_⟩
 generalize (c % 2147483629 + 40503 * k + 17) * 48271 = A1
 have a1 := Int.emod_nonneg A1 (show (2147483647 : Int) ≠ 0 by decide)
 have a2 := Int.emod_lt_of_pos A1 p2
 generalize A1 % 2147483647 = A2 at *
 refine ⟨_, rfl, _, rfl, _, _, rfl, rfl, .inl ⟨by (first|lia|omega), by (first|lia|omega)⟩, _, rfl, _, _, rfl, rfl, .inl ⟨by decide, by decide⟩, _, _, rfl, rfl, _, rfl, _, _, rfl, rfl, _, _, rfl, rfl, p1, ?_⟩
 generalize A2 * A2 + 69621 * A2 + k = A3
 have a3 := Int.emod_nonneg A3 (show (2147483629 : Int) ≠ 0 by decide)
 have a4 := Int.emod_lt_of_pos A3 p1
 generalize A3 % 2147483629 = A4 at *
 refine ⟨_, rfl, _, rfl, _, _, rfl, rfl, .inl ⟨by (first|lia|omega), by (first|lia|omega)⟩, _, rfl, _, _, rfl, rfl, .inl ⟨by decide, by decide⟩, _, _, rfl, rfl, _, rfl, _, _, rfl, rfl, .inl ⟨by decide, by decide⟩, _, _, rfl, rfl, _, _, rfl, rfl, p4, _, _, rfl, rfl, ⟨by decide, by decide⟩, ?_⟩
 exact q _ (Int.ediv_nonneg (Int.emod_nonneg _ (by decide)) (by decide))
theorem ok_begin (F : Fun K "_law_begin" "_law_begin" jH f fd) : FnOk P w K mg base (CXE P w) 1 f fd ["_law_script"] (spBegin K) := by
 refine F.okN sc__law_begin (fun vs H Q E h => ?_) (fun cdv A outer s H vs Q E hr h => ?_)
 ·obtain ⟨a, ns, rfl, _⟩ := h
  rfl
 obtain ⟨a, ns, rfl, hs, hl, q⟩ := h
 refine ⟨_, (zG (zM (pe_disp (kM zZ (pv 0) (kM zZ zE (kM zZ zE pps_nil))) rfl rfl (by simp) (by decide)))), ?_⟩
 try dsimp only [Cx.nox, Cx.exc, Cx.wish, zU]
 refine fun p hp => ⟨_, rfl, zB, stD a 0 0, rfl, (show 3 <= 15 by decide), ?_⟩
 rw [stD_new, upd_upd]
 have sm := zF hp (.dK (stD a 0 0))
 refine q _ _ hp sm ⟨a, ns, 0, 0, zB, ?_, hl, by decide, by decide⟩
 rcases hs with ⟨o, hs⟩ | hs
 ·exact .inl ⟨o, sm _ _ hs⟩
 ·exact .inr hs
theorem ok_take (T : TxtD K mg) (F : Fun K "_law_take" "_law_take" jR f fd) (C_law_mixed : Cal P w K mg base (CXE P w) 1 "_law_mixed" ["_law_cell", "_law_k"] spMixed) : FnOk P w K mg base (CXE P w) 2 f fd ["_law_state", "_law_most"] (spTakeD K) := by
 refine F.okN jB (fun vs H Q E h => ?_) (fun cdv A outer s H vs Q E hr h => ?_)
 ·obtain ⟨st, m, rfl, _⟩ := h
  rfl
 obtain ⟨st, m, rfl, hm0, hm1, D, q⟩ := h
 refine ⟨_, (zD (zO (i := 2) jB.nd rfl (Or.inl rfl) (yZ (jV hr) (pv 0) zZ (fun _ _ => rfl)))
   (zD (zO (i := 3) jB.nd rfl (Or.inl rfl) (yZ (jV hr) (pv 0) zZ (fun _ _ => rfl)))
   (zD (jX (zS (zJ yB (yZ (jV hr) (pv 0) zZ (fun _ _ => rfl)) zE (nomark _)) (zD (ps_dput (jV hr) (pv 0) zZ (zQ yY (pv 3) zE) rfl)
   (zD (zO (i := 4) jB.nd rfl (Or.inl rfl) zE)
   (zD (jX (zS (zJ op_gt (yD zY rfl T.n_len xY (zA (pv 2) zC)) zE (nomark _)) (zG (zO (i := 4) jB.nd rfl (Or.inl rfl) (zT zX (pv 2) (zQ wS (pv 3) (yD zY rfl T.n_len xY (zA (pv 2) zC))) (fun _ _ => rfl)))) zN))
   (zD (zS (PW.pt (qX (zJ op_ge (pv 3) (yD zY rfl T.n_len xY (zA (pv 2) zC)) (nomark _)) (qA (zJ qZ (yD call_abs rfl T.n_abs bt_abs (zA (pv 4) zC)) (zQ op_pow zE zE) (nomark _))))) (zG (zM (zQ wS (zH C_law_mixed hr rfl (zA (pv 4) (zA (pv 3) zC)) passN) (pv 1)))) zN)
   (zG (ps_dput (jV hr) (pv 0) zZ (yD call_abs rfl T.n_abs bt_abs (zA (pv 4) zC)) rfl)))))) zN))
   (zD (zO (i := 5) jB.nd rfl (Or.inl rfl) (zQ wS (yZ (jV hr) (pv 0) zZ (fun _ _ => rfl)) (pv 1)))
   (zD (ps_dput (jV hr) (pv 0) zZ (zQ op_fdivB (yZ (jV hr) (pv 0) zZ (fun _ _ => rfl)) (pv 1)) rfl)
   (zG (zM (pv 5)))))))), ?_⟩
 try dsimp only [Cx.nox, Cx.exc, Cx.wish, zU]
 obtain ⟨a, ns, k, c, hst, hs, hl, hk, hc⟩ := D
 refine ⟨_, rfl, st, _, rfl, stD_script hst, ?_⟩
 refine ⟨_, rfl, st, _, rfl, stD_at hst, ?_⟩
 refine ⟨fun σ' H' => ∃ k2 c2 x, σ' = [some (.ref st), some (.int m), some (.ref a), some (.int k), x, none] /\ H' st = some (.dK (stD a k2 c2)) /\ Keep st H H' /\ 0 <= k2 /\ 0 <= c2, ?_, ?_⟩
 rotate_left
 ·-- the last rows: what is left of the great cell
  rintro _ H2 ⟨k2, c2, x, rfl, e2, kp, hk2, hc2⟩
  refine ⟨_, rfl, st, _, rfl, stD_left e2, _, rfl, _, _, rfl, rfl, hm0, ?_⟩
  refine ⟨_, rfl, st, _, rfl, stD_left e2, _, rfl, _, _, rfl, rfl, divB hm0 (by (first|lia|omega)), ?_⟩
  refine ⟨_, rfl, st, _, rfl, stD_putLeft e2, _, rfl, ?_⟩
  exact q _ _ (Int.emod_nonneg _ (by (first|lia|omega))) (Int.emod_lt_of_pos _ hm0) ⟨⟨a, ns, k2, c2 / m, zB, (hs.keepD hst kp).keepD e2 Keep.upd, hl, hk2, Int.ediv_nonneg hc2 (by (first|lia|omega))⟩, kp.trans Keep.upd⟩
 refine ⟨_, rfl, st, _, rfl, stD_left hst, rfl, _, rfl, ?_⟩
 refine ite2 (fun c0 => ?_) (fun c0 => ?_)
 rotate_left
 ·exact ⟨k, c, none, rfl, hst, Keep.refl _ _, hk, hc⟩
 have c1 : c = 0 := by
  have := of_decide_eq_true c0
  injection this
 refine ⟨_, rfl, _, _, rfl, rfl, _, rfl, st, _, rfl, stD_putAt hst, ?_⟩
 have h1 : upd H st (.dK (stD a (k + 1) c)) st = some (.dK (stD a (k + 1) c)) := zB
 have k1 : Keep st H (upd H st (.dK (stD a (k + 1) c))) := Keep.upd
 have s1 : Scr K (upd H st (.dK (stD a (k + 1) c))) a ns := hs.keepD hst k1
 generalize upd H st (.dK (stD a (k + 1) c)) = H1 at *
 have hlen : ((ns.map V.int).length : Int) = ns.length := by rw [List.length_map]
 refine ⟨fun σ' H' => ∃ x : Int, σ' = [some (.ref st), some (.int m), some (.ref a), some (.int k), some (.int x), none] /\ H' = H1, ?_, ?_⟩
 ·refine ⟨_, rfl, a, _, rfl, .inl s1.sq, _, _, rfl, rfl, _, rfl, ?_⟩
  refine ite2 (fun cl => ?_) (fun cl => ⟨_, rfl, rfl⟩)
  have cl' := of_decide_eq_true cl
  obtain ⟨v, hv⟩ := atI_int (ns := ns) (k := k % ((ns.map V.int).length : Int)) (Int.emod_nonneg _ (by (first|lia|omega))) (by rw [<- hlen]; exact Int.emod_lt_of_pos _ cl')
  exact ⟨_, rfl, _, rfl, _, rfl, a, _, rfl, .inl s1.sq, _, _, rfl, rfl, cl', a, _, _, _, rfl, rfl, s1.sq, hv, _, rfl, rfl⟩
 rintro _ _ ⟨x, rfl, rfl⟩
 refine ⟨_, rfl, _, rfl, a, _, rfl, .inl s1.sq, _, _, rfl, rfl, _, rfl, ?_⟩
 refine ite2 (fun _ => ?_) (fun _ => ?_)
 ·refine ⟨_, rfl, _, rfl, _, _, rfl, fun r hr0 => ⟨_, rfl, _, _, rfl, rfl, hm0, ?_⟩⟩
  exact q _ _ (Int.emod_nonneg _ (by (first|lia|omega))) (Int.emod_lt_of_pos _ hm0) ⟨⟨a, ns, k + 1, c, h1, s1, hl, by (first|lia|omega), hc⟩, k1⟩
 refine ⟨_, rfl, _, rfl, _, _, rfl, rfl, ⟨by decide, by decide, by decide⟩, _, _, rfl, rfl, _, rfl, ?_⟩
 refine ite2 (fun _ => ?_) (fun _ => ?_)
 ·refine ⟨_, rfl, _, rfl, _, _, rfl, fun r hr0 => ⟨_, rfl, _, _, rfl, rfl, hm0, ?_⟩⟩
  exact q _ _ (Int.emod_nonneg _ (by (first|lia|omega))) (Int.emod_lt_of_pos _ hm0) ⟨⟨a, ns, k + 1, c, h1, s1, hl, by (first|lia|omega), hc⟩, k1⟩
 refine ⟨_, rfl, _, rfl, _, rfl, st, _, rfl, stD_putLeft h1, ?_⟩
 exact ⟨k + 1, _, _, rfl, zB, k1.trans Keep.upd, by (first|lia|omega), by split <;> (first|lia|omega)⟩

end
section
variable {P : Program} {w : World} {K : PySem.W.Frag} {mg : Str -> Option Value} {base : Heap} {f : Addr} {fd : FuncData}
set_option maxHeartbeats 4000000

theorem ok_number (T : TxtD K mg) (F : Fun K "_law_number" "_law_number" xP f fd) (C_law_take : Cal P w K mg base (CXE P w) 2 "_law_take" ["_law_state", "_law_most"] (spTakeD K)) : FnOk P w K mg base (CXE P w) 3 f fd ["_law_state"] (spIntD K fun r => r.natAbs <= 10 ^ 60) := by
 refine F.okN kZ (fun vs H Q E h => ?_) (fun cdv A outer s H vs Q E hr h => ?_)
 ·obtain ⟨st, rfl, _⟩ := h
  rfl
 obtain ⟨st, rfl, D, q⟩ := h
 refine ⟨_, (zD (zO (i := 1) kZ.nd rfl (Or.inl rfl) (zH C_law_take hr rfl (zA (pv 0) (zA zE zC)) passN))
   (zD (zS (zJ qZ (pv 1) zE (nomark _)) (zG (zM (zT zX (yC (zA zE (zA zE (zA zE (zA zE (zA (pe_un un_neg zE) (zA zE (zA zE (zA zE (zA (pe_un un_neg zE) zC)))))))))) (pv 1) (fun _ _ => rfl)))) zN)
   (zD (zS (zJ yB (pv 1) zE (nomark _)) (zG (zM (zQ xG (zH C_law_take hr rfl (zA (pv 0) (zA zE zC)) passN) zE))) zN)
   (zD (zO (i := 2) kZ.nd rfl (Or.inl rfl) (zT zX (yC (zA (zQ op_pow zE zE) (zA (zQ xG (zQ op_pow zE zE) zE) (zA (zQ op_pow zE zE) (zA (zQ op_pow zE zE) zC))))) (zH C_law_take hr rfl (zA (pv 0) (zA zE zC)) passN) (fun _ _ => rfl)))
   (zG (zM (zQ xG (zQ op_mulB (pv 2) (zT zX (yC (zA zE (zA (pe_un un_neg zE) zC))) (zQ xG (pv 1) zE) (fun _ _ => rfl))) (zQ op_mulB (zH C_law_take hr rfl (zA (pv 0) (zA zE zC)) passN) (zT zX (yC (zA zE (zA (pe_un un_neg zE) zC))) (zQ xG (pv 1) zE) (fun _ _ => rfl)))))))))), ?_⟩
 try dsimp only [Cx.nox, Cx.exc, Cx.wish, zU]
 refine ⟨_, rfl, st, 12, rfl, by decide, by decide, D, fun way H1 w0 w1 d1 => ?_⟩
 refine ⟨_, rfl, _, _, rfl, rfl, _, rfl, ?_⟩
 refine ite2 (fun c => ?_) (fun c => ?_)
 ·have c' := of_decide_eq_true c
  obtain ⟨v, hm, hv⟩ := kK (ns := [0, 1, 2, 3, -1, 1, 2, 7, -5]) w0 (show way < 9 from c')
  refine ⟨_, rfl, _, rfl, small (show 9 <= 1000 by decide), fun l hl => ⟨_, rfl, l, _, _, _, rfl, rfl, SqL.of zB, hv, ?_⟩⟩
  refine q _ _ ?_ (d1.trans (d1.draw.new hl _))
  have : ∀ v ∈ [0, 1, 2, 3, -1, 1, 2, 7, (-5 : Int)], v.natAbs <= 10 ^ 60 := by decide
  exact this v hm
 have c1 := df c
 refine ⟨_, rfl, rfl, _, rfl, ?_⟩
 refine ite2 (fun c9 => ?_) (fun c9 => ?_)
 ·refine ⟨_, rfl, st, 2000, rfl, by decide, by decide, d1.draw, fun r H2 r0 r1 d2 => ⟨_, _, rfl, rfl, ?_⟩⟩
  refine q _ _ ?_ (d1.trans d2)
  have : (10 : Nat) ^ 60 ≥ 1000 := by decide
  (first|lia|omega)
 have c9' := vf c9
 refine ⟨_, _, rfl, rfl, ⟨by decide, by decide, by decide⟩, _, _, rfl, rfl, ⟨by decide, by decide, by decide⟩, _, _, rfl, rfl, _, _, rfl, rfl, ⟨by decide, by decide, by decide⟩, _, _, rfl, rfl, ⟨by decide, by decide, by decide⟩, small (show 4 <= 1000 by decide), fun l hl => ?_⟩
 have d1' := d1.trans (d1.draw.new hl (.lst ([10 ^ 59, 10 ^ 60 - 1, 10 ^ 50, 10 ^ 49].map V.int)))
 have l1 : upd H1 l (.lst ([10 ^ 59, 10 ^ 60 - 1, 10 ^ 50, 10 ^ 49].map V.int)) l = some (.lst ([10 ^ 59, 10 ^ 60 - 1, 10 ^ 50, 10 ^ 49].map V.int)) := zB
 refine ⟨_, rfl, st, 4, rfl, by decide, by decide, d1'.draw, fun r H2 r0 r1 d2 => ?_⟩
 obtain ⟨v, hm, hv⟩ := kK (ns := [10 ^ 59, 10 ^ 60 - 1, 10 ^ 50, 10 ^ 49]) r0 r1
 have l2 := d2.keep l _ (Ne.symm (d1.draw.ne hl)) l1
 refine ⟨l, _, _, _, rfl, rfl, SqL.of l2, hv, ?_⟩
 have hb : ∀ v ∈ [10 ^ 59, 10 ^ 60 - 1, 10 ^ 50, (10 ^ 49 : Int)], (10 : Int) ^ 49 <= v /\ v <= 10 ^ 60 - 1 := by decide
 have hvb := hb v hm
 have hvn : v.natAbs < 2 ^ 2000 := by
  have : (10 : Nat) ^ 60 < 2 ^ 2000 := by decide
  (first|lia|omega)
 obtain ⟨g, gm, hg⟩ := kK (ns := [1, -1]) (k := way - 10) (by (first|lia|omega)) (show way - 10 < 2 by (first|lia|omega))
 have hg1 : g = 1 \/ g = -1 := by simpa using gm
 have hgn : g.natAbs < 2 ^ 2000 := by
  have : 1 < 2 ^ 2000 := by decide
  (first|lia|omega)
 refine ⟨_, rfl, _, rfl, small (show 2 <= 1000 by decide), fun l3 hl3 => ⟨_, rfl, _, _, rfl, rfl, l3, _, _, _, rfl, rfl, SqL.of zB, hg, _, _, rfl, rfl, ⟨hvn, hgn⟩, ?_⟩⟩
 have d3 := (d1'.trans d2).trans (d2.draw.new hl3 (.lst ([1, -1].map V.int)))
 refine ⟨_, rfl, st, 2, rfl, by decide, by decide, (d2.draw.new hl3 (.lst ([1, -1].map V.int))).draw, fun u H4 u0 u1 d4 => ?_⟩
 refine ⟨_, rfl, small (show 2 <= 1000 by decide), fun l5 hl5 => ⟨_, rfl, _, _, rfl, rfl, l5, _, _, _, rfl, rfl, SqL.of zB, hg, _, _, rfl, rfl, ⟨?_, hgn⟩, ?_⟩⟩
 ·have : 2 < 2 ^ 2000 := by decide
  (first|lia|omega)
 refine ⟨_, _, rfl, rfl, q _ _ ?_ ((d3.trans d4).trans (d4.draw.new hl5 _))⟩
 rcases hg1 with e | e <;> subst e <;> (first|lia|omega)

end
section
variable {P : Program} {w : World} {K : PySem.W.Frag} {mg : Str -> Option Value} {base : Heap} {f : Addr} {fd : FuncData} {aP CL CN CW CF : Addr}
set_option maxHeartbeats 4000000

theorem ok_numbers (d : Nat) (T : TxtD K mg) (F : Fun K "_law_numbers" "_law_numbers" yS f fd) (C_law_numbers : Cal P w K mg base (CXE P w) (d + 1) "_law_numbers" ["_law_node_here"] (spNumbers d)) : FnOk P w K mg base (CXE P w) (d + 2) f fd ["_law_node_here"] (spNumbers (d + 1)) := by
 refine F.okN jK (fun vs H Q E h => ?_) (fun cdv A outer s H vs Q E hr h => ?_)
 ·obtain ⟨v, t, rfl, _⟩ := h
  rfl
 obtain ⟨v, ⟨k, own, ps⟩, rfl, ⟨tn, ow, pt, pvs, rfl, etn, eow, ept, pp⟩, ln, q⟩ := h
 have en : nums (.mk k own ps) = k :: (own ++ numsL ps) := rfl
 rw [en] at ln q
 rw [List.length_cons, List.length_append] at ln
 have sl : (100000 : Nat) < sizeLine := by decide
 refine ⟨_, (zD (zO (i := 1) jK.nd rfl (Or.inl rfl) (zQ wT (yC (zA (zT yH (pv 0) zE (fun _ _ => rfl)) zC)) (kX qW rfl T.n_list bt_list (zA (zT yH (pv 0) zE (fun _ _ => rfl)) zC))))
   (zD (xX PassesOwn.never rfl (pi_tup (zT yH (pv 0) zE (fun _ _ => rfl))) (zR (i := 2) jK.nd rfl (Or.inl rfl)) (zG (zO (i := 1) jK.nd rfl (Or.inl rfl) (zQ wT (pv 1) (zH C_law_numbers hr rfl (zA (pv 2) zC) passN)))))
   (zG (zM (pv 1))))), ?_⟩
 try dsimp only [Cx.nox, Cx.exc, Cx.wish, zU]
 refine ⟨_, rfl, tn, _, _, _, rfl, rfl, SqT.of etn, rfl, small (show 1 <= 1000 by decide), fun z a1 => ?_⟩
 have g1 := zF a1 (.lst [.int k])
 refine ⟨_, rfl, tn, _, _, _, rfl, rfl, SqT.of (g1 _ _ etn), rfl, ow, _, rfl, .inr (SqT.of (g1 _ _ eow)), fun y a2 => ?_⟩
 have g2 := zF a2 (.lst (own.map V.int))
 refine ⟨z, y, _, _, rfl, rfl, g2 _ _ zB, zB, by show 1 + (own.map V.int).length <= sizeLine; rw [List.length_map]; (first|lia|omega), fun l0 a3 => ?_⟩
 have g3 := zF a3 (.lst ([.int k] ++ own.map V.int))
 have gg := g1.trans (g2.trans g3)
 have lpv := Paired.len pp
 refine ⟨_, rfl, tn, _, _, _, rfl, rfl, SqT.of (gg _ _ etn), rfl, pt, rfl, ⟨_, SqT.of (gg _ _ ept)⟩, for_tup (xs := pvs) (fun i σ' H' => ∃ (l : Addr) (v2 : Option V), σ' = [some (.ref tn), some (.ref l), v2] /\ Same H H' /\ H l = none /\ H' l = some (.lst ((k :: (own ++ numsL (ps.take i))).map V.int))) ⟨l0, none, rfl, gg, (g1.trans g2).free a3, by
  rw [zB, List.take_zero]
  show _ = some (HO.lst ((k :: (own ++ [])).map V.int))
  rw [List.append_nil] <;> rfl⟩ ?_ ?_ ?_⟩
 ·rintro i σ' H' _ ⟨l, v2, _, g, _⟩
  exact SqT.of (g _ _ ept)
 ·rintro i x σ' H' hx ⟨l, v2, rfl, g, hl, el⟩
  obtain ⟨ti, hti, tri⟩ := Paired.yonder pp hx
  have et : ps.take (i + 1) = ps.take i ++ [ti] := by rw [List.take_succ, hti] <;> rfl
  have ed : numsL ps = numsL (ps.take i) ++ (nums ti ++ numsL (ps.drop (i + 1))) := by
   have := List.take_append_drop (i + 1) ps
   rw [et] at this
   conv => lhs; rw [<- this]
   rw [kT, kT, List.append_assoc]
   show _ ++ ((nums ti ++ []) ++ _) = _
   rw [List.append_nil]
  have le : (numsL ps).length = (numsL (ps.take i)).length + ((nums ti).length + (numsL (ps.drop (i + 1))).length) := by
   rw [ed, List.length_append, List.length_append]
  refine ⟨_, rfl, _, rfl, x, ti, rfl, tri.same g, by (first|lia|omega), fun l1 H1 g1 hl1 el1 => ?_⟩
  refine ⟨l, l1, _, _, rfl, rfl, g1 _ _ el, el1, by rw [List.length_map, List.length_map, List.length_cons, List.length_append]; (first|lia|omega), fun l2 a4 => ?_⟩
  have g4 := zF a4 (.lst ((k :: (own ++ numsL (ps.take i))).map V.int ++ (nums ti).map V.int))
  refine ⟨l2, _, rfl, g.trans (g1.trans g4), (g.trans g1).free a4, ?_⟩
  rw [zB, <- List.map_append, et, kT]
  show some (HO.lst (List.map V.int (k :: (own ++ numsL (ps.take i) ++ nums ti)))) = some (HO.lst (List.map V.int (k :: (own ++ (numsL (ps.take i) ++ (nums ti ++ []))))))
  rw [List.append_nil, List.append_assoc]
 ·rintro σ' H' ⟨l, v2, rfl, g, hl, el⟩
  rw [lpv, List.take_length] at el
  exact ⟨_, rfl, q l H' g hl el⟩
theorem ok_numbersS (T : TxtD K mg) (F : Fun K "_law_numbers" "_law_numbers" yS f fd) (hm : mg "_law_numbers" = some (.ref f)) (hk : PySem.W.keepIn K (.ref f) = true) (hb : Binds K fd ["_law_node_here"] []) : ∀ d, FnOk P w K mg base (CXE P w) (d + 1) f fd ["_law_node_here"] (spNumbers d)
 | 0 => ⟨fun vs H Q E h => by obtain ⟨_, _, rfl, _⟩ := h; rfl, fun _ _ _ _ _ _ _ _ _ _ _ _ _ h => by obtain ⟨_, _, _, h, _⟩ := h; exact h.elim⟩
 | d + 1 => ok_numbers d T F ⟨⟨_, _, ok_numbersS T F hm hk hb d, hm, hk, hb⟩⟩
theorem ok_sheetL (d : Nat) (T : TxtD K mg) (F : Fun K "_law_sheet" "_law_sheet" jE f fd) (C_law_numbers : Cal P w K mg base (CXE P w) (d + 1) "_law_numbers" ["_law_node_here"] (spNumbers d)) : FnOk P w K mg base (CXE P w) (d + 2) f fd ["_law_functions_drawn"] (spSheetL d) := by
 refine F.okN xL (fun vs H Q E h => ?_) (fun cdv A outer s H vs Q E hr h => ?_)
 ·obtain ⟨l, rs, fs, rfl, _⟩ := h
  rfl
 obtain ⟨l, rs, fs, rfl, el, pf, ln, q⟩ := h
 have sl : (100000 : Nat) < sizeLine := by decide
 have lrs := Paired.len pf
 have ew : wr fs = (fs.length : Int) :: (headsW fs ++ bodiesW fs) := rfl
 rw [ew] at ln q
 rw [List.length_cons, List.length_append] at ln
 refine ⟨_, (zD (zO (i := 1) xL.nd rfl (Or.inl rfl) (yC (zA (yD zY rfl T.n_len xY (zA (pv 0) zC)) zC)))
   (zD (xX PassesOwn.never rfl (kS (pv 0)) (zR (i := 2) xL.nd rfl (Or.inl rfl)) (zG (zO (i := 1) xL.nd rfl (Or.inl rfl) (zQ wT (pv 1) (yC (zA (zT yH (pv 2) zE (fun _ _ => rfl)) (zA (zT yH (pv 2) zE (fun _ _ => rfl)) zC)))))))
   (zD (xX PassesOwn.never rfl (kS (pv 0)) (zR (i := 2) xL.nd rfl (Or.inl rfl)) (zG (zO (i := 1) xL.nd rfl (Or.inl rfl) (zQ wT (pv 1) (zH C_law_numbers hr rfl (zA (zT yH (pv 2) zE (fun _ _ => rfl)) zC) passN)))))
   (zG (zM (pv 1)))))), ?_⟩
 try dsimp only [Cx.nox, Cx.exc, Cx.wish, zU]
 refine ⟨_, rfl, l, _, rfl, .inl (SqL.of el), small (show 1 <= 1000 by decide), fun l0 a0 => ?_⟩
 have g0 := zF a0 (.lst [.int (rs.length : Int)])
 refine ⟨_, rfl, l, rfl, ⟨_, SqL.of (g0 _ _ el)⟩, kP (xs := rs) (fun i σ' H' => ∃ (l1 : Addr) (v2 : Option V), σ' = [some (.ref l), some (.ref l1), v2] /\ Same H H' /\ H l1 = none /\ H' l1 = some (.lst (((fs.length : Int) :: headsW (fs.take i)).map V.int))) ⟨l0, none, rfl, g0, a0, by rw [zB, lrs] <;> rfl⟩ ?_ ?_ ?_⟩
 ·rintro i σ' H' _ ⟨l1, v2, _, g, _⟩
  exact SqL.of (g _ _ el)
 ·rintro i x σ' H' hx ⟨l1, v2, rfl, g, hl, el1⟩
  obtain ⟨fi, hfi, t, b, rfl, et, tr⟩ := Paired.yonder pf hx
  have et1 : fs.take (i + 1) = fs.take i ++ [fi] := by rw [List.take_succ, hfi] <;> rfl
  have eh : headsW (fs.take (i + 1)) = headsW (fs.take i) ++ [fi.1.1, fi.1.2] := by
   rw [et1]
   unfold headsW
   rw [List.flatMap_append] <;> rfl
  have hle : (headsW (fs.take i)).length = 2 * (fs.take i).length := by rw [kO, qR, List.length_map]
  have hle2 : (headsW fs).length = 2 * fs.length := by rw [kO, qR, List.length_map]
  have hi : i < fs.length := (List.getElem?_eq_some_iff.mp hfi).1
  rw [List.length_take] at hle
  refine ⟨_, rfl, _, rfl, t, _, _, _, rfl, rfl, SqT.of (g _ _ et), rfl, _, rfl, t, _, _, _, rfl, rfl, SqT.of (g _ _ et), rfl, small (show 2 <= 1000 by decide), fun z a1 => ?_⟩
  have g1 := zF a1 (.lst [.int fi.1.1, .int fi.1.2])
  refine ⟨l1, z, _, _, rfl, rfl, g1 _ _ el1, zB, by rw [List.length_map, List.length_cons]; show _ + 2 <= _; (first|lia|omega), fun l2 a2 => ?_⟩
  have g2 := zF a2 (.lst (((fs.length : Int) :: headsW (fs.take i)).map V.int ++ [.int fi.1.1, .int fi.1.2]))
  refine ⟨l2, _, rfl, g.trans (g1.trans g2), (g.trans g1).free a2, ?_⟩
  rw [zB, eh]
  show _ = some (HO.lst (List.map V.int (((fs.length : Int) :: headsW (fs.take i)) ++ [fi.1.1, fi.1.2])))
  rw [List.map_append] <;> rfl
 rintro σ' H1 ⟨l1, v2, rfl, g1, hl1, el1⟩
 rw [lrs, List.take_length] at el1
 refine ⟨_, rfl, l, rfl, ⟨_, SqL.of (g1 _ _ el)⟩, kP (xs := rs) (fun i σ' H' => ∃ (l1 : Addr) (v2 : Option V), σ' = [some (.ref l), some (.ref l1), v2] /\ Same H H' /\ H l1 = none /\ H' l1 = some (.lst (((fs.length : Int) :: (headsW fs ++ bodiesW (fs.take i))).map V.int))) ⟨l1, v2, rfl, g1, hl1, by rw [el1, List.take_zero, show bodiesW [] = [] from rfl, List.append_nil]⟩ ?_ ?_ ?_⟩
 ·rintro i σ' H' _ ⟨l1, v2, _, g, _⟩
  exact SqL.of (g _ _ el)
 ·rintro i x σ' H' hx ⟨l1, v2, rfl, g, hl, el1⟩
  obtain ⟨fi, hfi, t, b, rfl, et, tr⟩ := Paired.yonder pf hx
  have et1 : fs.take (i + 1) = fs.take i ++ [fi] := by rw [List.take_succ, hfi] <;> rfl
  have eb : bodiesW (fs.take (i + 1)) = bodiesW (fs.take i) ++ nums fi.2 := by
   rw [et1]
   unfold bodiesW
   rw [List.flatMap_append, List.flatMap_singleton]
  have ed : bodiesW fs = bodiesW (fs.take (i + 1)) ++ bodiesW (fs.drop (i + 1)) := by
   conv => lhs; rw [<- List.take_append_drop (i + 1) fs]
   unfold bodiesW
   rw [List.flatMap_append]
  have le : (bodiesW fs).length = (bodiesW (fs.take i)).length + (nums fi.2).length + (bodiesW (fs.drop (i + 1))).length := by
   rw [ed, eb, List.length_append, List.length_append]
  refine ⟨_, rfl, _, rfl, t, _, _, _, rfl, rfl, SqT.of (g _ _ et), rfl, b, fi.2, rfl, tr.same g, by (first|lia|omega), fun l2 H2 g2 hl2 el2 => ?_⟩
  refine ⟨l1, l2, _, _, rfl, rfl, g2 _ _ el1, el2, by rw [List.length_map, List.length_map, List.length_cons, List.length_append]; (first|lia|omega), fun l3 a3 => ?_⟩
  have g3 := zF a3 (.lst (((fs.length : Int) :: (headsW fs ++ bodiesW (fs.take i))).map V.int ++ (nums fi.2).map V.int))
  refine ⟨l3, _, rfl, g.trans (g2.trans g3), (g.trans g2).free a3, ?_⟩
  rw [zB, eb, <- List.map_append]
  show some (HO.lst (List.map V.int ((fs.length : Int) :: (headsW fs ++ bodiesW (fs.take i) ++ nums fi.2)))) = _
  rw [List.append_assoc]
 ·rintro σ' H' ⟨l1, v2, rfl, g, hl, el1⟩
  rw [lrs, List.take_length] at el1
  exact ⟨_, rfl, q l1 H' g hl el1⟩

end
section
variable {P : Program} {w : World} {K : PySem.W.Frag} {mg : Str -> Option Value} {base : Heap} {f : Addr} {fd : FuncData} {aP CL CN CW CF : Addr}
set_option maxHeartbeats 4000000

theorem ok_leafT (T : TxtD K mg) (F : Fun K "_law_leaf" "_law_leaf" jS f fd) (C_law_take : Cal P w K mg base (CXE P w) 2 "_law_take" ["_law_state", "_law_most"] (spTakeD K)) (C_law_number : Cal P w K mg base (CXE P w) 3 "_law_number" ["_law_state"] (spIntD K fun r => r.natAbs <= 10 ^ 60)) : FnOk P w K mg base (CXE P w) 4 f fd ["_law_state", "_law_own"] (spLeafT K) := by
 refine F.okN sc__law_leaf (fun vs H Q E h => ?_) (fun cdv A outer s H vs Q E hr h => ?_)
 ·obtain ⟨st, ow, hd, hs, bx, room, lo, ca, rfl, _⟩ := h
  rfl
 obtain ⟨st, ow, hd, hs, bx, room, lo, ca, rfl, D, b0, b12, r0, q⟩ := h
 refine ⟨_, (zD (zO (i := 2) sc__law_leaf.nd rfl (Or.inl rfl) (yZ (jV hr) (pv 1) zZ (fun _ _ => rfl)))
   (zD (zS (PW.pt (pw_and (zJ op_gt (pv 2) zE (nomark _)) (pw_and1 (zJ yB (zH C_law_take hr rfl (zA (pv 0) (zA zE zC)) passN) zE (nomark _))))) (zG (zM (zL (zA zE (zA (zL (zA (zH C_law_take hr rfl (zA (pv 0) (zA (pv 2) zC)) passN) zC)) (zA (zL zC) zC)))))) zN)
   (zG (zM (zL (zA zE (zA (zL (zA (zH C_law_number hr rfl (zA (pv 0) zC) passN) zC)) (zA (zL zC) zC)))))))), ?_⟩
 try dsimp only [Cx.nox, Cx.exc, Cx.wish, zU]
 refine ⟨_, rfl, ow, _, rfl, qO D.own, ?_⟩
 have fin : ∀ (k x : Int) (H1 : Hp), MvO st ow H H1 -> DrO K st ow hd hs bx lo ca H1 room -> Vb x -> (k = 0 \/ k = 1 /\ 0 <= x /\ x < bx) -> ∀ o, H1 o = none -> ∀ e, upd H1 o (.tup [.int x]) e = none -> ∀ t, upd (upd H1 o (.tup [.int x])) e (.tup []) t = none -> Q (.ref t) (upd (upd (upd H1 o (.tup [.int x])) e (.tup [])) t (.tup [.int k, .ref o, .ref e])) := fun k x H1 m d vx hk o ho e he t ht => by
  have g1 := zF ho (.tup [.int x])
  have g2 := zF he (.tup [])
  have g3 := zF ht (.tup [.int k, .ref o, .ref e])
  have gg := g1.trans (g2.trans g3)
  refine q (.ref t) (.mk k [x] []) _ (m.trans (MvO.same gg)) (d.same gg) ⟨⟨t, o, e, [], rfl, zB, (g2.trans g3) _ _ zB, g3 _ _ zB, .nil⟩, ?_, r0, Int.le_refl _, by show ((1 : Nat) : Int) + _ <= _; (first|lia|omega)⟩
  unfold FitT
  rcases hk with rfl | ⟨rfl, x0, x1⟩
  ·exact ⟨by decide, by decide, .inl ⟨rfl, x, rfl⟩, rfl, fun v hv => by rw [List.mem_singleton.mp hv]; exact vx, by unfold FitTs; trivial⟩
  ·exact ⟨by decide, by decide, .inr (.inl ⟨.inl rfl, x, rfl, x0, by (first|lia|omega)⟩), rfl, fun v hv => by rw [List.mem_singleton.mp hv]; exact vx, by unfold FitTs; trivial⟩
 have rest : ∀ (H1 : Hp), MvO st ow H H1 -> DrO K st ow hd hs bx lo ca H1 room -> ∀ {σ' : St}, σ' = [some (.ref st), some (.ref ow), some (.int bx)] -> tRet (tTup (tCons (tC (V.int 0)) (tCons (tTup (tCons (tCall (spIntD K fun r => r.natAbs <= 10 ^ 60) [] E0 (tCons (tVar 0) tNil)) tNil)) (tCons (tTup tNil) tNil)))) { nx := fun x H' => Q V.non H', rt := Q } σ' H1 := fun H1 m d {σ'} es => by
  subst es
  refine ⟨_, rfl, st, rfl, d.dr, fun x H2 hx d2 => ⟨small (show 1 <= 1000 by decide), fun o ho => ⟨small (show 0 <= 1000 by decide), fun e he => ⟨small (show 3 <= 1000 by decide), fun t ht => ?_⟩⟩⟩⟩
  exact fin 0 x H2 (m.trans (MvO.drawn d.dr d2)) (d.drawn d2) (Nat.lt_of_le_of_lt hx (by decide +kernel)) (.inl rfl) o ho e he t ht
 refine ⟨_, rfl, _, _, rfl, rfl, _, rfl, ite2 (fun c => ?_) (fun c => iteF ?_)⟩
 ·have c' := of_decide_eq_true c
  refine ⟨_, rfl, st, 2, rfl, by decide, by decide, D.dr, fun x H1 x0 x1 d1 => ⟨rfl, _, rfl, ite2 (fun c2 => ?_) (fun c2 => ?_)⟩⟩
  ·refine ⟨_, rfl, _, rfl, st, bx, rfl, c', by (first|lia|omega), d1.draw, fun y H2 y0 y1 d2 => ⟨small (show 1 <= 1000 by decide), fun o ho => ⟨small (show 0 <= 1000 by decide), fun e he => ⟨small (show 3 <= 1000 by decide), fun t ht => ?_⟩⟩⟩⟩
   have d12 := d1.trans d2
   exact fin 1 y H2 (MvO.drawn D.dr d12) (D.drawn d12) (Vb.small (by (first|lia|omega))) (.inr ⟨rfl, y0, y1⟩) o ho e he t ht
  ·exact rest H1 (MvO.drawn D.dr d1) (D.drawn d1) rfl
 ·exact rest H MvO.refl D rfl
def spPartsT (K : PySem.W.Frag) (d : Nat) : Sp := fun vs H Q _ => ∃ (st ow hd : Addr) (hs : Hds) (bx room deep : Int) (lo ca : Bool) (m : Nat), vs = [.ref st, .ref ow, .int deep, .int (m : Int)] /\ DrO K st ow hd hs bx lo ca H room /\ HdsGood hs /\ 0 <= bx /\ bx <= 12 /\ 0 <= room /\ room <= 14 /\ deep - 1 <= (d : Int) /\ 1 <= d /\ m <= 13 /\
 ∀ q vs ts room' H', MvO st ow H H' -> DrO K st ow hd hs bx lo ca H' room' -> H' q = some (.tup vs) -> Paired (Tr3 H' d) vs ts -> FitTs hs bx d ts -> ts.length = m -> 0 <= room' -> room' <= room -> (szTs ts : Int) + 14 * room' <= m + 14 * room -> Q (.ref q) H'
theorem fitTs_snoc {hs : Hds} {b : Int} {d : Nat} {t : Tr} : ∀ {ts : List Tr}, FitTs hs b d ts -> FitT hs b d t -> FitTs hs b d (ts ++ [t])
 | [], _, h => by
  show FitTs hs b d [t]
  unfold FitTs
  exact ⟨h, by unfold FitTs; trivial⟩
 | a :: r, f, h => by
  unfold FitTs at f
  show FitTs hs b d (a :: (r ++ [t]))
  unfold FitTs
  exact ⟨f.1, fitTs_snoc f.2 h⟩
theorem szTs_snoc {t : Tr} : ∀ ts : List Tr, szTs (ts ++ [t]) = szTs ts + szT t
 | [] => by show szT t + 0 = 0 + szT t; (first|lia|omega)
 | a :: r => by
  show szT a + szTs (r ++ [t]) = szT a + szTs r + szT t
  rw [szTs_snoc r]; (first|lia|omega)
theorem ok_partsT (d k : Nat) (hk : 3 <= k) (T : TxtD K mg) (F : Fun K "_law_parts" "_law_parts" xI f fd) (C_law_node : Cal P w K mg base (CXE P w) k "_law_node" ["_law_state", "_law_own", "_law_deep"] (spDrawT K d)) : FnOk P w K mg base (CXE P w) (k + 1) f fd ["_law_state", "_law_own", "_law_deep", "_law_many"] (spPartsT K d) := by
 refine F.okN qD (fun vs H Q E h => ?_) (fun cdv A outer s H vs Q E hr h => ?_)
 ·obtain ⟨st, ow, hd, hs, bx, room, deep, lo, ca, m, rfl, _⟩ := h
  rfl
 obtain ⟨st, ow, hd, hs, bx, room, deep, lo, ca, m, rfl, D, hg, b0, b12, r0, r14, dd, d1, m13, q⟩ := h
 refine ⟨_, (zD (zO (i := 4) qD.nd rfl (Or.inl rfl) (yC zC))
   (zD (xX PassesOwn.never rfl (qM rfl T.n_range (zA (pv 3) zC)) (zR (i := 5) qD.nd rfl (Or.inl rfl)) (zG (yG (jZ PySem.F.plainAttrs_list PySem.F.slot_list_append PySem.F.type_list_append yJ (pv 4) (zA (zH C_law_node hr rfl (zA (pv 0) (zA (pv 1) (zA (zQ xG (pv 2) zE) zC))) passN) zC)))))
   (zG (zM (kX qI rfl T.n_tuple bt_tuple (zA (pv 4) zC)))))), ?_⟩
 try dsimp only [Cx.nox, Cx.exc, Cx.wish, zU]
 refine ⟨small (show 0 <= 1000 by decide), fun l hl => ?_⟩
 have g0 := zF hl (.lst [])
 refine ⟨_, rfl, _, rfl, by (first|lia|omega), by (first|lia|omega), kY (lo := 0) (n := (m : Int).toNat) (fun i σ' H' => ∃ (vs : List V) (ts : List Tr) (room' : Int) (v5 : Option V), σ' = [some (.ref st), some (.ref ow), some (.int deep), some (.int (m : Int)), some (.ref l), v5] /\ MvO st ow H H' /\ DrO K st ow hd hs bx lo ca H' room' /\ H' l = some (.lst vs) /\ Paired (Tr3 H' d) vs ts /\ FitTs hs bx d ts /\ ts.length = i /\ 0 <= room' /\ room' <= room /\ (szTs ts : Int) + 14 * room' <= i + 14 * room) ⟨[], [], room, none, rfl, MvO.same g0, D.same g0, zB, .nil, by unfold FitTs; trivial, rfl, r0, Int.le_refl _, by show ((0 : Nat) : Int) + _ <= _; (first|lia|omega)⟩ ?_ ?_⟩
 ·rintro i σ' H1 hi ⟨vs, ts, room1, v5, rfl, m1, D1, el, pp, ft, lt, r01, r11, sz⟩
  have lvs := Paired.len pp
  refine ⟨_, rfl, .inl ⟨rfl, _, SqL.of el⟩, _, rfl, _, rfl, _, rfl, _, _, rfl, rfl, st, ow, hd, hs, bx, room1, deep - 1, lo, ca, rfl, D1, hg, b0, b12, r01, by (first|lia|omega), dd, d1, fun v t room2 H2 m2 D2 dr => ?_⟩
  have el2 := m2.lst D1 el
  refine ⟨l, _, _, rfl, rfl, el2, small1000 (by (first|lia|omega)), ?_⟩
  have tp := m2.tups D1
  have kp : Tups H2 (upd H2 l (.lst (vs ++ [v]))) := fun b xs e => by rw [zK (fun z => by rw [z, el2] at e; cases e)]; exact e
  have ml : MvO st ow H (upd H2 l (.lst (vs ++ [v]))) := ⟨fun b o n e => by rw [zK (zI e hl)]; exact (m1.trans m2).keep b o n e, fun a h => (m1.trans m2).live a (yK h).2⟩
  have hw : ow ≠ l := fun z => by have := D2.own; rw [z, el2] at this; cases this
  have D3 : DrO K st ow hd hs bx lo ca (upd H2 l (.lst (vs ++ [v]))) room2 := by
   refine ⟨D2.dr.put el2, by rw [zK hw]; exact D2.own, ?_, D2.ne⟩
   obtain ⟨rs, e, p⟩ := D2.heads
   have nd : hd ≠ l := fun z => by
    obtain ⟨rs0, e0, _⟩ := D.heads
    rw [z, hl] at e0; cases e0
   exact ⟨rs, by rw [zK nd]; exact e, Paired.imp (fun _ _ ⟨t, a, q⟩ => ⟨t, a, kp _ _ q⟩) p⟩
  refine ⟨vs ++ [v], ts ++ [t], room2, _, rfl, ml, D3, zB, Paired.append (Paired.imp (fun _ _ x => (x.tups tp).tups kp) pp) (.cons (dr.at_.tups kp) .nil), fitTs_snoc ft dr.fit, by rw [List.length_append, lt] <;> rfl, dr.r0, by have := dr.r1; (first|lia|omega), ?_⟩
  have := dr.sz
  rw [szTs_snoc]
  (first|lia|omega)
 ·rintro σ' H1 ⟨vs, ts, room1, v5, rfl, m1, D1, el, pp, ft, lt, r01, r11, sz⟩
  refine ⟨_, rfl, l, _, rfl, .inl ⟨SqL.of el, fun p hp => ?_⟩⟩
  have g1 := zF hp (.tup vs)
  exact q p vs ts room1 _ (m1.trans (MvO.same g1)) (D1.same g1) zB (Paired.imp (fun _ _ x => x.same g1) pp) ft (by (first|lia|omega)) r01 r11 (by (first|lia|omega))
theorem numT {K : PySem.W.Frag} {st ow hd : Addr} {hs : Hds} {bx room : Int} {lo ca : Bool} {H H1 : Hp} {d : Nat} {x : Int} {o e t : Addr} (m : MvO st ow H H1) (D : DrO K st ow hd hs bx lo ca H1 room) (hx : Vb x) (ho : H1 o = none) (he : upd H1 o (.tup [.int x]) e = none) (ht : upd (upd H1 o (.tup [.int x])) e (.tup []) t = none) (r0 : 0 <= room) :
  ∃ H', H' = upd (upd (upd H1 o (.tup [.int x])) e (.tup [])) t (.tup [.int 0, .ref o, .ref e]) /\ MvO st ow H H' /\ DrO K st ow hd hs bx lo ca H' room /\ Drw hs bx H' (d + 1) room room (.ref t) (.mk 0 [x] []) := by
 have g1 := zF ho (.tup [.int x])
 have g2 := zF he (.tup [])
 have g3 := zF ht (.tup [.int 0, .ref o, .ref e])
 have gg := g1.trans (g2.trans g3)
 refine ⟨_, rfl, m.trans (MvO.same gg), D.same gg, ⟨t, o, e, [], rfl, zB, (g2.trans g3) _ _ zB, g3 _ _ zB, .nil⟩, ?_, r0, Int.le_refl _, by show ((1 : Nat) : Int) + _ <= _; (first|lia|omega)⟩
 unfold FitT
 exact ⟨by decide, by decide, .inl ⟨rfl, x, rfl⟩, rfl, fun v hv => by rw [List.mem_singleton.mp hv]; exact hx, by unfold FitTs; trivial⟩
def spRowPT (K : PySem.W.Frag) (d : Nat) : Sp := fun vs H Q _ => ∃ (st ow hd : Addr) (hs : Hds) (bx room deep : Int) (lo ca : Bool), vs = [.ref st, .ref ow, .int deep] /\ DrO K st ow hd hs bx lo ca H room /\ HdsGood hs /\ 0 <= bx /\ bx <= 12 /\ 0 <= room /\ room <= 14 /\ deep - 1 <= (d : Int) /\ 1 <= d /\
 ∀ v t room' H', MvO st ow H H' -> DrO K st ow hd hs bx lo ca H' room' -> Drw hs bx H' d room room' v t -> Q v H'
theorem ok_rowPT (d k : Nat) (hk : 3 <= k) (T : TxtD K mg) (F : Fun K "_law_row_part" "_law_row_part" yP f fd) (C_law_take : Cal P w K mg base (CXE P w) 2 "_law_take" ["_law_state", "_law_most"] (spTakeD K)) (C_law_node : Cal P w K mg base (CXE P w) k "_law_node" ["_law_state", "_law_own", "_law_deep"] (spDrawT K d)) : FnOk P w K mg base (CXE P w) (k + 1) f fd ["_law_state", "_law_own", "_law_deep"] (spRowPT K d) := by
 refine F.okN sc__law_row_part (fun vs H Q E h => ?_) (fun cdv A outer s H vs Q E hr h => ?_)
 ·obtain ⟨st, ow, hd, hs, bx, room, deep, lo, ca, rfl, _⟩ := h
  rfl
 obtain ⟨st, ow, hd, hs, bx, room, deep, lo, ca, rfl, D, hg, b0, b12, r0, r14, dd, d1, q⟩ := h
 obtain ⟨d', rfl⟩ : ∃ d', d = d' + 1 := ⟨d - 1, by (first|lia|omega)⟩
 refine ⟨_, (zD (zS (zJ op_gt (zH C_law_take hr rfl (zA (pv 0) (zA zE zC)) passN) zE (nomark _)) (zG (zM (zL (zA zE (zA (zL (zA (zT zX (yC (yA (.int (.int (.int (.int (.int (.int .nil)))))))) (zH C_law_take hr rfl (zA (pv 0) (zA zE zC)) passN) (fun _ _ => rfl)) zC)) (zA (zL zC) zC)))))) zN)
   (zG (zM (zH C_law_node hr rfl (zA (pv 0) (zA (pv 1) (zA (zQ xG (pv 2) zE) zC))) passN)))), ?_⟩
 try dsimp only [Cx.nox, Cx.exc, Cx.wish, zU]
 refine ⟨_, rfl, st, 8, rfl, by decide, by decide, D.dr, fun x H1 x0 x1 e1 => ?_⟩
 have m1 := MvO.drawn (ow := ow) D.dr e1
 have D1 := D.drawn e1
 refine ⟨_, _, rfl, rfl, _, rfl, ite2 (fun c => ?_) (fun c => ?_)⟩
 ·refine ⟨small (show 6 <= 1000 by decide), fun l hl => ?_⟩
  have g1 := zF hl (.lst ([(0 : Int), 1, 1, 1, 0, 2].map V.int))
  have D2 := D1.same g1
  refine ⟨_, rfl, st, 6, rfl, by decide, by decide, D2.dr, fun y H2 y0 y1 e2 => ?_⟩
  have m2 := m1.trans ((MvO.same g1).trans (MvO.drawn (ow := ow) D2.dr e2))
  have D3 := D2.drawn e2
  have el : H2 l = some (.lst ([(0 : Int), 1, 1, 1, 0, 2].map V.int)) := (MvO.drawn (ow := ow) D2.dr e2).lst D2 zB
  obtain ⟨v, vm, hv⟩ := kK (ns := [(0 : Int), 1, 1, 1, 0, 2]) y0 y1
  have vb : Vb v := by
   have : ∀ z ∈ [(0 : Int), 1, 1, 1, 0, 2], z.natAbs <= 100000 := by decide
   exact Vb.small (this v vm)
  refine ⟨l, _, _, _, rfl, rfl, SqL.of el, hv, small (show 1 <= 1000 by decide), fun o ho => ⟨small (show 0 <= 1000 by decide), fun e he => ⟨small (show 3 <= 1000 by decide), fun t ht => ?_⟩⟩⟩
  obtain ⟨H', e', m', D', dr⟩ := numT (d := d') m2 D3 vb ho he ht r0
  subst e'
  exact q _ _ _ _ m' D' dr
 ·refine ⟨_, rfl, _, rfl, _, rfl, _, _, rfl, rfl, st, ow, hd, hs, bx, room, deep - 1, lo, ca, rfl, D1, hg, b0, b12, r0, r14, dd, d1, fun v t room' H' m' D' dr => q v t room' H' (m1.trans m') D' dr⟩
theorem ok_placePT (d k : Nat) (hk : 3 <= k) (T : TxtD K mg) (F : Fun K "_law_place_part" "_law_place_part" yI f fd) (C_law_take : Cal P w K mg base (CXE P w) 2 "_law_take" ["_law_state", "_law_most"] (spTakeD K)) (C_law_node : Cal P w K mg base (CXE P w) k "_law_node" ["_law_state", "_law_own", "_law_deep"] (spDrawT K d)) : FnOk P w K mg base (CXE P w) (k + 1) f fd ["_law_state", "_law_own", "_law_deep"] (spRowPT K d) := by
 refine F.okN wQ (fun vs H Q E h => ?_) (fun cdv A outer s H vs Q E hr h => ?_)
 ·obtain ⟨st, ow, hd, hs, bx, room, deep, lo, ca, rfl, _⟩ := h
  rfl
 obtain ⟨st, ow, hd, hs, bx, room, deep, lo, ca, rfl, D, hg, b0, b12, r0, r14, dd, d1, q⟩ := h
 obtain ⟨d', rfl⟩ : ∃ d', d = d' + 1 := ⟨d - 1, by (first|lia|omega)⟩
 refine ⟨_, (zD (zS (zJ op_gt (zH C_law_take hr rfl (zA (pv 0) (zA zE zC)) passN) zE (nomark _)) (zG (zM (zL (zA zE (zA (zL (zA (zT zX (yC (yA (.int (.int (.int (.int .nil)))))) (zH C_law_take hr rfl (zA (pv 0) (zA zE zC)) passN) (fun _ _ => rfl)) zC)) (zA (zL zC) zC)))))) zN)
   (zG (zM (zH C_law_node hr rfl (zA (pv 0) (zA (pv 1) (zA (zQ xG (pv 2) zE) zC))) passN)))), ?_⟩
 try dsimp only [Cx.nox, Cx.exc, Cx.wish, zU]
 refine ⟨_, rfl, st, 4, rfl, by decide, by decide, D.dr, fun x H1 x0 x1 e1 => ?_⟩
 have m1 := MvO.drawn (ow := ow) D.dr e1
 have D1 := D.drawn e1
 refine ⟨_, _, rfl, rfl, _, rfl, ite2 (fun c => ?_) (fun c => ?_)⟩
 ·refine ⟨small (show 4 <= 1000 by decide), fun l hl => ?_⟩
  have g1 := zF hl (.lst ([(0 : Int), 0, 1, 2].map V.int))
  have D2 := D1.same g1
  refine ⟨_, rfl, st, 4, rfl, by decide, by decide, D2.dr, fun y H2 y0 y1 e2 => ?_⟩
  have m2 := m1.trans ((MvO.same g1).trans (MvO.drawn (ow := ow) D2.dr e2))
  have D3 := D2.drawn e2
  have el : H2 l = some (.lst ([(0 : Int), 0, 1, 2].map V.int)) := (MvO.drawn (ow := ow) D2.dr e2).lst D2 zB
  obtain ⟨v, vm, hv⟩ := kK (ns := [(0 : Int), 0, 1, 2]) y0 y1
  have vb : Vb v := by
   have : ∀ z ∈ [(0 : Int), 0, 1, 2], z.natAbs <= 100000 := by decide
   exact Vb.small (this v vm)
  refine ⟨l, _, _, _, rfl, rfl, SqL.of el, hv, small (show 1 <= 1000 by decide), fun o ho => ⟨small (show 0 <= 1000 by decide), fun e he => ⟨small (show 3 <= 1000 by decide), fun t ht => ?_⟩⟩⟩
  obtain ⟨H', e', m', D', dr⟩ := numT (d := d') m2 D3 vb ho he ht r0
  subst e'
  exact q _ _ _ _ m' D' dr
 ·refine ⟨_, rfl, _, rfl, _, rfl, _, _, rfl, rfl, st, ow, hd, hs, bx, room, deep - 1, lo, ca, rfl, D1, hg, b0, b12, r0, r14, dd, d1, fun v t room' H' m' D' dr => q v t room' H' (m1.trans m') D' dr⟩

end
section
variable {P : Program} {w : World} {K : PySem.W.Frag} {mg : Str -> Option Value} {base : Heap} {f : Addr} {fd : FuncData} {aP CL CN CW CF : Addr}
set_option maxHeartbeats 4000000

structure DrwI (hs : Hds) (bx : Int) (H : Hp) (d : Nat) (room room' : Int) (v : V) (t : Tr) : Prop where
 at_ : Tr3 H d v t
 fit : FitT hs bx d t
 r0 : 0 <= room'
 r1 : room' <= room
 sz : (szT t : Int) + 14 * room' <= 14 + 14 * room
def spInnT (K : PySem.W.Frag) (d : Nat) : Sp := fun vs H Q _ => ∃ (st ow hd : Addr) (hs : Hds) (bx room deep : Int) (lo ca : Bool), vs = [.ref st, .ref ow, .int deep] /\ DrO K st ow hd hs bx lo ca H room /\ HdsGood hs /\ 0 <= bx /\ bx <= 12 /\ 0 <= room /\ room <= 14 /\ deep - 1 <= (d : Int) /\ 1 <= d /\
 ∀ v t room' H', MvO st ow H H' -> DrO K st ow hd hs bx lo ca H' room' -> DrwI hs bx H' (d + 1) room room' v t -> Q v H'
theorem ok_callT (d k : Nat) (hk : 3 <= k) (T : TxtD K mg) (F : Fun K "_law_call" "_law_call" xW f fd) (C_law_take : Cal P w K mg base (CXE P w) 2 "_law_take" ["_law_state", "_law_most"] (spTakeD K)) (C_law_parts : Cal P w K mg base (CXE P w) k "_law_parts" ["_law_state", "_law_own", "_law_deep", "_law_many"] (spPartsT K d)) : FnOk P w K mg base (CXE P w) (k + 1) f fd ["_law_state", "_law_own", "_law_deep"] (spInnT K d) := by
 refine F.okN sc__law_call (fun vs H Q E h => ?_) (fun cdv A outer s H vs Q E hr h => ?_)
 ·obtain ⟨st, ow, hd, hs, bx, room, deep, lo, ca, rfl, _⟩ := h
  rfl
 obtain ⟨st, ow, hd, hs, bx, room, deep, lo, ca, rfl, D, hg, b0, b12, r0, r14, dd, d1, q⟩ := h
 refine ⟨_, (zD (zO (i := 3) sc__law_call.nd rfl (Or.inl rfl) (zH C_law_take hr rfl (zA (pv 0) (zA (yD zY rfl T.n_len xY (zA (yZ (jV hr) (pv 1) zZ (fun _ _ => rfl)) zC)) zC)) passN))
   (zG (zM (zL (zA zE (zA (zL (zA (pv 3) zC)) (zA (zH C_law_parts hr rfl (zA (pv 0) (zA (pv 1) (zA (pv 2) (zA (zT yH (zT zX (yZ (jV hr) (pv 1) zZ (fun _ _ => rfl)) (pv 3) (fun _ _ => rfl)) zE (fun _ _ => rfl)) zC)))) passN) zC))))))), ?_⟩
 try dsimp only [Cx.nox, Cx.exc, Cx.wish, zU]
 obtain ⟨rv, erv, prv⟩ := id D.heads
 have lrv := Paired.len prv
 have g1 := hg.lo
 have g2 := hg.hi
 refine ⟨_, rfl, _, rfl, ow, _, rfl, owD_heads D.own, hd, _, rfl, .inl (SqL.of erv), st, _, rfl, by (first|lia|omega), by (first|lia|omega), D.dr, fun x H1 x0 x1 e1 => ?_⟩
 have m1 := MvO.drawn (ow := ow) D.dr e1
 have D1 := D.drawn e1
 refine ⟨_, rfl, small (show 1 <= 1000 by decide), fun o ho => ?_⟩
 have s1 := zF ho (.tup [.int x])
 have D2 := D1.same s1
 have m2 := m1.trans (MvO.same s1)
 obtain ⟨rv2, erv2, prv2⟩ := id D2.heads
 have lrv2 := Paired.len prv2
 have hx : x.toNat < rv2.length := by (first|lia|omega)
 obtain ⟨h0, hh0, th, eth, hth⟩ := Paired.yonder prv2 (List.getElem?_eq_getElem hx)
 have hgh := hg.all _ _ hh0
 have atx : atI rv2 x = some (.ref th) := qJ x0 (by rw [List.getElem?_eq_getElem hx, eth])
 have h0n : h0.1 = ((h0.1.toNat : Nat) : Int) := by (first|lia|omega)
 refine ⟨_, rfl, _, rfl, _, rfl, _, rfl, ow, _, rfl, owD_heads D2.own, _, rfl, hd, _, _, _, rfl, rfl, SqL.of erv2, atx, th, _, _, _, rfl, rfl, SqT.of hth, rfl, st, ow, hd, hs, bx, room, deep, lo, ca, h0.1.toNat, by rw [<- h0n] <;> rfl, D2, hg, b0, b12, r0, r14, dd, d1, by (first|lia|omega), fun pt vs ts room' H3 m3 D3 ept pp ft lt rr0 rr1 sz => ?_⟩
 refine ⟨small (show 3 <= 1000 by decide), fun t ht => ?_⟩
 have s4 := zF ht (.tup [.int 6, .ref o, .ref pt])
 have eo := s4 _ _ (m3.tups D2 _ _ zB)
 refine q (.ref t) (.mk 6 [x] ts) room' _ (m2.trans (m3.trans (MvO.same s4))) (D3.same s4) ⟨⟨t, o, pt, vs, rfl, zB, eo, s4 _ _ ept, Paired.imp (fun _ _ z => z.same s4) pp⟩, ?_, rr0, rr1, ?_⟩
 ·unfold FitT
  refine ⟨by decide, by decide, .inr (.inr (.inr (.inr (.inl ⟨rfl, x, rfl, x0, by (first|lia|omega)⟩)))), ?_, fun v hv => by rw [List.mem_singleton.mp hv]; exact Vb.small (by (first|lia|omega)), ft⟩
  show ts.length = ((hs.getD x.toNat (0, 0)).1).toNat
  rw [List.getD_eq_getElem?_getD, hh0, lt] <;> rfl
 ·show ((1 + szTs ts : Nat) : Int) + 14 * room' <= 14 + 14 * room
  (first|lia|omega)

end
section
variable {P : Program} {w : World} {K : PySem.W.Frag} {mg : Str -> Option Value} {base : Heap} {f : Addr} {fd : FuncData} {aP CL CN CW CF : Addr}
set_option maxHeartbeats 4000000

theorem fitTs_app {hs : Hds} {b : Int} {d : Nat} : ∀ {ts us : List Tr}, FitTs hs b d ts -> FitTs hs b d us -> FitTs hs b d (ts ++ us)
 | [], us, _, h => h
 | a :: r, us, f, h => by
  unfold FitTs at f
  show FitTs hs b d (a :: (r ++ us))
  unfold FitTs
  exact ⟨f.1, fitTs_app f.2 h⟩
theorem szTs_app : ∀ (ts us : List Tr), szTs (ts ++ us) = szTs ts + szTs us
 | [], us => by show szTs us = 0 + szTs us; (first|lia|omega)
 | a :: r, us => by
  show szT a + szTs (r ++ us) = szT a + szTs r + szTs us
  rw [szTs_app r us]; (first|lia|omega)
theorem in1617 {op : Int} : inV (V.int op) [V.int 16, V.int 17] = decide (op = 16 \/ op = 17) := (inV_ints op [16, 17]).trans (decide_eq_decide.mpr (by simp only [List.mem_cons, List.not_mem_nil, or_false]))
theorem ok_ofT (d k : Nat) (hk : 3 <= k) (T : TxtD K mg) (F : Fun K "_law_of_rows" "_law_of_rows" yR f fd) (C_law_take : Cal P w K mg base (CXE P w) 2 "_law_take" ["_law_state", "_law_most"] (spTakeD K)) (C_law_row_part : Cal P w K mg base (CXE P w) k "_law_row_part" ["_law_state", "_law_own", "_law_deep"] (spRowPT K d)) (C_law_place_part : Cal P w K mg base (CXE P w) k "_law_place_part" ["_law_state", "_law_own", "_law_deep"] (spRowPT K d)) (C_law_parts : Cal P w K mg base (CXE P w) k "_law_parts" ["_law_state", "_law_own", "_law_deep", "_law_many"] (spPartsT K d)) : FnOk P w K mg base (CXE P w) (k + 1) f fd ["_law_state", "_law_own", "_law_deep"] (spInnT K d) := by
 refine F.okN jJ (fun vs H Q E h => ?_) (fun cdv A outer s H vs Q E hr h => ?_)
 ·obtain ⟨st, ow, hd, hs, bx, room, deep, lo, ca, rfl, _⟩ := h
  rfl
 obtain ⟨st, ow, hd, hs, bx, room, deep, lo, ca, rfl, D, hg, b0, b12, r0, r14, dd, d1, q⟩ := h
 refine ⟨_, (zD (zO (i := 3) jJ.nd rfl (Or.inl rfl) (zT zX (yC (yA (.int (.int (.int (.int (.int (.int .nil)))))))) (zH C_law_take hr rfl (zA (pv 0) (zA zE zC)) passN) (fun _ _ => rfl)))
   (zD (zS (zJ yB (pv 3) zE (nomark _)) (zG (zM (zL (zA zE (zA (zL zC) (zA (zL zC) zC)))))) zN)
   (zD (zO (i := 4) jJ.nd rfl (Or.inl rfl) (zL (zA (zH C_law_row_part hr rfl (zA (pv 0) (zA (pv 1) (zA (pv 2) zC))) passN) zC)))
   (zD (jX (zS (zJ op_in_seq (pv 3) (zL (yA (.int (.int .nil)))) rfl) (zG (zO (i := 4) jJ.nd rfl (Or.inl rfl) (zQ op_catT (pv 4) (zL (zA (zH C_law_place_part hr rfl (zA (pv 0) (zA (pv 1) (zA (pv 2) zC))) passN) zC))))) zN))
   (zG (zM (zL (zA (pv 3) (zA (zL zC) (zA (zQ op_catT (pv 4) (zH C_law_parts hr rfl (zA (pv 0) (zA (pv 1) (zA (pv 2) (zA (zT zX (yC (yA (.int (.int (.int (.int .nil)))))) (zQ xG (pv 3) zE) (fun _ _ => rfl)) zC)))) passN)) zC)))))))))), ?_⟩
 try dsimp only [Cx.nox, Cx.exc, Cx.wish, zU]
 refine ⟨small (show 6 <= 1000 by decide), fun l hl => ?_⟩
 have g1 := zF hl (.lst ([(15 : Int), 15, 16, 17, 18, 19].map V.int))
 have D1 := D.same g1
 refine ⟨_, rfl, st, 6, rfl, by decide, by decide, D1.dr, fun y H2 y0 y1 e2 => ?_⟩
 have m2 := (MvO.same g1).trans (MvO.drawn (ow := ow) D1.dr e2)
 have D2 := D1.drawn e2
 have el : H2 l = some (.lst ([(15 : Int), 15, 16, 17, 18, 19].map V.int)) := (MvO.drawn (ow := ow) D1.dr e2).lst D1 zB
 obtain ⟨v, vm, hv⟩ := kK (ns := [(15 : Int), 15, 16, 17, 18, 19]) y0 y1
 have v59 : 15 <= v /\ v <= 19 := by
  have : ∀ z ∈ [(15 : Int), 15, 16, 17, 18, 19], 15 <= z /\ z <= 19 := by decide
  exact this v vm
 refine ⟨l, _, _, _, rfl, rfl, SqL.of el, hv, ?_⟩
 refine ⟨_, rfl, rfl, _, rfl, ite2 (fun c => ?_) (fun c => ?_)⟩
 ·refine ⟨small (show 0 <= 1000 by decide), fun o ho => ⟨small (show 0 <= 1000 by decide), fun e he => ⟨small (show 3 <= 1000 by decide), fun t ht => ?_⟩⟩⟩
  have s1 := zF ho (.tup [])
  have s2 := zF he (.tup [])
  have s3 := zF ht (.tup [.int 19, .ref o, .ref e])
  have ss := s1.trans (s2.trans s3)
  refine q (.ref t) (.mk 19 [] []) room _ (m2.trans (MvO.same ss)) (D2.same ss) ⟨⟨t, o, e, [], rfl, zB, (s2.trans s3) _ _ zB, s3 _ _ zB, .nil⟩, ?_, r0, Int.le_refl _, by show ((1 : Nat) : Int) + _ <= _; (first|lia|omega)⟩
  unfold FitT
  exact ⟨by decide, by decide, .inr (.inr (.inr (.inr (.inr ⟨.inr (by decide), rfl⟩)))), rfl, fun v hv => (nomatch hv), by unfold FitTs; trivial⟩
 have c19 := vf c
 refine ⟨_, rfl, _, rfl, _, rfl, st, ow, hd, hs, bx, room, deep, lo, ca, rfl, D2, hg, b0, b12, r0, r14, dd, d1, fun v1 t1 room1 H3 m3 D3 dr1 => ⟨small (show 1 <= 1000 by decide), fun p1 hp1 => ?_⟩⟩
 have s1 := zF hp1 (.tup [v1])
 refine ⟨fun σ' H' => ∃ (pa : Addr) (vs : List V) (ts : List Tr) (room' : Int), σ' = [some (.ref st), some (.ref ow), some (.int deep), some (.int v), some (.ref pa)] /\ MvO st ow H H' /\ DrO K st ow hd hs bx lo ca H' room' /\ H' pa = some (.tup vs) /\ Paired (Tr3 H' d) vs ts /\ FitTs hs bx d ts /\ ts.length = (if v = 16 \/ v = 17 then 2 else 1) /\ 0 <= room' /\ room' <= room /\ (szTs ts : Int) + 14 * room' <= ts.length + 14 * room, ?_, ?_⟩
 ·have m3' := m2.trans (m3.trans (MvO.same s1))
  have D3' := D3.same s1
  have one : FitTs hs bx d [t1] := by
   unfold FitTs
   exact ⟨dr1.fit, by unfold FitTs; trivial⟩
  have sz1 := dr1.sz
  have er1 : szTs [t1] = szT t1 + 0 := rfl
  refine ⟨_, rfl, small (show 2 <= 1000 by decide), fun u hu => ⟨u, _, rfl, .inr (SqT.of zB), rfl, rfl, _, rfl, ?_⟩⟩
  have s2 := zF hu (.tup ([(16 : Int), 17].map V.int))
  have D4 := D3'.same s2
  have m4 := m3'.trans (MvO.same s2)
  by_cases z : v = 16 \/ v = 17
  ·refine iteY (by rw [if_neg (by decide), in1617]; exact decide_eq_true z) ?_
   refine ⟨_, rfl, _, rfl, _, rfl, _, rfl, st, ow, hd, hs, bx, room1, deep, lo, ca, rfl, D4, hg, b0, b12, dr1.r0, by have := dr1.r1; (first|lia|omega), dd, d1, fun v2 t2 room2 H5 m5 D5 dr2 => ⟨small (show 1 <= 1000 by decide), fun p2 hp2 => ?_⟩⟩
   have s5 := zF hp2 (.tup [v2])
   have ep1 : upd H5 p2 (.tup [v2]) p1 = some (.tup [v1]) := s5 _ _ (m5.tups D4 _ _ (s2 _ _ zB))
   refine ⟨p1, p2, [v1], [v2], rfl, rfl, SqT.of ep1, SqT.of zB, fun h => (nomatch h), small (show 2 <= 1000 by decide), fun h => (nomatch h), fun _ p3 hp3 => ?_⟩
   have s6 := zF hp3 (.tup ([v1] ++ [v2]))
   have sz2 := dr2.sz
   have rr := dr2.r1
   have rr1 := dr1.r1
   have er2 : szTs [t1, t2] = szT t1 + (szT t2 + 0) := rfl
   refine ⟨p3, [v1, v2], [t1, t2], room2, rfl, m4.trans (m5.trans (MvO.same (s5.trans s6))), D5.same (s5.trans s6), zB, .cons (((((dr1.at_.same s1).same s2).tups (m5.tups D4)).same s5).same s6) (.cons ((dr2.at_.same s5).same s6) .nil), ?_, by rw [if_pos z] <;> rfl, dr2.r0, by (first|lia|omega), by rw [er2]; show _ <= ((2 : Nat) : Int) + _; (first|lia|omega)⟩
   unfold FitTs
   refine ⟨dr1.fit, ?_⟩
   unfold FitTs
   exact ⟨dr2.fit, by unfold FitTs; trivial⟩
  ·refine iteN (by rw [if_neg (by decide), in1617]; exact decide_eq_false z) ?_
   exact ⟨p1, [v1], [t1], room1, rfl, m4, D4, s2 _ _ zB, .cons ((dr1.at_.same s1).same s2) .nil, one, by rw [if_neg z] <;> rfl, dr1.r0, dr1.r1, by rw [er1]; show _ <= ((1 : Nat) : Int) + _; (first|lia|omega)⟩
 ·rintro σ' H4 ⟨pa, vs, ts, room4, rfl, m4, D4, epa, pp, ft, lt, rr0, rr1, sz⟩
  have fin : ∀ (o pq : Addr) (ws : List V) (us : List Tr) (room' : Int) (H' : Hp), MvO st ow H H' -> DrO K st ow hd hs bx lo ca H' room' -> H' o = some (.tup []) -> H' pq = some (.tup ws) -> Paired (Tr3 H' d) ws us -> FitTs hs bx d us -> us.length = (dueM hs v []).toNat -> 0 <= room' -> room' <= room -> (szTs us : Int) + 14 * room' <= 13 + 14 * room -> ∀ t, H' t = none -> Q (.ref t) (upd H' t (.tup [.int v, .ref o, .ref pq])) := fun o pq ws us room' H' m' D' eo eq pu fu lu q0 q1 qs t ht => by
   have s7 := zF ht (.tup [.int v, .ref o, .ref pq])
   refine q (.ref t) (.mk v [] us) room' _ (m'.trans (MvO.same s7)) (D'.same s7) ⟨⟨t, o, pq, ws, rfl, zB, s7 _ _ eo, s7 _ _ eq, Paired.imp (fun _ _ x => x.same s7) pu⟩, ?_, q0, q1, by show ((1 + szTs us : Nat) : Int) + _ <= _; (first|lia|omega)⟩
   unfold FitT
   exact ⟨by (first|lia|omega), by (first|lia|omega), .inr (.inr (.inr (.inr (.inr ⟨.inr (by (first|lia|omega)), rfl⟩)))), lu, fun x hx => (nomatch hx), fu⟩
  obtain ⟨mm, hm1, hm⟩ : ∃ mm : Nat, mm <= 1 /\ atI ([(1 : Int), 0, 1, 0].map V.int) (v - 15) = some (.int (mm : Int)) /\ (if v = 16 \/ v = 17 then 2 else 1) + mm = (dueM hs v []).toNat := by
   rcases (by (first|lia|omega) : v = 15 \/ v = 16 \/ v = 17 \/ v = 18) with rfl | rfl | rfl | rfl
   ·exact ⟨1, Nat.le_refl _, rfl, rfl⟩
   ·exact ⟨0, Nat.zero_le _, rfl, rfl⟩
   ·exact ⟨1, Nat.le_refl _, rfl, rfl⟩
   ·exact ⟨0, Nat.zero_le _, rfl, rfl⟩
  have lvs := Paired.len pp
  have l12 : 1 <= ts.length /\ ts.length <= 2 := by rw [lt]; split <;> (first|lia|omega)
  refine ⟨_, rfl, small (show 0 <= 1000 by decide), fun o ho => ⟨_, rfl, _, rfl, _, rfl, _, rfl, small (show 4 <= 1000 by decide), fun l2 hl2 => ?_⟩⟩
  have s5 := zF ho (.tup [])
  have s6 := zF hl2 (.lst ([(1 : Int), 0, 1, 0].map V.int))
  have D6 := (D4.same s5).same s6
  have m6 := m4.trans (MvO.same (s5.trans s6))
  refine ⟨_, rfl, _, _, rfl, rfl, l2, _, _, _, rfl, rfl, SqL.of zB, hm.1, st, ow, hd, hs, bx, room4, deep, lo, ca, mm, rfl, D6, hg, b0, b12, rr0, by (first|lia|omega), dd, d1, by (first|lia|omega), fun p2 vs2 ts2 room5 H7 m7 D7 ep2 pp2 ft2 lt2 q0 q1 sz2 => ?_⟩
  have tp := m7.tups D6
  have epa7 := tp _ _ ((s5.trans s6) _ _ epa)
  have eo7 := tp _ _ (s6 _ _ zB)
  have pp7 : Paired (Tr3 H7 d) vs ts := Paired.imp (fun _ _ x => (x.same (s5.trans s6)).tups tp) pp
  have lvs2 := Paired.len pp2
  refine ⟨pa, p2, vs, vs2, rfl, rfl, SqT.of epa7, SqT.of ep2, fun h => by rw [h, List.length_nil] at lvs; (first|lia|omega), small (show vs.length + vs2.length <= 1000 by (first|lia|omega)), fun h => ?_, fun h p3 hp3 => ?_⟩
  ·have z2 : ts2.length = 0 := by rw [<- lvs2, h] <;> rfl
   exact ⟨small (show 3 <= 1000 by decide), fun t ht => fin o pa vs ts room5 H7 (m6.trans m7) D7 eo7 epa7 pp7 ft (by (first|lia|omega)) q0 (by (first|lia|omega)) (by (first|lia|omega)) t ht⟩
  ·have s8 := zF hp3 (.tup (vs ++ vs2))
   exact ⟨small (show 3 <= 1000 by decide), fun t ht => fin o p3 (vs ++ vs2) (ts ++ ts2) room5 _ (m6.trans (m7.trans (MvO.same s8))) (D7.same s8) (s8 _ _ eo7) zB (Paired.append (Paired.imp (fun _ _ x => x.same s8) pp7) (Paired.imp (fun _ _ x => x.same s8) pp2)) (fitTs_app ft ft2) (by rw [List.length_append]; (first|lia|omega)) q0 (by (first|lia|omega)) (by rw [szTs_app]; (first|lia|omega)) t ht⟩

end
section
variable {P : Program} {w : World} {K : PySem.W.Frag} {mg : Str -> Option Value} {base : Heap} {f : Addr} {fd : FuncData} {aP CL CN CW CF : Addr}
set_option maxHeartbeats 4000000

theorem fitTs_up {hs : Hds} {b : Int} {n : Nat} (h : ∀ t, FitT hs b n t -> FitT hs b (n + 1) t) : ∀ {ts : List Tr}, FitTs hs b n ts -> FitTs hs b (n + 1) ts
 | [], _ => by unfold FitTs; trivial
 | a :: r, f => by
  unfold FitTs at f ⊢
  exact ⟨h a f.1, fitTs_up h f.2⟩
theorem fitT_more {hs : Hds} {b : Int} : ∀ (n : Nat) (t : Tr), FitT hs b n t -> FitT hs b (n + 1) t
 | 0, t, f => by unfold FitT at f; exact f.elim
 | n + 1, .mk k own ps, f => by
  unfold FitT at f ⊢
  exact ⟨f.1, f.2.1, f.2.2.1, f.2.2.2.1, f.2.2.2.2.1, fitTs_up (fitT_more n) f.2.2.2.2.2⟩
theorem fitT_up {hs : Hds} {b : Int} {n : Nat} {t : Tr} (f : FitT hs b n t) : ∀ {m : Nat}, n <= m -> FitT hs b m t := fun {m} le => by
 induction le with
 | refl => exact f
 | step _ ih => exact fitT_more _ _ ih
theorem Drw.up {hs : Hds} {bx : Int} {H : Hp} {d e : Nat} {room room' : Int} {v : V} {t : Tr} (h : Drw hs bx H d room room' v t) (le : d <= e) : Drw hs bx H e room room' v t := ⟨h.at_.up le, fitT_up h.fit le, h.r0, h.r1, h.sz⟩
theorem DrwI.pay {hs : Hds} {bx : Int} {H : Hp} {d : Nat} {room room' : Int} {v : V} {t : Tr} (h : DrwI hs bx H d (room - 1) room' v t) : Drw hs bx H d room room' v t := ⟨h.at_, h.fit, h.r0, by have := h.r1; (first|lia|omega), by have := h.sz; (first|lia|omega)⟩
def spRndT (K : PySem.W.Frag) (d : Nat) : Sp := fun vs H Q E => 4 <= d /\ spInnT K d vs H Q E
theorem ok_nodeT (d k : Nat) (hk : 4 <= k) (T : TxtD K mg) (F : Fun K "_law_node" "_law_node" xV f fd) (C_law_take : Cal P w K mg base (CXE P w) 2 "_law_take" ["_law_state", "_law_most"] (spTakeD K)) (C_law_leaf : Cal P w K mg base (CXE P w) 4 "_law_leaf" ["_law_state", "_law_own"] (spLeafT K)) (C_law_parts : Cal P w K mg base (CXE P w) k "_law_parts" ["_law_state", "_law_own", "_law_deep", "_law_many"] (spPartsT K d)) (C_law_round : Cal P w K mg base (CXE P w) k "_law_round" ["_law_state", "_law_own", "_law_deep"] (spRndT K d)) (C_law_call : Cal P w K mg base (CXE P w) k "_law_call" ["_law_state", "_law_own", "_law_deep"] (spInnT K d)) (C_law_of_rows : Cal P w K mg base (CXE P w) k "_law_of_rows" ["_law_state", "_law_own", "_law_deep"] (spInnT K d)) : FnOk P w K mg base (CXE P w) (k + 1) f fd ["_law_state", "_law_own", "_law_deep"] (spDrawT K (d + 1)) := by
 refine F.okN kR (fun vs H Q E h => ?_) (fun cdv A outer s H vs Q E hr h => ?_)
 ·obtain ⟨st, ow, hd, hs, bx, room, deep, lo, ca, rfl, _⟩ := h
  rfl
 obtain ⟨st, ow, hd, hs, bx, room, deep, lo, ca, rfl, D, hg, b0, b12, r0, r14, dd, d1, q⟩ := h
 refine ⟨_, (zD (zO (i := 3) kR.nd rfl (Or.inl rfl) (zH C_law_take hr rfl (zA (pv 0) (zA zE zC)) passN))
   (zD (jX (zS (PW.pt (qX (zJ qZ (pv 2) zE (nomark _)) (qX (zJ qZ (yZ (jV hr) (pv 1) zZ (fun _ _ => rfl)) zE (nomark _)) (qA (zJ qZ (pv 3) zE (nomark _)))))) (zG (zM (zH C_law_leaf hr rfl (zA (pv 0) (zA (pv 1) zC)) passN))) zN))
   (zD (ps_dput (jV hr) (pv 1) zZ (zQ xG (yZ (jV hr) (pv 1) zZ (fun _ _ => rfl)) zE) rfl)
   (zD (jX (zS (PW.pt (pw_and (zJ yB (pv 3) zE (nomark _)) (pw_and1 (zJ op_gt (yZ (jV hr) (pv 1) zZ (fun _ _ => rfl)) zE (nomark _))))) (zG (zM (zL (zA zE (zA (zL (zA (zH C_law_take hr rfl (zA (pv 0) (zA (yZ (jV hr) (pv 1) zZ (fun _ _ => rfl)) zC)) passN) zC)) (zA (zH C_law_parts hr rfl (zA (pv 0) (zA (pv 1) (zA (pv 2) (zA zE zC)))) passN) zC)))))) zN))
   (zD (jX (zS (zJ qZ (pv 3) zE (nomark _)) (zD (zO (i := 4) kR.nd rfl (Or.inl rfl) (zT zX (yC (yA (.int (.int (.int (.int (.int (.int .nil)))))))) (zH C_law_take hr rfl (zA (pv 0) (zA zE zC)) passN) (fun _ _ => rfl)))
   (zG (zM (zL (zA zE (zA (zL (zA (pv 4) zC)) (zA (zH C_law_parts hr rfl (zA (pv 0) (zA (pv 1) (zA (pv 2) (zA (pv 4) zC)))) passN) zC))))))) zN))
   (zD (jX (zS (zJ yB (pv 3) zE (nomark _)) (zD (zO (i := 4) kR.nd rfl (Or.inl rfl) (zT zX (yC (yA (.int (.int (.int (.int (.int (.int .nil)))))))) (zH C_law_take hr rfl (zA (pv 0) (zA zE zC)) passN) (fun _ _ => rfl)))
   (zG (zM (zL (zA zE (zA (zL (zA (pv 4) zC)) (zA (zH C_law_parts hr rfl (zA (pv 0) (zA (pv 1) (zA (pv 2) (zA (zQ yY zE (pv 4)) zC)))) passN) zC))))))) zN))
   (zD (jX (zS (PW.pt (pw_and (zJ yB (pv 3) zE (nomark _)) (pw_and (pt_val (yZ (jV hr) (pv 1) zZ (fun _ _ => rfl))) (pw_and1 (zJ op_gt (pv 2) zE (nomark _)))))) (zG (zM (zH C_law_round hr rfl (zA (pv 0) (zA (pv 1) (zA (pv 2) zC))) passN))) zN))
   (zD (jX (zS (PW.pt (pw_and (zJ op_in_seq (pv 3) (zL (yA (.int (.int .nil)))) rfl) (pw_and1 (pt_val (yZ (jV hr) (pv 1) zZ (fun _ _ => rfl)))))) (zG (zM (zH C_law_call hr rfl (zA (pv 0) (zA (pv 1) (zA (pv 2) zC))) passN))) zN))
   (zD (jX (zS (PW.pt (pw_and (zJ yB (pv 3) zE (nomark _)) (pw_and1 (zJ yB (zH C_law_take hr rfl (zA (pv 0) (zA zE zC)) passN) zE (nomark _))))) (zG (zM (zL (zA zE (zA (zL zC) (zA (zH C_law_parts hr rfl (zA (pv 0) (zA (pv 1) (zA (pv 2) (zA zE zC)))) passN) zC)))))) zN))
   (zD (jX (zS (zJ op_gt (pv 3) zE (nomark _)) (zG (zM (zH C_law_of_rows hr rfl (zA (pv 0) (zA (pv 1) (zA (pv 2) zC))) passN))) zN))
   (zG (zM (zL (zA (zQ yY zE (zH C_law_take hr rfl (zA (pv 0) (zA zE zC)) passN)) (zA (zL zC) (zA (zH C_law_parts hr rfl (zA (pv 0) (zA (pv 1) (zA (pv 2) (zA zE zC)))) passN) zC)))))))))))))))), ?_⟩
 try dsimp only [Cx.nox, Cx.exc, Cx.wish, zU]
 refine ⟨_, rfl, st, 16, rfl, by decide, by decide, D.dr, fun way H1 w0 w1 e1 => ?_⟩
 have m1 := MvO.drawn (ow := ow) D.dr e1
 have D1 := D.drawn e1
 have leaf : ∀ {σ' : St}, σ' = [some (.ref st), some (.ref ow), some (.int deep), some (.int way), none] -> tRet (tCall (spLeafT K) [] E0 (tCons (tVar 0) (tCons (tVar 1) tNil))) { nx := fun x H' => Q V.non H', rt := Q } σ' H1 := fun {σ'} es => by
  subst es
  exact ⟨_, rfl, _, rfl, st, ow, hd, hs, bx, room, lo, ca, rfl, D1, b0, b12, r0, fun v t H2 m2 D2 dr => q v t room H2 (m1.trans m2) D2 (Drw.up dr (by (first|lia|omega)))⟩
 refine ⟨fun σ' H' => σ' = [some (.ref st), some (.ref ow), some (.int deep), some (.int way), none] /\ H' = H1 /\ 2 <= deep /\ 1 <= room /\ 3 <= way, ?_, ?_⟩
 ·refine ⟨_, rfl, _, _, rfl, rfl, _, rfl, ite2 (fun c => iteT (leaf rfl)) (fun c => ⟨_, rfl, ow, _, rfl, owD_room D1.own, _, _, rfl, rfl, _, rfl, ite2 (fun c2 => iteT (leaf rfl)) (fun c2 => ⟨_, rfl, _, _, rfl, rfl, _, rfl, ite2 (fun c3 => leaf rfl) (fun c3 => ?_)⟩)⟩)⟩
  have c1' := df c
  have c2' := df c2
  have c3' := df c3
  exact ⟨rfl, rfl, by (first|lia|omega), by (first|lia|omega), by (first|lia|omega)⟩
 rintro _ H1 ⟨rfl, rfl, dp2, rm1, wy3⟩
 have hd1 : 1 <= d := by (first|lia|omega)
 obtain ⟨D2, mp⟩ := D1.put (room - 1)
 have m2 := m1.trans mp
 refine ⟨_, rfl, ow, _, rfl, owD_room D1.own, _, _, rfl, rfl, _, rfl, ow, _, rfl, owD_putRoom D1.own, ?_⟩
 generalize upd H1 ow (.dK (owD bx hd (room - 1) lo ca)) = H2 at D2 m2 mp ⊢
 have mkN : ∀ (kd : Int) (own : List Int) (o pt : Addr) (vs : List V) (ts : List Tr) (room' : Int) (H' : Hp), MvO st ow H H' -> DrO K st ow hd hs bx lo ca H' room' -> H' o = some (.tup (own.map V.int)) -> H' pt = some (.tup vs) -> Paired (Tr3 H' d) vs ts -> FitTs hs bx d ts -> ts.length = (dueM hs kd own).toNat -> OwnFit hs bx kd own -> 0 <= kd -> kd <= 19 -> (∀ v ∈ own, Vb v) -> 0 <= room' -> room' <= room - 1 -> (szTs ts : Int) + 14 * room' <= 13 + 14 * (room - 1) -> ∀ t, H' t = none -> Q (.ref t) (upd H' t (.tup [.int kd, .ref o, .ref pt])) := fun kd own o pt vs ts room' H' m' D' eo ep pp ft lt of k0 k19 vo q0 q1 sz t ht => by
  have s7 := zF ht (.tup [.int kd, .ref o, .ref pt])
  refine q (.ref t) (.mk kd own ts) room' _ (m'.trans (MvO.same s7)) (D'.same s7) ⟨⟨t, o, pt, vs, rfl, zB, s7 _ _ eo, s7 _ _ ep, Paired.imp (fun _ _ x => x.same s7) pp⟩, ?_, q0, by (first|lia|omega), by show ((1 + szTs ts : Nat) : Int) + _ <= _; (first|lia|omega)⟩
  unfold FitT
  exact ⟨k0, k19, of, lt, vo, ft⟩
 have one : ∀ {x : Int}, Vb x -> ∀ v ∈ [x], Vb v := fun h v hv => by rw [List.mem_singleton.mp hv]; exact h
 refine ⟨fun σ' H' => σ' = [some (.ref st), some (.ref ow), some (.int deep), some (.int way), none] /\ H' = H2, ?_, ?_⟩
 ·refine ⟨_, rfl, rfl, _, rfl, ite2 (fun c => ⟨_, rfl, ow, _, rfl, qO D2.own, _, _, rfl, rfl, _, rfl, ite2 (fun c2 => ?_) (fun c2 => ⟨rfl, rfl⟩)⟩) (fun c => iteF ⟨rfl, rfl⟩)⟩
  have c2' := of_decide_eq_true c2
  refine ⟨_, rfl, _, rfl, ow, _, rfl, qO D2.own, st, bx, rfl, c2', by (first|lia|omega), D2.dr, fun x H3 x0 x1 e3 => ⟨small (show 1 <= 1000 by decide), fun o ho => ?_⟩⟩
  have s3 := zF ho (.tup [.int x])
  have D3 := (D2.drawn e3).same s3
  have m3 := m2.trans ((MvO.drawn (ow := ow) D2.dr e3).trans (MvO.same s3))
  refine ⟨_, rfl, _, rfl, _, rfl, st, ow, hd, hs, bx, room - 1, deep, lo, ca, 1, rfl, D3, hg, b0, b12, by (first|lia|omega), by (first|lia|omega), by (first|lia|omega), hd1, by (first|lia|omega), fun pt vs ts room' H4 m4 D4 ept pp ft lt q0 q1 sz => ⟨small (show 3 <= 1000 by decide), fun t ht => ?_⟩⟩
  exact mkN 2 [x] o pt vs ts room' H4 (m3.trans m4) D4 (m4.tups D3 _ _ zB) ept pp ft lt (.inr (.inl ⟨.inr rfl, x, rfl, x0, by (first|lia|omega)⟩)) (by decide) (by decide) (one (Vb.small (by (first|lia|omega)))) q0 q1 (by (first|lia|omega)) t ht
 rintro σ' H2 ⟨rfl, rfl⟩
 refine ⟨fun σ' H' => σ' = [some (.ref st), some (.ref ow), some (.int deep), some (.int way), none] /\ H' = H2 /\ 6 <= way, ?_, ?_⟩
 ·refine ⟨_, rfl, _, _, rfl, rfl, _, rfl, ite2 (fun c => ?_) (fun c => ⟨rfl, rfl, by have := df c; (first|lia|omega)⟩)⟩
  refine ⟨small (show 6 <= 1000 by decide), fun l hl => ?_⟩
  have g3 := zF hl (.lst ([(1 : Int), 2, 3, 1, 2, 12].map V.int))
  have Dl := D2.same g3
  refine ⟨_, rfl, st, 6, rfl, by decide, by decide, Dl.dr, fun y H3 y0 y1 e3 => ?_⟩
  have el : H3 l = some (.lst ([(1 : Int), 2, 3, 1, 2, 12].map V.int)) := (MvO.drawn (ow := ow) Dl.dr e3).lst Dl zB
  obtain ⟨v, vm, hv⟩ := kK (ns := [(1 : Int), 2, 3, 1, 2, 12]) y0 y1
  have vb : 1 <= v /\ v <= 12 := by
   have : ∀ z ∈ [(1 : Int), 2, 3, 1, 2, 12], 1 <= z /\ z <= 12 := by decide
   exact this v vm
  refine ⟨l, _, _, _, rfl, rfl, SqL.of el, hv, ?_⟩
  refine ⟨_, rfl, small (show 1 <= 1000 by decide), fun o ho => ?_⟩
  have s3 := zF ho (.tup [.int v])
  have D3 := (Dl.drawn e3).same s3
  have m3 := m2.trans ((MvO.same g3).trans ((MvO.drawn (ow := ow) Dl.dr e3).trans (MvO.same s3)))
  refine ⟨_, rfl, _, rfl, _, rfl, _, rfl, st, ow, hd, hs, bx, room - 1, deep, lo, ca, v.toNat, by rw [show ((v.toNat : Nat) : Int) = v by (first|lia|omega)] <;> rfl, D3, hg, b0, b12, by (first|lia|omega), by (first|lia|omega), by (first|lia|omega), hd1, by (first|lia|omega), fun pt vs ts room' H4 m4 D4 ept pp ft lt q0 q1 sz => ⟨small (show 3 <= 1000 by decide), fun t ht => ?_⟩⟩
  exact mkN 3 [v] o pt vs ts room' H4 (m3.trans m4) D4 (m4.tups D3 _ _ zB) ept pp ft lt (.inr (.inr (.inl ⟨rfl, v, rfl, vb.1, vb.2⟩))) (by decide) (by decide) (one (Vb.small (by (first|lia|omega)))) q0 q1 (by (first|lia|omega)) t ht
 rintro σ' H2 ⟨rfl, rfl, wy6⟩
 refine ⟨fun σ' H' => σ' = [some (.ref st), some (.ref ow), some (.int deep), some (.int way), none] /\ H' = H2, ?_, ?_⟩
 ·refine ⟨_, rfl, rfl, _, rfl, ite2 (fun c => ?_) (fun c => ⟨rfl, rfl⟩)⟩
  refine ⟨small (show 6 <= 1000 by decide), fun l hl => ?_⟩
  have g3 := zF hl (.lst ([(2 : Int), 3, 4, 2, 3, 12].map V.int))
  have Dl := D2.same g3
  refine ⟨_, rfl, st, 6, rfl, by decide, by decide, Dl.dr, fun y H3 y0 y1 e3 => ?_⟩
  have el : H3 l = some (.lst ([(2 : Int), 3, 4, 2, 3, 12].map V.int)) := (MvO.drawn (ow := ow) Dl.dr e3).lst Dl zB
  obtain ⟨v, vm, hv⟩ := kK (ns := [(2 : Int), 3, 4, 2, 3, 12]) y0 y1
  have vb : 2 <= v /\ v <= 12 := by
   have : ∀ z ∈ [(2 : Int), 3, 4, 2, 3, 12], 2 <= z /\ z <= 12 := by decide
   exact this v vm
  refine ⟨l, _, _, _, rfl, rfl, SqL.of el, hv, ?_⟩
  refine ⟨_, rfl, small (show 1 <= 1000 by decide), fun o ho => ?_⟩
  have s3 := zF ho (.tup [.int v])
  have D3 := (Dl.drawn e3).same s3
  have m3 := m2.trans ((MvO.same g3).trans ((MvO.drawn (ow := ow) Dl.dr e3).trans (MvO.same s3)))
  refine ⟨_, rfl, _, rfl, _, rfl, _, rfl, _, _, rfl, rfl, st, ow, hd, hs, bx, room - 1, deep, lo, ca, (1 + v).toNat, by rw [show (((1 + v).toNat : Nat) : Int) = 1 + v by (first|lia|omega)] <;> rfl, D3, hg, b0, b12, by (first|lia|omega), by (first|lia|omega), by (first|lia|omega), hd1, by (first|lia|omega), fun pt vs ts room' H4 m4 D4 ept pp ft lt q0 q1 sz => ⟨small (show 3 <= 1000 by decide), fun t ht => ?_⟩⟩
  exact mkN 4 [v] o pt vs ts room' H4 (m3.trans m4) D4 (m4.tups D3 _ _ zB) ept pp ft lt (.inr (.inr (.inr (.inl ⟨rfl, v, rfl, vb.1, vb.2⟩)))) (by decide) (by decide) (one (Vb.small (by (first|lia|omega)))) q0 q1 (by (first|lia|omega)) t ht
 rintro σ' H2 ⟨rfl, rfl⟩
 have inn : ∀ {v : V} {t : Tr} {room' : Int} {H' : Hp}, MvO st ow H2 H' -> DrO K st ow hd hs bx lo ca H' room' -> DrwI hs bx H' (d + 1) (room - 1) room' v t -> Q v H' := fun m' D' dr => q _ _ _ _ (m2.trans m') D' (DrwI.pay dr)
 refine ⟨fun σ' H' => σ' = [some (.ref st), some (.ref ow), some (.int deep), some (.int way), none] /\ H' = H2, ?_, ?_⟩
 ·refine ⟨_, rfl, rfl, _, rfl, ite2 (fun c => ⟨_, rfl, ow, _, rfl, owD_loops D2.own, _, rfl, ite2 (fun c2 => ⟨_, rfl, _, _, rfl, rfl, _, rfl, ite2 (fun c3 => ?_) (fun c3 => ⟨rfl, rfl⟩)⟩) (fun c2 => iteF ⟨rfl, rfl⟩)⟩) (fun c => iteF ⟨rfl, rfl⟩)⟩
  have c3' := of_decide_eq_true c3
  exact ⟨_, rfl, _, rfl, _, rfl, by (first|lia|omega), st, ow, hd, hs, bx, room - 1, deep, lo, ca, rfl, D2, hg, b0, b12, by (first|lia|omega), by (first|lia|omega), by (first|lia|omega), hd1, fun v t room' H' m' D' dr => inn m' D' dr⟩
 rintro σ' H2 ⟨rfl, rfl⟩
 refine ⟨fun σ' H' => σ' = [some (.ref st), some (.ref ow), some (.int deep), some (.int way), none] /\ MvO st ow H2 H' /\ DrO K st ow hd hs bx lo ca H' (room - 1), ?_, ?_⟩
 ·refine ⟨_, rfl, small (show 2 <= 1000 by decide), fun u hu => ⟨u, _, rfl, .inr (SqT.of zB), rfl, rfl, _, rfl, ?_⟩⟩
  have s3 := zF hu (.tup ([(8 : Int), 9].map V.int))
  have D3 := D2.same s3
  have m3 : MvO st ow H2 _ := MvO.same s3
  refine ite2 (fun c => ⟨_, rfl, ow, _, rfl, owD_calls D3.own, _, rfl, ite2 (fun c2 => ?_) (fun c2 => ⟨rfl, m3, D3⟩)⟩) (fun c => iteF ⟨rfl, m3, D3⟩)
  exact ⟨_, rfl, _, rfl, _, rfl, st, ow, hd, hs, bx, room - 1, deep, lo, ca, rfl, D3, hg, b0, b12, by (first|lia|omega), by (first|lia|omega), by (first|lia|omega), hd1, fun v t room' H' m' D' dr => inn (m3.trans m') D' dr⟩
 rintro σ' H3 ⟨rfl, m3, D3⟩
 refine ⟨fun σ' H' => σ' = [some (.ref st), some (.ref ow), some (.int deep), some (.int way), none] /\ MvO st ow H2 H' /\ DrO K st ow hd hs bx lo ca H' (room - 1), ?_, ?_⟩
 ·refine ⟨_, rfl, rfl, _, rfl, ite2 (fun c => ⟨_, rfl, st, 6, rfl, by decide, by decide, D3.dr, fun x H4 x0 x1 e4 => ⟨rfl, _, rfl, ?_⟩⟩) (fun c => iteF ⟨rfl, m3, D3⟩)⟩
  have D4 := D3.drawn e4
  have m4 := m3.trans (MvO.drawn (ow := ow) D3.dr e4)
  refine ite2 (fun c2 => ?_) (fun c2 => ⟨rfl, m4, D4⟩)
  refine ⟨small (show 0 <= 1000 by decide), fun o ho => ?_⟩
  have s5 := zF ho (.tup [])
  have D5 := D4.same s5
  refine ⟨_, rfl, _, rfl, _, rfl, st, ow, hd, hs, bx, room - 1, deep, lo, ca, 1, rfl, D5, hg, b0, b12, by (first|lia|omega), by (first|lia|omega), by (first|lia|omega), hd1, by (first|lia|omega), fun pt vs ts room' H6 m6 D6 ept pp ft lt q0 q1 sz => ⟨small (show 3 <= 1000 by decide), fun t ht => ?_⟩⟩
  exact mkN 7 [] o pt vs ts room' H6 (m2.trans (m4.trans ((MvO.same s5).trans m6))) D6 (m6.tups D5 _ _ zB) ept pp ft lt (.inr (.inr (.inr (.inr (.inr ⟨.inr (by decide), rfl⟩))))) (by decide) (by decide) (fun v hv => (nomatch hv)) q0 q1 (by (first|lia|omega)) t ht
 rintro σ' H4 ⟨rfl, m4, D4⟩
 refine ⟨fun σ' H' => σ' = [some (.ref st), some (.ref ow), some (.int deep), some (.int way), none] /\ H' = H4, ?_, ?_⟩
 ·refine ⟨_, rfl, _, _, rfl, rfl, _, rfl, ite2 (fun c => ?_) (fun c => ⟨rfl, rfl⟩)⟩
  exact ⟨_, rfl, _, rfl, _, rfl, st, ow, hd, hs, bx, room - 1, deep, lo, ca, rfl, D4, hg, b0, b12, by (first|lia|omega), by (first|lia|omega), by (first|lia|omega), hd1, fun v t room' H' m' D' dr => inn (m4.trans m') D' dr⟩
 rintro σ' H4 ⟨rfl, rfl⟩
 refine ⟨_, rfl, st, 7, rfl, by decide, by decide, D4.dr, fun x H5 x0 x1 e5 => ⟨_, _, rfl, rfl, small (show 0 <= 1000 by decide), fun o ho => ?_⟩⟩
 have s6 := zF ho (.tup [])
 have D6 := (D4.drawn e5).same s6
 have m6 := m2.trans (m4.trans ((MvO.drawn (ow := ow) D4.dr e5).trans (MvO.same s6)))
 refine ⟨_, rfl, _, rfl, _, rfl, st, ow, hd, hs, bx, room - 1, deep, lo, ca, 2, rfl, D6, hg, b0, b12, by (first|lia|omega), by (first|lia|omega), by (first|lia|omega), hd1, by (first|lia|omega), fun pt vs ts room' H7 m7 D7 ept pp ft lt q0 q1 sz => ⟨small (show 3 <= 1000 by decide), fun t ht => ?_⟩⟩
 have due : (dueM hs (8 + x) []).toNat = 2 := by
  rcases (by (first|lia|omega) : x = 0 \/ x = 1 \/ x = 2 \/ x = 3 \/ x = 4 \/ x = 5 \/ x = 6) with rfl | rfl | rfl | rfl | rfl | rfl | rfl <;> rfl
 exact mkN (8 + x) [] o pt vs ts room' H7 (m6.trans m7) D7 (m7.tups D6 _ _ zB) ept pp ft (lt.trans due.symm) (.inr (.inr (.inr (.inr (.inr ⟨.inr (by (first|lia|omega)), rfl⟩))))) (by (first|lia|omega)) (by (first|lia|omega)) (fun v hv => (nomatch hv)) q0 q1 (by (first|lia|omega)) t ht

end
section
variable {P : Program} {w : World} {K : PySem.W.Frag} {mg : Str -> Option Value} {base : Heap} {f : Addr} {fd : FuncData} {aP CL CN CW CF : Addr}
set_option maxHeartbeats 4000000

theorem ok_roundT (e k : Nat) (hk : 3 <= k) (T : TxtD K mg) (F : Fun K "_law_round" "_law_round" xH f fd) (C_law_take : Cal P w K mg base (CXE P w) 2 "_law_take" ["_law_state", "_law_most"] (spTakeD K)) (C_law_parts : Cal P w K mg base (CXE P w) k "_law_parts" ["_law_state", "_law_own", "_law_deep", "_law_many"] (spPartsT K (e + 4))) (C_law_node : Cal P w K mg base (CXE P w) k "_law_node" ["_law_state", "_law_own", "_law_deep"] (spDrawT K (e + 3))) : FnOk P w K mg base (CXE P w) (k + 1) f fd ["_law_state", "_law_own", "_law_deep"] (spRndT K (e + 4)) := by
 refine F.okN kI (fun vs H Q E h => ?_) (fun cdv A outer s H vs Q E hr h => ?_)
 ·obtain ⟨_, st, ow, hd, hs, bx, room, deep, lo, ca, rfl, _⟩ := h
  rfl
 obtain ⟨_, st, ow, hd, hs, bx, room, deep, lo, ca, rfl, D, hg, b0, b12, r0, r14, dd, d1, q⟩ := h
 refine ⟨_, (zD (zS (PW.pt (qX (zJ yB (yZ (jV hr) (pv 1) zZ (fun _ _ => rfl)) zE (nomark _)) (qA (zJ yB (zH C_law_take hr rfl (zA (pv 0) (zA zE zC)) passN) zE (nomark _))))) (zG (zM (zL (zA zE (zA (zL zC) (zA (zH C_law_parts hr rfl (zA (pv 0) (zA (pv 1) (zA (pv 2) (zA zE zC)))) passN) zC)))))) zN)
   (zD (zO (i := 3) kI.nd rfl (Or.inl rfl) (zH C_law_take hr rfl (zA (pv 0) (zA (yZ (jV hr) (pv 1) zZ (fun _ _ => rfl)) zC)) passN))
   (zD (zO (i := 4) kI.nd rfl (Or.inl rfl) (zL (zA zE (zA (zL zC) (zA (zL (zA (zL (zA zE (zA (zL (zA (pv 3) zC)) (zA (zL zC) zC)))) (zA (zL (zA zE (zA (zL (zA zE zC)) (zA (zL zC) zC)))) zC))) zC)))))
   (zD (zO (i := 5) kI.nd rfl (Or.inl rfl) (zL (zA zE (zA (zL (zA zE zC)) (zA (zL (zA (zH C_law_node hr rfl (zA (pv 0) (zA (pv 1) (zA (zQ xG (pv 2) zE) zC))) passN) (zA (zL (zA zE (zA (zL (zA (pv 3) zC)) (zA (zL (zA (pv 4) zC)) zC)))) zC))) zC)))))
   (zG (zM (zL (zA zE (zA (zL zC) (zA (zL (zA (zL (zA zE (zA (zL (zA (pv 3) zC)) (zA (zL zC) zC)))) (zA (pv 5) zC))) zC)))))))))), ?_⟩
 try dsimp only [Cx.nox, Cx.exc, Cx.wish, zU]
 have ret2 : ∀ (H1 : Hp), MvO st ow H H1 -> DrO K st ow hd hs bx lo ca H1 room -> ∀ {σ' : St}, σ' = [some (.ref st), some (.ref ow), some (.int deep), none, none, none] -> tRet (tTup (tCons (tC (V.int 5)) (tCons (tTup tNil) (tCons (tCall (spPartsT K (e + 4)) [] E0 (tCons (tVar 0) (tCons (tVar 1) (tCons (tVar 2) (tCons (tC (V.int 2)) tNil))))) tNil)))) { nx := fun x H' => Q V.non H', rt := Q } σ' H1 := fun H1 m1 D1 {σ'} es => by
  subst es
  refine ⟨small (show 0 <= 1000 by decide), fun o ho => ?_⟩
  have s2 := zF ho (.tup [])
  have D2 := D1.same s2
  refine ⟨_, rfl, _, rfl, _, rfl, st, ow, hd, hs, bx, room, deep, lo, ca, 2, rfl, D2, hg, b0, b12, r0, r14, dd, d1, by (first|lia|omega), fun pt vs ts room' H4 m4 D4 ept pp ft lt q0 q1 sz => ⟨small (show 3 <= 1000 by decide), fun t ht => ?_⟩⟩
  have s7 := zF ht (.tup [.int 5, .ref o, .ref pt])
  refine q (.ref t) (.mk 5 [] ts) room' _ (m1.trans ((MvO.same s2).trans (m4.trans (MvO.same s7)))) (D4.same s7) ⟨⟨t, o, pt, vs, rfl, zB, s7 _ _ (m4.tups D2 _ _ zB), s7 _ _ ept, Paired.imp (fun _ _ x => x.same s7) pp⟩, ?_, q0, q1, by show ((1 + szTs ts : Nat) : Int) + _ <= _; (first|lia|omega)⟩
  unfold FitT
  exact ⟨by decide, by decide, .inr (.inr (.inr (.inr (.inr ⟨.inl rfl, rfl⟩)))), lt, fun x hx => (nomatch hx), ft⟩
 refine ⟨_, rfl, ow, _, rfl, qO D.own, rfl, _, rfl, ite2 (fun c => iteT (ret2 H MvO.refl D rfl)) (fun c => ⟨_, rfl, st, 2, rfl, by decide, by decide, D.dr, fun x H1 x0 x1 e1 => ⟨rfl, _, rfl, ite2 (fun c2 => ret2 H1 (MvO.drawn (ow := ow) D.dr e1) (D.drawn e1) rfl) (fun c2 => ?_)⟩⟩)⟩
 have c' := vf c
 have m1 := MvO.drawn (ow := ow) D.dr e1
 have D1 := D.drawn e1
 refine ⟨_, rfl, _, rfl, ow, _, rfl, qO D1.own, st, bx, rfl, by (first|lia|omega), by (first|lia|omega), D1.dr, fun y H2 y0 y1 e2 => ?_⟩
 have m2 := m1.trans (MvO.drawn (ow := ow) D1.dr e2)
 have D2 := D1.drawn e2
 refine ⟨small (show 0 <= 1000 by decide), fun a1 h1 => ⟨_, rfl, small (show 1 <= 1000 by decide), fun a2 h2 => ⟨small (show 0 <= 1000 by decide), fun a3 h3 => ⟨small (show 3 <= 1000 by decide), fun a4 h4 => ⟨small (show 1 <= 1000 by decide), fun a5 h5 => ⟨small (show 0 <= 1000 by decide), fun a6 h6 => ⟨small (show 3 <= 1000 by decide), fun a7 h7 => ⟨small (show 2 <= 1000 by decide), fun a8 h8 => ⟨small (show 3 <= 1000 by decide), fun a9 h9 => ?_⟩⟩⟩⟩⟩⟩⟩⟩⟩
 have s1 := zF h1 (.tup [])
 have s2 := zF h2 (.tup [.int y])
 have s3 := zF h3 (.tup [])
 have s4 := zF h4 (.tup [.int 1, .ref a2, .ref a3])
 have s5 := zF h5 (.tup [.int 1])
 have s6 := zF h6 (.tup [])
 have s7 := zF h7 (.tup [.int 0, .ref a5, .ref a6])
 have s8 := zF h8 (.tup [.ref a4, .ref a7])
 have s9 := zF h9 (.tup [.int 9, .ref a1, .ref a8])
 have k9 := s9
 have k8 := s8.trans k9
 have k7 := s7.trans k8
 have k6 := s6.trans k7
 have k5 := s5.trans k6
 have k4 := s4.trans k5
 have k3 := s3.trans k4
 have k2 := s2.trans k3
 have k1 := s1.trans k2
 have gT : ∀ {H' : Hp} {f : Nat} {t o q : Addr}, H' t = some (.tup [.int 1, .ref o, .ref q]) -> H' o = some (.tup [.int y]) -> H' q = some (.tup []) -> Tr3 H' (f + 1) (.ref t) (.mk 1 [y] []) := fun a b c => ⟨_, _, _, [], rfl, a, b, c, .nil⟩
 have T9 : Tr3 _ (e + 2) (.ref a9) (.mk 9 [] [.mk 1 [y] [], .mk 0 [1] []]) := ⟨a9, a1, a8, _, rfl, zB, k2 _ _ zB, k9 _ _ zB, .cons (gT (k5 _ _ zB) (k3 _ _ zB) (k4 _ _ zB)) (.cons ⟨a7, a5, a6, [], rfl, k8 _ _ zB, k6 _ _ zB, k7 _ _ zB, .nil⟩ .nil)⟩
 have D9 := D2.same k1
 have m9 := m2.trans (MvO.same k1)
 generalize upd (upd (upd (upd (upd (upd (upd (upd (upd H2 a1 (.tup [])) a2 (.tup [.int y])) a3 (.tup [])) a4 (.tup [.int 1, .ref a2, .ref a3])) a5 (.tup [.int 1])) a6 (.tup [])) a7 (.tup [.int 0, .ref a5, .ref a6])) a8 (.tup [.ref a4, .ref a7])) a9 (.tup [.int 9, .ref a1, .ref a8]) = H9 at T9 D9 m9 ⊢
 clear s1 s2 s3 s4 s5 s6 s7 s8 s9 k1 k2 k3 k4 k5 k6 k7 k8 k9 h1 h2 h3 h4 h5 h6 h7 h8 h9
 refine ⟨small (show 1 <= 1000 by decide), fun b1 h1 => ?_⟩
 have t1 := zF h1 (.tup [.int 2])
 have Db := D9.same t1
 refine ⟨_, rfl, _, rfl, _, rfl, _, _, rfl, rfl, st, ow, hd, hs, bx, room, deep - 2, lo, ca, rfl, Db, hg, b0, b12, r0, r14, by (first|lia|omega), by (first|lia|omega), fun v t room' H3 m3 D3 dr => ?_⟩
 have tp := m3.tups Db
 have eb1 := tp _ _ (show upd H9 b1 (.tup [.int 2]) b1 = some (.tup [.int 2]) from zB)
 have T9' : Tr3 H3 (e + 2) (.ref a9) (.mk 9 [] [.mk 1 [y] [], .mk 0 [1] []]) := (T9.same t1).tups tp
 refine ⟨_, rfl, small (show 1 <= 1000 by decide), fun b2 h2 => ⟨_, rfl, small (show 1 <= 1000 by decide), fun b3 h3 => ⟨small (show 3 <= 1000 by decide), fun b4 h4 => ⟨small (show 2 <= 1000 by decide), fun b5 h5 => ⟨small (show 3 <= 1000 by decide), fun b6 h6 => ?_⟩⟩⟩⟩⟩
 have t2 := zF h2 (.tup [.int y])
 have t3 := zF h3 (.tup [.ref a9])
 have t4 := zF h4 (.tup [.int 2, .ref b2, .ref b3])
 have t5 := zF h5 (.tup [v, .ref b4])
 have t6 := zF h6 (.tup [.int 3, .ref b1, .ref b5])
 have u5 := t5.trans t6
 have u4 := t4.trans u5
 have u3 := t3.trans u4
 have u2 := t2.trans u3
 refine ⟨small (show 0 <= 1000 by decide), fun c1 h7 => ⟨_, rfl, small (show 1 <= 1000 by decide), fun c2 h8 => ⟨small (show 0 <= 1000 by decide), fun c3 h9 => ⟨small (show 3 <= 1000 by decide), fun c4 h10 => ⟨_, rfl, small (show 2 <= 1000 by decide), fun c5 h11 => ⟨small (show 3 <= 1000 by decide), fun c6 h12 => ?_⟩⟩⟩⟩⟩⟩
 have w1 := zF h7 (.tup [])
 have w2 := zF h8 (.tup [.int y])
 have w3 := zF h9 (.tup [])
 have w4 := zF h10 (.tup [.int 1, .ref c2, .ref c3])
 have w5 := zF h11 (.tup [.ref c4, .ref b6])
 have w6 := zF h12 (.tup [.int 5, .ref c1, .ref c5])
 have x5 := w5.trans w6
 have x4 := w4.trans x5
 have x3 := w3.trans x4
 have x2 := w2.trans x3
 have x1 := w1.trans x2
 have z2 := u2.trans x1
 have fl : ∀ {n : Nat} {kd x : Int}, (kd = 0 \/ kd = 1 /\ 0 <= x /\ x < bx) -> Vb x -> FitT hs bx (n + 1) (.mk kd [x] []) := fun h vx => by
  unfold FitT
  rcases h with rfl | ⟨rfl, p, r⟩
  ·exact ⟨by decide, by decide, .inl ⟨rfl, _, rfl⟩, rfl, fun v hv => by rw [List.mem_singleton.mp hv]; exact vx, by unfold FitTs; trivial⟩
  ·exact ⟨by decide, by decide, .inr (.inl ⟨.inl rfl, _, rfl, p, by (first|lia|omega)⟩), rfl, fun v hv => by rw [List.mem_singleton.mp hv]; exact vx, by unfold FitTs; trivial⟩
 have two : ∀ {n : Nat} {a b : Tr}, FitT hs bx n a -> FitT hs bx n b -> FitTs hs bx n [a, b] := fun ha hb => by
  unfold FitTs
  refine ⟨ha, ?_⟩
  unfold FitTs
  exact ⟨hb, by unfold FitTs; trivial⟩
 have vy : Vb y := Vb.small (by (first|lia|omega))
 have f9 : FitT hs bx (e + 2) (.mk 9 [] [.mk 1 [y] [], .mk 0 [1] []]) := by
  unfold FitT
  exact ⟨by decide, by decide, .inr (.inr (.inr (.inr (.inr ⟨.inr (by decide), rfl⟩)))), rfl, fun v hv => (nomatch hv), two (fl (.inr ⟨rfl, y0, y1⟩) vy) (fl (.inl rfl) (Vb.small (by decide)))⟩
 have f2 : FitT hs bx (e + 3) (.mk 2 [y] [.mk 9 [] [.mk 1 [y] [], .mk 0 [1] []]]) := by
  unfold FitT
  refine ⟨by decide, by decide, .inr (.inl ⟨.inr rfl, y, rfl, y0, by (first|lia|omega)⟩), rfl, fun v hv => by rw [List.mem_singleton.mp hv]; exact vy, ?_⟩
  unfold FitTs
  exact ⟨f9, by unfold FitTs; trivial⟩
 have f3 : FitT hs bx (e + 4) (.mk 3 [2] [t, .mk 2 [y] [.mk 9 [] [.mk 1 [y] [], .mk 0 [1] []]]]) := by
  unfold FitT
  exact ⟨by decide, by decide, .inr (.inr (.inl ⟨rfl, 2, rfl, by decide, by decide⟩)), rfl, fun v hv => by rw [List.mem_singleton.mp hv]; exact Vb.small (by decide), two dr.fit f2⟩
 refine q (.ref c6) (.mk 5 [] [.mk 1 [y] [], .mk 3 [2] [t, .mk 2 [y] [.mk 9 [] [.mk 1 [y] [], .mk 0 [1] []]]]]) room' _ (m9.trans ((MvO.same t1).trans (m3.trans (MvO.same z2)))) (D3.same z2) ⟨⟨c6, c1, c5, _, rfl, zB, x2 _ _ zB, w6 _ _ zB, .cons (gT (x5 _ _ zB) (x3 _ _ zB) (x4 _ _ zB)) (.cons ⟨b6, b1, b5, _, rfl, x1 _ _ zB, z2 _ _ eb1, (t6.trans x1) _ _ zB, .cons (dr.at_.same z2) (.cons ⟨b4, b2, b3, _, rfl, (u5.trans x1) _ _ zB, (u3.trans x1) _ _ zB, (u4.trans x1) _ _ zB, .cons (T9'.same z2) .nil⟩ .nil)⟩ .nil)⟩, ?_, dr.r0, dr.r1, ?_⟩
 ·unfold FitT
  exact ⟨by decide, by decide, .inr (.inr (.inr (.inr (.inr ⟨.inl rfl, rfl⟩)))), rfl, fun x hx => (nomatch hx), two (fl (.inr ⟨rfl, y0, y1⟩) vy) f3⟩
 ·have := dr.sz
  have ez : szT (.mk 5 [] [.mk 1 [y] [], .mk 3 [2] [t, .mk 2 [y] [.mk 9 [] [.mk 1 [y] [], .mk 0 [1] []]]]]) = 1 + ((1 + 0) + ((1 + (szT t + ((1 + ((1 + ((1 + 0) + ((1 + 0) + 0))) + 0)) + 0))) + 0)) := rfl
  rw [ez]
  (first|lia|omega)

end
section
variable {P : Program} {w : World} {K : PySem.W.Frag} {mg : Str -> Option Value} {base : Heap} {f : Addr} {fd : FuncData} {aP CL CN CW CF : Addr}
set_option maxHeartbeats 4000000

section
variable {fn fp fr fq fo fu fc : Addr} {fdn fdp fdr fdq fdo fdu fdc : FuncData}
theorem ok_drawT (T : TxtD K mg) (C_law_take : Cal P w K mg base (CXE P w) 2 "_law_take" ["_law_state", "_law_most"] (spTakeD K)) (C_law_leaf : Cal P w K mg base (CXE P w) 4 "_law_leaf" ["_law_state", "_law_own"] (spLeafT K))
  (Fn : Fun K "_law_node" "_law_node" xV fn fdn) (mn : mg "_law_node" = some (.ref fn)) (kn : PySem.W.keepIn K (.ref fn) = true) (bn : Binds K fdn ["_law_state", "_law_own", "_law_deep"] [])
  (Fp : Fun K "_law_parts" "_law_parts" xI fp fdp) (mp : mg "_law_parts" = some (.ref fp)) (kp : PySem.W.keepIn K (.ref fp) = true) (bp : Binds K fdp ["_law_state", "_law_own", "_law_deep", "_law_many"] [])
  (Fr : Fun K "_law_row_part" "_law_row_part" yP fr fdr) (mr : mg "_law_row_part" = some (.ref fr)) (kr : PySem.W.keepIn K (.ref fr) = true) (br : Binds K fdr ["_law_state", "_law_own", "_law_deep"] [])
  (Fq : Fun K "_law_place_part" "_law_place_part" yI fq fdq) (mq : mg "_law_place_part" = some (.ref fq)) (kq : PySem.W.keepIn K (.ref fq) = true) (bq : Binds K fdq ["_law_state", "_law_own", "_law_deep"] [])
  (Fo : Fun K "_law_of_rows" "_law_of_rows" yR fo fdo) (mo : mg "_law_of_rows" = some (.ref fo)) (ko : PySem.W.keepIn K (.ref fo) = true) (bo : Binds K fdo ["_law_state", "_law_own", "_law_deep"] [])
  (Fu : Fun K "_law_round" "_law_round" xH fu fdu) (mu : mg "_law_round" = some (.ref fu)) (ku : PySem.W.keepIn K (.ref fu) = true) (bu : Binds K fdu ["_law_state", "_law_own", "_law_deep"] [])
  (Fc : Fun K "_law_call" "_law_call" xW fc fdc) (mc : mg "_law_call" = some (.ref fc)) (kc : PySem.W.keepIn K (.ref fc) = true) (bc : Binds K fdc ["_law_state", "_law_own", "_law_deep"] []) :
  ∀ d, FnOk P w K mg base (CXE P w) (3 * d + 4) fn fdn ["_law_state", "_law_own", "_law_deep"] (spDrawT K d) /\ FnOk P w K mg base (CXE P w) (3 * d + 4) fn fdn ["_law_state", "_law_own", "_law_deep"] (spDrawT K (d - 1)) /\ Cal P w K mg base (CXE P w) (3 * d + 5) "_law_parts" ["_law_state", "_law_own", "_law_deep", "_law_many"] (spPartsT K d) := by
 have prt : ∀ d, FnOk P w K mg base (CXE P w) (3 * d + 4) fn fdn ["_law_state", "_law_own", "_law_deep"] (spDrawT K d) -> Cal P w K mg base (CXE P w) (3 * d + 5) "_law_parts" ["_law_state", "_law_own", "_law_deep", "_law_many"] (spPartsT K d) := fun d h => ⟨⟨_, _, ok_partsT d (3 * d + 4) (by (first|lia|omega)) T Fp ⟨⟨_, _, h, mn, kn, bn⟩⟩, mp, kp, bp⟩⟩
 intro d
 induction d with
 | zero =>
  have z : FnOk P w K mg base (CXE P w) (3 * 0 + 4) fn fdn ["_law_state", "_law_own", "_law_deep"] (spDrawT K 0) := ⟨fun vs H Q E h => by obtain ⟨_, _, _, _, _, _, _, _, _, rfl, _⟩ := h; rfl, fun _ _ _ _ _ _ _ _ _ _ _ _ _ h => by obtain ⟨_, _, _, _, _, _, _, _, _, _, _, _, _, _, _, _, _, h, _⟩ := h; (first|lia|omega)⟩
  exact ⟨z, z, prt 0 z⟩
 | succ d ih =>
  obtain ⟨i1, i2, i3⟩ := ih
  have N1 : Cal P w K mg base (CXE P w) (3 * d + 4) "_law_node" ["_law_state", "_law_own", "_law_deep"] (spDrawT K d) := ⟨⟨_, _, i1, mn, kn, bn⟩⟩
  have N2 : Cal P w K mg base (CXE P w) (3 * d + 5) "_law_node" ["_law_state", "_law_own", "_law_deep"] (spDrawT K (d - 1)) := ⟨⟨_, _, i2.mono (by (first|lia|omega)), mn, kn, bn⟩⟩
  have R : Cal P w K mg base (CXE P w) (3 * d + 5) "_law_row_part" ["_law_state", "_law_own", "_law_deep"] (spRowPT K d) := ⟨⟨_, _, ok_rowPT d (3 * d + 4) (by (first|lia|omega)) T Fr C_law_take N1, mr, kr, br⟩⟩
  have Q : Cal P w K mg base (CXE P w) (3 * d + 5) "_law_place_part" ["_law_state", "_law_own", "_law_deep"] (spRowPT K d) := ⟨⟨_, _, ok_placePT d (3 * d + 4) (by (first|lia|omega)) T Fq C_law_take N1, mq, kq, bq⟩⟩
  have O : Cal P w K mg base (CXE P w) (3 * d + 6) "_law_of_rows" ["_law_state", "_law_own", "_law_deep"] (spInnT K d) := ⟨⟨_, _, ok_ofT d (3 * d + 5) (by (first|lia|omega)) T Fo C_law_take R Q i3, mo, ko, bo⟩⟩
  have C : Cal P w K mg base (CXE P w) (3 * d + 6) "_law_call" ["_law_state", "_law_own", "_law_deep"] (spInnT K d) := ⟨⟨_, _, ok_callT d (3 * d + 5) (by (first|lia|omega)) T Fc C_law_take i3, mc, kc, bc⟩⟩
  have U : Cal P w K mg base (CXE P w) (3 * d + 6) "_law_round" ["_law_state", "_law_own", "_law_deep"] (spRndT K d) := by
   refine ⟨⟨fu, fdu, ?_, mu, ku, bu⟩⟩
   by_cases c : 4 <= d
   ·obtain ⟨e, rfl⟩ : ∃ e, d = e + 4 := ⟨d - 4, by (first|lia|omega)⟩
    exact ok_roundT e (3 * (e + 4) + 5) (by (first|lia|omega)) T Fu C_law_take i3 N2
   ·exact ⟨fun vs H Q E h => (c h.1).elim, fun _ _ _ _ _ _ _ _ _ _ _ _ _ h => (c h.1).elim⟩
  have P3 : Cal P w K mg base (CXE P w) (3 * d + 6) "_law_parts" ["_law_state", "_law_own", "_law_deep", "_law_many"] (spPartsT K d) := by
   obtain ⟨f, fd, h, r⟩ := i3.ex
   exact ⟨⟨f, fd, h.mono (by (first|lia|omega)), r⟩⟩
  have nd := ok_nodeT d (3 * d + 6) (by (first|lia|omega)) T Fn C_law_take C_law_leaf P3 U C O
  exact ⟨nd, i1.mono (by (first|lia|omega)), prt (d + 1) nd⟩
end

end
section
variable {P : Program} {w : World} {K : PySem.W.Frag} {mg : Str -> Option Value} {base : Heap} {f : Addr} {fd : FuncData} {aP CL CN CW CF : Addr}
set_option maxHeartbeats 4000000

def spBodyT (K : PySem.W.Frag) : Sp := fun vs H Q _ => ∃ (st h0 hd wy : Addr) (hs : Hds) (p b : Int) (lo ca : Bool), vs = [.ref st, .ref h0, .ref hd, .ref wy] /\ DrawD K H st /\ H h0 = some (.tup [.int p, .int b]) /\ HeadsAt H hd hs /\ HdsGood hs /\ 0 <= b /\ b <= 12 /\ H wy = some (.tup [.bl lo, .bl ca]) /\
 ∀ v t H', DrawnD K st H H' -> Tr3 H' 6 v t -> FitT hs b 6 t -> szT t <= 203 -> Q v H'
theorem ok_bodyT (T : TxtD K mg) (F : Fun K "_law_body" "_law_body" jT f fd) (C_law_take : Cal P w K mg base (CXE P w) 2 "_law_take" ["_law_state", "_law_most"] (spTakeD K)) (C_law_parts : Cal P w K mg base (CXE P w) 20 "_law_parts" ["_law_state", "_law_own", "_law_deep", "_law_many"] (spPartsT K 5)) : FnOk P w K mg base (CXE P w) 21 f fd ["_law_state", "_law_head", "_law_heads", "_law_way"] (spBodyT K) := by
 refine F.okN qS (fun vs H Q E h => ?_) (fun cdv A outer s H vs Q E hr h => ?_)
 ·obtain ⟨st, h0, hd, wy, hs, p, b, lo, ca, rfl, _⟩ := h
  rfl
 obtain ⟨st, h0, hd, wy, hs, p, b, lo, ca, rfl, D, eh0, HA, hg, b0, b12, ewy, q⟩ := h
 refine ⟨_, (zD (zO (i := 4) qS.nd rfl (Or.inl rfl) (pe_disp (kM zZ (zT yH (pv 1) zE (fun _ _ => rfl)) (kM zZ (pv 2) (kM zZ zE (kM zZ (zT yH (pv 3) zE (fun _ _ => rfl)) (kM zZ (zT yH (pv 3) zE (fun _ _ => rfl)) pps_nil))))) rfl rfl (by simp) (by decide)))
   (zD (zO (i := 5) qS.nd rfl (Or.inl rfl) (zQ yY zE (zH C_law_take hr rfl (zA (pv 0) (zA zE zC)) passN)))
   (zG (zM (zL (zA zE (zA (zL (zA (pv 5) zC)) (zA (zH C_law_parts hr rfl (zA (pv 0) (zA (pv 4) (zA zE (zA (pv 5) zC)))) passN) zC)))))))), ?_⟩
 try dsimp only [Cx.nox, Cx.exc, Cx.wish, zU]
 refine fun ow how => ?_
 have s0 := zF how (.dK [])
 refine ⟨_, rfl, h0, _, _, _, rfl, rfl, SqT.of (s0 _ _ eh0), rfl, _, rfl, _, rfl, wy, _, _, _, rfl, rfl, SqT.of (s0 _ _ ewy), rfl, _, rfl, wy, _, _, _, rfl, rfl, SqT.of (s0 _ _ ewy), rfl, zB, owD b hd 14 lo ca, rfl, (show 5 <= 15 by decide), ?_⟩
 rw [show mergeK [] (owD b hd 14 lo ca) = owD b hd 14 lo ca from rfl, upd_upd]
 have s1 := zF how (.dK (owD b hd 14 lo ca))
 have D1 : DrO K st ow hd hs b lo ca (upd H ow (.dK (owD b hd 14 lo ca))) 14 := ⟨D.same s1, zB, by
  obtain ⟨rs, e, pp⟩ := HA
  exact ⟨rs, s1 _ _ e, Paired.imp (fun _ _ ⟨t, a, z⟩ => ⟨t, a, s1 _ _ z⟩) pp⟩, Ne.symm (D.ne how)⟩
 refine ⟨_, rfl, st, 6, rfl, by decide, by decide, D1.dr, fun x H2 x0 x1 e2 => ⟨_, _, rfl, rfl, ?_⟩⟩
 have D2 := D1.drawn e2
 refine ⟨_, rfl, small (show 1 <= 1000 by decide), fun o ho => ?_⟩
 have s3 := zF ho (.tup [.int (1 + x)])
 have D3 := D2.same s3
 refine ⟨_, rfl, _, rfl, _, rfl, st, ow, hd, hs, b, 14, 6, lo, ca, (1 + x).toNat, by rw [show (((1 + x).toNat : Nat) : Int) = 1 + x by (first|lia|omega)] <;> rfl, D3, hg, b0, b12, by decide, by decide, by decide, by decide, by (first|lia|omega), fun pt vs ts room' H4 m4 D4 ept pp ft lt q0 q1 sz => ⟨small (show 3 <= 1000 by decide), fun t ht => ?_⟩⟩
 have s5 := zF ht (.tup [.int 3, .ref o, .ref pt])
 refine q (.ref t) (.mk 3 [1 + x] ts) _ ⟨D4.dr.same s5, fun a ob n e => s5 _ _ (m4.keep a ob (fun z => ?_) (s3 _ _ (e2.keep a ob n (s1 _ _ e))))⟩ ⟨t, o, pt, vs, rfl, zB, s5 _ _ (m4.tups D3 _ _ zB), s5 _ _ ept, Paired.imp (fun _ _ z => z.same s5) pp⟩ ?_ ?_
 ·rcases List.mem_cons.mp z with z | z
  ·exact n z
  ·rw [List.mem_singleton.mp z, how] at e; cases e
 ·unfold FitT
  refine ⟨by decide, by decide, .inr (.inr (.inl ⟨rfl, 1 + x, rfl, by (first|lia|omega), by (first|lia|omega)⟩)), lt, fun v hv => by rw [List.mem_singleton.mp hv]; exact Vb.small (by (first|lia|omega)), ft⟩
 ·show 1 + szTs ts <= 203
  (first|lia|omega)
def spFnsT (K : PySem.W.Frag) : Sp := fun vs H Q _ => ∃ (st wy : Addr) (most : Int) (lo ca : Bool), vs = [.ref st, .int most, .ref wy] /\ DrawD K H st /\ 1 <= most /\ most <= 15 /\ H wy = some (.tup [.bl lo, .bl ca]) /\
 ∀ l rs fs H', DrawnD K st H H' -> H l = none -> H' l = some (.lst rs) -> Paired (F3At H' 6) rs fs -> HdsGood (fs.map Prod.fst) -> (∀ f ∈ fs, FitT (fs.map Prod.fst) f.1.2 6 f.2 /\ szT f.2 <= 203) -> (fs.length : Int) <= most -> (∀ h ∈ fs.map Prod.fst, h.2 <= 11) -> Q (.ref l) H'
theorem HdsGood.snoc {hs : Hds} {h : Int × Int} (g : HdsGood hs) (l : hs.length <= 15) (a : 0 <= h.1 /\ h.1 <= 4 /\ h.1 <= h.2 /\ h.2 <= 12) : HdsGood (hs ++ [h]) := by
 have l1 := g.lo
 refine ⟨by rw [List.length_append]; (first|lia|omega), by rw [List.length_append, List.length_singleton]; (first|lia|omega), fun i h' e => ?_⟩
 rcases snoc_get e with e | ⟨e1, e2⟩
 ·exact g.all i h' e
 ·subst e2
  exact ⟨a.1, a.2.1, a.2.2.1, a.2.2.2, fun z => by (first|lia|omega)⟩
theorem ok_fnsT (T : TxtD K mg) (F : Fun K "_law_functions" "_law_functions" yL f fd) (C_law_take : Cal P w K mg base (CXE P w) 2 "_law_take" ["_law_state", "_law_most"] (spTakeD K)) (C_law_body : Cal P w K mg base (CXE P w) 21 "_law_body" ["_law_state", "_law_head", "_law_heads", "_law_way"] (spBodyT K)) : FnOk P w K mg base (CXE P w) 22 f fd ["_law_state", "_law_most", "_law_way"] (spFnsT K) := by
 refine F.okN xR (fun vs H Q E h => ?_) (fun cdv A outer s H vs Q E hr h => ?_)
 ·obtain ⟨st, wy, most, lo, ca, rfl, _⟩ := h
  rfl
 obtain ⟨st, wy, most, lo, ca, rfl, D, m1, m15, ewy, q⟩ := h
 refine ⟨_, (zD (zO (i := 3) xR.nd rfl (Or.inr rfl) (yC (zA (zL (zA zE (zA (zH C_law_take hr rfl (zA (pv 0) (zA zE zC)) passN) zC))) zC)))
   (zD (xX PassesOwn.never rfl (qM rfl T.n_range (zA (zH C_law_take hr rfl (zA (pv 0) (zA (pv 1) zC)) passN) zC)) (zR (i := 4) xR.nd rfl (Or.inl rfl)) (zD (zO (i := 5) xR.nd rfl (Or.inl rfl) (zT zX (yC (yA (.int (.int (.int (.int (.int .nil))))))) (zH C_law_take hr rfl (zA (pv 0) (zA zE zC)) passN) (fun _ _ => rfl)))
   (zG (yG (jZ PySem.F.plainAttrs_list PySem.F.slot_list_append PySem.F.type_list_append yJ (pv 3) (zA (zL (zA (pv 5) (zA (zQ yY (pv 5) (zT zX (yC (yA (.int (.int (.int (.int .nil)))))) (zH C_law_take hr rfl (zA (pv 0) (zA zE zC)) passN) (fun _ _ => rfl))) zC))) zC))))))
   (zG (zM (pe_comp (own := ["_law_head"]) (ys := ["_law_state", "_law_heads", "_law_way"]) rfl (kS (pv 3)) (compSc_of (sc := defScope yL) rfl (by decide +kernel)) (.cons (j := 0) rfl (.cons (j := 3) rfl (.cons (j := 2) rfl .nil))) (fun _ _ _ _ _ => (zR (i := 0) (show List.Nodup [("_law_head" : Str), ("_law_state" : Str), ("_law_heads" : Str), ("_law_way" : Str)] from (by decide +kernel)) rfl (Or.inl rfl))) (fun _ _ _ _ _ => pts_nil) (fun _ _ _ _ _ => (zL (zA (zT (ix_tupK K rfl) (pv 0) zE (fun _ _ => rfl)) (zA (zT (ix_tupK K rfl) (pv 0) zE (fun _ _ => rfl)) (zA (zH C_law_body hr rfl (zA (pv 1) (zA (pv 0) (zA (pv 2) (zA (pv 3) zC)))) passN) zC)))))))))), ?_⟩
 try dsimp only [Cx.nox, Cx.exc, Cx.wish, zU]
 have nwy : wy ≠ st := fun z => by
  obtain ⟨_, _, _, _, e, _⟩ := id D
  rw [z, e] at ewy; cases ewy
 refine ⟨_, rfl, st, 4, rfl, by decide, by decide, D, fun x H1 x0 x1 d1 => ⟨small (show 2 <= 1000 by decide), fun t0 ht0 => ⟨small (show 1 <= 1000 by decide), fun hl hhl => ?_⟩⟩⟩
 have s1 := (zF ht0 (.tup [.int 0, .int x])).trans (zF hhl (.lst [.ref t0]))
 have d2 := d1.trans (d1.draw.drawn s1)
 have nhl : hl ≠ st := Ne.symm ((d1.draw.drawn (zF ht0 _)).draw.ne hhl)
 have fhl : H hl = none := by
  cases e : H hl with
  | none => rfl
  | some o => rw [zF ht0 _ _ _ (d1.keep _ _ nhl e)] at hhl; cases hhl
 have tups : ∀ {H H' : Hp}, DrawnD K st H H' -> DrawD K H st -> Tups H H' := fun d D b xs e => d.keep b _ (fun z => by
  obtain ⟨_, _, _, _, z', _⟩ := id D
  rw [z, z'] at e; cases e) e
 refine ⟨_, rfl, _, rfl, st, most, rfl, by (first|lia|omega), by (first|lia|omega), d2.draw, fun n H3 n0 n1 d3 => ⟨_, rfl, by (first|lia|omega), by (first|lia|omega), kY (lo := 0) (n := n.toNat) (fun i σ' H' => ∃ (rs : List V) (hs : Hds) (v4 v5 : Option V), σ' = [some (.ref st), some (.int most), some (.ref wy), some (.ref hl), v4, v5] /\ DrawnD K st H H' /\ H' hl = some (.lst rs) /\ Paired (HeadAt H') rs hs /\ hs.length = 1 + i /\ (∀ h ∈ hs, h.2 <= 11) /\ HdsGood hs) ⟨[.ref t0], [(0, x)], none, none, rfl, d2.trans d3, d3.keep _ _ nhl zB, .cons ⟨t0, rfl, tups d3 d2.draw _ _ (zF hhl _ _ _ zB)⟩ .nil, rfl, (fun h m => by rw [List.mem_singleton.mp m]; show x <= 11; (first|lia|omega)), ⟨Nat.le_refl 1, (by decide : (1 : Nat) <= 16), fun i h e => ?_⟩⟩ ?_ ?_⟩⟩
 ·cases i with
  | zero =>
   cases e
   exact ⟨Int.le_refl _, (by decide : (0 : Int) <= 4), x0, (by show x <= 12; (first|lia|omega)), fun _ => rfl⟩
  | succ i => cases e
 ·rintro i σ' H4 hi ⟨rs, hs, v4, v5, rfl, d4, el, ph, lh, h11, hg⟩
  have lrs := Paired.len ph
  refine ⟨small (show 5 <= 1000 by decide), fun c1 hc1 => ?_⟩
  have e5 := d4.trans (d4.draw.new hc1 (.lst ([(0 : Int), 1, 2, 1, 4].map V.int)))
  have nc1 : c1 ≠ st := Ne.symm (d4.draw.ne hc1)
  refine ⟨_, rfl, st, 5, rfl, by decide, by decide, e5.draw, fun y H5 y0 y1 d5 => ?_⟩
  have ec1 : H5 c1 = some (.lst ([(0 : Int), 1, 2, 1, 4].map V.int)) := d5.keep _ _ nc1 zB
  obtain ⟨pa, pm, hpa⟩ := kK (ns := [(0 : Int), 1, 2, 1, 4]) y0 y1
  have pb : 0 <= pa /\ pa <= 4 := by
   have : ∀ z ∈ [(0 : Int), 1, 2, 1, 4], 0 <= z /\ z <= 4 := by decide
   exact this pa pm
  refine ⟨c1, _, _, _, rfl, rfl, SqL.of ec1, hpa, ?_⟩
  have el5 : H5 hl = some (.lst rs) := d5.keep _ _ nhl (zF hc1 _ _ _ el)
  refine ⟨_, rfl, .inl ⟨rfl, _, SqL.of el5⟩, _, rfl, _, rfl, small (show 4 <= 1000 by decide), fun c2 hc2 => ?_⟩
  have e6 := d5.draw.new hc2 (.lst ([(0 : Int), 1, 2, 7].map V.int))
  have nc2 : c2 ≠ st := Ne.symm (d5.draw.ne hc2)
  refine ⟨_, rfl, st, 4, rfl, by decide, by decide, e6.draw, fun z H6 z0 z1 d6 => ?_⟩
  have ec2 : H6 c2 = some (.lst ([(0 : Int), 1, 2, 7].map V.int)) := d6.keep _ _ nc2 zB
  obtain ⟨mo, mm, hmo⟩ := kK (ns := [(0 : Int), 1, 2, 7]) z0 z1
  have mb : 0 <= mo /\ mo <= 7 := by
   have : ∀ z ∈ [(0 : Int), 1, 2, 7], 0 <= z /\ z <= 7 := by decide
   exact this mo mm
  refine ⟨c2, _, _, _, rfl, rfl, SqL.of ec2, hmo, _, _, rfl, rfl, small (show 2 <= 1000 by decide), fun t ht => ?_⟩
  have s7 := zF ht (.tup [.int pa, .int (pa + mo)])
  have d47 := (d4.draw.new hc1 (.lst ([(0 : Int), 1, 2, 1, 4].map V.int))).trans (d5.trans (e6.trans (d6.trans (d6.draw.drawn s7))))
  have el7 := d47.keep _ _ nhl el
  refine ⟨hl, _, _, rfl, rfl, el7, small1000 (by (first|lia|omega)), ?_⟩
  have up : Tups (upd H6 t (.tup [.int pa, .int (pa + mo)])) (upd (upd H6 t (.tup [.int pa, .int (pa + mo)])) hl (.lst (rs ++ [.ref t]))) := fun b xs e => by rw [zK (fun z => by rw [z, el7] at e; cases e)]; exact e
  have tp := tups d47 d4.draw
  refine ⟨rs ++ [.ref t], hs ++ [(pa, pa + mo)], _, _, rfl, ⟨(d4.trans d47).draw.put el7, fun b o n e => ?_⟩, zB, Paired.snoc (Paired.imp (fun _ _ ⟨t, a, e⟩ => ⟨t, a, up _ _ (tp _ _ e)⟩) ph) ⟨t, rfl, up _ _ zB⟩, by rw [List.length_append, lh]; show 1 + i + 1 = _; (first|lia|omega), (fun h m => by
   rcases List.mem_append.mp m with z | z
   ·exact h11 h z
   ·rw [List.mem_singleton.mp z]; show pa + mo <= 11; (first|lia|omega)), HdsGood.snoc hg (by (first|lia|omega)) ⟨pb.1, pb.2, by show pa <= pa + mo; (first|lia|omega), by show pa + mo <= 12; (first|lia|omega)⟩⟩
  rw [zK (zI e fhl)]
  exact (d4.trans d47).keep b o n e
 rintro σ' H4 ⟨rs, hs, v4, v5, rfl, d4, el, ph, lh, h11, hg⟩
 have lrs := Paired.len ph
 refine ⟨_, rfl, hl, rfl, ⟨_, SqL.of el⟩, fun p hp => ?_⟩
 have np : p ≠ st := Ne.symm (d4.draw.ne hp)
 have nhp : hl ≠ p := zI el hp
 have s5 := zF hp (.lst [])
 have d5 := d4.trans (d4.draw.drawn s5)
 have fp : H p = none := by
  cases e : H p with
  | none => rfl
  | some o => rw [d4.keep _ _ np e] at hp; cases hp
 refine comp_lst (xs := rs) (fun i σ' H' => (∃ v, σ' = [v, some (.ref st), some (.ref hl), some (.ref wy)]) /\ DrawnD K st H4 H' /\ DrawnD K st H H' /\ ∃ (ys : List V) (fs : List Fn), H' p = some (.lst ys) /\ Paired (F3At H' 6) ys fs /\ fs.map Prod.fst = hs.take i /\ ∀ f ∈ fs, FitT hs f.1.2 6 f.2 /\ szT f.2 <= 203) ⟨⟨_, rfl⟩, d4.draw.drawn s5, d5, [], [], zB, .nil, by rw [List.take_zero] <;> rfl, fun f hf => (nomatch hf)⟩ ?_ ?_ ?_
 ·rintro i σ' H' _ ⟨_, d, _⟩
  exact SqL.of (d.keep _ _ nhl el)
 ·rintro i v σ' H5 hi hv ⟨⟨v0, rfl⟩, dd, dH, ys, fs, ep, pf, ef, hf⟩
  dsimp only [gName]
  have hh : hs[i]? = some (hs[i]'(by (first|lia|omega))) := List.getElem?_eq_getElem (by (first|lia|omega))
  obtain ⟨t, rfl, et⟩ := Paired.get ph i _ _ hv hh
  have et5 := tups dd d4.draw _ _ et
  have hgi := hg.all i _ hh
  generalize hs[i]'(by (first|lia|omega)) = h at *
  have HA5 : HeadsAt H5 hl hs := ⟨rs, dd.keep _ _ nhl el, Paired.imp (fun _ _ ⟨t, a, z⟩ => ⟨t, a, tups dd d4.draw _ _ z⟩) ph⟩
  refine tyes ⟨_, rfl, t, _, _, _, rfl, rfl, SqT.of et5, rfl, _, rfl, t, _, _, _, rfl, rfl, SqT.of et5, rfl, _, rfl, _, rfl, _, rfl, _, rfl, st, t, hl, wy, hs, h.1, h.2, lo, ca, rfl, dd.draw, et5, HA5, hg, by (first|lia|omega), by (first|lia|omega), dH.keep _ _ nwy ewy, fun bv bt H6 d6 bt3 bf bs => ⟨small (show 3 <= 1000 by decide), fun ft hft => ?_⟩⟩
  have s7 := zF hft (.tup [.int h.1, .int h.2, bv])
  have d57 := d6.trans (d6.draw.drawn s7)
  have ep7 := d57.keep _ _ np ep
  have lys : ys.length = i := by
   rw [Paired.len pf, <- List.length_map (f := Prod.fst), ef, List.length_take]; (first|lia|omega)
  have up : Tups (upd H6 ft (.tup [.int h.1, .int h.2, bv])) (upd (upd H6 ft (.tup [.int h.1, .int h.2, bv])) p (.lst (ys ++ [.ref ft]))) := fun b xs e => by rw [zK (fun z => by rw [z, ep7] at e; cases e)]; exact e
  have tp := tups d57 dd.draw
  have put : ∀ {H0 : Hp}, H0 p = none -> DrawnD K st H0 (upd H6 ft (.tup [.int h.1, .int h.2, bv])) -> DrawnD K st H0 (upd (upd H6 ft (.tup [.int h.1, .int h.2, bv])) p (.lst (ys ++ [.ref ft]))) := fun h0 d => ⟨d.draw.put ep7, fun b o n e => by rw [zK (zI e h0)]; exact d.keep b o n e⟩
  refine ⟨ys, ep7, small1000 (by (first|lia|omega)), CW.next hi ⟨⟨_, rfl⟩, put hp (dd.trans d57), put fp (dH.trans d57), ys ++ [.ref ft], fs ++ [(h, bt)], zB, Paired.snoc (Paired.imp (fun _ _ ⟨t, b, e, z, u⟩ => ⟨t, b, e, up _ _ (tp _ _ z), (u.tups tp).tups up⟩) pf) ⟨ft, bv, rfl, up _ _ zB, (bt3.same s7).tups up⟩, ?_, fun g hm => ?_⟩⟩
  ·rw [List.map_append, ef, List.take_add_one, hh] <;> rfl
  ·rcases List.mem_append.mp hm with hm | hm
   ·exact hf g hm
   ·rw [List.mem_singleton.mp hm]
    exact ⟨bf, bs⟩
 rintro σ' H5 ⟨_, dd, dH, ys, fs, ep, pf, ef, hf⟩
 rw [lrs, List.take_length] at ef
 have lf : fs.length = hs.length := by rw [<- List.length_map (f := Prod.fst), ef]
 refine q p ys fs H5 dH fp ep pf (by rw [ef]; exact hg) (by rw [ef]; exact hf) (by (first|lia|omega)) (by rw [ef]; exact h11)
def spGivenT (K : PySem.W.Frag) : Sp := fun vs H Q _ => ∃ st, vs = [.ref st] /\ DrawD K H st /\ ∀ (l : Addr) (gs : List Int) H', DrawnD K st H H' -> H l = none -> H' l = some (.lst (gs.map V.int)) -> gs.length <= 4 -> (∀ v ∈ gs, Vb v) -> Q (.ref l) H'
theorem ok_givenT (T : TxtD K mg) (F : Fun K "_law_given" "_law_given" xJ f fd) (C_law_take : Cal P w K mg base (CXE P w) 2 "_law_take" ["_law_state", "_law_most"] (spTakeD K)) (C_law_number : Cal P w K mg base (CXE P w) 3 "_law_number" ["_law_state"] (spIntD K fun r => r.natAbs <= 10 ^ 60)) : FnOk P w K mg base (CXE P w) 4 f fd ["_law_state"] (spGivenT K) := by
 refine F.okN sc__law_given (fun vs H Q E h => ?_) (fun cdv A outer s H vs Q E hr h => ?_)
 ·obtain ⟨st, rfl, _⟩ := h
  rfl
 obtain ⟨st, rfl, D, q⟩ := h
 refine ⟨_, (zG (zM (pe_comp (own := ["_law_k"]) (ys := ["_law_state"]) rfl (qM rfl T.n_range (zA (zH C_law_take hr rfl (zA (pv 0) (zA zE zC)) passN) zC)) (compSc_of (sc := defScope xJ) rfl (by decide +kernel)) (.cons (j := 0) rfl .nil) (fun _ _ _ _ _ => (zR (i := 0) (show List.Nodup [("_law_k" : Str), ("_law_state" : Str)] from (by decide +kernel)) rfl (Or.inl rfl))) (fun _ _ _ _ _ => pts_nil) (fun _ _ _ _ _ => (zH C_law_number hr rfl (zA (pv 1) zC) passN))))), ?_⟩
 try dsimp only [Cx.nox, Cx.exc, Cx.wish, zU]
 refine ⟨_, rfl, st, 5, rfl, by decide, by decide, D, fun n H1 n0 n1 d1 => ⟨_, rfl, by (first|lia|omega), by (first|lia|omega), fun p hp => ?_⟩⟩
 have np := Ne.symm (d1.draw.ne hp)
 have fp : H p = none := by
  cases e : H p with
  | none => rfl
  | some o => rw [d1.keep _ _ np e] at hp; cases hp
 refine comp_rng (lo := 0) (n := n.toNat) (fs := [some (.ref st)]) (fun j ys H' => DrawnD K st H H' /\ ∃ zs : List Int, H' p = some (.lst (zs.map V.int)) /\ zs.length = j /\ ∀ v ∈ zs, Vb v) ⟨d1.trans (d1.draw.new hp (.lst [])), [], zB, rfl, fun v hv => by cases hv⟩ ?_ ?_
 ·rintro j ys H3 hj ⟨d3, zs, hz, hzl, hv⟩
  refine tyes ⟨_, rfl, st, rfl, d3.draw, fun v H4 vb d4 => ?_⟩
  have z4 := d4.keep p _ np hz
  have d34 := d3.trans d4
  refine ⟨_, z4, (by rw [List.length_map]; exact small1000 (by (first|lia|omega))), CompW.next (ys := []) hj ⟨⟨d34.draw.put z4, fun b o n e => by rw [zK (zI e fp)]; exact d34.keep b o n e⟩, zs ++ [v], ?_, by rw [List.length_append, hzl] <;> rfl, snoc_vb hv (Nat.lt_of_le_of_lt vb (by decide +kernel))⟩⟩
  rw [zB, List.map_append] <;> rfl
 rintro ys H3 ⟨d3, zs, hz, hzl, hv⟩
 exact q p zs H3 d3 fp hz (by (first|lia|omega)) hv

end
section
variable {P : Program} {w : World} {K : PySem.W.Frag} {mg : Str -> Option Value} {base : Heap} {f : Addr} {fd : FuncData} {aP CL CN : Addr}
set_option maxHeartbeats 4000000

theorem ok_wrong (T : Txt K mg aP CL CN) (F : Fun K "wrong" "wrong" wG f fd) (Cfunctions : Cal P w K mg base (CXE P w) 17 "functions" ["sheet"] (spFns CN)) :
  FnOk P w K mg base (CXE P w) 18 f fd ["numbers"] spWrong := by
 refine F.okN sc_wrong (fun vs H Q E h => ?_) (fun cdv A outer s H vs Q E hr h => ?_)
 ·obtain ⟨a, ns, rfl, _⟩ := h
  rfl
 obtain ⟨a, ns, rfl, ha, t1, t2⟩ := h
 refine ⟨_, (zD (ps_try (i := 1) sc_wrong.nd rfl rfl rfl T.m_NoSheet (fun _ _ => (zG (yG (zH Cfunctions hr rfl (zA (pv 0) zC) passX)))) (fun _ => (zG (zM (zL (zA (pe_fldXK K rfl (pv 1)) (zA (pe_fldXK K rfl (pv 1)) zC)))))))
   (zG (zM kQ))), ?_⟩
 try dsimp only [Cx.nox, Cx.exc, Cx.wish, zU]
 refine ⟨_, rfl, a, ns, rfl, ha, fun r er l H1 s1 _ _ => t1 r er H1 s1, fun p wd er d H1 s1 ed => ⟨CN, d, rfl, rfl, T.mch, fun x σ1 ex hn => ?_⟩⟩
 match σ1, hn with
 | [y0, y1], _ =>
  refine ⟨_, rfl, x, CN, d, _, _, rfl, ex, ed, T.exc, T.xplace, rfl, _, rfl, x, CN, d, _, _, rfl, ex, ed, T.exc, T.xword, rfl, small (show 2 <= 1000 by decide), fun t ht => ?_⟩
  exact t2 p wd er t _ (s1.trans (zF ht _)) zB

def spNodesT (d : Nat) : Sp := fun vs H Q _ => ∃ v nd, vs = [v] /\ TrAt H d v nd /\ (preT nd).length <= 1000000 /\ ∀ l us H', Same H H' -> H l = none -> H' l = some (.lst us) -> Paired (TrAt H' d) us (preT nd) -> Q (.ref l) H'
theorem ok_nodesT (e : Nat) (T : Txt K mg aP CL CN) (n_reversed : mg "reversed" = none) (F : Fun K "nodes_in" "nodes_in" kF f fd) : FnOk P w K mg base (CXE P w) 1 f fd ["body"] (spNodesT (e + 1)) := by
 refine F.okN kL (fun vs H Q E h => ?_) (fun cdv A outer s H vs Q E hr h => ?_)
 ·obtain ⟨v, nd, rfl, _⟩ := h
  rfl
 obtain ⟨v, nd, rfl, hv, hc, q⟩ := h
 refine ⟨_, (zD (zO (i := 1) kL.nd rfl (Or.inl rfl) (yC zC))
   (zD (zO (i := 2) kL.nd rfl (Or.inl rfl) (yC (zA (pv 0) zC)))
   (zD (ps_while PassesOwn.never (pt_truth (pv 2) (fun _ => rfl)) (zD (zO (i := 3) kL.nd rfl (Or.inl rfl) (pe_bm0 PySem.F.plainAttrs_list PySem.F.slot_list_pop PySem.F.type_list_pop mt_pop (pv 2)))
   (zD (yG (jZ PySem.F.plainAttrs_list PySem.F.slot_list_append PySem.F.type_list_append yJ (pv 1) (zA (pv 3) zC)))
   (zG (xX PassesOwn.never rfl (pi_rev rfl n_reversed (zA (zT yH (pv 3) zE (fun _ _ => rfl)) zC)) (zR (i := 4) kL.nd rfl (Or.inl rfl)) (zG (yG (jZ PySem.F.plainAttrs_list PySem.F.slot_list_append PySem.F.type_list_append yJ (pv 2) (zA (pv 4) zC)))))))))
   (zG (zM (pv 1)))))), ?_⟩
 try dsimp only [Cx.nox, Cx.exc, Cx.wish, zU]
 refine ⟨small (show 0 <= 1000 by decide), fun tl htl => ?_⟩
 have s1 := zF htl (.lst [])
 refine ⟨_, rfl, small (show 1 <= 1000 by decide), fun wl hwl => ?_⟩
 have s2 := zF hwl (.lst [v])
 have hwl0 : H wl = none := s1.free hwl
 have ntw : tl ≠ wl := zI zB hwl
 have sl : sizeLine = 16777216 := sizeLine_eq
 refine ⟨fun m σ' H' => ∃ (done st : List Tr) (us ws : List V) (v3 v4 : Option V), σ' = [some v, some (.ref tl), some (.ref wl), v3, v4] /\ m = (preTs st).length /\ Same H H' /\ H' tl = some (.lst us) /\ H' wl = some (.lst ws) /\ Paired (TrAt H' (e + 1)) us done /\ Paired (TrAt H' (e + 1)) ws st /\ done ++ preTs st.reverse = preT nd,
  ⟨_, [], [nd], [], [v], _, _, rfl, rfl, s1.trans s2, s2 _ _ zB, zB, .nil, .cons (hv.tups (.same (s1.trans s2))) .nil, by simp [preTs]⟩, ?_⟩
 rintro m σ' H' ⟨done, st, us, ws, v3, v4, rfl, rfl, g, et, ew, pu, pw, eq⟩
 refine ⟨_, rfl, !ws.isEmpty, .inl ⟨ws, .of ew, rfl⟩, ?_⟩
 rcases List.eq_nil_or_concat ws with rfl | ⟨ws', x, rfl⟩
 ·cases pw
  refine iteF ⟨_, rfl, q tl us H' g htl et ?_⟩
  have : done = preT nd := by simpa [preTs] using eq
  rw [<- this]; exact pu
 rw [List.concat_eq_append] at *
 obtain ⟨st', n, rfl, pw', nx⟩ := Paired.unsnoc pw
 have ne : (!(ws' ++ [x]).isEmpty) = true := by simp
 rw [ne]
 refine iteT ⟨fun σ'' H'' => ∃ m', m' < (preTs (st' ++ [n])).length /\ ∃ (done st : List Tr) (us ws : List V) (v3 v4 : Option V), σ'' = [some v, some (.ref tl), some (.ref wl), v3, v4] /\ m' = (preTs st).length /\ Same H H'' /\ H'' tl = some (.lst us) /\ H'' wl = some (.lst ws) /\ Paired (TrAt H'' (e + 1)) us done /\ Paired (TrAt H'' (e + 1)) ws st /\ done ++ preTs st.reverse = preT nd, fun _ _ z => z, ?_⟩
 cases n with
 | mk k own ps =>
 obtain ⟨t, pl, o, pq, vs, rfl, etn, eo, ep, pr⟩ := nx
 have eq2 : done ++ (.mk k own ps :: (preTs ps ++ preTs st'.reverse)) = preT nd := by
  rw [<- eq]; simp [preTs, preT, jY]
 have tot : done.length + 1 + (preTs ps).length + (preTs st').length <= 1000000 := by
  have := congrArg List.length eq2
  rw [<- qG st']
  simp only [List.length_append, List.length_cons] at this
  (first|lia|omega)
 have lu : us.length = done.length := Paired.len pu
 have lw : ws'.length <= (preTs st').length := by rw [Paired.len pw']; exact preTs_len st'
 have lv : vs.length <= (preTs ps).length := by rw [Paired.len pr]; exact preTs_len ps
 refine ⟨_, rfl, .inl ⟨rfl, _, .of ew⟩, wl, _, .ref t, rfl, rfl, ew, by simp, ?_⟩
 have dl : (ws' ++ [V.ref t]).dropLast = ws' := by simp
 have et1 : upd H' wl (.lst (ws' ++ [V.ref t]).dropLast) tl = some (.lst us) := by rw [zK ntw]; exact et
 refine ⟨_, rfl, .inl ⟨rfl, _, .of et1⟩, _, rfl, tl, us, _, rfl, rfl, et1, by (first|lia|omega), ?_⟩
 have tp2 : Tups H' (upd (upd H' wl (.lst (ws' ++ [V.ref t]).dropLast)) tl (.lst (us ++ [V.ref t]))) := .trans (.upd ew) (.upd et1)
 have g2 : Same H (upd (upd H' wl (.lst (ws' ++ [V.ref t]).dropLast)) tl (.lst (us ++ [V.ref t]))) := (g.fresh hwl0).fresh htl
 refine ⟨_, rfl, t, _, _, _, rfl, rfl, .of (tp2 _ _ etn), rfl, pq, vs, rfl, .of (tp2 _ _ ep), for_rev (xs := vs) (fun i σ'' H'' => ∃ v4, σ'' = [some v, some (.ref tl), some (.ref wl), some (.ref t), v4] /\ Same H H'' /\ H'' tl = some (.lst (us ++ [.ref t])) /\ H'' wl = some (.lst (ws' ++ vs.reverse.take i)) /\ Tups H' H'')
  ⟨_, rfl, g2, zB, by rw [zK (Ne.symm ntw), zB, dl]; simp, tp2⟩ ?_ ?_ ?_⟩
 ·rintro i σ'' H'' _ ⟨v4, rfl, _, _, _, tp⟩
  exact .of (tp _ _ ep)
 ·rintro i x σ'' H'' hx ⟨v4, rfl, g3, et3, ew3, tp⟩
  have hi : i < vs.length := by have := (List.getElem?_eq_some_iff.mp hx).1; simpa using this
  refine ⟨_, rfl, .inl ⟨rfl, _, .of ew3⟩, _, rfl, wl, _, _, rfl, rfl, ew3, ?_, ?_⟩
  ·simp only [List.length_append, List.length_take, List.length_reverse]; (first|lia|omega)
  ·refine ⟨_, rfl, g3.fresh hwl0, by rw [zK ntw]; exact et3, ?_, .trans tp (.upd ew3)⟩
   rw [zB, List.take_add_one, hx, List.append_assoc]; rfl
 ·rintro σ'' H'' ⟨v4, rfl, g3, et3, ew3, tp⟩
  have tk : vs.reverse.take vs.length = vs.reverse := by rw [<- List.length_reverse (as := vs), List.take_length]
  rw [tk] at ew3
  refine ⟨_, ?_, done ++ [.mk k own ps], st' ++ ps.reverse, _, _, _, _, rfl, rfl, g3, et3, ew3, Paired.snoc (Paired.imp (fun _ _ z => z.tups tp) pu) (TrAt.tups (d := e + 1) (n := .mk k own ps) tp ⟨t, pl, o, pq, vs, rfl, etn, eo, ep, pr⟩), Paired.append (Paired.imp (fun _ _ z => z.tups tp) pw') (Paired.imp (fun _ _ z => (TrAt.tups tp z).more) (Paired.rev pr)), ?_⟩
  ·simp only [jY, qG, List.length_append, preTs, preT, List.length_cons, List.length_nil]; (first|lia|omega)
  ·rw [<- eq2]; simp [jY]
def spSheetOf (CN : Addr) (d : Nat) : Sp := fun vs H Q E => ∃ (l : Addr) (rs : List V) (fs : List Fn), vs = [.ref l] /\ H l = some (.lst rs) /\ Paired (FTAt H d) rs fs /\ (wr fs).length <= 1000000 /\
 (wrongM (wr fs) = none -> ∀ r H', Same H H' -> H r = none -> H' r = some (.lst ((wr fs).map V.int)) -> Q (.ref r) H') /\
 ∀ p w, wrongM (wr fs) = some (p, w) -> ∀ dx H', Same H H' -> H' dx = some (XdO dx [("place", .int (p : Nat)), ("word", .str w)]) -> E (.ref CN) (some dx) H'
theorem ok_sheet_of (T : Txt K mg aP CL CN) (d : Nat) (F : Fun K "sheet_of" "sheet_of" kC f fd) (Cnodes_in : Cal P w K mg base (CXE P w) 1 "nodes_in" ["body"] (spNodesT d)) (Cwrong : Cal P w K mg base (CXE P w) 18 "wrong" ["numbers"] spWrong) (CNoSheet : CalX P w K mg base 1 "NoSheet" CN ["self", "place", "word"] (spInitX CN)) :
  FnOk P w K mg base (CXE P w) 19 f fd ["functions"] (spSheetOf CN d) := by
 refine F.okX yF (fun vs H Q E h => ?_) (fun cdv A outer s H vs Q E hr h => ?_)
 ·obtain ⟨l, rs, fs, rfl, _⟩ := h
  rfl
 obtain ⟨l, rs, fs, rfl, el, pr, hz, t1, t2⟩ := h
 refine ⟨_, (zD (zO (i := 1) yF.nd rfl (Or.inl rfl) (yC (zA (yD zY rfl T.n_len xY (zA (pv 0) zC)) zC)))
   (zD (xX (qB rfl rfl) rfl (kS (pv 0)) (qH rfl (zW (zR (i := 2) yF.nd rfl (Or.inl rfl)) (zW (zR (i := 3) yF.nd rfl (Or.inl rfl)) (zW (zR (i := 4) yF.nd rfl (Or.inl rfl)) kJ)))) (zD (yG (jZ PySem.F.plainAttrs_list PySem.F.slot_list_append PySem.F.type_list_append yJ (pv 1) (zA (pv 2) zC)))
   (zG (yG (jZ PySem.F.plainAttrs_list PySem.F.slot_list_append PySem.F.type_list_append yJ (pv 1) (zA (pv 3) zC))))))
   (zD (xX (qB rfl rfl) rfl (kS (pv 0)) (qH rfl (zW (zR (i := 2) yF.nd rfl (Or.inl rfl)) (zW (zR (i := 3) yF.nd rfl (Or.inl rfl)) (zW (zR (i := 4) yF.nd rfl (Or.inl rfl)) kJ)))) (zG (xX (qB rfl rfl) rfl (kS (zH Cnodes_in hr rfl (zA (pv 4) zC) passX)) (qH rfl (zW (zR (i := 5) yF.nd rfl (Or.inl rfl)) (zW (zR (i := 6) yF.nd rfl (Or.inl rfl)) (zW (zR (i := 7) yF.nd rfl (Or.inl rfl)) (zW (zR (i := 8) yF.nd rfl (Or.inl rfl)) kJ))))) (zD (yG (jZ PySem.F.plainAttrs_list PySem.F.slot_list_append PySem.F.type_list_append yJ (pv 1) (zA (pv 5) zC)))
   (zG (yG (jZ PySem.F.plainAttrs_list PySem.F.slot_list_extend PySem.F.type_list_extend mt_extendT (pv 1) (zA (pv 7) zC))))))))
   (zD (zO (i := 9) yF.nd rfl (Or.inl rfl) (zH Cwrong hr rfl (zA (pv 1) zC) passX))
   (zD (zS (zJ op_notN (pv 9) kQ (nomark _)) (zG (xB CNoSheet hr rfl (zA (zT yH (pv 9) zE (fun _ _ => rfl)) (zA (zT yH (pv 9) zE (fun _ _ => rfl)) zC)))) zN)
   (zG (zM (pv 1)))))))), ?_⟩
 try dsimp only [Cx.nox, Cx.exc, Cx.wish, zU]
 have lr : rs.length = fs.length := Paired.len pr
 have sl : sizeLine = 16777216 := sizeLine_eq
 refine ⟨_, rfl, l, _, rfl, .inl (.of el), small (show 1 <= 1000 by decide), fun sh hsh => ?_⟩
 have s1 := zF hsh (.lst (([(rs.length : Int)] : List Int).map V.int))
 have hn0 : (rs.length : Int) = (fs.length : Int) := by (first|lia|omega)
 have wl := wr_len fs
 refine ⟨_, rfl, l, rfl, ⟨rs, .of (s1 _ _ el)⟩, kP (xs := rs) (fun i σ' H' => ∃ (v2 v3 v4 : Option V), σ' = [some (.ref l), some (.ref sh), v2, v3, v4, none, none, none, none, none] /\ i <= rs.length /\ Same H H' /\ H' sh = some (.lst (((fs.length : Int) :: headsW (fs.take i)).map V.int)))
  ⟨_, _, _, rfl, Nat.zero_le _, s1, by rw [<- hn0]; exact zB⟩ ?_ ?_ ?_⟩
 ·rintro i σ' H' _ ⟨v2, v3, v4, rfl, _, g, _⟩
  exact .of (g _ _ el)
 ·rintro i x σ' H' hx ⟨v2, v3, v4, rfl, _, g, es⟩
  have hi : i < rs.length := (List.getElem?_eq_some_iff.mp hx).1
  have ef : fs[i]? = some fs[i] := List.getElem?_eq_getElem (by (first|lia|omega))
  generalize fs[i] = fi at ef
  obtain ⟨t, b, rfl, ett, nb⟩ := Paired.get pr i _ _ hx ef
  have tk : fs.take (i + 1) = fs.take i ++ [fi] := by rw [List.take_add_one, ef] <;> rfl
  have hw := wU (fs.take i)
  rw [List.length_take] at hw
  have ln : (((fs.length : Int) :: headsW (fs.take i)).map V.int).length = 1 + 2 * i := by rw [List.length_map, List.length_cons, hw]; (first|lia|omega)
  refine ⟨t, _, rfl, .of (g _ _ ett), rfl, _, _, rfl, _, _, rfl, _, _, rfl, rfl, ?_⟩
  refine ⟨_, rfl, .inl ⟨rfl, _, .of es⟩, _, rfl, sh, _, _, rfl, rfl, es, by (first|lia|omega), ?_⟩
  refine ⟨_, rfl, .inl ⟨rfl, _, .of zB⟩, _, rfl, sh, _, _, rfl, rfl, zB, (by rw [List.length_append, ln]; show 1 + 2 * i + 1 < _; (first|lia|omega)), ?_⟩
  refine ⟨_, _, _, rfl, hi, (g.fresh hsh).fresh hsh, ?_⟩
  rw [zB, tk, headsW_snoc]
  simp
 rintro σ' H2 ⟨v2, v3, v4, rfl, _, g2, es2⟩
 rw [lr, List.take_length] at es2
 refine ⟨_, rfl, l, rfl, ⟨rs, .of (g2 _ _ el)⟩, kP (xs := rs) (fun i σ' H' => ∃ (v2 v3 v4 v5 v6 v7 v8 : Option V), σ' = [some (.ref l), some (.ref sh), v2, v3, v4, v5, v6, v7, v8, none] /\ i <= rs.length /\ Same H H' /\ H' sh = some (.lst (((fs.length : Int) :: (headsW fs ++ bodiesW (fs.take i))).map V.int)))
  ⟨_, _, _, _, _, _, _, rfl, Nat.zero_le _, g2, by rw [es2]; simp [bodiesW]⟩ ?_ ?_ ?_⟩
 ·rintro i σ' H' _ ⟨v2, v3, v4, v5, v6, v7, v8, rfl, _, g, _⟩
  exact .of (g _ _ el)
 ·rintro i x σ' H' hx ⟨v2, v3, v4, v5, v6, v7, v8, rfl, _, g, es⟩
  have hi : i < rs.length := (List.getElem?_eq_some_iff.mp hx).1
  have ef : fs[i]? = some fs[i] := List.getElem?_eq_getElem (by (first|lia|omega))
  generalize fs[i] = fi at ef
  obtain ⟨t, b, rfl, ett, nb⟩ := Paired.get pr i _ _ hx ef
  obtain ⟨hd, tr⟩ := fi
  simp only at nb ett
  have tk : fs.take (i + 1) = fs.take i ++ [(hd, tr)] := by rw [List.take_add_one, ef] <;> rfl
  have bt := bodiesW_take fs (i + 1)
  rw [tk, bodiesW_snoc, List.length_append] at bt
  simp only at bt
  have pn := pre_nums tr
  refine ⟨t, _, rfl, .of (g _ _ ett), rfl, _, _, rfl, _, _, rfl, _, _, rfl, rfl, ?_⟩
  refine ⟨_, rfl, b, tr, rfl, nb.tups (.same g), by (first|lia|omega), fun l2 us H3 s3 fr3 el3 pu3 => ?_⟩
  have nl2 : sh ≠ l2 := zI es fr3
  refine ⟨l2, rfl, ⟨us, .of el3⟩, kP (xs := us) (fun j σ' H4 => ∃ (v5 v6 v7 v8 : Option V), σ' = [some (.ref l), some (.ref sh), some (.int hd.1), some (.int hd.2), some b, v5, v6, v7, v8, none] /\ j <= us.length /\ Same H H4 /\ H4 l2 = some (.lst us) /\ Tups H3 H4 /\
   H4 sh = some (.lst (((fs.length : Int) :: (headsW fs ++ bodiesW (fs.take i) ++ ((preT tr).take j).flatMap headN)).map V.int)))
   ⟨_, _, _, _, rfl, Nat.zero_le _, g.trans s3, el3, fun _ _ e => e, by rw [s3 _ _ es]; simp⟩ ?_ ?_ ?_⟩
  ·rintro j σ' H4 _ ⟨v5, v6, v7, v8, rfl, _, _, e, _⟩
   exact .of e
  ·rintro j x σ' H4 hx2 ⟨v5, v6, v7, v8, rfl, _, g4, el4, tp, es4⟩
   have hj : j < us.length := (List.getElem?_eq_some_iff.mp hx2).1
   have lu : us.length = (preT tr).length := Paired.len pu3
   have en : (preT tr)[j]? = some (preT tr)[j] := List.getElem?_eq_getElem (by (first|lia|omega))
   generalize (preT tr)[j] = nd at en
   have nx := Paired.get pu3 j _ _ hx2 en
   cases d with
   | zero => exact nx.elim
   | succ d =>
   obtain ⟨k, own, ps⟩ := nd
   obtain ⟨t2, pl, o, q, vs, rfl, e1, e2, e3, _⟩ := nx
   have tk2 : (preT tr).take (j + 1) = (preT tr).take j ++ [.mk k own ps] := by rw [List.take_add_one, en] <;> rfl
   have ft := flat_take (preT tr) (j + 1)
   rw [nums_pre, tk2, List.flatMap_append, List.length_append] at ft
   have hd2 : ([Tr.mk k own ps].flatMap headN).length = 1 + own.length := by simp [headN]; (first|lia|omega)
   rw [hd2] at ft
   have ln : ((((fs.length : Int) :: (headsW fs ++ bodiesW (fs.take i) ++ ((preT tr).take j).flatMap headN)).map V.int)).length = 1 + 2 * fs.length + (bodiesW (fs.take i)).length + (((preT tr).take j).flatMap headN).length := by
    rw [List.length_map, List.length_cons, List.length_append, List.length_append, wU]; (first|lia|omega)
   refine ⟨t2, _, rfl, .of (tp _ _ e1), rfl, _, _, rfl, _, _, rfl, _, _, rfl, _, _, rfl, rfl, ?_⟩
   refine ⟨_, rfl, .inl ⟨rfl, _, .of es4⟩, _, rfl, sh, _, _, rfl, rfl, es4, by (first|lia|omega), ?_⟩
   have tp5 : Tups H3 (upd H4 sh (.lst (((fs.length : Int) :: (headsW fs ++ bodiesW (fs.take i) ++ ((preT tr).take j).flatMap headN)).map V.int ++ [.int k]))) := .trans tp (.upd es4)
   refine ⟨_, rfl, .inl ⟨rfl, _, .of zB⟩, _, rfl, sh, o, _, own.map V.int, rfl, rfl, zB, tp5 _ _ e2, (by rw [List.length_append, ln, List.length_map]; show _ + 1 + _ <= _; (first|lia|omega)), ?_⟩
   refine ⟨_, _, _, _, rfl, hj, (g4.fresh hsh).fresh hsh, by rw [zK (Ne.symm nl2), zK (Ne.symm nl2)]; exact el4, .trans tp5 (.upd zB), ?_⟩
   rw [zB, tk2, List.flatMap_append]
   simp [headN]
  ·rintro σ' H4 ⟨v5, v6, v7, v8, rfl, _, g4, _, _, es4⟩
   rw [Paired.len pu3, List.take_length, nums_pre] at es4
   exact ⟨_, _, _, _, _, _, _, rfl, hi, g4, by rw [es4, tk, bodiesW_snoc, List.append_assoc]⟩
 rintro σ' H3 ⟨v2, v3, v4, v5, v6, v7, v8, rfl, _, g3, es3⟩
 rw [lr, List.take_length] at es3
 have es : H3 sh = some (.lst ((wr fs).map V.int)) := es3
 refine ⟨_, rfl, sh, wr fs, rfl, es, fun r er H4 s4 => ?_, fun p wd er t H4 s4 et => ?_⟩
 ·refine ⟨_, rfl, rfl, _, rfl, iteNS rfl ⟨_, rfl, t1 (by unfold wrongM; rw [er]) sh H4 (g3.trans s4) hsh (s4 _ _ es)⟩⟩
 ·refine ⟨_, rfl, rfl, _, rfl, ?_⟩
  rw [show decide (V.ref t = V.non) = false from rfl]
  refine iteT ?_
  refine ⟨_, rfl, t, _, _, _, rfl, rfl, .of et, rfl, _, rfl, t, _, _, _, rfl, rfl, .of et, rfl, small (show 2 <= 1000 by decide), raised (lk := sh) ((g3.trans s4).fails hsh (t2 p wd (by unfold wrongM; rw [er]))) (Keep.refl _ _)⟩

end
section
variable {P : Program} {w : World} {K : PySem.W.Frag} {mg : Str -> Option Value} {base : Heap} {f : Addr} {fd : FuncData} {aP CL CN CW CF : Addr}
set_option maxHeartbeats 4000000

def begL (G : List Fn) (D : Nat) (gs : List Int) (br : Int) : ER := evC G D 16 0 [] ⟨[gs, []], br, [], 0⟩
def OutT (H : Hp) (v : V) (o : Str × Int × List Int) : Prop := ∃ t r, v = .ref t /\ H t = some (.tup [.str o.1, .int o.2.1, .ref r]) /\ H r = some (.lst (o.2.2.map V.int))
theorem out_eq {K : PySem.W.Frag} {H : Hp} {v u : V} {o : Str × Int × List Int} (h : OutT H v o) (g : OutT H u o) : ∃ a b xs ys, v = .ref a /\ u = .ref b /\ SqT K H a xs /\ SqT K H b ys /\ Paired (EqD K H 1) xs ys := by
 obtain ⟨t, r, e1, a1, b1⟩ := h
 obtain ⟨t', r', e2, a2, b2⟩ := g
 exact ⟨t, t', _, _, e1, e2, .of a1, .of a2, .cons (EqD.flat rfl 1) (.cons (EqD.flat rfl 1) (.cons (.inr ⟨r, r', _, _, rfl, rfl, .inl ⟨.of b1, .of b2⟩, EqD.ints _⟩) .nil))⟩
theorem own_len {hs : Hds} {b k : Int} {own : List Int} (fit : OwnFit hs b k own) : own.length <= 1 := by
 unfold OwnFit at fit
 rcases fit with ⟨_, n, e⟩ | ⟨_, n, e, _⟩ | ⟨_, n, e, _⟩ | ⟨_, n, e, _⟩ | ⟨_, n, e, _⟩ | ⟨_, e⟩
 all_goals (rw [e]; first | exact Nat.le_refl 1 | exact Nat.zero_le _)
theorem numsL_sz {hs : Hds} {b : Int} {n : Nat} (h : ∀ t, FitT hs b n t -> (nums t).length <= 2 * szT t) : ∀ {ts : List Tr}, FitTs hs b n ts -> (numsL ts).length <= 2 * szTs ts
 | [], _ => Nat.zero_le _
 | t :: ts, f => by
  unfold FitTs at f
  have e : numsL (t :: ts) = nums t ++ numsL ts := rfl
  have e2 : szTs (t :: ts) = szT t + szTs ts := rfl
  rw [e, e2, List.length_append]
  have := h t f.1
  have := numsL_sz h f.2
  (first|lia|omega)
theorem nums_sz {hs : Hds} {b : Int} : ∀ (n : Nat) (t : Tr), FitT hs b n t -> (nums t).length <= 2 * szT t
 | 0, t, f => by unfold FitT at f; exact f.elim
 | n + 1, .mk k own ps, f => by
  unfold FitT at f
  have e : nums (.mk k own ps) = (k :: own) ++ numsL ps := rfl
  have e2 : szT (.mk k own ps) = 1 + szTs ps := rfl
  rw [e, e2, List.length_append, List.length_cons]
  have := own_len f.2.2.1
  have := numsL_sz (nums_sz n) f.2.2.2.2.2
  (first|lia|omega)
theorem wr_len {fs : List Fn} {M : Nat} (h : ∀ f ∈ fs, ∃ hs b n, FitT hs b n f.2 /\ szT f.2 <= M) : (wr fs).length <= 1 + (2 * M + 2) * fs.length := by
 have hb : ∀ {fs : List Fn}, (∀ f ∈ fs, ∃ hs b n, FitT hs b n f.2 /\ szT f.2 <= M) -> (bodiesW fs).length <= 2 * M * fs.length := fun {fs} => by
  induction fs with
  | nil => exact fun _ => Nat.zero_le _
  | cons f fs ih =>
   intro h
   have e : bodiesW (f :: fs) = nums f.2 ++ bodiesW fs := List.flatMap_cons ..
   rw [e, List.length_append, List.length_cons, Nat.mul_succ]
   obtain ⟨hs, b, n, ft, sz⟩ := h f (List.mem_cons_self ..)
   have := nums_sz n f.2 ft
   have := ih fun g m => h g (List.mem_cons_of_mem _ m)
   (first|lia|omega)
 have ew : wr fs = ((fs.length : Int) :: flat (fs.map Prod.fst)) ++ bodiesW fs := by
  unfold wr
  rw [kO] <;> rfl
 rw [ew, List.length_append, List.length_cons, qR, List.length_map, Nat.add_mul]
 have := hb h
 (first|lia|omega)
structure DrG (d M : Nat) (fs : List Fn) : Prop where
 hg : HdsGood (fs.map Prod.fst)
 fit : ∀ f ∈ fs, FitT (fs.map Prod.fst) f.1.2 d f.2 /\ szT f.2 <= M
section
variable {d M : Nat} {fs : List Fn}
theorem DrG.prog (h : DrG d M fs) {e : Nat} (hd : d <= e) {N g : Nat} (big : N + g <= 60000) : PrG fs e M N g := by
 refine ⟨⟨fun i p b t e => ?_⟩, big, by have := h.hg.hi; rw [List.length_map] at this; exact this⟩
 have hh := h.hg.all i (p, b) (by rw [List.getElem?_map, e] <;> rfl)
 obtain ⟨ft, sz⟩ := h.fit _ (List.mem_of_getElem? e)
 exact ⟨hh.1, hh.2.2.1, hh.2.2.2.1, fitT_up ft hd, sz⟩
theorem DrG.pos (h : DrG d M fs) : 0 < fs.length := by have := h.hg.lo; rw [List.length_map] at this; exact this
theorem DrG.zero (h : DrG d M fs) : (fs.map Prod.fst).getD 0 (0, 0) = (0, ((fs.map Prod.fst).getD 0 (0, 0)).2) := by
 have l := h.hg.lo
 have e : (fs.map Prod.fst)[0]? = some ((fs.map Prod.fst)[0]'(by (first|lia|omega))) := List.getElem?_eq_getElem (by (first|lia|omega))
 have hh := h.hg.all 0 _ e
 rw [List.getD_eq_getElem?_getD, e]
 exact Prod.ext (hh.2.2.2.2 rfl) rfl
theorem DrG.rd (h : DrG d M fs) (hd : d <= 10) : ∃ nds, functionsM (wr fs) = .ok (fs.map Prod.fst, nds) /\ fnsOf (fs.map Prod.fst, nds) = fs := fns_wr h.hg fun f m => fitT_up (h.fit f m).1 hd
theorem DrG.len (h : DrG d M fs) (hM : M <= 1000) : (wr fs).length <= 100000 := by
 have h1 := wr_len (M := M) fun f m => ⟨_, _, _, h.fit f m⟩
 have h2 := h.hg.hi
 rw [List.length_map] at h2
 have h3 : (2 * M + 2) * fs.length <= (2 * M + 2) * 16 := Nat.mul_le_mul_left _ h2
 (first|lia|omega)
theorem DrG.beg (h : DrG d M fs) (hd : d <= 10) (gs : List Int) (br : Int) : begE fs gs br = begL fs d gs br := by
 unfold begE begL
 rw [evC_up (d := d) (e := 10) (hs := fs.map Prod.fst) hd fun m hm i p b t e => fitT_up (h.fit _ (List.mem_of_getElem? e)).1 hm]
end
def spRunG : Sp := fun vs H Q _ => ∃ (sh gv : Addr) (br : Int) (fs : List Fn) (gs : List Int) (d M g : Nat), vs = [.ref sh, .ref gv, .int br] /\ H sh = some (.lst ((wr fs).map V.int)) /\ DrG d M fs /\ d <= 10 /\ H gv = some (.lst (gs.map V.int)) /\ gs.length <= g /\ 2 <= g /\ g <= 4000 /\ (∀ v ∈ gs, Vb v) /\ 0 <= br /\ M * br.toNat <= 50000 /\
 ∀ t r1 H', Same H H' -> H t = none -> H r1 = none -> H' t = some (.tup [.str (outE (begL fs d gs br)).1, .int (outE (begL fs d gs br)).2.1, .ref r1]) -> H' r1 = some (.lst ((outE (begL fs d gs br)).2.2.map V.int)) -> Q (.ref t) H'
theorem runG_of : ∀ vs H Q E, spRunG vs H Q E -> spRunW vs H Q E := by
 rintro vs H Q E ⟨sh, gv, br, fs, gs, d, M, g, rfl, hsh, df, hd, hgv, lg, g2, g4, vg, b0, b6, q⟩
 obtain ⟨nds, e1, e2⟩ := df.rd hd
 refine ⟨sh, gv, br, wr fs, gs, (fs.map Prod.fst, nds), M, M * br.toNat, g, rfl, hsh, e1, ?_, ?_, ?_, hgv, lg, g2, g4, vg, b0, Nat.le_refl _, ?_⟩
 ·rw [e2]; exact df.prog hd (by (first|lia|omega))
 ·rw [e2]; exact df.pos
 ·rw [e2]; exact df.zero
 ·rw [e2, df.beg hd]; exact q
def FlAt (H : Hp) (d : Nat) (l : Addr) (fs : List Fn) : Prop := ∃ rs, H l = some (.lst rs) /\ Paired (F3At H d) rs fs
theorem FlAt.same {H H' : Hp} {d : Nat} {l : Addr} {fs : List Fn} (h : FlAt H d l fs) (g : Same H H') : FlAt H' d l fs := by
 obtain ⟨rs, e, p⟩ := h
 exact ⟨rs, g _ _ e, Paired.imp (fun _ _ x => x.same g) p⟩
theorem FlAt.up {H : Hp} {d e : Nat} {l : Addr} {fs : List Fn} (h : FlAt H d l fs) (le : d <= e) : FlAt H e l fs := by
 obtain ⟨rs, z, p⟩ := h
 exact ⟨rs, z, Paired.imp (fun _ _ ⟨t, b, e, q, x⟩ => ⟨t, b, e, q, x.up le⟩) p⟩
theorem FlAt.drawn {K : PySem.W.Frag} {H H' : Hp} {d : Nat} {st l : Addr} {fs : List Fn} (h : FlAt H d l fs) (D : DrawD K H st) (dd : DrawnD K st H H') : FlAt H' d l fs := by
 obtain ⟨rs, e, p⟩ := h
 refine ⟨rs, dd.keep _ _ (D.neL e) e, Paired.imp (fun _ _ x => x.tups fun b xs q => dd.keep _ _ (fun z => ?_) q) p⟩
 obtain ⟨_, _, _, _, z', _⟩ := id D
 rw [z, z'] at q; cases q

section
variable {hs : Hds} {b : Int} {n : Nat}
theorem fitMk {k : Int} {own : List Int} {ps : List Tr} (k0 : 0 <= k) (k19 : k <= 19) (of : OwnFit hs b k own) (lp : ps.length = (dueM hs k own).toNat) (vo : ∀ v ∈ own, v.natAbs <= 100000) (fp : FitTs hs b n ps) : FitT hs b (n + 1) (.mk k own ps) := by
 unfold FitT
 exact ⟨k0, k19, of, lp, fun v hv => Vb.small (vo v hv), fp⟩
theorem fitsN : FitTs hs b n [] := by unfold FitTs; trivial
theorem fitsC {t : Tr} {ts : List Tr} (h : FitT hs b n t) (r : FitTs hs b n ts) : FitTs hs b n (t :: ts) := by unfold FitTs; exact ⟨h, r⟩
end

def spOrder (K : PySem.W.Frag) : Sp := fun vs H Q _ => ∃ (st : Addr) (many : Int), vs = [.ref st, .int many] /\ DrawD K H st /\ 1 <= many /\ many <= 15 /\ ∀ l zs H', DrawnD K st H H' -> H l = none -> H' l = some (.lst ((0 :: zs).map V.int)) -> Pm 1 many zs -> Q (.ref l) H'
theorem ins_map (zs : List Int) (i : Nat) (x : Int) : (zs.map V.int).take i ++ V.int x :: (zs.map V.int).drop i = (zs.take i ++ x :: zs.drop i).map V.int := by
 rw [List.map_append, List.map_cons, List.map_take, List.map_drop]
theorem ok_order (T : TxtD K mg) (F : Fun K "_law_order" "_law_order" jF f fd) (C_law_take : Cal P w K mg base (CXE P w) 2 "_law_take" ["_law_state", "_law_most"] (spTakeD K)) : FnOk P w K mg base (CXE P w) 3 f fd ["_law_state", "_law_many"] (spOrder K) := by
 refine F.okN qE (fun vs H Q E h => ?_) (fun cdv A outer s H vs Q E hr h => ?_)
 ·obtain ⟨st, many, rfl, _⟩ := h
  rfl
 obtain ⟨st, many, rfl, D, m1, m15, q⟩ := h
 refine ⟨_, (zD (zO (i := 2) qE.nd rfl (Or.inl rfl) (yC zC))
   (zD (xX PassesOwn.never rfl (pi_range2 rfl T.n_range (zA zE (zA (pv 1) zC))) (zR (i := 3) qE.nd rfl (Or.inl rfl)) (zG (yG (jZ PySem.F.plainAttrs_list PySem.F.slot_list_insert PySem.F.type_list_insert mt_insert (pv 2) (zA (zH C_law_take hr rfl (zA (pv 0) (zA (zQ yY (yD zY rfl T.n_len xY (zA (pv 2) zC)) zE) zC)) passN) (zA (pv 3) zC))))))
   (zG (zM (zQ wT (yC (zA zE zC)) (pv 2)))))), ?_⟩
 try dsimp only [Cx.nox, Cx.exc, Cx.wish, zU]
 refine ⟨small (show 0 <= 1000 by decide), fun ol hol => ?_⟩
 try dsimp only [gName, List.set]
 have nol : ol ≠ st := Ne.symm (D.ne hol)
 refine ⟨_, rfl, _, _, rfl, ⟨by (first|lia|omega), by (first|lia|omega), by (first|lia|omega), by (first|lia|omega)⟩, kY (lo := 1) (n := (many - 1).toNat) (fun i σ' H' => ∃ (zs : List Int) (v3 : Option V), σ' = [some (.ref st), some (.int many), some (.ref ol), v3] /\ DrawnD K st H H' /\ H' ol = some (.lst (zs.map V.int)) /\ Pm 1 (1 + i) zs) ⟨[], none, rfl, D.new hol (.lst []), zB, (show Pm 1 (1 + ((0 : Nat) : Int)) [] from Pm.none 1)⟩ ?_ ?_⟩
 ·rintro i σ' H1 hi ⟨zs, v3, rfl, d1, e1, pm⟩
  have lz := pm.len
  try dsimp only [gName, List.set]
  refine ⟨_, rfl, .inl ⟨rfl, _, SqL.of e1⟩, _, rfl, _, rfl, ol, _, rfl, .inl (SqL.of e1), _, _, rfl, rfl, st, _, rfl, by rw [List.length_map]; (first|lia|omega), by rw [List.length_map]; (first|lia|omega), d1.draw, fun x H2 x0 x1 d2 => ?_⟩
  rw [List.length_map] at x1
  have e2 := d2.keep _ _ nol e1
  have dd := d1.trans d2
  refine ⟨_, rfl, ol, _, x, _, rfl, rfl, e2, x0, by rw [List.length_map]; (first|lia|omega), by rw [List.length_map]; (first|lia|omega), ?_⟩
  rw [ins_map]
  refine ⟨zs.take x.toNat ++ (1 + (i : Int)) :: zs.drop x.toNat, _, rfl, ⟨dd.draw.put e2, fun b o n e => by rw [zK (zI e hol)]; exact dd.keep b o n e⟩, zB, ?_⟩
  have := pm.ins (by (first|lia|omega)) x.toNat
  rw [show (1 : Int) + ((i + 1 : Nat) : Int) = 1 + (i : Int) + 1 by (first|lia|omega)]
  exact this
 rintro σ' H1 ⟨zs, v3, rfl, d1, e1, pm⟩
 rw [show (1 : Int) + (((many - 1).toNat : Nat) : Int) = many by (first|lia|omega)] at pm
 have lz := pm.len
 refine ⟨small (show 1 <= 1000 by decide), fun c hc => ?_⟩
 have s2 := zF hc (.lst [.int 0])
 refine ⟨_, rfl, c, ol, _, _, rfl, rfl, zB, s2 _ _ e1, small (show 1 + (zs.map V.int).length <= 1000 by rw [List.length_map]; (first|lia|omega)), fun r hr => ?_⟩
 have s3 := zF hr (.lst ([V.int 0] ++ zs.map V.int))
 have d3 := d1.trans (d1.draw.drawn (s2.trans s3))
 refine q r zs _ d3 ?_ zB pm
 cases e : H r with
 | none => rfl
 | some o =>
  have nr : r ≠ st := Ne.symm ((d1.draw.drawn s2).draw.ne hr)
  have := (d1.trans (d1.draw.drawn s2)).keep _ _ nr e
  rw [this] at hr; cases hr
def spAgain (n : Nat) : Sp := fun vs H Q _ => ∃ (v : V) (ol bl : Addr) (place : Int) (t : Tr) (zs bs : List Int) (hs : Hds) (b : Int), vs = [v, .ref ol, .ref bl, .int place] /\ Tr3 H n v t /\ FitT hs b n t /\ H ol = some (.lst (zs.map V.int)) /\ H bl = some (.lst (bs.map V.int)) /\ (∀ f, 0 <= f -> f < (hs.length : Int) -> f ∈ zs) /\ (bs.length : Int) = b /\ szT t <= 1000 /\
 ∀ v' H', Same H H' -> TrAt H' n v' (renT (rhoOf zs) (piOf bs) t) -> Q v' H'
theorem in12 {op : Int} : inV (V.int op) [V.int 1, V.int 2] = decide (op = 1 \/ op = 2) := (inV_ints op [1, 2]).trans (decide_eq_decide.mpr (by simp only [List.mem_cons, List.not_mem_nil, or_false]))
theorem own_box {hs : Hds} {b k : Int} {own : List Int} (of : OwnFit hs b k own) (c : k = 1 \/ k = 2) : ∃ i, own = [i] /\ 0 <= i /\ i <= b - 1 := by
 unfold OwnFit at of
 rcases of with ⟨a, _⟩ | ⟨_, z⟩ | ⟨a, _⟩ | ⟨a, _⟩ | ⟨a, _⟩ | ⟨a, _⟩
 ·(first|lia|omega)
 ·exact z
 ·(first|lia|omega)
 ·(first|lia|omega)
 ·(first|lia|omega)
 ·(first|lia|omega)
theorem own_fn {hs : Hds} {b k : Int} {own : List Int} (of : OwnFit hs b k own) (c : k = 6) : ∃ i, own = [i] /\ 0 <= i /\ i <= (hs.length : Int) - 1 := by
 unfold OwnFit at of
 rcases of with ⟨a, _⟩ | ⟨a, _⟩ | ⟨a, _⟩ | ⟨a, _⟩ | ⟨_, z⟩ | ⟨a, _⟩
 ·(first|lia|omega)
 ·(first|lia|omega)
 ·(first|lia|omega)
 ·(first|lia|omega)
 ·exact z
 ·(first|lia|omega)
theorem ok_again (n : Nat) (T : TxtD K mg) (F : Fun K "_law_again" "_law_again" yV f fd) (C_law_again : Cal P w K mg base (CXE P w) (n + 1) "_law_again" ["_law_node_here", "_law_order_here", "_law_boxes", "_law_place"] (spAgain n)) : FnOk P w K mg base (CXE P w) (n + 2) f fd ["_law_node_here", "_law_order_here", "_law_boxes", "_law_place"] (spAgain (n + 1)) := by
 refine F.okN xM (fun vs H Q E h => ?_) (fun cdv A outer s H vs Q E hr h => ?_)
 ·obtain ⟨v, ol, bl, place, t, zs, bs, hs, b, rfl, _⟩ := h
  rfl
 obtain ⟨v, ol, bl, place, ⟨k, own, ps⟩, zs, bs, hs, b, rfl, ⟨tn, ow, pt, pvs, rfl, etn, eow, ept, pp⟩, fit, eol, ebl, hz, lb, sz, q⟩ := h
 refine ⟨_, (zD (wA (pv 0) (qH rfl (zW (zR (i := 4) xM.nd rfl (Or.inl rfl)) (zW (zR (i := 5) xM.nd rfl (Or.inl rfl)) (zW (zR (i := 6) xM.nd rfl (Or.inl rfl)) kJ)))))
   (zD (jX (zS (zJ op_in_seq (pv 4) (zL (yA (.int (.int .nil)))) rfl) (zG (zO (i := 5) xM.nd rfl (Or.inl rfl) (zL (zA (zT zX (pv 2) (zT yH (pv 5) zE (fun _ _ => rfl)) (fun _ _ => rfl)) zC)))) zN))
   (zD (jX (zS (zJ yB (pv 4) zE (nomark _)) (zG (zO (i := 5) xM.nd rfl (Or.inl rfl) (zL (zA (jZ PySem.F.plainAttrs_list PySem.F.slot_list_index PySem.F.type_list_index mt_indexL (pv 1) (zA (zT yH (pv 5) zE (fun _ _ => rfl)) zC)) zC)))) zN))
   (zG (zM (zL (zA (pv 4) (zA (pv 3) (zA (pv 5) (zA (kX qI rfl T.n_tuple bt_tuple (zA (pe_comp (own := ["_law_part"]) (ys := ["_law_order_here", "_law_boxes", "_law_place"]) rfl (pi_tup (pv 6)) (compSc_of (sc := defScope yV) rfl (by decide +kernel)) (.cons (j := 1) rfl (.cons (j := 2) rfl (.cons (j := 3) rfl .nil))) (fun _ _ _ _ _ => (zR (i := 0) (show List.Nodup [("_law_part" : Str), ("_law_order_here" : Str), ("_law_boxes" : Str), ("_law_place" : Str)] from (by decide +kernel)) rfl (Or.inl rfl))) (fun _ _ _ _ _ => pts_nil) (fun _ _ _ _ _ => (zH C_law_again hr rfl (zA (pv 0) (zA (pv 1) (zA (pv 2) (zA (zQ yY (pv 3) zE) zC)))) passN))) zC)) zC)))))))))), ?_⟩
 try dsimp only [Cx.nox, Cx.exc, Cx.wish, zU]
 unfold FitT at fit
 obtain ⟨k0, k19, of, lp, vo, fp⟩ := fit
 have esz : szT (.mk k own ps) = 1 + szTs ps := rfl
 have er : renT (rhoOf zs) (piOf bs) (.mk k own ps) = .mk k (if k = 1 \/ k = 2 then own.map (piOf bs) else if k = 6 then own.map (rhoOf zs) else own) (ps.map (renT (rhoOf zs) (piOf bs))) := by
  show Tr.mk k _ (renTs _ _ ps) = _
  rw [wI]
 rw [er] at q
 refine ⟨_, rfl, tn, _, rfl, SqT.of etn, rfl, _, _, rfl, _, _, rfl, _, _, rfl, rfl, ?_⟩
 try dsimp only [gName, List.set]
 refine ⟨fun σ' H' => Same H H' /\ ∃ o1, σ' = [some (.ref tn), some (.ref ol), some (.ref bl), some (.int place), some (.int k), some (.ref o1), some (.ref pt)] /\ H' o1 = some (.tup ((if k = 1 \/ k = 2 then own.map (piOf bs) else own).map V.int)), ?_, ?_⟩
 ·refine ⟨_, rfl, small (show 2 <= 1000 by decide), fun c hc => ⟨c, _, rfl, .inr (SqT.of zB), rfl, rfl, _, rfl, ?_⟩⟩
  have s1 := zF hc (.tup [.int 1, .int 2])
  by_cases z : k = 1 \/ k = 2
  ·refine iteY (by rw [if_neg (by decide), in12]; exact decide_eq_true z) ?_
   obtain ⟨i, rfl, i0, i1⟩ := own_box of z
   have hi : i.toNat < bs.length := by (first|lia|omega)
   refine ⟨_, rfl, _, rfl, ow, _, _, _, rfl, rfl, SqT.of (s1 _ _ eow), rfl, bl, _, _, _, rfl, rfl, SqL.of (s1 _ _ ebl), qJ i0 (by rw [List.getElem?_map, List.getElem?_eq_getElem hi] <;> rfl), small (show 1 <= 1000 by decide), fun o1 ho1 => ?_⟩
   refine ⟨s1.trans (zF ho1 _), o1, rfl, ?_⟩
   rw [if_pos z, zB]
   show some (HO.tup [V.int bs[i.toNat]]) = some (HO.tup [V.int (bs.getD i.toNat 0)])
   rw [List.getD_eq_getElem?_getD, List.getElem?_eq_getElem hi] <;> rfl
  ·refine iteN (by rw [if_neg (by decide), in12]; exact decide_eq_false z) ?_
   exact ⟨s1, ow, rfl, by rw [if_neg z]; exact s1 _ _ eow⟩
 rintro σ' H1 ⟨s1, o1, rfl, eo1⟩
 try dsimp only [gName, List.set]
 refine ⟨fun σ' H' => Same H H' /\ ∃ o1, σ' = [some (.ref tn), some (.ref ol), some (.ref bl), some (.int place), some (.int k), some (.ref o1), some (.ref pt)] /\ H' o1 = some (.tup ((if k = 1 \/ k = 2 then own.map (piOf bs) else if k = 6 then own.map (rhoOf zs) else own).map V.int)), ?_, ?_⟩
 ·refine ⟨_, rfl, rfl, _, rfl, ite2 (fun c => ?_) (fun c => ?_)⟩
  ·have c' := vt c
   obtain ⟨i, rfl, i0, i1⟩ := own_fn of c'
   have nz : ¬ (k = 1 \/ k = 2) := by (first|lia|omega)
   rw [if_neg nz] at eo1
   have mi := hz i i0 (by (first|lia|omega))
   refine ⟨_, rfl, .inl ⟨rfl, _, SqL.of (s1 _ _ eol)⟩, _, rfl, o1, _, _, _, rfl, rfl, SqT.of eo1, rfl, ol, _, _, _, rfl, rfl, SqL.of (s1 _ _ eol), rfl, ?_, first_ix mi, small (show 1 <= 1000 by decide), fun o2 ho2 => ?_⟩
   ·exact List.all_eq_true.mpr fun x hx => by
     obtain ⟨y, _, rfl⟩ := List.mem_map.mp hx
     rfl
   refine ⟨s1.trans (zF ho2 _), o2, rfl, ?_⟩
   rw [if_neg nz, if_pos c', zB] <;> rfl
  ·have c' := vf c
   refine ⟨s1, o1, rfl, ?_⟩
   rw [if_neg c']
   exact eo1
 clear eo1 s1
 rintro σ' H1 ⟨s1, o1, rfl, eo1⟩
 try dsimp only [gName, List.set]
 have lpv := Paired.len pp
 have lps := len_sz ps
 refine ⟨_, rfl, _, rfl, _, rfl, _, rfl, pt, rfl, ⟨_, SqT.of (s1 _ _ ept)⟩, fun p hp => ?_⟩
 refine comp_tup (xs := pvs) (fun i σ' H' => (∃ v0, σ' = [v0, some (.ref ol), some (.ref bl), some (.int place)]) /\ Same H1 H' /\ ∃ us, H' p = some (.lst us) /\ Paired (TrAt H' n) us ((ps.take i).map (renT (rhoOf zs) (piOf bs)))) ⟨⟨_, rfl⟩, zF hp _, [], zB, by rw [List.take_zero]; exact .nil⟩ ?_ ?_ ?_
 ·rintro i σ' H' _ ⟨_, s2, _⟩
  exact SqT.of ((s1.trans s2) _ _ ept)
 ·rintro i x σ' H2 hi hx ⟨⟨v0, rfl⟩, s2, us, ep, pu⟩
  dsimp only [gName]
  obtain ⟨ti, hti, tri⟩ := Paired.yonder pp hx
  obtain ⟨fti, sti⟩ := FitTs.get fp hti
  have s12 := s1.trans s2
  have lu : us.length = i := by rw [Paired.len pu, List.length_map, List.length_take]; (first|lia|omega)
  refine tyes ⟨_, rfl, _, rfl, _, rfl, _, rfl, _, _, rfl, rfl, x, ol, bl, place + 3, ti, zs, bs, hs, b, rfl, tri.same s12, fti, s12 _ _ eol, s12 _ _ ebl, hz, lb, by (first|lia|omega), fun v' H3 s3 tr => ?_⟩
  have ep3 := s3 _ _ ep
  have tu : Tups H3 (upd H3 p (.lst (us ++ [v']))) := fun b xs q => by rw [zK (fun y => by rw [y, ep3] at q; cases q)]; exact q
  refine ⟨us, ep3, small1000 (by (first|lia|omega)), CW.next hi ⟨⟨_, rfl⟩, fun b o e => by rw [zK (zI e hp)]; exact (s2.trans s3) b o e, us ++ [v'], zB, ?_⟩⟩
  have et : ps.take (i + 1) = ps.take i ++ [ti] := by rw [List.take_succ, hti] <;> rfl
  rw [et, List.map_append]
  exact Paired.append (Paired.imp (fun _ _ z => (z.tups fun b xs e => s3 _ _ e).tups tu) pu) (.cons (tr.tups tu) .nil)
 rintro σ' H2 ⟨_, s2, us, ep, pu⟩
 rw [lpv, List.take_length] at pu
 refine ⟨p, us, rfl, .inl ⟨SqL.of ep, fun pq hpq => ⟨small (show 4 <= 1000 by decide), fun tt htt => ?_⟩⟩⟩
 have g1 := zF hpq (.tup us)
 have g2 := zF htt (.tup [.int k, .int place, .ref o1, .ref pq])
 have gg := g1.trans g2
 exact q (.ref tt) _ (s1.trans (s2.trans gg)) ⟨tt, place, o1, pq, us, rfl, zB, (s2.trans gg) _ _ eo1, g2 _ _ zB, Paired.imp (fun _ _ z => z.tups fun b xs e => gg _ _ e) pu⟩
theorem ok_againS (T : TxtD K mg) (F : Fun K "_law_again" "_law_again" yV f fd) (ma : mg "_law_again" = some (.ref f)) (ka : PySem.W.keepIn K (.ref f) = true) (ba : Binds K fd ["_law_node_here", "_law_order_here", "_law_boxes", "_law_place"] []) : ∀ n, FnOk P w K mg base (CXE P w) (n + 1) f fd ["_law_node_here", "_law_order_here", "_law_boxes", "_law_place"] (spAgain n)
 | 0 => ok_noSp.imp fun vs H Q E h => by
  obtain ⟨_, _, _, _, _, _, _, _, _, _, z, _⟩ := h
  exact z.elim
 | n + 1 => ok_again n T F ⟨⟨_, _, ok_againS T F ma ka ba n, ma, ka, ba⟩⟩

end
section
variable {P : Program} {w : World} {K : PySem.W.Frag} {mg : Str -> Option Value} {base : Heap} {f : Addr} {fd : FuncData} {aP CL CN CW CF : Addr}
set_option maxHeartbeats 4000000

structure TdF (os : List Int) (fs gs : List Fn) (i : Nat) : Prop where
 len : gs.length = i
 at_ : ∀ j, j < i -> ∃ (f : Nat) (p b : Int) (t : Tr) (bs : List Int), os[j]? = some (f : Int) /\ fs[f]? = some ((p, b), t) /\ Pm 0 b bs /\ (∀ x, 0 <= x -> x < p -> piOf bs x = x) /\ gs[j]? = some ((p, b + 1), renT (rhoOf os) (piOf bs) t)
section
variable {os : List Int} {fs gs : List Fn} {i : Nat}
theorem TdF.none : TdF os fs [] 0 := ⟨rfl, fun j h => absurd h (Nat.not_lt_zero _)⟩
theorem TdF.snoc (h : TdF os fs gs i) {f : Nat} {p b : Int} {t : Tr} {bs : List Int} (e : os[i]? = some (f : Int)) (ef : fs[f]? = some ((p, b), t)) (pm : Pm 0 b bs) (pi : ∀ x, 0 <= x -> x < p -> piOf bs x = x) : TdF os fs (gs ++ [((p, b + 1), renT (rhoOf os) (piOf bs) t)]) (i + 1) := by
 refine ⟨by rw [List.length_append, h.len] <;> rfl, fun j hj => ?_⟩
 by_cases c : j < i
 ·obtain ⟨f', p', b', t', bs', a1, a2, a3, a4, a5⟩ := h.at_ j c
  exact ⟨f', p', b', t', bs', a1, a2, a3, a4, by rw [List.getElem?_append_left (by rw [h.len]; exact c)]; exact a5⟩
 ·have : j = i := by (first|lia|omega)
  subst this
  exact ⟨f, p, b, t, bs, e, ef, pm, pi, by rw [List.getElem?_append_right (by rw [h.len]; exact Nat.le_refl _), h.len, Nat.sub_self] <;> rfl⟩
def exF : Fn := ((1, 2), .mk 5 [] [.mk 1 [0] [], .mk 7 [] [.mk 0 [3] []]])
theorem exF_fit {hs : Hds} : FitT hs 2 6 exF.2 := by
 have f0 : FitT hs 2 4 (.mk 0 [3] []) := fitMk (by decide) (by decide) (.inl ⟨rfl, 3, rfl⟩) rfl (fun v hv => by rw [List.mem_singleton.mp hv]; decide) fitsN
 have f7 : FitT hs 2 5 (.mk 7 [] [.mk 0 [3] []]) := fitMk (by decide) (by decide) (.inr (.inr (.inr (.inr (.inr ⟨.inr (by decide), rfl⟩))))) rfl (fun v hv => (nomatch hv)) (fitsC f0 fitsN)
 have f1 : FitT hs 2 5 (.mk 1 [0] []) := fitMk (by decide) (by decide) (.inr (.inl ⟨.inl rfl, 0, rfl, by decide, by decide⟩)) rfl (fun v hv => by rw [List.mem_singleton.mp hv]; decide) fitsN
 exact fitMk (by decide) (by decide) (.inr (.inr (.inr (.inr (.inr ⟨.inl rfl, rfl⟩))))) rfl (fun v hv => (nomatch hv)) (fitsC f1 (fitsC f7 fitsN))
structure Whole22 (os : List Int) (fs gs' : List Fn) : Prop where
 dg : DrG 6 203 gs'
 td : Turned (rhoOf os) 6 fs gs'
theorem TdF.whole (h : TdF os fs gs fs.length) (pm : Pm 0 fs.length os) (o0 : os[0]? = some 0) (dg : DrG 6 203 fs) (l4 : fs.length <= 4) (h11 : ∀ h ∈ fs.map Prod.fst, h.2 <= 11) {ex : List Fn} (hex : ex = [] \/ ex = [exF]) : Whole22 os fs (gs ++ ex) := by
 have hd : ∀ (f : Nat) (p b : Int) (t : Tr), fs[f]? = some ((p, b), t) -> (0 <= p /\ p <= 4 /\ p <= b /\ b <= 11 /\ (f = 0 -> p = 0)) /\ FitT (fs.map Prod.fst) b 6 t /\ szT t <= 203 := fun f p b t e => by
  have e1 : (fs.map Prod.fst)[f]? = some (p, b) := by rw [List.getElem?_map, e] <;> rfl
  have z := dg.hg.all f _ e1
  have y := h11 _ (List.mem_of_getElem? e1)
  have x := dg.fit _ (List.mem_of_getElem? e)
  exact ⟨⟨z.1, z.2.1, z.2.2.1, y, z.2.2.2.2⟩, x⟩
 have lex : ex.length <= 1 := by rcases hex with rfl | rfl <;> decide
 have lg : (gs ++ ex).length = fs.length + ex.length := by rw [List.length_append, h.len]
 have at_ : ∀ (f : Nat) (p b : Int) (t : Tr), fs[f]? = some ((p, b), t) -> ∃ bs, Pm 0 b bs /\ (∀ x, 0 <= x -> x < p -> piOf bs x = x) /\ (rhoOf os f).toNat < fs.length /\ 0 <= rhoOf os f /\ (gs ++ ex)[(rhoOf os f).toNat]? = some ((p, b + 1), renT (rhoOf os) (piOf bs) t) := fun f p b t e => by
  have hf : f < fs.length := (List.getElem?_eq_some_iff.mp e).1
  have m : (f : Int) ∈ os := (pm.mem f).mpr (by (first|lia|omega))
  have lt := ixOf_lt m
  have lo := pm.len
  have hj : ixOf f os < fs.length := by (first|lia|omega)
  obtain ⟨f', p', b', t', bs', a1, a2, a3, a4, a5⟩ := h.at_ _ hj
  rw [ixOf_at m] at a1
  injection a1 with a1
  have : f' = f := by (first|lia|omega)
  subst this
  rw [e] at a2
  cases a2
  exact ⟨bs', a3, a4, hj, Int.natCast_nonneg _, by
   show (gs ++ ex)[ixOf f' os]? = _
   rw [List.getElem?_append_left (by rw [h.len]; exact hj)]; exact a5⟩
 have td : Turned (rhoOf os) 6 fs (gs ++ ex) := ⟨fun f p b t e => by
  have := hd f p b t e
  exact ⟨this.1.1, this.1.2.2.1, this.2.1⟩, fun f p b t e => by
  obtain ⟨bs, a, c, _, _, d⟩ := at_ f p b t e
  exact ⟨piOf bs, a.ok, c, d⟩⟩
 have ht : HdTo (rhoOf os) (fs.map Prod.fst) ((gs ++ ex).map Prod.fst) := ⟨fun f f0 f1 => by
  rw [List.length_map] at f1
  obtain ⟨⟨⟨p, b⟩, t⟩, e⟩ : ∃ x, fs[f.toNat]? = some x := ⟨_, List.getElem?_eq_getElem (by (first|lia|omega))⟩
  obtain ⟨bs, _, _, z1, z0, z⟩ := at_ _ p b t e
  rw [show ((f.toNat : Nat) : Int) = f by (first|lia|omega)] at z z0 z1
  refine ⟨z0, by rw [List.length_map, lg]; (first|lia|omega), ?_⟩
  rw [List.getD_eq_getElem?_getD, List.getD_eq_getElem?_getD, List.getElem?_map, List.getElem?_map, z, e] <;> rfl⟩
 have l16 : ((gs ++ ex).map Prod.fst).length <= 16 := by rw [List.length_map, lg]; (first|lia|omega)
 have each : ∀ (j : Nat) (g : Fn), (gs ++ ex)[j]? = some g -> (0 <= g.1.1 /\ g.1.1 <= 4 /\ g.1.1 <= g.1.2 /\ g.1.2 <= 12 /\ (j = 0 -> g.1.1 = 0)) /\ FitT ((gs ++ ex).map Prod.fst) g.1.2 6 g.2 /\ szT g.2 <= 203 := fun j g e => by
  by_cases c : j < fs.length
  ·obtain ⟨f, p, b, t, bs, a1, a2, a3, a4, a5⟩ := h.at_ j c
   rw [List.getElem?_append_left (by rw [h.len]; exact c), a5] at e
   cases e
   obtain ⟨z, ft, sz⟩ := hd f p b t a2
   refine ⟨⟨z.1, z.2.1, by show p <= b + 1; (first|lia|omega), by show b + 1 <= 12; (first|lia|omega), fun j0 => ?_⟩, renT_fit ht l16 a3.ok (by (first|lia|omega)) 6 t ft, by show szT (renT _ _ t) <= 203; rw [renT_sz]; exact sz⟩
   subst j0
   rw [o0] at a1
   injection a1 with a1
   exact z.2.2.2.2 (by (first|lia|omega))
  ·rw [List.getElem?_append_right (by rw [h.len]; (first|lia|omega)), h.len] at e
   rcases hex with rfl | rfl
   ·cases e
   ·have p0 := dg.pos
    have : j - fs.length = 0 := by
     have := (List.getElem?_eq_some_iff.mp e).1
     rw [List.length_singleton] at this
     (first|lia|omega)
    rw [this] at e
    cases e
    exact ⟨⟨by decide, by decide, by decide, by decide, fun z => by (first|lia|omega)⟩, exF_fit, by decide⟩
 refine ⟨⟨⟨by have := dg.pos; rw [List.length_map, lg]; (first|lia|omega), l16, fun j h e => ?_⟩, fun g m => ?_⟩, td⟩
 ·rw [List.getElem?_map] at e
  cases z : (gs ++ ex)[j]? with
  | none => rw [z] at e; cases e
  | some g =>
   rw [z] at e
   cases e
   exact (each j g z).1
 ·obtain ⟨j, e⟩ := List.getElem?_of_mem m
  exact (each j g e).2
theorem Whole22.out {gs' : List Fn} (h : Whole22 os fs gs') (dg : DrG 6 203 fs) (o0 : os[0]? = some 0) (gv : List Int) (br : Int) : outE (begL gs' 6 gv br) = outE (begL fs 6 gv br) := by
 have z : rhoOf os 0 = 0 := by
  cases os with
  | nil => cases o0
  | cons a r =>
   cases o0
   rfl
 have r := turn_out h.td dg.pos z (by rw [dg.zero]) gv br
 unfold begL
 generalize evC fs 6 16 0 [] ⟨[gv, []], br, [], 0⟩ = x at r ⊢
 generalize evC gs' 6 16 0 [] ⟨[gv, []], br, [], 0⟩ = y at r ⊢
 cases x with
 | val v s =>
  obtain ⟨s', rfl, rl⟩ := r
  show (_, _, s'.rows.getD 1 []) = (_, _, s.rows.getD 1 [])
  rw [rl.rows]
 | bad w n rows c =>
  have r : y = .bad w n rows c := r
  subst r
  rfl
end

end
section
variable {P : Program} {w : World} {K : PySem.W.Frag} {mg : Str -> Option Value} {base : Heap} {f : Addr} {fd : FuncData} {aP CL CN CW CF : Addr}
set_option maxHeartbeats 4000000

theorem ok_law (T : TxtD K mg) (F : Fun K "law" "law" s_law f fd) (C_law_begin : Cal P w K mg base (CXE P w) 1 "_law_begin" ["_law_script"] (spBegin K)) (C_law_take : Cal P w K mg base (CXE P w) 2 "_law_take" ["_law_state", "_law_most"] (spTakeD K)) (C_law_functions : Cal P w K mg base (CXE P w) 22 "_law_functions" ["_law_state", "_law_most", "_law_way"] (spFnsT K)) (C_law_order : Cal P w K mg base (CXE P w) 3 "_law_order" ["_law_state", "_law_many"] (spOrder K)) (C_law_again : Cal P w K mg base (CXE P w) 7 "_law_again" ["_law_node_here", "_law_order_here", "_law_boxes", "_law_place"] (spAgain 6)) (C_law_given : Cal P w K mg base (CXE P w) 4 "_law_given" ["_law_state"] (spGivenT K)) (C_law_sheet : Cal P w K mg base (CXE P w) 12 "_law_sheet" ["_law_functions_drawn"] (spSheetL 10))
  (Cfunctions : Cal P w K mg base (CXE P w) 17 "functions" ["sheet"] (spFns CN)) (Csheet_of : Cal P w K mg base (CXE P w) 19 "sheet_of" ["functions"] (spSheetOf CN 10)) (Crun : Cal P w K mg base (CXE P w) 213 "run" ["sheet", "given", "breaths"] spRunG) : FnOk P w K mg base (CXE P w) 214 f fd ["_law_script"] (spLaw K) := by
 refine F.okN xT (fun vs H Q E h => ?_) (fun cdv Ar outer s H vs Q E hr h => ?_)
 ·obtain ⟨a, ns, rfl, _⟩ := h
  rfl
 obtain ⟨a, ns, rfl, hsc, hl, q⟩ := h
 refine ⟨_, (zD (zO (i := 1) xT.nd rfl (Or.inl rfl) (zH C_law_begin hr rfl (zA (pv 0) zC) passN))
   (zD (zO (i := 2) xT.nd rfl (Or.inl rfl) (zH C_law_functions hr rfl (zA (pv 1) (zA zE (zA (zL (zA pe_bl (zA pe_bl zC))) zC))) passN))
   (zD (zO (i := 3) xT.nd rfl (Or.inl rfl) (zH C_law_order hr rfl (zA (pv 1) (zA (yD zY rfl T.n_len xY (zA (pv 2) zC)) zC)) passN))
   (zD (zO (i := 4) xT.nd rfl (Or.inl rfl) (yC zC))
   (zD (xX PassesOwn.never rfl (kS (pv 3)) (zR (i := 5) xT.nd rfl (Or.inl rfl)) (zD (wA (zT zX (pv 2) (pv 5) (fun _ _ => rfl)) (qH rfl (zW (zR (i := 6) xT.nd rfl (Or.inl rfl)) (zW (zR (i := 7) xT.nd rfl (Or.inl rfl)) (zW (zR (i := 8) xT.nd rfl (Or.inl rfl)) kJ)))))
   (zD (zO (i := 9) xT.nd rfl (Or.inl rfl) (pe_listR rfl T.n_list rfl T.n_range (zA (pv 6) zC)))
   (zD (xX PassesOwn.never rfl (pi_range2 rfl T.n_range (zA (pv 6) (zA (pv 7) zC))) (zR (i := 10) xT.nd rfl (Or.inl rfl)) (zG (yG (jZ PySem.F.plainAttrs_list PySem.F.slot_list_insert PySem.F.type_list_insert mt_insert (pv 9) (zA (zQ yY (pv 6) (zH C_law_take hr rfl (zA (pv 1) (zA (zQ yY (zQ xG (yD zY rfl T.n_len xY (zA (pv 9) zC)) (pv 6)) zE) zC)) passN)) (zA (pv 10) zC))))))
   (zG (yG (jZ PySem.F.plainAttrs_list PySem.F.slot_list_append PySem.F.type_list_append yJ (pv 4) (zA (zL (zA (pv 6) (zA (zQ yY (pv 7) zE) (zA (zH C_law_again hr rfl (zA (pv 8) (zA (pv 3) (zA (pv 9) (zA (zH C_law_take hr rfl (zA (pv 1) (zA zE zC)) passN) zC)))) passN) zC)))) zC))))))))
   (zD (jX (zS (zJ yB (zH C_law_take hr rfl (zA (pv 1) (zA zE zC)) passN) zE (nomark _)) (zG (yG (jZ PySem.F.plainAttrs_list PySem.F.slot_list_append PySem.F.type_list_append yJ (pv 4) (zA (zL (zA zE (zA zE (zA (zL (zA zE (zA zE (zA (zL zC) (zA (zL (zA (zL (zA zE (zA zE (zA (zL (zA zE zC)) (zA (zL zC) zC))))) (zA (zL (zA zE (zA zE (zA (zL zC) (zA (zL (zA (zL (zA zE (zA zE (zA (zL (zA zE zC)) (zA (zL zC) zC))))) zC)) zC))))) zC))) zC))))) zC)))) zC)))) zN))
   (zD (zO (i := 11) xT.nd rfl (Or.inl rfl) (kX qW rfl T.n_list bt_list (zA (pv 4) zC)))
   (zD (zO (i := 12) xT.nd rfl (Or.inl rfl) (zH Csheet_of hr rfl (zA (pv 11) zC) passN))
   (zD (zS (PW.pt (qX (zJ (op_neD hr) (pv 11) (pv 4) (nomark _)) (qA (zJ (op_neD hr) (zH Csheet_of hr rfl (zA (zH Cfunctions hr rfl (zA (pv 12) zC) passN) zC) passN) (pv 12) (nomark _))))) (zG (zM pe_bl)) zN)
   (zD (zO (i := 13) xT.nd rfl (Or.inl rfl) (zH C_law_sheet hr rfl (zA (pv 2) zC) passN))
   (zD (xX PassesOwn.never rfl (kS (yC (zA (zH C_law_take hr rfl (zA (pv 1) (zA zE zC)) passN) (zA (zQ yY zE (zH C_law_take hr rfl (zA (pv 1) (zA zE zC)) passN)) (zA zE zC))))) (zR (i := 14) xT.nd rfl (Or.inl rfl)) (zD (zO (i := 15) xT.nd rfl (Or.inl rfl) (zH C_law_given hr rfl (zA (pv 1) zC) passN))
   (zD (zO (i := 16) xT.nd rfl (Or.inl rfl) (zH Crun hr rfl (zA (pv 13) (zA (pv 15) (zA (pv 14) zC))) passN))
   (zG (zS (zJ (op_neD hr) (zH Crun hr rfl (zA (pv 12) (zA (pv 15) (zA (pv 14) zC))) passN) (pv 16) (nomark _)) (zG (zM pe_bl)) zN)))))
   (zG (zM pe_bl))))))))))))), ?_⟩
 try dsimp only [Cx.nox, Cx.exc, Cx.wish, zU]
 refine ⟨_, rfl, a, ns, rfl, hsc, hl, fun st H1 hst s1 D1 => ?_⟩
 refine ⟨_, rfl, small (show 2 <= 1000 by decide), fun wy hwy => ⟨st, wy, 4, true, true, rfl, D1.same (zF hwy _), by decide, by decide, zB, fun l rs1 fs H3 d3 hl1 el1 pf1 hg1 hf1 lf1 h11 => ?_⟩⟩
 have FA : FlAt H3 6 l fs := ⟨rs1, el1, pf1⟩
 have DG : DrG 6 203 fs := ⟨hg1, hf1⟩
 have lrs := Paired.len pf1
 have lpos := DG.pos
 clear pf1 hg1 hf1 hl1
 try dsimp only [gName, List.set]
 refine ⟨_, rfl, _, rfl, l, _, rfl, .inl (SqL.of el1), st, _, rfl, d3.draw, by rw [lrs]; (first|lia|omega), by rw [lrs]; (first|lia|omega), fun ol zs H4 d4 hol eol pm1 => ?_⟩
 rw [lrs] at pm1
 have pm := pm1.zero (by (first|lia|omega))
 have FA := FA.drawn d3.draw d4
 have D4 := d4.draw
 have o0 : (0 :: zs)[0]? = some 0 := rfl
 obtain ⟨os, eos⟩ : ∃ os, os = 0 :: zs := ⟨_, rfl⟩
 rw [<- eos] at eol pm o0
 clear pm1 eos el1 d3 d4 hol
 try dsimp only [gName, List.set]
 refine ⟨small (show 0 <= 1000 by decide), fun tl htl => ?_⟩
 have s5 := zF htl (.lst [])
 have ntl : tl ≠ ol := Ne.symm (zI eol htl)
 have nts : tl ≠ st := Ne.symm (D4.ne htl)
 have ntk : tl ≠ l := by
  obtain ⟨_, e, _⟩ := id FA
  exact Ne.symm (zI e htl)
 have FA := FA.same s5
 have eol := s5 _ _ eol
 have D5 := D4.same s5
 have etl : upd H4 tl (.lst []) tl = some (.lst []) := zB
 generalize upd H4 tl (.lst []) = H5 at FA eol D5 etl ⊢
 try dsimp only [gName, List.set]
 clear s5 htl D4
 have etl5 := etl
 have nos : ol ≠ st := D5.neL eol
 refine ⟨_, rfl, ol, rfl, ⟨_, SqL.of eol⟩, kP (xs := os.map V.int) (fun i σ' H' => ∃ (v5 v6 v7 v8 v9 v10 : Option V) (ts : List V) (gs : List Fn), σ' = [some (.ref a), some (.ref st), some (.ref l), some (.ref ol), some (.ref tl), v5, v6, v7, v8, v9, v10, none, none, none, none, none, none] /\ KeepL [st, tl] H5 H' /\ DrawD K H' st /\ H' tl = some (.lst ts) /\ Paired (FTAt H' 6) ts gs /\ TdF os fs gs i) ⟨none, none, none, none, none, none, [], [], rfl, fun b o _ e => e, D5, etl, .nil, TdF.none⟩ ?_ ?_ ?_⟩
 ·rintro i σ' H' _ ⟨_, _, _, _, _, _, _, _, _, kp, _⟩
  exact SqL.of (kp _ _ (by simp only [List.mem_cons, List.not_mem_nil, or_false]; exact fun z => z.elim nos (fun z => ntl z.symm)) eol)
 ·rintro i x σ' H6 hx ⟨v5, v6, v7, v8, v9, v10, ts, gs, rfl, kp, D6, etl, pt, td⟩
  rw [List.getElem?_map] at hx
  obtain ⟨kf, hkf, rfl⟩ := Option.map_eq_some_iff.mp hx
  have kin := (pm.mem kf).mp (List.mem_of_getElem? hkf)
  have hi : i < os.length := (List.getElem?_eq_some_iff.mp hkf).1
  have los := pm.len
  have kp2 : ∀ {b : Addr} {o : HO}, b ≠ st -> b ≠ tl -> H5 b = some o -> H6 b = some o := fun n1 n2 e => kp _ _ (by simp only [List.mem_cons, List.not_mem_nil, or_false]; exact fun z => z.elim n1 n2) e
  have tp5 : Tups H5 H6 := fun b xs e => kp2 (fun z => by
   obtain ⟨_, _, _, _, z', _⟩ := id D5
   rw [z, z'] at e; cases e) (fun z => by rw [z, etl5] at e; cases e) e
  obtain ⟨rsa, ela5, pfa5⟩ := id FA
  have ela := kp2 (D5.neL ela5) (Ne.symm ntk) ela5
  have pfa := Paired.imp (fun _ _ z => F3At.tups tp5 z) pfa5
  have eol6 := kp2 nos (Ne.symm ntl) eol
  have lra := Paired.len pfa
  have hk : kf.toNat < fs.length := by (first|lia|omega)
  obtain ⟨⟨⟨p, b⟩, t⟩, ef⟩ : ∃ x, fs[kf.toNat]? = some x := ⟨_, List.getElem?_eq_getElem hk⟩
  have er := List.getElem?_eq_getElem (l := rsa) (i := kf.toNat) (by (first|lia|omega))
  obtain ⟨ft, bv, eft, hft, trb⟩ := Paired.get pfa _ _ _ er ef
  rw [eft] at er
  have hh := DG.hg.all kf.toNat (p, b) (by rw [List.getElem?_map, ef] <;> rfl)
  obtain ⟨fit, sz⟩ := DG.fit _ (List.mem_of_getElem? ef)
  try dsimp only [gName, List.set]
  refine ⟨_, rfl, _, rfl, l, _, _, _, rfl, rfl, SqL.of ela, qJ kin.1 er, ft, _, rfl, SqT.of hft, rfl, _, _, rfl, _, _, rfl, _, _, rfl, rfl, ?_⟩
  try dsimp only [gName, List.set]
  refine ⟨_, rfl, p.toNat, by rw [show ((p.toNat : Nat) : Int) = p by (first|lia|omega)], by (first|lia|omega), fun bl hbl => ?_⟩
  have nbl : bl ≠ st := Ne.symm (D6.ne hbl)
  try dsimp only [gName, List.set]
  refine ⟨_, rfl, _, rfl, _, _, rfl, ⟨by (first|lia|omega), by (first|lia|omega), by (first|lia|omega), by (first|lia|omega)⟩, kY (lo := p) (n := (b - p).toNat) (fun j σ' H' => ∃ (bs : List Int) (v10 : Option V), σ' = [some (.ref a), some (.ref st), some (.ref l), some (.ref ol), some (.ref tl), some (.int kf), some (.int p), some (.int b), some bv, some (.ref bl), v10, none, none, none, none, none, none] /\ DrawnD K st H6 H' /\ H' bl = some (.lst (bs.map V.int)) /\ Pm 0 (p + j) bs /\ ∀ x : Nat, (x : Int) < p -> bs[x]? = some (x : Int)) ⟨intsTo p.toNat, v10, rfl, D6.new hbl _, zB, ?_, fun x hx => intsTo_get (by (first|lia|omega))⟩ ?_ ?_⟩
  ·have := Pm.to p.toNat
   rw [show (p + ((0 : Nat) : Int)) = ((p.toNat : Nat) : Int) by (first|lia|omega)]
   exact this
  ·rintro j σ' H7 hj ⟨bs, v10, rfl, d7, ebl, pmb, pre⟩
   have lb := pmb.len
   try dsimp only [gName, List.set]
   refine ⟨_, rfl, .inl ⟨rfl, _, SqL.of ebl⟩, _, rfl, _, rfl, _, rfl, bl, _, rfl, .inl (SqL.of ebl), _, rfl, _, _, rfl, rfl, _, _, rfl, rfl, st, _, rfl, ?_, ?_, d7.draw, fun x H8 x0 x1 d8 => ?_⟩
   ·rw [List.length_map]; (first|lia|omega)
   ·rw [List.length_map]; (first|lia|omega)
   rw [List.length_map] at x1
   have e8 := d8.keep _ _ nbl ebl
   have dd := d7.trans d8
   refine ⟨_, _, rfl, rfl, _, rfl, bl, _, _, _, rfl, rfl, e8, by (first|lia|omega), by rw [List.length_map]; (first|lia|omega), by rw [List.length_map]; (first|lia|omega), ?_⟩
   rw [ins_map]
   refine ⟨bs.take (p + x).toNat ++ (p + (j : Int)) :: bs.drop (p + x).toNat, _, rfl, ⟨dd.draw.put e8, fun b o n e => by rw [zK (zI e hbl)]; exact dd.keep b o n e⟩, zB, ?_, fun y hy => ?_⟩
   ·have := pmb.ins (by (first|lia|omega)) (p + x).toNat
    rw [show p + ((j + 1 : Nat) : Int) = p + (j : Int) + 1 by (first|lia|omega)]
    exact this
   ·rw [List.getElem?_append_left (by rw [List.length_take]; (first|lia|omega)), List.getElem?_take, if_pos (by (first|lia|omega))]
    exact pre y hy
  rintro σ' H7 ⟨bs, v10, rfl, d7, ebl, pmb, pre⟩
  rw [show p + (((b - p).toNat : Nat) : Int) = b by (first|lia|omega)] at pmb
  have lb := pmb.len
  have etl7 := d7.keep _ _ nts etl
  try dsimp only [gName, List.set]
  refine ⟨_, rfl, .inl ⟨rfl, _, SqL.of etl7⟩, _, rfl, _, rfl, _, _, rfl, rfl, _, rfl, _, rfl, _, rfl, _, rfl, st, 50, rfl, by decide, by decide, d7.draw, fun pl H8 pl0 pl1 d8 => ?_⟩
  have d68 := d7.trans d8
  have tp : ∀ {Ha Hb : Hp}, DrawD K Ha st -> DrawnD K st Ha Hb -> Tups Ha Hb := fun D d c xs e => d.keep _ _ (fun z => by
   obtain ⟨_, _, _, _, z', _⟩ := id D
   rw [z, z'] at e; cases e) e
  refine ⟨bv, ol, bl, pl, t, os, bs, fs.map Prod.fst, b, rfl, trb.tups (tp D6 d68), fit, d68.keep _ _ nos eol6, d8.keep _ _ nbl ebl, fun g g0 g1 => (pm.mem g).mpr (by rw [List.length_map] at g1; (first|lia|omega)), by (first|lia|omega), (by have z : szT t <= 203 := sz; (first|lia|omega)), fun v' H9 s9 tr => ⟨small (show 3 <= 1000 by decide), fun nt hnt => ?_⟩⟩
  have s10 := zF hnt (.tup [.int p, .int (b + 1), v'])
  have d6a := d68.trans (d68.draw.drawn (s9.trans s10))
  have etla := d6a.keep _ _ nts etl
  have tpa := tp D6 d6a
  have tu : Tups (upd H9 nt (.tup [.int p, .int (b + 1), v'])) (upd (upd H9 nt (.tup [.int p, .int (b + 1), v'])) tl (.lst (ts ++ [.ref nt]))) := fun c xs e => by rw [zK (fun z => by rw [z, etla] at e; cases e)]; exact e
  have lt : ts.length < 100 := by rw [Paired.len pt, td.len]; (first|lia|omega)
  refine ⟨tl, _, _, rfl, rfl, etla, small1000 (by (first|lia|omega)), _, _, _, _, _, _, ts ++ [.ref nt], gs ++ [((p, b + 1), renT (rhoOf os) (piOf bs) t)], rfl, fun c o n e => ?_, d6a.draw.put etla, zB, Paired.append (Paired.imp (fun _ _ z => (z.tups tpa).tups tu) pt) (.cons ⟨nt, v', rfl, tu _ _ zB, (tr.tups fun c xs e => s10 _ _ e).tups tu⟩ .nil), td.snoc (f := kf.toNat) (by rw [hkf, show ((kf.toNat : Nat) : Int) = kf by (first|lia|omega)]) ef pmb (fun x x0 xp => ?_)⟩
  ·have n1 : c ≠ st := fun z => n (by rw [z]; exact List.mem_cons_self ..)
   have n2 : c ≠ tl := fun z => n (by rw [z]; exact List.mem_cons_of_mem _ (List.mem_cons_self ..))
   rw [zK n2]
   exact d6a.keep _ _ n1 (kp _ _ n e)
  ·have := pre x.toNat (by (first|lia|omega))
   unfold piOf
   rw [List.getD_eq_getElem?_getD, this]
   show ((x.toNat : Nat) : Int) = x
   (first|lia|omega)
 rintro σ' H6 ⟨v5, v6, v7, v8, v9, v10, ts, gs, rfl, kp, D6, etl, pt, td⟩
 rw [List.length_map] at td
 refine ⟨fun σ' H' => ∃ (ts : List V) (ex : List Fn), σ' = [some (.ref a), some (.ref st), some (.ref l), some (.ref ol), some (.ref tl), v5, v6, v7, v8, v9, v10, none, none, none, none, none, none] /\ KeepL [st, tl] H5 H' /\ DrawD K H' st /\ H' tl = some (.lst ts) /\ Paired (FTAt H' 6) ts (gs ++ ex) /\ (ex = [] \/ ex = [exF]), ?_, ?_⟩
 ·have tp : ∀ {Ha Hb : Hp}, DrawD K Ha st -> DrawnD K st Ha Hb -> Tups Ha Hb := fun D d c xs e => d.keep _ _ (fun z => by
   obtain ⟨_, _, _, _, z', _⟩ := id D
   rw [z, z'] at e; cases e) e
  refine ⟨_, rfl, st, 2, rfl, by decide, by decide, D6, fun y H7 y0 y1 d7 => ⟨rfl, _, rfl, ite2 (fun c => ?_) (fun c => ?_)⟩⟩
  rotate_left
  ·exact ⟨ts, [], rfl, fun c o n e => d7.keep _ _ (fun z => n (by rw [z]; exact List.mem_cons_self ..)) (kp _ _ n e), d7.draw, d7.keep _ _ nts etl, by rw [List.append_nil]; exact Paired.imp (fun _ _ z => z.tups (tp D6 d7)) pt, .inl rfl⟩
  have etl7 := d7.keep _ _ nts etl
  refine ⟨_, rfl, .inl ⟨rfl, _, SqL.of etl7⟩, ⟨small (show 0 <= 1000 by decide), fun o5 k0 => ⟨small (show 1 <= 1000 by decide), fun oa k1 => ⟨small (show 0 <= 1000 by decide), fun pa k2 => ⟨small (show 4 <= 1000 by decide), fun na k3 => ⟨small (show 0 <= 1000 by decide), fun ob k4 => ⟨small (show 1 <= 1000 by decide), fun oc k5 => ⟨small (show 0 <= 1000 by decide), fun pc k6 => ⟨small (show 4 <= 1000 by decide), fun nc k7 => ⟨small (show 1 <= 1000 by decide), fun pb k8 => ⟨small (show 4 <= 1000 by decide), fun nb k9 => ⟨small (show 2 <= 1000 by decide), fun pq k10 => ⟨small (show 4 <= 1000 by decide), fun n5 k11 => ⟨small (show 3 <= 1000 by decide), fun fx k12 => ?_⟩⟩⟩⟩⟩⟩⟩⟩⟩⟩⟩⟩⟩⟩
  have g0 := zF k0 (.tup [])
  have g1 := zF k1 (.tup [.int 0])
  have g2 := zF k2 (.tup [])
  have g3 := zF k3 (.tup [.int 1, .int 0, .ref oa, .ref pa])
  have g4 := zF k4 (.tup [])
  have g5 := zF k5 (.tup [.int 3])
  have g6 := zF k6 (.tup [])
  have g7 := zF k7 (.tup [.int 0, .int 0, .ref oc, .ref pc])
  have g8 := zF k8 (.tup [.ref nc])
  have g9 := zF k9 (.tup [.int 7, .int 0, .ref ob, .ref pb])
  have g10 := zF k10 (.tup [.ref na, .ref nb])
  have g11 := zF k11 (.tup [.int 5, .int 4, .ref o5, .ref pq])
  have g12 := zF k12 (.tup [.int 1, .int 2, .ref n5])
  have gg : Same H7 _ := (g0.trans (g1.trans (g2.trans (g3.trans (g4.trans (g5.trans (g6.trans (g7.trans (g8.trans (g9.trans (g10.trans (g11.trans g12))))))))))))
  have c0 := (g1.trans (g2.trans (g3.trans (g4.trans (g5.trans (g6.trans (g7.trans (g8.trans (g9.trans (g10.trans (g11.trans g12))))))))))) _ _ (zB (a := o5) (o := .tup []))
  have c1 := (g2.trans (g3.trans (g4.trans (g5.trans (g6.trans (g7.trans (g8.trans (g9.trans (g10.trans (g11.trans g12)))))))))) _ _ (zB (a := oa) (o := .tup [.int 0]))
  have c2 := (g3.trans (g4.trans (g5.trans (g6.trans (g7.trans (g8.trans (g9.trans (g10.trans (g11.trans g12))))))))) _ _ (zB (a := pa) (o := .tup []))
  have c3 := (g4.trans (g5.trans (g6.trans (g7.trans (g8.trans (g9.trans (g10.trans (g11.trans g12)))))))) _ _ (zB (a := na) (o := .tup [.int 1, .int 0, .ref oa, .ref pa]))
  have c4 := (g5.trans (g6.trans (g7.trans (g8.trans (g9.trans (g10.trans (g11.trans g12))))))) _ _ (zB (a := ob) (o := .tup []))
  have c5 := (g6.trans (g7.trans (g8.trans (g9.trans (g10.trans (g11.trans g12)))))) _ _ (zB (a := oc) (o := .tup [.int 3]))
  have c6 := (g7.trans (g8.trans (g9.trans (g10.trans (g11.trans g12))))) _ _ (zB (a := pc) (o := .tup []))
  have c7 := (g8.trans (g9.trans (g10.trans (g11.trans g12)))) _ _ (zB (a := nc) (o := .tup [.int 0, .int 0, .ref oc, .ref pc]))
  have c8 := (g9.trans (g10.trans (g11.trans g12))) _ _ (zB (a := pb) (o := .tup [.ref nc]))
  have c9 := (g10.trans (g11.trans g12)) _ _ (zB (a := nb) (o := .tup [.int 7, .int 0, .ref ob, .ref pb]))
  have c10 := (g11.trans g12) _ _ (zB (a := pq) (o := .tup [.ref na, .ref nb]))
  have c11 := g12 _ _ (zB (a := n5) (o := .tup [.int 5, .int 4, .ref o5, .ref pq]))
  have c12 : (upd (upd (upd (upd (upd (upd (upd (upd (upd (upd (upd (upd (upd H7 o5 (.tup [])) oa (.tup [.int 0])) pa (.tup [])) na (.tup [.int 1, .int 0, .ref oa, .ref pa])) ob (.tup [])) oc (.tup [.int 3])) pc (.tup [])) nc (.tup [.int 0, .int 0, .ref oc, .ref pc])) pb (.tup [.ref nc])) nb (.tup [.int 7, .int 0, .ref ob, .ref pb])) pq (.tup [.ref na, .ref nb])) n5 (.tup [.int 5, .int 4, .ref o5, .ref pq])) fx (.tup [.int 1, .int 2, .ref n5])) fx = some (.tup [.int 1, .int 2, .ref n5]) := zB
  generalize upd (upd (upd (upd (upd (upd (upd (upd (upd (upd (upd (upd (upd H7 o5 (.tup [])) oa (.tup [.int 0])) pa (.tup [])) na (.tup [.int 1, .int 0, .ref oa, .ref pa])) ob (.tup [])) oc (.tup [.int 3])) pc (.tup [])) nc (.tup [.int 0, .int 0, .ref oc, .ref pc])) pb (.tup [.ref nc])) nb (.tup [.int 7, .int 0, .ref ob, .ref pb])) pq (.tup [.ref na, .ref nb])) n5 (.tup [.int 5, .int 4, .ref o5, .ref pq])) fx (.tup [.int 1, .int 2, .ref n5]) = H8 at gg c0 c1 c2 c3 c4 c5 c6 c7 c8 c9 c10 c11 c12 ⊢
  clear g0 g1 g2 g3 g4 g5 g6 g7 g8 g9 g10 g11 g12 k0 k1 k2 k3 k4 k5 k6 k7 k8 k9 k10 k11 k12
  have d8 := d7.trans (d7.draw.drawn gg)
  have etl8 := gg _ _ etl7
  have tu : Tups H8 (upd H8 tl (.lst (ts ++ [.ref fx]))) := fun c xs e => by rw [zK (fun z => by rw [z, etl8] at e; cases e)]; exact e
  have lt : ts.length < 100 := by rw [Paired.len pt, td.len]; have := pm.len; (first|lia|omega)
  have fe : FTAt H8 6 (.ref fx) exF := ⟨fx, .ref n5, rfl, c12, ⟨n5, 4, o5, pq, _, rfl, c11, c0, c10, .cons ⟨na, 0, oa, pa, _, rfl, c3, c1, c2, .nil⟩ (.cons ⟨nb, 0, ob, pb, _, rfl, c9, c4, c8, .cons ⟨nc, 0, oc, pc, _, rfl, c7, c5, c6, .nil⟩ .nil⟩ .nil)⟩⟩
  refine ⟨tl, _, _, rfl, rfl, etl8, small1000 (by (first|lia|omega)), ts ++ [.ref fx], [exF], rfl, fun c o n e => ?_, d8.draw.put etl8, zB, Paired.append (Paired.imp (fun _ _ z => (z.tups (tp D6 d8)).tups tu) pt) (.cons (fe.tups tu) .nil), .inr rfl⟩
  have n1 : c ≠ st := fun z => n (by rw [z]; exact List.mem_cons_self ..)
  have n2 : c ≠ tl := fun z => n (by rw [z]; exact List.mem_cons_of_mem _ (List.mem_cons_self ..))
  rw [zK n2]
  exact d8.keep _ _ n1 (kp _ _ n e)
 clear pt kp D6 etl
 rintro σ' H6 ⟨ts, ex, rfl, kp, D6, etl, pt, hex⟩
 rw [show os.length = fs.length by have := pm.len; (first|lia|omega)] at td
 have W := td.whole pm o0 DG (by (first|lia|omega)) h11 hex
 have kp2 : ∀ {b : Addr} {o : HO}, b ≠ st -> b ≠ tl -> H5 b = some o -> H6 b = some o := fun n1 n2 e => kp _ _ (by simp only [List.mem_cons, List.not_mem_nil, or_false]; exact fun z => z.elim n1 n2) e
 have tp5 : Tups H5 H6 := fun b xs e => kp2 (fun z => by
  obtain ⟨_, _, _, _, z', _⟩ := id D5
  rw [z, z'] at e; cases e) (fun z => by rw [z, etl5] at e; cases e) e
 have FA6 : FlAt H6 6 l fs := by
  obtain ⟨rsa, ela5, pfa5⟩ := id FA
  exact ⟨rsa, kp2 (D5.neL ela5) (Ne.symm ntk) ela5, Paired.imp (fun _ _ z => F3At.tups tp5 z) pfa5⟩
 generalize gs ++ ex = gs' at W pt
 clear td hex kp2 tp5 kp FA eol etl5 D5 nos ntl ntk
 try dsimp only [gName, List.set]
 obtain ⟨nds, rd1, rd2⟩ := W.dg.rd (by decide)
 have wn : wrongM (wr gs') = none := by unfold wrongM; rw [rd1]
 have lw := W.dg.len (by decide)
 refine ⟨_, rfl, tl, _, rfl, .inl (SqL.of etl), fun hd hhd => ?_⟩
 have s7 := zF hhd (.lst ts)
 have pt7 := Paired.imp (fun _ _ z => FTAt.tups (fun b xs e => s7 _ _ e) z) pt
 try dsimp only [gName, List.set]
 refine ⟨_, rfl, hd, ts, gs', rfl, zB, Paired.imp (fun _ _ z => FTAt.up (by decide) z) pt7, by (first|lia|omega), fun _ r H8 s8 hr8 er8 => ?_, fun p w e => by rw [wn] at e; cases e⟩
 try dsimp only [gName, List.set]
 have s78 := s7.trans s8
 have pt8 := Paired.imp (fun _ _ z => FTAt.tups (fun b xs e => s78 _ _ e) z) pt
 refine ⟨_, rfl, _, rfl, hd, tl, ts, ts, 13, rfl, rfl, .inl ⟨SqL.of (s8 _ _ zB), SqL.of (s78 _ _ etl)⟩, FTAt.same pt8, by decide, _, rfl, iteF ?_⟩
 refine ⟨_, rfl, r, wr gs', rfl, er8, fun x ex => ?_, fun p w e => by rw [rd1] at e; cases e⟩
 rw [rd1] at ex
 cases ex
 intro l2 H9 s9 hl2 FA2
 obtain ⟨rs2, el2, pl2⟩ := fnsOf_at FA2
 rw [rd2] at pl2
 refine ⟨l2, rs2, gs', rfl, el2, pl2, by (first|lia|omega), fun _ r2 H10 s10 hr10 er10 => ?_, fun p w e => by rw [wn] at e; cases e⟩
 have er9 := (s9.trans s10) _ _ er8
 refine ⟨_, rfl, r2, r, _, _, 0, rfl, rfl, .inl ⟨SqL.of er10, SqL.of er9⟩, EqD.ints _, by decide, _, rfl, iteF ?_⟩
 have sA := s78.trans (s9.trans s10)
 have FA := FA6.same sA
 have D10 := D6.same sA
 clear FA2 el2 pl2 hl2 hr10 er10 s9 s10 er8 s78 s8 hr8 pt8 pt7 s7 hhd pt etl FA6 D6 sA
 obtain ⟨rsa, ela, pfa⟩ := FA.up (show 6 <= 10 by decide)
 try dsimp only [gName, List.set]
 refine ⟨_, rfl, l, rsa, fs, rfl, ela, pfa, DG.len (by decide), fun sh H11 s11 hsh esh => ?_⟩
 have er11 := s11 _ _ er9
 have D11 := D10.same s11
 clear ela pfa s11 hsh er9 D10 FA
 try dsimp only [gName, List.set]
 refine ⟨_, rfl, st, 12, rfl, by decide, by decide, D11, fun x H12 x0 x1 d12 => ⟨_, rfl, st, 25, rfl, by decide, by decide, d12.draw, fun y H13 y0 y1 d13 => ?_⟩⟩
 have dd := d12.trans d13
 refine ⟨_, _, rfl, rfl, small (show 3 <= 1000 by decide), fun L hL => ?_⟩
 have s14 := zF hL (.lst ([x, 3 + y, 30].map V.int))
 have er14 := s14 _ _ (dd.keep _ _ (D11.neL er11) er11)
 have esh14 := s14 _ _ (dd.keep _ _ (D11.neL esh) esh)
 have D14 := dd.draw.same s14
 have eL : upd H13 L (.lst ([x, 3 + y, 30].map V.int)) L = some (.lst ([x, 3 + y, 30].map V.int)) := zB
 refine ⟨L, rfl, ⟨_, SqL.of eL⟩, kP (xs := [x, 3 + y, 30].map V.int) (fun i σ' H' => ∃ (v14 v15 v16 : Option V), σ' = [some (.ref a), some (.ref st), some (.ref l), some (.ref ol), some (.ref tl), v5, v6, v7, v8, v9, v10, some (.ref hd), some (.ref r), some (.ref sh), v14, v15, v16] /\ DrawD K H' st /\ H' L = some (.lst ([x, 3 + y, 30].map V.int)) /\ H' r = some (.lst ((wr gs').map V.int)) /\ H' sh = some (.lst ((wr fs).map V.int))) ⟨_, _, _, rfl, D14, eL, er14, esh14⟩ ?_ ?_ ?_⟩
 ·rintro i σ' H' _ ⟨_, _, _, _, _, e, _⟩
  exact SqL.of e
 ·rintro i w σ' H15 hw ⟨v14, v15, v16, rfl, D15, eL, er, esh⟩
  rw [List.getElem?_map] at hw
  obtain ⟨br, hbr, rfl⟩ := Option.map_eq_some_iff.mp hw
  have bb : 0 <= br /\ br <= 30 := by
   have := List.mem_of_getElem? hbr
   simp only [List.mem_cons, List.not_mem_nil, or_false] at this
   (first|lia|omega)
  try dsimp only [gName, List.set]
  refine ⟨_, rfl, st, rfl, D15, fun gl gv H16 d16 hgl egl lgs vgs => ?_⟩
  have eL := d16.keep _ _ (D15.neL eL) eL
  have er := d16.keep _ _ (D15.neL er) er
  have esh := d16.keep _ _ (D15.neL esh) esh
  try dsimp only [gName, List.set]
  refine ⟨_, rfl, _, rfl, _, rfl, sh, gl, br, fs, gv, 6, 203, 10, rfl, esh, DG, by decide, egl, by (first|lia|omega), by decide, by decide, vgs, bb.1, by (first|lia|omega), fun t4 r4 H17 s17 ht4 hr4 et4 er4 => ?_⟩
  try dsimp only [gName, List.set]
  refine ⟨_, rfl, _, rfl, _, rfl, r, gl, br, gs', gv, 6, 203, 10, rfl, s17 _ _ er, W.dg, by decide, s17 _ _ egl, by (first|lia|omega), by decide, by decide, vgs, bb.1, by (first|lia|omega), fun t5 r5 H18 s18 ht5 hr5 et5 er5 => ?_⟩
  rw [W.out DG o0] at et5 er5
  obtain ⟨a', b', xs, ys, ea, eb, qa, qb, pe⟩ := out_eq (K := K) (v := .ref t5) (u := .ref t4) ⟨t5, r5, rfl, et5, er5⟩ ⟨t4, r4, rfl, s18 _ _ et4, s18 _ _ er4⟩
  refine ⟨_, rfl, a', b', _, _, 1, ea, eb, .inr ⟨qa, qb⟩, pe, by decide, _, rfl, iteF ?_⟩
  have ss := s17.trans s18
  exact ⟨_, _, _, rfl, d16.draw.same ss, ss _ _ eL, ss _ _ er, ss _ _ esh⟩
 ·rintro σ' H15 ⟨v14, v15, v16, rfl, _⟩
  exact q _

end
set_option maxHeartbeats 4000000


theorem ln1 {α : Type} {us : List α} (h : us.length = 1) : ∃ a0, us = [a0] := match us, h with | [a0], _ => ⟨a0, rfl⟩
theorem ln2 {α : Type} {us : List α} (h : us.length = 2) : ∃ a0 a1, us = [a0, a1] := match us, h with | [a0, a1], _ => ⟨a0, a1, rfl⟩
theorem ln3 {α : Type} {us : List α} (h : us.length = 3) : ∃ a0 a1 a2, us = [a0, a1, a2] := match us, h with | [a0, a1, a2], _ => ⟨a0, a1, a2, rfl⟩
theorem ln4 {α : Type} {us : List α} (h : us.length = 4) : ∃ a0 a1 a2 a3, us = [a0, a1, a2, a3] := match us, h with | [a0, a1, a2, a3], _ => ⟨a0, a1, a2, a3, rfl⟩
theorem ln5 {α : Type} {us : List α} (h : us.length = 5) : ∃ a0 a1 a2 a3 a4, us = [a0, a1, a2, a3, a4] := match us, h with | [a0, a1, a2, a3, a4], _ => ⟨a0, a1, a2, a3, a4, rfl⟩
theorem all_mk {l : PySem.W.OpenLaw} {w : World} {K : PySem.W.Frag} {h : Heap} {mg : Str -> Option Value} {fa f0 f1 f2 f3 f4 f5 f6 f7 f8 f9 f10 f11 f12 f13 f14 f15 f16 f17 f18 f19 f20 f21 f22 f23 f24 f25 f26 f27 f28 f29 f30 f31 f32 f33 f34 f35 f36 f37 f38 f39 f40 f41 f42 f43 f44 f45 : Addr} {nmN qN nmC qC : Str} {NN cChain nsC : Addr} {bsN subN bsC mroC subC : List Value} {snN snC : List Str} {abN hdC abC delC : Bool} {colN colC : Option Bool} {ddN ddC ddD : Option Addr} {k0N k1N k2N k3N k5N : Option Value} {ccC ccD : Value} {slC slD : Array (Option Value)} {esD : Array DictEntry} {nD : Nat} {cNoSheet cLook aP : Addr} {tNUMBER tGET tSET tALL tPICK tLOOP tCALL tFAIL tNEW tMOST_FUNCTIONS tMOST_PARAMS tMOST_BOXES tMOST_DEEP tMOST_MANY tLEAST_ALL tLEAST_PICK : Tok} {tPARTS0 tPARTS1 tPARTS2 tPARTS3 tPARTS4 tPARTS5 tPARTS6 tPARTS7 tPARTS8 tPARTS9 tPARTS10 tPARTS11 tPARTS12 : Tok} {nPARTS : Nat} {sPARTS : Array (Option Value)} {nmY qY : Str} {NY : Addr} {bsY subY : List Value} {snY : List Str} {abY : Bool} {colY : Option Bool} {ddY : Option Addr} {k0Y k1Y k2Y k3Y k5Y : Option Value} {cFault cWork : Addr} {tADD tSUB tMUL tQUO tLESS tSAME tPUSH tPUT tSIZE tGREAT tMOST_DONE_AT_ONCE tANSWER : Tok}  (X : K.In h) (G : h.Ns mainGlobals mg) (hfa : mg "law" = some (.ref fa))
  {od0 an0 od1 an1 od2 an2 od3 an3 od4 an4 od5 an5 od6 an6 od7 an7 od8 an8 od9 an9 od10 an10 od11 an11 od12 an12 od13 an13 od14 an14 od15 an15 od16 an16 od17 an17 od18 an18 od19 an19 od20 an20 od21 an21 od22 an22 od23 an23 od24 an24 od25 an25 od26 an26 od27 an27 od28 an28 od29 an29 od30 an30 od31 an31 od32 an32 od33 an33 od34 an34 od35 an35 od36 an36 od37 an37 od38 an38 od39 an39 od40 an40 od41 an41 od42 an42 od43 an43 od44 an44 od45 an45 : Option Addr} {sl0 sl1 sl2 sl3 sl4 sl5 sl6 sl7 sl8 sl9 sl10 sl11 sl12 sl13 sl14 sl15 sl16 sl17 sl18 sl19 sl20 sl21 sl22 sl23 sl24 sl25 sl26 sl27 sl28 sl29 sl30 sl31 sl32 sl33 sl34 sl35 sl36 sl37 sl38 sl39 sl40 sl41 sl42 sl43 sl44 sl45 : Array (Option Value)} {oc0 kV0 dc0 pm0 cd0 ct0 oc1 kV1 dc1 pm1 cd1 ct1 oc2 kV2 dc2 pm2 cd2 ct2 oc3 kV3 dc3 pm3 cd3 ct3 oc4 kV4 dc4 pm4 cd4 ct4 oc5 kV5 dc5 pm5 cd5 ct5 oc6 kV6 dc6 pm6 cd6 ct6 oc7 kV7 dc7 pm7 cd7 ct7 oc8 kV8 dc8 pm8 cd8 ct8 oc9 kV9 dc9 pm9 cd9 ct9 oc10 kV10 dc10 pm10 cd10 ct10 oc11 kV11 dc11 pm11 cd11 ct11 oc12 kV12 dc12 pm12 cd12 ct12 oc13 kV13 dc13 pm13 cd13 ct13 oc14 kV14 dc14 pm14 cd14 ct14 oc15 kV15 dc15 pm15 cd15 ct15 oc16 kV16 dc16 pm16 cd16 ct16 oc17 kV17 dc17 pm17 cd17 ct17 oc18 kV18 dc18 pm18 cd18 ct18 oc19 kV19 dc19 pm19 cd19 ct19 oc20 kV20 dc20 pm20 cd20 ct20 oc21 kV21 dc21 pm21 cd21 ct21 oc22 kV22 dc22 pm22 cd22 ct22 oc23 kV23 dc23 pm23 cd23 ct23 oc24 kV24 dc24 pm24 cd24 ct24 oc25 kV25 dc25 pm25 cd25 ct25 oc26 kV26 dc26 pm26 cd26 ct26 oc27 kV27 dc27 pm27 cd27 ct27 oc28 kV28 dc28 pm28 cd28 ct28 oc29 kV29 dc29 pm29 cd29 ct29 oc30 kV30 dc30 pm30 cd30 ct30 oc31 kV31 dc31 pm31 cd31 ct31 oc32 kV32 dc32 pm32 cd32 ct32 oc33 kV33 dc33 pm33 cd33 ct33 oc34 kV34 dc34 pm34 cd34 ct34 oc35 kV35 dc35 pm35 cd35 ct35 oc36 kV36 dc36 pm36 cd36 ct36 oc37 kV37 dc37 pm37 cd37 ct37 oc38 kV38 dc38 pm38 cd38 ct38 oc39 kV39 dc39 pm39 cd39 ct39 oc40 kV40 dc40 pm40 cd40 ct40 oc41 kV41 dc41 pm41 cd41 ct41 oc42 kV42 dc42 pm42 cd42 ct42 oc43 kV43 dc43 pm43 cd43 ct43 oc44 kV44 dc44 pm44 cd44 ct44 oc45 kV45 dc45 pm45 cd45 ct45 : Value}
  (c_NoSheet : PySem.W.nsIn K mainGlobals "NoSheet" = some (some (.ref cNoSheet)))
  (c_Look : PySem.W.nsIn K mainGlobals "Look" = some (some (.ref cLook)))
  (c_Fault : PySem.W.nsIn K mainGlobals "Fault" = some (some (.ref cFault)))
  (c_Work : PySem.W.nsIn K mainGlobals "Work" = some (some (.ref cWork)))
  (a0 : PySem.W.findIn K (.ref cNoSheet) "__init__" = some (some (.ref f0))) (l0 : K.lookup f0 = some ⟨oc0, od0, .func (PySem.W.fnOf "__init__" "NoSheet.__init__" (defArgs yM) (defBody yM) (defScope yM) .none kV0 dc0 pm0 an0 cd0 ct0), sl0⟩) (c0 : PySem.W.codeIn K cd0 "NoSheet.__init__" = true) (k0 : PySem.W.keepIn K (.ref f0) = true)
  (a1 : PySem.W.findIn K (.ref cLook) "__init__" = some (some (.ref f1))) (l1 : K.lookup f1 = some ⟨oc1, od1, .func (PySem.W.fnOf "__init__" "Look.__init__" (defArgs yU) (defBody yU) (defScope yU) .none kV1 dc1 pm1 an1 cd1 ct1), sl1⟩) (c1 : PySem.W.codeIn K cd1 "Look.__init__" = true) (k1 : PySem.W.keepIn K (.ref f1) = true)
  (a2 : PySem.W.findIn K (.ref cLook) "take" = some (some (.ref f2))) (l2 : K.lookup f2 = some ⟨oc2, od2, .func (PySem.W.fnOf "take" "Look.take" (defArgs jU) (defBody jU) (defScope jU) .none kV2 dc2 pm2 an2 cd2 ct2), sl2⟩) (c2 : PySem.W.codeIn K cd2 "Look.take" = true) (k2 : PySem.W.keepIn K (.ref f2) = true)
  (a3 : PySem.W.findIn K (.ref cLook) "take_within" = some (some (.ref f3))) (l3 : K.lookup f3 = some ⟨oc3, od3, .func (PySem.W.fnOf "take_within" "Look.take_within" (defArgs yO) (defBody yO) (defScope yO) .none kV3 dc3 pm3 an3 cd3 ct3), sl3⟩) (c3 : PySem.W.codeIn K cd3 "Look.take_within" = true) (k3 : PySem.W.keepIn K (.ref f3) = true)
  (a4 : PySem.W.nsIn K mainGlobals "is_whole" = some (some (.ref f4))) (l4 : K.lookup f4 = some ⟨oc4, od4, .func (PySem.W.fnOf "is_whole" "is_whole" (defArgs kG) (defBody kG) (defScope kG) .none kV4 dc4 pm4 an4 cd4 ct4), sl4⟩) (c4 : PySem.W.codeIn K cd4 "is_whole" = true) (k4 : PySem.W.keepIn K (.ref f4) = true)
  (a5 : PySem.W.nsIn K mainGlobals "take_heads" = some (some (.ref f5))) (l5 : K.lookup f5 = some ⟨oc5, od5, .func (PySem.W.fnOf "take_heads" "take_heads" (defArgs jC) (defBody jC) (defScope jC) .none kV5 dc5 pm5 an5 cd5 ct5), sl5⟩) (c5 : PySem.W.codeIn K cd5 "take_heads" = true) (k5 : PySem.W.keepIn K (.ref f5) = true)
  (a6 : PySem.W.nsIn K mainGlobals "take_own" = some (some (.ref f6))) (l6 : K.lookup f6 = some ⟨oc6, od6, .func (PySem.W.fnOf "take_own" "take_own" (defArgs kB) (defBody kB) (defScope kB) .none kV6 dc6 pm6 an6 cd6 ct6), sl6⟩) (c6 : PySem.W.codeIn K cd6 "take_own" = true) (k6 : PySem.W.keepIn K (.ref f6) = true)
  (a7 : PySem.W.nsIn K mainGlobals "parts_of" = some (some (.ref f7))) (l7 : K.lookup f7 = some ⟨oc7, od7, .func (PySem.W.fnOf "parts_of" "parts_of" (defArgs kE) (defBody kE) (defScope kE) .none kV7 dc7 pm7 an7 cd7 ct7), sl7⟩) (c7 : PySem.W.codeIn K cd7 "parts_of" = true) (k7 : PySem.W.keepIn K (.ref f7) = true)
  (a8 : PySem.W.nsIn K mainGlobals "parts_due" = some (some (.ref f8))) (l8 : K.lookup f8 = some ⟨oc8, od8, .func (PySem.W.fnOf "parts_due" "parts_due" (defArgs jN) (defBody jN) (defScope jN) .none kV8 dc8 pm8 an8 cd8 ct8), sl8⟩) (c8 : PySem.W.codeIn K cd8 "parts_due" = true) (k8 : PySem.W.keepIn K (.ref f8) = true)
  (a9 : PySem.W.nsIn K mainGlobals "take_node" = some (some (.ref f9))) (l9 : K.lookup f9 = some ⟨oc9, od9, .func (PySem.W.fnOf "take_node" "take_node" (defArgs xU) (defBody xU) (defScope xU) .none kV9 dc9 pm9 an9 cd9 ct9), sl9⟩) (c9 : PySem.W.codeIn K cd9 "take_node" = true) (k9 : PySem.W.keepIn K (.ref f9) = true)
  (a10 : PySem.W.nsIn K mainGlobals "functions" = some (some (.ref f10))) (l10 : K.lookup f10 = some ⟨oc10, od10, .func (PySem.W.fnOf "functions" "functions" (defArgs jO) (defBody jO) (defScope jO) .none kV10 dc10 pm10 an10 cd10 ct10), sl10⟩) (c10 : PySem.W.codeIn K cd10 "functions" = true) (k10 : PySem.W.keepIn K (.ref f10) = true)
  (a11 : PySem.W.nsIn K mainGlobals "wrong" = some (some (.ref f11))) (l11 : K.lookup f11 = some ⟨oc11, od11, .func (PySem.W.fnOf "wrong" "wrong" (defArgs wG) (defBody wG) (defScope wG) .none kV11 dc11 pm11 an11 cd11 ct11), sl11⟩) (c11 : PySem.W.codeIn K cd11 "wrong" = true) (k11 : PySem.W.keepIn K (.ref f11) = true)
  (a12 : PySem.W.nsIn K mainGlobals "nodes_in" = some (some (.ref f12))) (l12 : K.lookup f12 = some ⟨oc12, od12, .func (PySem.W.fnOf "nodes_in" "nodes_in" (defArgs kF) (defBody kF) (defScope kF) .none kV12 dc12 pm12 an12 cd12 ct12), sl12⟩) (c12 : PySem.W.codeIn K cd12 "nodes_in" = true) (k12 : PySem.W.keepIn K (.ref f12) = true)
  (a13 : PySem.W.nsIn K mainGlobals "sheet_of" = some (some (.ref f13))) (l13 : K.lookup f13 = some ⟨oc13, od13, .func (PySem.W.fnOf "sheet_of" "sheet_of" (defArgs kC) (defBody kC) (defScope kC) .none kV13 dc13 pm13 an13 cd13 ct13), sl13⟩) (c13 : PySem.W.codeIn K cd13 "sheet_of" = true) (k13 : PySem.W.keepIn K (.ref f13) = true)
  (a14 : PySem.W.nsIn K mainGlobals "within" = some (some (.ref f14))) (l14 : K.lookup f14 = some ⟨oc14, od14, .func (PySem.W.fnOf "within" "within" (defArgs qK) (defBody qK) (defScope qK) .none kV14 dc14 pm14 an14 cd14 ct14), sl14⟩) (c14 : PySem.W.codeIn K cd14 "within" = true) (k14 : PySem.W.keepIn K (.ref f14) = true)
  (a15 : PySem.W.nsIn K mainGlobals "reckoned" = some (some (.ref f15))) (l15 : K.lookup f15 = some ⟨oc15, od15, .func (PySem.W.fnOf "reckoned" "reckoned" (defArgs kD) (defBody kD) (defScope kD) .none kV15 dc15 pm15 an15 cd15 ct15), sl15⟩) (c15 : PySem.W.codeIn K cd15 "reckoned" = true) (k15 : PySem.W.keepIn K (.ref f15) = true)
  (a16 : PySem.W.nsIn K mainGlobals "done_to_row" = some (some (.ref f16))) (l16 : K.lookup f16 = some ⟨oc16, od16, .func (PySem.W.fnOf "done_to_row" "done_to_row" (defArgs xO) (defBody xO) (defScope xO) .none kV16 dc16 pm16 an16 cd16 ct16), sl16⟩) (c16 : PySem.W.codeIn K cd16 "done_to_row" = true) (k16 : PySem.W.keepIn K (.ref f16) = true)
  (a17 : PySem.W.nsIn K mainGlobals "worth" = some (some (.ref f17))) (l17 : K.lookup f17 = some ⟨oc17, od17, .func (PySem.W.fnOf "worth" "worth" (defArgs wH) (defBody wH) (defScope wH) .none kV17 dc17 pm17 an17 cd17 ct17), sl17⟩) (c17 : PySem.W.codeIn K cd17 "worth" = true) (k17 : PySem.W.keepIn K (.ref f17) = true)
  (a18 : PySem.W.findIn K (.ref cFault) "__init__" = some (some (.ref f18))) (l18 : K.lookup f18 = some ⟨oc18, od18, .func (PySem.W.fnOf "__init__" "Fault.__init__" (defArgs yQ) (defBody yQ) (defScope yQ) .none kV18 dc18 pm18 an18 cd18 ct18), sl18⟩) (c18 : PySem.W.codeIn K cd18 "Fault.__init__" = true) (k18 : PySem.W.keepIn K (.ref f18) = true)
  (a19 : PySem.W.findIn K (.ref cWork) "__init__" = some (some (.ref f19))) (l19 : K.lookup f19 = some ⟨oc19, od19, .func (PySem.W.fnOf "__init__" "Work.__init__" (defArgs yT) (defBody yT) (defScope yT) .none kV19 dc19 pm19 an19 cd19 ct19), sl19⟩) (c19 : PySem.W.codeIn K cd19 "Work.__init__" = true) (k19 : PySem.W.keepIn K (.ref f19) = true)
  (a20 : PySem.W.findIn K (.ref cWork) "breathe" = some (some (.ref f20))) (l20 : K.lookup f20 = some ⟨oc20, od20, .func (PySem.W.fnOf "breathe" "Work.breathe" (defArgs xA) (defBody xA) (defScope xA) .none kV20 dc20 pm20 an20 cd20 ct20), sl20⟩) (c20 : PySem.W.codeIn K cd20 "Work.breathe" = true) (k20 : PySem.W.keepIn K (.ref f20) = true)
  (a21 : PySem.W.nsIn K mainGlobals "picked" = some (some (.ref f21))) (l21 : K.lookup f21 = some ⟨oc21, od21, .func (PySem.W.fnOf "picked" "picked" (defArgs qL) (defBody qL) (defScope qL) .none kV21 dc21 pm21 an21 cd21 ct21), sl21⟩) (c21 : PySem.W.codeIn K cd21 "picked" = true) (k21 : PySem.W.keepIn K (.ref f21) = true)
  (a22 : PySem.W.nsIn K mainGlobals "do_call" = some (some (.ref f22))) (l22 : K.lookup f22 = some ⟨oc22, od22, .func (PySem.W.fnOf "do_call" "do_call" (defArgs jD) (defBody jD) (defScope jD) .none kV22 dc22 pm22 an22 cd22 ct22), sl22⟩) (c22 : PySem.W.codeIn K cd22 "do_call" = true) (k22 : PySem.W.keepIn K (.ref f22) = true)
  (a23 : PySem.W.nsIn K mainGlobals "do_with" = some (some (.ref f23))) (l23 : K.lookup f23 = some ⟨oc23, od23, .func (PySem.W.fnOf "do_with" "do_with" (defArgs jP) (defBody jP) (defScope jP) .none kV23 dc23 pm23 an23 cd23 ct23), sl23⟩) (c23 : PySem.W.codeIn K cd23 "do_with" = true) (k23 : PySem.W.keepIn K (.ref f23) = true)
  (a24 : PySem.W.nsIn K mainGlobals "do_node" = some (some (.ref f24))) (l24 : K.lookup f24 = some ⟨oc24, od24, .func (PySem.W.fnOf "do_node" "do_node" (defArgs jQ) (defBody jQ) (defScope jQ) .none kV24 dc24 pm24 an24 cd24 ct24), sl24⟩) (c24 : PySem.W.codeIn K cd24 "do_node" = true) (k24 : PySem.W.keepIn K (.ref f24) = true)
  (a25 : PySem.W.nsIn K mainGlobals "run" = some (some (.ref f25))) (l25 : K.lookup f25 = some ⟨oc25, od25, .func (PySem.W.fnOf "run" "run" (defArgs s_run) (defBody s_run) (defScope s_run) .none kV25 dc25 pm25 an25 cd25 ct25), sl25⟩) (c25 : PySem.W.codeIn K cd25 "run" = true) (k25 : PySem.W.keepIn K (.ref f25) = true)
  (a26 : PySem.W.nsIn K mainGlobals "_law_begin" = some (some (.ref f26))) (l26 : K.lookup f26 = some ⟨oc26, od26, .func (PySem.W.fnOf "_law_begin" "_law_begin" (defArgs jH) (defBody jH) (defScope jH) .none kV26 dc26 pm26 an26 cd26 ct26), sl26⟩) (c26 : PySem.W.codeIn K cd26 "_law_begin" = true) (k26 : PySem.W.keepIn K (.ref f26) = true)
  (a27 : PySem.W.nsIn K mainGlobals "_law_mixed" = some (some (.ref f27))) (l27 : K.lookup f27 = some ⟨oc27, od27, .func (PySem.W.fnOf "_law_mixed" "_law_mixed" (defArgs jG) (defBody jG) (defScope jG) .none kV27 dc27 pm27 an27 cd27 ct27), sl27⟩) (c27 : PySem.W.codeIn K cd27 "_law_mixed" = true) (k27 : PySem.W.keepIn K (.ref f27) = true)
  (a28 : PySem.W.nsIn K mainGlobals "_law_take" = some (some (.ref f28))) (l28 : K.lookup f28 = some ⟨oc28, od28, .func (PySem.W.fnOf "_law_take" "_law_take" (defArgs jR) (defBody jR) (defScope jR) .none kV28 dc28 pm28 an28 cd28 ct28), sl28⟩) (c28 : PySem.W.codeIn K cd28 "_law_take" = true) (k28 : PySem.W.keepIn K (.ref f28) = true)
  (a29 : PySem.W.nsIn K mainGlobals "_law_number" = some (some (.ref f29))) (l29 : K.lookup f29 = some ⟨oc29, od29, .func (PySem.W.fnOf "_law_number" "_law_number" (defArgs xP) (defBody xP) (defScope xP) .none kV29 dc29 pm29 an29 cd29 ct29), sl29⟩) (c29 : PySem.W.codeIn K cd29 "_law_number" = true) (k29 : PySem.W.keepIn K (.ref f29) = true)
  (a30 : PySem.W.nsIn K mainGlobals "_law_leaf" = some (some (.ref f30))) (l30 : K.lookup f30 = some ⟨oc30, od30, .func (PySem.W.fnOf "_law_leaf" "_law_leaf" (defArgs jS) (defBody jS) (defScope jS) .none kV30 dc30 pm30 an30 cd30 ct30), sl30⟩) (c30 : PySem.W.codeIn K cd30 "_law_leaf" = true) (k30 : PySem.W.keepIn K (.ref f30) = true)
  (a31 : PySem.W.nsIn K mainGlobals "_law_parts" = some (some (.ref f31))) (l31 : K.lookup f31 = some ⟨oc31, od31, .func (PySem.W.fnOf "_law_parts" "_law_parts" (defArgs xI) (defBody xI) (defScope xI) .none kV31 dc31 pm31 an31 cd31 ct31), sl31⟩) (c31 : PySem.W.codeIn K cd31 "_law_parts" = true) (k31 : PySem.W.keepIn K (.ref f31) = true)
  (a32 : PySem.W.nsIn K mainGlobals "_law_row_part" = some (some (.ref f32))) (l32 : K.lookup f32 = some ⟨oc32, od32, .func (PySem.W.fnOf "_law_row_part" "_law_row_part" (defArgs yP) (defBody yP) (defScope yP) .none kV32 dc32 pm32 an32 cd32 ct32), sl32⟩) (c32 : PySem.W.codeIn K cd32 "_law_row_part" = true) (k32 : PySem.W.keepIn K (.ref f32) = true)
  (a33 : PySem.W.nsIn K mainGlobals "_law_place_part" = some (some (.ref f33))) (l33 : K.lookup f33 = some ⟨oc33, od33, .func (PySem.W.fnOf "_law_place_part" "_law_place_part" (defArgs yI) (defBody yI) (defScope yI) .none kV33 dc33 pm33 an33 cd33 ct33), sl33⟩) (c33 : PySem.W.codeIn K cd33 "_law_place_part" = true) (k33 : PySem.W.keepIn K (.ref f33) = true)
  (a34 : PySem.W.nsIn K mainGlobals "_law_of_rows" = some (some (.ref f34))) (l34 : K.lookup f34 = some ⟨oc34, od34, .func (PySem.W.fnOf "_law_of_rows" "_law_of_rows" (defArgs yR) (defBody yR) (defScope yR) .none kV34 dc34 pm34 an34 cd34 ct34), sl34⟩) (c34 : PySem.W.codeIn K cd34 "_law_of_rows" = true) (k34 : PySem.W.keepIn K (.ref f34) = true)
  (a35 : PySem.W.nsIn K mainGlobals "_law_round" = some (some (.ref f35))) (l35 : K.lookup f35 = some ⟨oc35, od35, .func (PySem.W.fnOf "_law_round" "_law_round" (defArgs xH) (defBody xH) (defScope xH) .none kV35 dc35 pm35 an35 cd35 ct35), sl35⟩) (c35 : PySem.W.codeIn K cd35 "_law_round" = true) (k35 : PySem.W.keepIn K (.ref f35) = true)
  (a36 : PySem.W.nsIn K mainGlobals "_law_call" = some (some (.ref f36))) (l36 : K.lookup f36 = some ⟨oc36, od36, .func (PySem.W.fnOf "_law_call" "_law_call" (defArgs xW) (defBody xW) (defScope xW) .none kV36 dc36 pm36 an36 cd36 ct36), sl36⟩) (c36 : PySem.W.codeIn K cd36 "_law_call" = true) (k36 : PySem.W.keepIn K (.ref f36) = true)
  (a37 : PySem.W.nsIn K mainGlobals "_law_node" = some (some (.ref f37))) (l37 : K.lookup f37 = some ⟨oc37, od37, .func (PySem.W.fnOf "_law_node" "_law_node" (defArgs xV) (defBody xV) (defScope xV) .none kV37 dc37 pm37 an37 cd37 ct37), sl37⟩) (c37 : PySem.W.codeIn K cd37 "_law_node" = true) (k37 : PySem.W.keepIn K (.ref f37) = true)
  (a38 : PySem.W.nsIn K mainGlobals "_law_body" = some (some (.ref f38))) (l38 : K.lookup f38 = some ⟨oc38, od38, .func (PySem.W.fnOf "_law_body" "_law_body" (defArgs jT) (defBody jT) (defScope jT) .none kV38 dc38 pm38 an38 cd38 ct38), sl38⟩) (c38 : PySem.W.codeIn K cd38 "_law_body" = true) (k38 : PySem.W.keepIn K (.ref f38) = true)
  (a39 : PySem.W.nsIn K mainGlobals "_law_functions" = some (some (.ref f39))) (l39 : K.lookup f39 = some ⟨oc39, od39, .func (PySem.W.fnOf "_law_functions" "_law_functions" (defArgs yL) (defBody yL) (defScope yL) .none kV39 dc39 pm39 an39 cd39 ct39), sl39⟩) (c39 : PySem.W.codeIn K cd39 "_law_functions" = true) (k39 : PySem.W.keepIn K (.ref f39) = true)
  (a40 : PySem.W.nsIn K mainGlobals "_law_numbers" = some (some (.ref f40))) (l40 : K.lookup f40 = some ⟨oc40, od40, .func (PySem.W.fnOf "_law_numbers" "_law_numbers" (defArgs yS) (defBody yS) (defScope yS) .none kV40 dc40 pm40 an40 cd40 ct40), sl40⟩) (c40 : PySem.W.codeIn K cd40 "_law_numbers" = true) (k40 : PySem.W.keepIn K (.ref f40) = true)
  (a41 : PySem.W.nsIn K mainGlobals "_law_sheet" = some (some (.ref f41))) (l41 : K.lookup f41 = some ⟨oc41, od41, .func (PySem.W.fnOf "_law_sheet" "_law_sheet" (defArgs jE) (defBody jE) (defScope jE) .none kV41 dc41 pm41 an41 cd41 ct41), sl41⟩) (c41 : PySem.W.codeIn K cd41 "_law_sheet" = true) (k41 : PySem.W.keepIn K (.ref f41) = true)
  (a42 : PySem.W.nsIn K mainGlobals "_law_given" = some (some (.ref f42))) (l42 : K.lookup f42 = some ⟨oc42, od42, .func (PySem.W.fnOf "_law_given" "_law_given" (defArgs xJ) (defBody xJ) (defScope xJ) .none kV42 dc42 pm42 an42 cd42 ct42), sl42⟩) (c42 : PySem.W.codeIn K cd42 "_law_given" = true) (k42 : PySem.W.keepIn K (.ref f42) = true)
  (a43 : PySem.W.nsIn K mainGlobals "_law_order" = some (some (.ref f43))) (l43 : K.lookup f43 = some ⟨oc43, od43, .func (PySem.W.fnOf "_law_order" "_law_order" (defArgs jF) (defBody jF) (defScope jF) .none kV43 dc43 pm43 an43 cd43 ct43), sl43⟩) (c43 : PySem.W.codeIn K cd43 "_law_order" = true) (k43 : PySem.W.keepIn K (.ref f43) = true)
  (a44 : PySem.W.nsIn K mainGlobals "_law_again" = some (some (.ref f44))) (l44 : K.lookup f44 = some ⟨oc44, od44, .func (PySem.W.fnOf "_law_again" "_law_again" (defArgs yV) (defBody yV) (defScope yV) .none kV44 dc44 pm44 an44 cd44 ct44), sl44⟩) (c44 : PySem.W.codeIn K cd44 "_law_again" = true) (k44 : PySem.W.keepIn K (.ref f44) = true)
  (a45 : PySem.W.nsIn K mainGlobals "law" = some (some (.ref f45))) (l45 : K.lookup f45 = some ⟨oc45, od45, .func (PySem.W.fnOf "law" "law" (defArgs s_law) (defBody s_law) (defScope s_law) .none kV45 dc45 pm45 an45 cd45 ct45), sl45⟩) (c45 : PySem.W.codeIn K cd45 "law" = true) (k45 : PySem.W.keepIn K (.ref f45) = true)
  (z_len : PySem.W.nsIn K mainGlobals "len" = some none)
  (z_abs : PySem.W.nsIn K mainGlobals "abs" = some none)
  (z_range : PySem.W.nsIn K mainGlobals "range" = some none)
  (z_isinstance : PySem.W.nsIn K mainGlobals "isinstance" = some none)
  (z_int : PySem.W.nsIn K mainGlobals "int" = some none)
  (z_bool : PySem.W.nsIn K mainGlobals "bool" = some none)
  (z_list : PySem.W.nsIn K mainGlobals "list" = some none)
  (z_tuple : PySem.W.nsIn K mainGlobals "tuple" = some none)
  (i_NUMBER : PySem.W.nsIn K mainGlobals "NUMBER" = some (some (.int 0 tNUMBER)))
  (i_GET : PySem.W.nsIn K mainGlobals "GET" = some (some (.int 1 tGET)))
  (i_SET : PySem.W.nsIn K mainGlobals "SET" = some (some (.int 2 tSET)))
  (i_ALL : PySem.W.nsIn K mainGlobals "ALL" = some (some (.int 3 tALL)))
  (i_PICK : PySem.W.nsIn K mainGlobals "PICK" = some (some (.int 4 tPICK)))
  (i_LOOP : PySem.W.nsIn K mainGlobals "LOOP" = some (some (.int 5 tLOOP)))
  (i_CALL : PySem.W.nsIn K mainGlobals "CALL" = some (some (.int 6 tCALL)))
  (i_FAIL : PySem.W.nsIn K mainGlobals "FAIL" = some (some (.int 7 tFAIL)))
  (i_NEW : PySem.W.nsIn K mainGlobals "NEW" = some (some (.int 19 tNEW)))
  (i_MOST_FUNCTIONS : PySem.W.nsIn K mainGlobals "MOST_FUNCTIONS" = some (some (.int 16 tMOST_FUNCTIONS)))
  (i_MOST_PARAMS : PySem.W.nsIn K mainGlobals "MOST_PARAMS" = some (some (.int 4 tMOST_PARAMS)))
  (i_MOST_BOXES : PySem.W.nsIn K mainGlobals "MOST_BOXES" = some (some (.int 12 tMOST_BOXES)))
  (i_MOST_DEEP : PySem.W.nsIn K mainGlobals "MOST_DEEP" = some (some (.int 10 tMOST_DEEP)))
  (i_MOST_MANY : PySem.W.nsIn K mainGlobals "MOST_MANY" = some (some (.int 12 tMOST_MANY)))
  (i_LEAST_ALL : PySem.W.nsIn K mainGlobals "LEAST_ALL" = some (some (.int 1 tLEAST_ALL)))
  (i_LEAST_PICK : PySem.W.nsIn K mainGlobals "LEAST_PICK" = some (some (.int 2 tLEAST_PICK)))
  (g_PARTS : PySem.W.nsIn K mainGlobals "PARTS" = some (some (.ref aP)))
  (o_PARTS : K.lookup aP = some ⟨.type "tuple", none, .seq #[.int 1 tPARTS0, .int 2 tPARTS1, .int 2 tPARTS2, .int 2 tPARTS3, .int 2 tPARTS4, .int 2 tPARTS5, .int 2 tPARTS6, .int 2 tPARTS7, .int 2 tPARTS8, .int 2 tPARTS9, .int 3 tPARTS10, .int 1 tPARTS11, .int 0 tPARTS12] nPARTS, sPARTS⟩)
  (u_bool : PySem.W.subIn K (.type "int") (.type "bool") = some false)
  (fn_NoSheet___init__ : PySem.W.isFn K (.ref f0) = true)
  (fn_Look___init__ : PySem.W.isFn K (.ref f1) = true)
  (fn_Look_take : PySem.W.isFn K (.ref f2) = true)
  (fn_Look_take_within : PySem.W.isFn K (.ref f3) = true)
  (fn_Fault___init__ : PySem.W.isFn K (.ref f18) = true)
  (fn_Work___init__ : PySem.W.isFn K (.ref f19) = true)
  (fn_Work_breathe : PySem.W.isFn K (.ref f20) = true)
  (makes : PySem.W.makesIn K cLook = true)
  (lkp : PySem.W.keepIn K (.ref cLook) = true)
  (pg : PySem.W.plainGet K cLook Str.empty = true)
  (hd : PySem.W.hasDictIn K cLook = true)
  (po : PySem.W.plainOver K cLook = true)
  (sa : PySem.W.findIn K (.ref cLook) "__setattr__" = some (some (.builtin "object.__setattr__")))
  (lnum : PySem.W.findIn K (.ref cLook) "numbers" = some none)
  (lpl : PySem.W.findIn K (.ref cLook) "place" = some none)
  (xN : K.lookup cNoSheet = some (excClassObj nmN qN cNoSheet NN bsN (.ref cChain :: bmValue) true snN subN abN colN ddN k0N k1N k2N k3N k5N "ValueError.__new__"))
  (xC : K.lookup cChain = some ⟨ccC, ddC, .cls ⟨nmC, bsC, mroC, nsC, qC, hdC, snC, subC, abC, colC, delC⟩, slC⟩)
  (xD : K.lookup nsC = some ⟨ccD, ddD, .dict esD nD, slD⟩)
  (xF : PySem.W.nsIn K nsC "__init__" = some none)
  (xkp : PySem.W.keepIn K (.ref cNoSheet) = true)
  (xty : PySem.W.typeIn K (.ref f0) = some (.type "function"))
  (xobj : PySem.W.mroIn K cNoSheet (.type "object") = some true)
  (xbase : PySem.W.mroIn K cNoSheet (.type "BaseException") = some true)
  (xsa : PySem.W.findIn K (.ref cNoSheet) "__setattr__" = some (some (.builtin "object.__setattr__")))
  (xga : PySem.W.findIn K (.ref cNoSheet) "__getattribute__" = some (some (.builtin "BaseException.__getattribute__")))
  (xnh : PySem.W.findIn K (.ref cNoSheet) "__getattr__" = some none)
  (xpl : PySem.W.findIn K (.ref cNoSheet) "place" = some none)
  (xwd : PySem.W.findIn K (.ref cNoSheet) "word" = some none)
  (xm1 : PySem.W.subIn K (.ref cNoSheet) (.ref cNoSheet) = some true)
  (xm2 : PySem.W.typeIn K (.ref cNoSheet) = some (.type "type"))
  (xm3 : PySem.W.isClsIn K cNoSheet = true)
  (xm4 : PySem.W.subIn K (.ref cNoSheet) (.type "BaseException") = some true)
  (xE : (esD.toList.all fun e => match e.key with | .str _ _ => true | _ => false) = true)
  (z_str : PySem.W.nsIn K mainGlobals "str" = some none)
  (u_str : PySem.W.subIn K (.type "int") (.type "str") = some false)
  (i_ADD : PySem.W.nsIn K mainGlobals "ADD" = some (some (.int 8 tADD)))
  (i_SUB : PySem.W.nsIn K mainGlobals "SUB" = some (some (.int 9 tSUB)))
  (i_MUL : PySem.W.nsIn K mainGlobals "MUL" = some (some (.int 10 tMUL)))
  (i_QUO : PySem.W.nsIn K mainGlobals "QUO" = some (some (.int 11 tQUO)))
  (i_LESS : PySem.W.nsIn K mainGlobals "LESS" = some (some (.int 13 tLESS)))
  (i_SAME : PySem.W.nsIn K mainGlobals "SAME" = some (some (.int 14 tSAME)))
  (i_PUSH : PySem.W.nsIn K mainGlobals "PUSH" = some (some (.int 15 tPUSH)))
  (i_PUT : PySem.W.nsIn K mainGlobals "PUT" = some (some (.int 17 tPUT)))
  (i_SIZE : PySem.W.nsIn K mainGlobals "SIZE" = some (some (.int 18 tSIZE)))
  (i_GREAT : PySem.W.nsIn K mainGlobals "GREAT" = some (some (.int 10000000000000000000000000000000000000000000000000000000000000000000000000000000000000000000000000000 tGREAT)))
  (i_MOST_DONE_AT_ONCE : PySem.W.nsIn K mainGlobals "MOST_DONE_AT_ONCE" = some (some (.int 16 tMOST_DONE_AT_ONCE)))
  (i_ANSWER : PySem.W.nsIn K mainGlobals "ANSWER" = some (some (.int 1 tANSWER)))
  (z_reversed : PySem.W.nsIn K mainGlobals "reversed" = some none)
  (Work_makes : PySem.W.makesIn K cWork = true)
  (Work_kp : PySem.W.keepIn K (.ref cWork) = true)
  (Work_pg : PySem.W.plainGet K cWork Str.empty = true)
  (Work_hd : PySem.W.hasDictIn K cWork = true)
  (Work_po : PySem.W.plainOver K cWork = true)
  (Work_sa : PySem.W.findIn K (.ref cWork) "__setattr__" = some (some (.builtin "object.__setattr__")))
  (Work_program : PySem.W.findIn K (.ref cWork) "program" = some none)
  (Work_rows : PySem.W.findIn K (.ref cWork) "rows" = some none)
  (Work_breaths : PySem.W.findIn K (.ref cWork) "breaths" = some none)
  (Work_done_at_once : PySem.W.findIn K (.ref cWork) "done_at_once" = some none)
  (yN : K.lookup cFault = some (excClassObj nmY qY cFault NY bsY bmExc true snY subY abY colY ddY k0Y k1Y k2Y k3Y k5Y "Exception.__new__"))
  (ykp : PySem.W.keepIn K (.ref cFault) = true)
  (yty : PySem.W.typeIn K (.ref f18) = some (.type "function"))
  (yobj : PySem.W.mroIn K cFault (.type "object") = some true)
  (ybase : PySem.W.mroIn K cFault (.type "BaseException") = some true)
  (ysa : PySem.W.findIn K (.ref cFault) "__setattr__" = some (some (.builtin "object.__setattr__")))
  (yga : PySem.W.findIn K (.ref cFault) "__getattribute__" = some (some (.builtin "BaseException.__getattribute__")))
  (ynh : PySem.W.findIn K (.ref cFault) "__getattr__" = some none)
  (ywd : PySem.W.findIn K (.ref cFault) "word" = some none)
  (ynu : PySem.W.findIn K (.ref cFault) "number" = some none)
  (ym1 : PySem.W.subIn K (.ref cFault) (.ref cFault) = some true)
  (ym2 : PySem.W.typeIn K (.ref cFault) = some (.type "type"))
  (ym3 : PySem.W.isClsIn K cFault = true)
  (ym4 : PySem.W.subIn K (.ref cFault) (.type "BaseException") = some true)
  : ∃ fd : FuncData, (∀ (s : Shared) (v : Value), BindsTo s fd ⟨[v], []⟩ [("_law_script", v)]) /\ ∀ base : Heap, K.In base -> base.Ns mainGlobals mg -> FnOk l.prog w K mg base (CXE l.prog w) 214 fa fd ["_law_script"] (spLaw K) := by
 have e := hfa.symm.trans (PySem.W.mg_of X G a45)
 cases e
 have F0 := zV (st := yM) l0 c0 k0
 have b0 := F0.binds (ps := ["self", "place", "word"]) fun _ _ _ _ _ _ us hl => by obtain ⟨_, _, _, rfl⟩ := ln3 hl; rfl
 have F1 := zV (st := yU) l1 c1 k1
 have b1 := F1.binds (ps := ["self", "numbers"]) fun _ _ _ _ _ _ us hl => by obtain ⟨_, _, rfl⟩ := ln2 hl; rfl
 have F2 := zV (st := jU) l2 c2 k2
 have b2 := F2.binds (ps := ["self"]) fun _ _ _ _ _ _ us hl => by obtain ⟨_, rfl⟩ := ln1 hl; rfl
 have F3 := zV (st := yO) l3 c3 k3
 have b3 := F3.binds (ps := ["self", "least", "most"]) fun _ _ _ _ _ _ us hl => by obtain ⟨_, _, _, rfl⟩ := ln3 hl; rfl
 have F4 := zV (st := kG) l4 c4 k4
 have b4 := F4.binds (ps := ["thing"]) fun _ _ _ _ _ _ us hl => by obtain ⟨_, rfl⟩ := ln1 hl; rfl
 have m4 := PySem.W.mg_of X G a4
 have F5 := zV (st := jC) l5 c5 k5
 have b5 := F5.binds (ps := ["look"]) fun _ _ _ _ _ _ us hl => by obtain ⟨_, rfl⟩ := ln1 hl; rfl
 have m5 := PySem.W.mg_of X G a5
 have F6 := zV (st := kB) l6 c6 k6
 have b6 := F6.binds (ps := ["look", "kind", "heads", "boxes"]) fun _ _ _ _ _ _ us hl => by obtain ⟨_, _, _, _, rfl⟩ := ln4 hl; rfl
 have m6 := PySem.W.mg_of X G a6
 have F7 := zV (st := kE) l7 c7 k7
 have b7 := F7.binds (ps := ["kind"]) fun _ _ _ _ _ _ us hl => by obtain ⟨_, rfl⟩ := ln1 hl; rfl
 have m7 := PySem.W.mg_of X G a7
 have F8 := zV (st := jN) l8 c8 k8
 have b8 := F8.binds (ps := ["kind", "numbers", "heads"]) fun _ _ _ _ _ _ us hl => by obtain ⟨_, _, _, rfl⟩ := ln3 hl; rfl
 have m8 := PySem.W.mg_of X G a8
 have F9 := zV (st := xU) l9 c9 k9
 have b9 := F9.binds (ps := ["look", "heads", "boxes", "deep"]) fun _ _ _ _ _ _ us hl => by obtain ⟨_, _, _, _, rfl⟩ := ln4 hl; rfl
 have m9 := PySem.W.mg_of X G a9
 have F10 := zV (st := jO) l10 c10 k10
 have b10 := F10.binds (ps := ["sheet"]) fun _ _ _ _ _ _ us hl => by obtain ⟨_, rfl⟩ := ln1 hl; rfl
 have m10 := PySem.W.mg_of X G a10
 have F11 := zV (st := wG) l11 c11 k11
 have b11 := F11.binds (ps := ["numbers"]) fun _ _ _ _ _ _ us hl => by obtain ⟨_, rfl⟩ := ln1 hl; rfl
 have m11 := PySem.W.mg_of X G a11
 have F12 := zV (st := kF) l12 c12 k12
 have b12 := F12.binds (ps := ["body"]) fun _ _ _ _ _ _ us hl => by obtain ⟨_, rfl⟩ := ln1 hl; rfl
 have m12 := PySem.W.mg_of X G a12
 have F13 := zV (st := kC) l13 c13 k13
 have b13 := F13.binds (ps := ["functions"]) fun _ _ _ _ _ _ us hl => by obtain ⟨_, rfl⟩ := ln1 hl; rfl
 have m13 := PySem.W.mg_of X G a13
 have F14 := zV (st := qK) l14 c14 k14
 have b14 := F14.binds (ps := ["value"]) fun _ _ _ _ _ _ us hl => by obtain ⟨_, rfl⟩ := ln1 hl; rfl
 have m14 := PySem.W.mg_of X G a14
 have F15 := zV (st := kD) l15 c15 k15
 have b15 := F15.binds (ps := ["kind", "first", "second"]) fun _ _ _ _ _ _ us hl => by obtain ⟨_, _, _, rfl⟩ := ln3 hl; rfl
 have m15 := PySem.W.mg_of X G a15
 have F16 := zV (st := xO) l16 c16 k16
 have b16 := F16.binds (ps := ["kind", "values", "rows"]) fun _ _ _ _ _ _ us hl => by obtain ⟨_, _, _, rfl⟩ := ln3 hl; rfl
 have m16 := PySem.W.mg_of X G a16
 have F17 := zV (st := wH) l17 c17 k17
 have b17 := F17.binds (ps := ["kind", "values", "rows"]) fun _ _ _ _ _ _ us hl => by obtain ⟨_, _, _, rfl⟩ := ln3 hl; rfl
 have m17 := PySem.W.mg_of X G a17
 have F18 := zV (st := yQ) l18 c18 k18
 have b18 := F18.binds (ps := ["self", "word", "number"]) fun _ _ _ _ _ _ us hl => by obtain ⟨_, _, _, rfl⟩ := ln3 hl; rfl
 have F19 := zV (st := yT) l19 c19 k19
 have b19 := F19.binds (ps := ["self", "program", "given", "breaths"]) fun _ _ _ _ _ _ us hl => by obtain ⟨_, _, _, _, rfl⟩ := ln4 hl; rfl
 have F20 := zV (st := xA) l20 c20 k20
 have b20 := F20.binds (ps := ["self"]) fun _ _ _ _ _ _ us hl => by obtain ⟨_, rfl⟩ := ln1 hl; rfl
 have F21 := zV (st := qL) l21 c21 k21
 have b21 := F21.binds (ps := ["value", "parts"]) fun _ _ _ _ _ _ us hl => by obtain ⟨_, _, rfl⟩ := ln2 hl; rfl
 have m21 := PySem.W.mg_of X G a21
 have F22 := zV (st := jD) l22 c22 k22
 have b22 := F22.binds (ps := ["work", "function", "values"]) fun _ _ _ _ _ _ us hl => by obtain ⟨_, _, _, rfl⟩ := ln3 hl; rfl
 have m22 := PySem.W.mg_of X G a22
 have F23 := zV (st := jP) l23 c23 k23
 have b23 := F23.binds (ps := ["work", "kind", "numbers", "values", "boxes"]) fun _ _ _ _ _ _ us hl => by obtain ⟨_, _, _, _, _, rfl⟩ := ln5 hl; rfl
 have m23 := PySem.W.mg_of X G a23
 have F24 := zV (st := jQ) l24 c24 k24
 have b24 := F24.binds (ps := ["work", "node", "boxes"]) fun _ _ _ _ _ _ us hl => by obtain ⟨_, _, _, rfl⟩ := ln3 hl; rfl
 have m24 := PySem.W.mg_of X G a24
 have F25 := zV (st := s_run) l25 c25 k25
 have b25 := F25.binds (ps := ["sheet", "given", "breaths"]) fun _ _ _ _ _ _ us hl => by obtain ⟨_, _, _, rfl⟩ := ln3 hl; rfl
 have m25 := PySem.W.mg_of X G a25
 have F26 := zV (st := jH) l26 c26 k26
 have b26 := F26.binds (ps := ["_law_script"]) fun _ _ _ _ _ _ us hl => by obtain ⟨_, rfl⟩ := ln1 hl; rfl
 have m26 := PySem.W.mg_of X G a26
 have F27 := zV (st := jG) l27 c27 k27
 have b27 := F27.binds (ps := ["_law_cell", "_law_k"]) fun _ _ _ _ _ _ us hl => by obtain ⟨_, _, rfl⟩ := ln2 hl; rfl
 have m27 := PySem.W.mg_of X G a27
 have F28 := zV (st := jR) l28 c28 k28
 have b28 := F28.binds (ps := ["_law_state", "_law_most"]) fun _ _ _ _ _ _ us hl => by obtain ⟨_, _, rfl⟩ := ln2 hl; rfl
 have m28 := PySem.W.mg_of X G a28
 have F29 := zV (st := xP) l29 c29 k29
 have b29 := F29.binds (ps := ["_law_state"]) fun _ _ _ _ _ _ us hl => by obtain ⟨_, rfl⟩ := ln1 hl; rfl
 have m29 := PySem.W.mg_of X G a29
 have F30 := zV (st := jS) l30 c30 k30
 have b30 := F30.binds (ps := ["_law_state", "_law_own"]) fun _ _ _ _ _ _ us hl => by obtain ⟨_, _, rfl⟩ := ln2 hl; rfl
 have m30 := PySem.W.mg_of X G a30
 have F31 := zV (st := xI) l31 c31 k31
 have b31 := F31.binds (ps := ["_law_state", "_law_own", "_law_deep", "_law_many"]) fun _ _ _ _ _ _ us hl => by obtain ⟨_, _, _, _, rfl⟩ := ln4 hl; rfl
 have m31 := PySem.W.mg_of X G a31
 have F32 := zV (st := yP) l32 c32 k32
 have b32 := F32.binds (ps := ["_law_state", "_law_own", "_law_deep"]) fun _ _ _ _ _ _ us hl => by obtain ⟨_, _, _, rfl⟩ := ln3 hl; rfl
 have m32 := PySem.W.mg_of X G a32
 have F33 := zV (st := yI) l33 c33 k33
 have b33 := F33.binds (ps := ["_law_state", "_law_own", "_law_deep"]) fun _ _ _ _ _ _ us hl => by obtain ⟨_, _, _, rfl⟩ := ln3 hl; rfl
 have m33 := PySem.W.mg_of X G a33
 have F34 := zV (st := yR) l34 c34 k34
 have b34 := F34.binds (ps := ["_law_state", "_law_own", "_law_deep"]) fun _ _ _ _ _ _ us hl => by obtain ⟨_, _, _, rfl⟩ := ln3 hl; rfl
 have m34 := PySem.W.mg_of X G a34
 have F35 := zV (st := xH) l35 c35 k35
 have b35 := F35.binds (ps := ["_law_state", "_law_own", "_law_deep"]) fun _ _ _ _ _ _ us hl => by obtain ⟨_, _, _, rfl⟩ := ln3 hl; rfl
 have m35 := PySem.W.mg_of X G a35
 have F36 := zV (st := xW) l36 c36 k36
 have b36 := F36.binds (ps := ["_law_state", "_law_own", "_law_deep"]) fun _ _ _ _ _ _ us hl => by obtain ⟨_, _, _, rfl⟩ := ln3 hl; rfl
 have m36 := PySem.W.mg_of X G a36
 have F37 := zV (st := xV) l37 c37 k37
 have b37 := F37.binds (ps := ["_law_state", "_law_own", "_law_deep"]) fun _ _ _ _ _ _ us hl => by obtain ⟨_, _, _, rfl⟩ := ln3 hl; rfl
 have m37 := PySem.W.mg_of X G a37
 have F38 := zV (st := jT) l38 c38 k38
 have b38 := F38.binds (ps := ["_law_state", "_law_head", "_law_heads", "_law_way"]) fun _ _ _ _ _ _ us hl => by obtain ⟨_, _, _, _, rfl⟩ := ln4 hl; rfl
 have m38 := PySem.W.mg_of X G a38
 have F39 := zV (st := yL) l39 c39 k39
 have b39 := F39.binds (ps := ["_law_state", "_law_most", "_law_way"]) fun _ _ _ _ _ _ us hl => by obtain ⟨_, _, _, rfl⟩ := ln3 hl; rfl
 have m39 := PySem.W.mg_of X G a39
 have F40 := zV (st := yS) l40 c40 k40
 have b40 := F40.binds (ps := ["_law_node_here"]) fun _ _ _ _ _ _ us hl => by obtain ⟨_, rfl⟩ := ln1 hl; rfl
 have m40 := PySem.W.mg_of X G a40
 have F41 := zV (st := jE) l41 c41 k41
 have b41 := F41.binds (ps := ["_law_functions_drawn"]) fun _ _ _ _ _ _ us hl => by obtain ⟨_, rfl⟩ := ln1 hl; rfl
 have m41 := PySem.W.mg_of X G a41
 have F42 := zV (st := xJ) l42 c42 k42
 have b42 := F42.binds (ps := ["_law_state"]) fun _ _ _ _ _ _ us hl => by obtain ⟨_, rfl⟩ := ln1 hl; rfl
 have m42 := PySem.W.mg_of X G a42
 have F43 := zV (st := jF) l43 c43 k43
 have b43 := F43.binds (ps := ["_law_state", "_law_many"]) fun _ _ _ _ _ _ us hl => by obtain ⟨_, _, rfl⟩ := ln2 hl; rfl
 have m43 := PySem.W.mg_of X G a43
 have F44 := zV (st := yV) l44 c44 k44
 have b44 := F44.binds (ps := ["_law_node_here", "_law_order_here", "_law_boxes", "_law_place"]) fun _ _ _ _ _ _ us hl => by obtain ⟨_, _, _, _, rfl⟩ := ln4 hl; rfl
 have m44 := PySem.W.mg_of X G a44
 have F45 := zV (st := s_law) l45 c45 k45
 refine ⟨PySem.W.fnOf "law" "law" (defArgs s_law) (defBody s_law) (defScope s_law) .none kV45 dc45 pm45 an45 cd45 ct45, fun s v => .of_eq rfl, fun base _ _ => ?_⟩
 have T : Txt K mg aP cLook cNoSheet := by
  refine ⟨PySem.W.mg_none_of X G z_len, PySem.W.mg_none_of X G z_abs, PySem.W.mg_none_of X G z_range, PySem.W.mg_none_of X G z_isinstance, PySem.W.mg_none_of X G z_int, PySem.W.mg_none_of X G z_bool, PySem.W.mg_none_of X G z_list, PySem.W.mg_none_of X G z_tuple, ⟨_, PySem.W.mg_of X G i_NUMBER⟩, ⟨_, PySem.W.mg_of X G i_GET⟩, ⟨_, PySem.W.mg_of X G i_SET⟩, ⟨_, PySem.W.mg_of X G i_ALL⟩, ⟨_, PySem.W.mg_of X G i_PICK⟩, ⟨_, PySem.W.mg_of X G i_LOOP⟩, ⟨_, PySem.W.mg_of X G i_CALL⟩, ⟨_, PySem.W.mg_of X G i_FAIL⟩, ⟨_, PySem.W.mg_of X G i_NEW⟩, ⟨_, PySem.W.mg_of X G i_MOST_FUNCTIONS⟩, ⟨_, PySem.W.mg_of X G i_MOST_PARAMS⟩, ⟨_, PySem.W.mg_of X G i_MOST_BOXES⟩, ⟨_, PySem.W.mg_of X G i_MOST_DEEP⟩, ⟨_, PySem.W.mg_of X G i_MOST_MANY⟩, ⟨_, PySem.W.mg_of X G i_LEAST_ALL⟩, ⟨_, PySem.W.mg_of X G i_LEAST_PICK⟩, PySem.W.mg_of X G g_PARTS, PySem.W.mg_of X G c_NoSheet, ?_, wE, kit_of u_bool, wE, wE, ⟨pg, hd, po, sa⟩, lnum, lpl, ⟨exc_cd xN, xobj, xbase, xsa, xga, xnh⟩, xpl, xwd, ⟨xm1, xm2, xm3, xm4⟩⟩
  exact sqT_of o_PARTS (small (show 13 <= 1000 by decide)) (.cons ⟨_, rfl⟩ (.cons ⟨_, rfl⟩ (.cons ⟨_, rfl⟩ (.cons ⟨_, rfl⟩ (.cons ⟨_, rfl⟩ (.cons ⟨_, rfl⟩ (.cons ⟨_, rfl⟩ (.cons ⟨_, rfl⟩ (.cons ⟨_, rfl⟩ (.cons ⟨_, rfl⟩ (.cons ⟨_, rfl⟩ (.cons ⟨_, rfl⟩ (.cons ⟨_, rfl⟩ (.nil))))))))))))))
 have TD : TxtD K mg := ⟨PySem.W.mg_none_of X G z_len, PySem.W.mg_none_of X G z_abs, PySem.W.mg_none_of X G z_range, PySem.W.mg_none_of X G z_isinstance, PySem.W.mg_none_of X G z_int, PySem.W.mg_none_of X G z_bool, PySem.W.mg_none_of X G z_str, PySem.W.mg_none_of X G z_tuple, PySem.W.mg_none_of X G z_list, ⟨_, PySem.W.mg_of X G i_ADD⟩, ⟨_, PySem.W.mg_of X G i_SUB⟩, ⟨_, PySem.W.mg_of X G i_MUL⟩, ⟨_, PySem.W.mg_of X G i_QUO⟩, ⟨_, PySem.W.mg_of X G i_LESS⟩, ⟨_, PySem.W.mg_of X G i_SAME⟩, ⟨_, PySem.W.mg_of X G i_PUSH⟩, ⟨_, PySem.W.mg_of X G i_PUT⟩, ⟨_, PySem.W.mg_of X G i_SIZE⟩, ⟨_, PySem.W.mg_of X G i_NEW⟩, ⟨_, PySem.W.mg_of X G i_GREAT⟩, wE, kit_of u_str, kit_of u_bool, wE⟩
 have TR : TxtR K mg aP cLook cNoSheet cWork cFault := ⟨T, TD, ⟨_, PySem.W.mg_of X G i_MOST_DONE_AT_ONCE⟩, ⟨_, PySem.W.mg_of X G i_ANSWER⟩, PySem.W.mg_of X G c_Fault, ⟨Work_pg, Work_hd, Work_po, Work_sa⟩, Work_program, Work_rows, Work_breaths, Work_done_at_once, ⟨exc_cdE yN, yobj, ybase, ysa, yga, ynh⟩, ywd, ynu, ⟨ym1, ym2, ym3, ym4⟩⟩
 have n_reversed := PySem.W.mg_none_of X G z_reversed
 have X0 : CalX l.prog w K mg base 1 "NoSheet" cNoSheet _ _ := ⟨⟨_, _, ExMk.ofValue ⟨_, _, _, _, _, _, _, _, _, _, _, _, _, _, _, _, xN, exc_tail xC rfl (ns_ok xD xE) xF⟩ a0 xty xkp T.exc, ok_initX T F0, PySem.W.mg_of X G c_NoSheet, b0⟩⟩
 have K1 : CalK l.prog w K mg base (CXE l.prog w) 1 "Look" cLook _ _ := ⟨⟨_, _, ⟨makes, a1, fn_Look___init__, lkp⟩, ok_initL T F1, PySem.W.mg_of X G c_Look, b1⟩⟩
 have C4 : Cal l.prog w K mg base (CXE l.prog w) 1 "is_whole" _ _ := ⟨⟨_, _, ok_whole T F4, m4, k4, b4⟩⟩
 have M2 : CalM l.prog w K mg base (CXE l.prog w) 3 cLook "take" _ _ := ⟨⟨_, _, ok_tk T F2 C4 X0, T.look, ⟨a2, fn_Look_take, k2⟩, b2⟩⟩
 have M3 : CalM l.prog w K mg base (CXE l.prog w) 4 cLook "take_within" _ _ := ⟨⟨_, _, ok_within T F3 M2 X0, T.look, ⟨a3, fn_Look_take_within, k3⟩, b3⟩⟩
 have C5 : Cal l.prog w K mg base (CXE l.prog w) 5 "take_heads" _ _ := ⟨⟨_, _, ok_heads T F5 M3, m5, k5, b5⟩⟩
 have C6 : Cal l.prog w K mg base (CXE l.prog w) 5 "take_own" _ _ := ⟨⟨_, _, ok_own T F6 M2 M3, m6, k6, b6⟩⟩
 have C7 : Cal l.prog w K mg base (CXE l.prog w) 1 "parts_of" _ _ := ⟨⟨_, _, ok_parts T F7, m7, k7, b7⟩⟩
 have C8 : Cal l.prog w K mg base (CXE l.prog w) 2 "parts_due" _ _ := ⟨⟨_, _, ok_due T F8 C7, m8, k8, b8⟩⟩
 have N9 := ok_nodes T F9 X0 M3 C6 C8 m9 k9 b9
 have C9 : Cal l.prog w K mg base (CXE l.prog w) 16 "take_node" _ (spNode cLook cNoSheet 10) := ⟨⟨_, _, N9 10 (Nat.le_refl _), m9, k9, b9⟩⟩
 have C10 : Cal l.prog w K mg base (CXE l.prog w) 17 "functions" _ _ := ⟨⟨_, _, ok_fns T F10 X0 K1 C5 C9, m10, k10, b10⟩⟩
 have C11 : Cal l.prog w K mg base (CXE l.prog w) 18 "wrong" _ _ := ⟨⟨_, _, ok_wrong T F11 C10, m11, k11, b11⟩⟩

 have C14 : Cal l.prog w K mg base (CXE l.prog w) 1 "within" _ _ := ⟨⟨_, _, ok_dwithin TD F14, m14, k14, b14⟩⟩
 have C15 : Cal l.prog w K mg base (CXE l.prog w) 2 "reckoned" _ _ := ⟨⟨_, _, ok_reckoned TD F15 C14, m15, k15, b15⟩⟩
 have C16 : Cal l.prog w K mg base (CXE l.prog w) 1 "done_to_row" _ _ := ⟨⟨_, _, ok_drow TD F16, m16, k16, b16⟩⟩
 have C17 : Cal l.prog w K mg base (CXE l.prog w) 3 "worth" _ _ := ⟨⟨_, _, ok_worth TD F17 C16 C15, m17, k17, b17⟩⟩
 have X18 : CalX l.prog w K mg base 1 "Fault" cFault _ _ := ⟨⟨_, _, ExMk.under yN a18 yty ykp TR.excF, ok_initF TR F18, PySem.W.mg_of X G c_Fault, b18⟩⟩
 have D19 : CalK l.prog w K mg base (CXE l.prog w) 1 "Work" cWork _ _ := ⟨⟨_, _, ⟨Work_makes, a19, fn_Work___init__, Work_kp⟩, ok_initW TR F19, PySem.W.mg_of X G c_Work, b19⟩⟩
 have M20 : CalM l.prog w K mg base (CXE l.prog w) 3 cWork "breathe" _ _ := ⟨⟨_, _, ok_breW TR F20 X18, TR.work, ⟨a20, fn_Work_breathe, k20⟩, b20⟩⟩
 have C21 : Cal l.prog w K mg base (CXE l.prog w) 1 "picked" _ _ := ⟨⟨_, _, ok_pickW TR F21, m21, k21, b21⟩⟩
 have C25 : Cal l.prog w K mg base (CXE l.prog w) 213 "run" _ _ := ⟨⟨_, _, (ok_runW TR F25 X18 M20 C21 C17 F22 m22 k22 b22 F23 m23 k23 b23 F24 m24 k24 b24 D19 C10).imp runG_of, m25, k25, b25⟩⟩
 have C12 : Cal l.prog w K mg base (CXE l.prog w) 1 "nodes_in" _ (spNodesT 10) := ⟨⟨_, _, ok_nodesT 9 T n_reversed F12, m12, k12, b12⟩⟩
 have C13 : Cal l.prog w K mg base (CXE l.prog w) 19 "sheet_of" _ (spSheetOf cNoSheet 10) := ⟨⟨_, _, ok_sheet_of T 10 F13 C12 C11 X0, m13, k13, b13⟩⟩
 have C26 : Cal l.prog w K mg base (CXE l.prog w) 1 "_law_begin" _ _ := ⟨⟨_, _, ok_begin F26, m26, k26, b26⟩⟩
 have C27 : Cal l.prog w K mg base (CXE l.prog w) 1 "_law_mixed" _ _ := ⟨⟨_, _, ok_mixed F27, m27, k27, b27⟩⟩
 have C28 : Cal l.prog w K mg base (CXE l.prog w) 2 "_law_take" _ _ := ⟨⟨_, _, ok_take TD F28 C27, m28, k28, b28⟩⟩
 have C29 : Cal l.prog w K mg base (CXE l.prog w) 3 "_law_number" _ _ := ⟨⟨_, _, ok_number TD F29 C28, m29, k29, b29⟩⟩
 have C30 : Cal l.prog w K mg base (CXE l.prog w) 4 "_law_leaf" _ _ := ⟨⟨_, _, ok_leafT TD F30 C28 C29, m30, k30, b30⟩⟩
 have C31 := (ok_drawT TD C28 C30 F37 m37 k37 b37 F31 m31 k31 b31 F32 m32 k32 b32 F33 m33 k33 b33 F34 m34 k34 b34 F35 m35 k35 b35 F36 m36 k36 b36 5).2.2
 have C38 : Cal l.prog w K mg base (CXE l.prog w) 21 "_law_body" _ _ := ⟨⟨_, _, ok_bodyT TD F38 C28 C31, m38, k38, b38⟩⟩
 have C39 : Cal l.prog w K mg base (CXE l.prog w) 22 "_law_functions" _ _ := ⟨⟨_, _, ok_fnsT TD F39 C28 C38, m39, k39, b39⟩⟩
 have C42 : Cal l.prog w K mg base (CXE l.prog w) 4 "_law_given" _ _ := ⟨⟨_, _, ok_givenT TD F42 C28 C29, m42, k42, b42⟩⟩
 have C40 : Cal l.prog w K mg base (CXE l.prog w) 11 "_law_numbers" _ (spNumbers 10) := ⟨⟨_, _, ok_numbersS TD F40 m40 k40 b40 10, m40, k40, b40⟩⟩
 have C41 : Cal l.prog w K mg base (CXE l.prog w) 12 "_law_sheet" _ _ := ⟨⟨_, _, ok_sheetL 10 TD F41 C40, m41, k41, b41⟩⟩
 have C43 : Cal l.prog w K mg base (CXE l.prog w) 3 "_law_order" _ _ := ⟨⟨_, _, ok_order TD F43 C28, m43, k43, b43⟩⟩
 have C44 : Cal l.prog w K mg base (CXE l.prog w) 7 "_law_again" _ (spAgain 6) := ⟨⟨_, _, ok_againS TD F44 m44 k44 b44 6, m44, k44, b44⟩⟩
 exact ok_law TD F45 C26 C28 C39 C43 C44 C42 C41 C10 C13 C25
theorem walk {l : PySem.W.OpenLaw} {q : Program} {loose : List Str} {XP : (Str -> Option Value) -> Heap -> Prop} {YP : World -> Heap -> Prop} {d : DefRec} {K : Params -> PySem.W.Frag} (hn : l.most = some 63) (hdf : d.params.defaults = [])
  (hY : ∀ (w : World) (h : Heap), YP w h -> (K w.params).In h)
  (F : ∀ (w : World) (mg : Str -> Option Value) (fa : Addr) (h : Heap), (K w.params).In h -> h.Ns mainGlobals mg -> mg d.name = some (.ref fa) ->
   ∃ fd : FuncData, (∀ (s : Shared) (u : Value), BindsTo s fd ⟨[u], []⟩ [("_law_script", u)]) /\ ∀ base : Heap, (K w.params).In base -> base.Ns mainGlobals mg -> FnOk l.prog w (K w.params) mg base (CXE l.prog w) 214 fa fd ["_law_script"] (spLaw (K w.params))) :
  PySem.W.WalkO q loose XP YP l.row.toRowW d [] (fun f vs => PySem.call f vs) :=
 L2.walk_of (n := 63) (k := 214) (x := "_law_script") (CX := fun w => (CXE l.prog w)) (sp := fun w => spLaw (K w.params)) hn (by decide) hdf ⟨rfl, by decide, by decide⟩ hY F (fun _ _ a ns hl hO hS => ⟨a, ns, rfl, Scr.of hO hS, hl, fun _ => rfl⟩) (fun _ _ _ _ _ => cxe_none)
end OcL
namespace OcP
open PySem
set_option compiler.extract_closed false
def B := PySem.Challenge.pw_ownchain_k22_whole_functions_in_another.main.body
def s0 : Stmt := let_mvar% ?s := (_ : Stmt); let_mvar% ?f := (fun (_ : B[0]? = some ?s) => ?s); ?f rfl
def s1 : Stmt := let_mvar% ?s := (_ : Stmt); let_mvar% ?f := (fun (_ : B[1]? = some ?s) => ?s); ?f rfl
def s2 : Stmt := let_mvar% ?s := (_ : Stmt); let_mvar% ?f := (fun (_ : B[2]? = some ?s) => ?s); ?f rfl
def s3 : Stmt := let_mvar% ?s := (_ : Stmt); let_mvar% ?f := (fun (_ : B[3]? = some ?s) => ?s); ?f rfl
def s4 : Stmt := let_mvar% ?s := (_ : Stmt); let_mvar% ?f := (fun (_ : B[4]? = some ?s) => ?s); ?f rfl
def s5 : Stmt := let_mvar% ?s := (_ : Stmt); let_mvar% ?f := (fun (_ : B[5]? = some ?s) => ?s); ?f rfl
def s6 : Stmt := let_mvar% ?s := (_ : Stmt); let_mvar% ?f := (fun (_ : B[6]? = some ?s) => ?s); ?f rfl
def s7 : Stmt := let_mvar% ?s := (_ : Stmt); let_mvar% ?f := (fun (_ : B[7]? = some ?s) => ?s); ?f rfl
def s8 : Stmt := let_mvar% ?s := (_ : Stmt); let_mvar% ?f := (fun (_ : B[8]? = some ?s) => ?s); ?f rfl
def s9 : Stmt := let_mvar% ?s := (_ : Stmt); let_mvar% ?f := (fun (_ : B[9]? = some ?s) => ?s); ?f rfl
def s10 : Stmt := let_mvar% ?s := (_ : Stmt); let_mvar% ?f := (fun (_ : B[10]? = some ?s) => ?s); ?f rfl
def s11 : Stmt := let_mvar% ?s := (_ : Stmt); let_mvar% ?f := (fun (_ : B[11]? = some ?s) => ?s); ?f rfl
def s12 : Stmt := let_mvar% ?s := (_ : Stmt); let_mvar% ?f := (fun (_ : B[12]? = some ?s) => ?s); ?f rfl
def s13 : Stmt := let_mvar% ?s := (_ : Stmt); let_mvar% ?f := (fun (_ : B[13]? = some ?s) => ?s); ?f rfl
def s14 : Stmt := let_mvar% ?s := (_ : Stmt); let_mvar% ?f := (fun (_ : B[14]? = some ?s) => ?s); ?f rfl
def s15 : Stmt := let_mvar% ?s := (_ : Stmt); let_mvar% ?f := (fun (_ : B[15]? = some ?s) => ?s); ?f rfl
def s16 : Stmt := let_mvar% ?s := (_ : Stmt); let_mvar% ?f := (fun (_ : B[16]? = some ?s) => ?s); ?f rfl
def s17 : Stmt := let_mvar% ?s := (_ : Stmt); let_mvar% ?f := (fun (_ : B[17]? = some ?s) => ?s); ?f rfl
def s18 : Stmt := let_mvar% ?s := (_ : Stmt); let_mvar% ?f := (fun (_ : B[18]? = some ?s) => ?s); ?f rfl
def s19 : Stmt := let_mvar% ?s := (_ : Stmt); let_mvar% ?f := (fun (_ : B[19]? = some ?s) => ?s); ?f rfl
def s20 : Stmt := let_mvar% ?s := (_ : Stmt); let_mvar% ?f := (fun (_ : B[20]? = some ?s) => ?s); ?f rfl
def s21 : Stmt := let_mvar% ?s := (_ : Stmt); let_mvar% ?f := (fun (_ : B[21]? = some ?s) => ?s); ?f rfl
def s22 : Stmt := let_mvar% ?s := (_ : Stmt); let_mvar% ?f := (fun (_ : B[22]? = some ?s) => ?s); ?f rfl
def s23 : Stmt := let_mvar% ?s := (_ : Stmt); let_mvar% ?f := (fun (_ : B[23]? = some ?s) => ?s); ?f rfl
def s24 : Stmt := let_mvar% ?s := (_ : Stmt); let_mvar% ?f := (fun (_ : B[24]? = some ?s) => ?s); ?f rfl
def s25 : Stmt := let_mvar% ?s := (_ : Stmt); let_mvar% ?f := (fun (_ : B[25]? = some ?s) => ?s); ?f rfl
def s26 : Stmt := let_mvar% ?s := (_ : Stmt); let_mvar% ?f := (fun (_ : B[26]? = some ?s) => ?s); ?f rfl
def s27 : Stmt := let_mvar% ?s := (_ : Stmt); let_mvar% ?f := (fun (_ : B[27]? = some ?s) => ?s); ?f rfl
def s28 : Stmt := let_mvar% ?s := (_ : Stmt); let_mvar% ?f := (fun (_ : B[28]? = some ?s) => ?s); ?f rfl
def s29 : Stmt := let_mvar% ?s := (_ : Stmt); let_mvar% ?f := (fun (_ : B[29]? = some ?s) => ?s); ?f rfl
def s30 : Stmt := let_mvar% ?s := (_ : Stmt); let_mvar% ?f := (fun (_ : B[30]? = some ?s) => ?s); ?f rfl
def s31 : Stmt := let_mvar% ?s := (_ : Stmt); let_mvar% ?f := (fun (_ : B[31]? = some ?s) => ?s); ?f rfl
def s32 : Stmt := let_mvar% ?s := (_ : Stmt); let_mvar% ?f := (fun (_ : B[32]? = some ?s) => ?s); ?f rfl
def s33 : Stmt := let_mvar% ?s := (_ : Stmt); let_mvar% ?f := (fun (_ : B[33]? = some ?s) => ?s); ?f rfl
def s34 : Stmt := let_mvar% ?s := (_ : Stmt); let_mvar% ?f := (fun (_ : B[34]? = some ?s) => ?s); ?f rfl
def s35 : Stmt := let_mvar% ?s := (_ : Stmt); let_mvar% ?f := (fun (_ : B[35]? = some ?s) => ?s); ?f rfl
def s36 : Stmt := let_mvar% ?s := (_ : Stmt); let_mvar% ?f := (fun (_ : B[36]? = some ?s) => ?s); ?f rfl
def s37 : Stmt := let_mvar% ?s := (_ : Stmt); let_mvar% ?f := (fun (_ : B[37]? = some ?s) => ?s); ?f rfl
def s38 : Stmt := let_mvar% ?s := (_ : Stmt); let_mvar% ?f := (fun (_ : B[38]? = some ?s) => ?s); ?f rfl
def s39 : Stmt := let_mvar% ?s := (_ : Stmt); let_mvar% ?f := (fun (_ : B[39]? = some ?s) => ?s); ?f rfl
def s40 : Stmt := let_mvar% ?s := (_ : Stmt); let_mvar% ?f := (fun (_ : B[40]? = some ?s) => ?s); ?f rfl
def s41 : Stmt := let_mvar% ?s := (_ : Stmt); let_mvar% ?f := (fun (_ : B[41]? = some ?s) => ?s); ?f rfl
def s42 : Stmt := let_mvar% ?s := (_ : Stmt); let_mvar% ?f := (fun (_ : B[42]? = some ?s) => ?s); ?f rfl
def s43 : Stmt := let_mvar% ?s := (_ : Stmt); let_mvar% ?f := (fun (_ : B[43]? = some ?s) => ?s); ?f rfl
def s44 : Stmt := let_mvar% ?s := (_ : Stmt); let_mvar% ?f := (fun (_ : B[44]? = some ?s) => ?s); ?f rfl
def s45 : Stmt := let_mvar% ?s := (_ : Stmt); let_mvar% ?f := (fun (_ : B[45]? = some ?s) => ?s); ?f rfl
def s46 : Stmt := let_mvar% ?s := (_ : Stmt); let_mvar% ?f := (fun (_ : B[46]? = some ?s) => ?s); ?f rfl
def s47 : Stmt := let_mvar% ?s := (_ : Stmt); let_mvar% ?f := (fun (_ : B[47]? = some ?s) => ?s); ?f rfl
def s48 : Stmt := let_mvar% ?s := (_ : Stmt); let_mvar% ?f := (fun (_ : B[48]? = some ?s) => ?s); ?f rfl
def s49 : Stmt := let_mvar% ?s := (_ : Stmt); let_mvar% ?f := (fun (_ : B[49]? = some ?s) => ?s); ?f rfl
def s50 : Stmt := let_mvar% ?s := (_ : Stmt); let_mvar% ?f := (fun (_ : B[50]? = some ?s) => ?s); ?f rfl
def s51 : Stmt := let_mvar% ?s := (_ : Stmt); let_mvar% ?f := (fun (_ : B[51]? = some ?s) => ?s); ?f rfl
def s52 : Stmt := let_mvar% ?s := (_ : Stmt); let_mvar% ?f := (fun (_ : B[52]? = some ?s) => ?s); ?f rfl
def s53 : Stmt := let_mvar% ?s := (_ : Stmt); let_mvar% ?f := (fun (_ : B[53]? = some ?s) => ?s); ?f rfl
def s54 : Stmt := let_mvar% ?s := (_ : Stmt); let_mvar% ?f := (fun (_ : B[54]? = some ?s) => ?s); ?f rfl
def s55 : Stmt := let_mvar% ?s := (_ : Stmt); let_mvar% ?f := (fun (_ : B[55]? = some ?s) => ?s); ?f rfl
def s56 : Stmt := let_mvar% ?s := (_ : Stmt); let_mvar% ?f := (fun (_ : B[56]? = some ?s) => ?s); ?f rfl
def s57 : Stmt := let_mvar% ?s := (_ : Stmt); let_mvar% ?f := (fun (_ : B[57]? = some ?s) => ?s); ?f rfl
def s58 : Stmt := let_mvar% ?s := (_ : Stmt); let_mvar% ?f := (fun (_ : B[58]? = some ?s) => ?s); ?f rfl
def s59 : Stmt := let_mvar% ?s := (_ : Stmt); let_mvar% ?f := (fun (_ : B[59]? = some ?s) => ?s); ?f rfl
def s60 : Stmt := let_mvar% ?s := (_ : Stmt); let_mvar% ?f := (fun (_ : B[60]? = some ?s) => ?s); ?f rfl
def s61 : Stmt := let_mvar% ?s := (_ : Stmt); let_mvar% ?f := (fun (_ : B[61]? = some ?s) => ?s); ?f rfl
def s62 : Stmt := let_mvar% ?s := (_ : Stmt); let_mvar% ?f := (fun (_ : B[62]? = some ?s) => ?s); ?f rfl
def s63 : Stmt := let_mvar% ?s := (_ : Stmt); let_mvar% ?f := (fun (_ : B[63]? = some ?s) => ?s); ?f rfl
def s64 : Stmt := let_mvar% ?s := (_ : Stmt); let_mvar% ?f := (fun (_ : B[64]? = some ?s) => ?s); ?f rfl
def s65 : Stmt := let_mvar% ?s := (_ : Stmt); let_mvar% ?f := (fun (_ : B[65]? = some ?s) => ?s); ?f rfl
def s66 : Stmt := let_mvar% ?s := (_ : Stmt); let_mvar% ?f := (fun (_ : B[66]? = some ?s) => ?s); ?f rfl
def s67 : Stmt := let_mvar% ?s := (_ : Stmt); let_mvar% ?f := (fun (_ : B[67]? = some ?s) => ?s); ?f rfl
def s68 : Stmt := let_mvar% ?s := (_ : Stmt); let_mvar% ?f := (fun (_ : B[68]? = some ?s) => ?s); ?f rfl
def s69 : Stmt := let_mvar% ?s := (_ : Stmt); let_mvar% ?f := (fun (_ : B[69]? = some ?s) => ?s); ?f rfl
def s70 : Stmt := let_mvar% ?s := (_ : Stmt); let_mvar% ?f := (fun (_ : B[70]? = some ?s) => ?s); ?f rfl
def s71 : Stmt := let_mvar% ?s := (_ : Stmt); let_mvar% ?f := (fun (_ : B[71]? = some ?s) => ?s); ?f rfl
def s72 : Stmt := let_mvar% ?s := (_ : Stmt); let_mvar% ?f := (fun (_ : B[72]? = some ?s) => ?s); ?f rfl
def s73 : Stmt := let_mvar% ?s := (_ : Stmt); let_mvar% ?f := (fun (_ : B[73]? = some ?s) => ?s); ?f rfl
def s74 : Stmt := let_mvar% ?s := (_ : Stmt); let_mvar% ?f := (fun (_ : B[74]? = some ?s) => ?s); ?f rfl
def s75 : Stmt := let_mvar% ?s := (_ : Stmt); let_mvar% ?f := (fun (_ : B[75]? = some ?s) => ?s); ?f rfl
def s76 : Stmt := let_mvar% ?s := (_ : Stmt); let_mvar% ?f := (fun (_ : B[76]? = some ?s) => ?s); ?f rfl
def s77 : Stmt := let_mvar% ?s := (_ : Stmt); let_mvar% ?f := (fun (_ : B[77]? = some ?s) => ?s); ?f rfl
def s78 : Stmt := let_mvar% ?s := (_ : Stmt); let_mvar% ?f := (fun (_ : B[78]? = some ?s) => ?s); ?f rfl
def sc : Scope := { kind := ScopeKind.module, names := [ (Str.ofString "__name__", NameKind.local), (Str.ofString "NUMBER", NameKind.local), (Str.ofString "GET", NameKind.local), (Str.ofString "SET", NameKind.local), (Str.ofString "ALL", NameKind.local), (Str.ofString "PICK", NameKind.local), (Str.ofString "LOOP", NameKind.local), (Str.ofString "CALL", NameKind.local), (Str.ofString "FAIL", NameKind.local), (Str.ofString "ADD", NameKind.local), (Str.ofString "SUB", NameKind.local), (Str.ofString "MUL", NameKind.local), (Str.ofString "QUO", NameKind.local), (Str.ofString "LESS", NameKind.local), (Str.ofString "SAME", NameKind.local), (Str.ofString "PUSH", NameKind.local), (Str.ofString "PUT", NameKind.local), (Str.ofString "SIZE", NameKind.local), (Str.ofString "NEW", NameKind.local), (Str.ofString "PARTS", NameKind.local), (Str.ofString "parts_of", NameKind.local), (Str.ofString "GREAT", NameKind.local), (Str.ofString "within", NameKind.local), (Str.ofString "reckoned", NameKind.local), (Str.ofString "done_to_row", NameKind.local), (Str.ofString "worth", NameKind.local), (Str.ofString "ChainError", NameKind.local), (Str.ofString "ValueError", NameKind.globalImplicit), (Str.ofString "NoSheet", NameKind.local), (Str.ofString "MOST_FUNCTIONS", NameKind.local), (Str.ofString "MOST_PARAMS", NameKind.local), (Str.ofString "MOST_BOXES", NameKind.local), (Str.ofString "MOST_DEEP", NameKind.local), (Str.ofString "MOST_MANY", NameKind.local), (Str.ofString "LEAST_ALL", NameKind.local), (Str.ofString "LEAST_PICK", NameKind.local), (Str.ofString "is_whole", NameKind.local), (Str.ofString "Look", NameKind.local), (Str.ofString "take_heads", NameKind.local), (Str.ofString "take_own", NameKind.local), (Str.ofString "parts_due", NameKind.local), (Str.ofString "take_node", NameKind.local), (Str.ofString "functions", NameKind.local), (Str.ofString "wrong", NameKind.local), (Str.ofString "nodes_in", NameKind.local), (Str.ofString "sheet_of", NameKind.local), (Str.ofString "MOST_DONE_AT_ONCE", NameKind.local), (Str.ofString "ANSWER", NameKind.local), (Str.ofString "Fault", NameKind.local), (Str.ofString "Exception", NameKind.globalImplicit), (Str.ofString "Work", NameKind.local), (Str.ofString "picked", NameKind.local), (Str.ofString "do_call", NameKind.local), (Str.ofString "do_with", NameKind.local), (Str.ofString "do_node", NameKind.local), (Str.ofString "run", NameKind.local), (Str.ofString "_law_begin", NameKind.local), (Str.ofString "_law_mixed", NameKind.local), (Str.ofString "_law_take", NameKind.local), (Str.ofString "_law_number", NameKind.local), (Str.ofString "_law_leaf", NameKind.local), (Str.ofString "_law_parts", NameKind.local), (Str.ofString "_law_row_part", NameKind.local), (Str.ofString "_law_place_part", NameKind.local), (Str.ofString "_law_of_rows", NameKind.local), (Str.ofString "_law_round", NameKind.local), (Str.ofString "_law_call", NameKind.local), (Str.ofString "_law_node", NameKind.local), (Str.ofString "_law_body", NameKind.local), (Str.ofString "_law_functions", NameKind.local), (Str.ofString "_law_numbers", NameKind.local), (Str.ofString "_law_sheet", NameKind.local), (Str.ofString "_law_given", NameKind.local), (Str.ofString "_law_order", NameKind.local), (Str.ofString "_law_again", NameKind.local), (Str.ofString "law", NameKind.local)], isGenerator := false, isCoroutine := false, more := [] : Scope }
def gi : Given := { argv := [], stdin := [], environ := (some [([76, 67, 95, 65, 76, 76], [67, 46, 85, 84, 70, 45, 56])]) : PySem.Given }
def fi : Str := "/claim/cut.py"
def pw : Program := { main := { body := [s0, s1, s2, s3, s4, s5, s6, s7, s8, s9, s10, s11, s12, s13, s14, s15, s16, s17, s18, s19, s20, s21, s22, s23, s24, s25, s26, s27, s28, s29, s30, s31, s32, s33, s34, s35, s36, s37, s38, s39, s40, s41, s42, s43, s44, s45, s46, s47, s48, s49, s50, s51, s52, s53, s54, s55, s56, s57, s58, s59, s60, s61, s62, s63, s64, s65, s66, s67, s68, s69, s70, s71, s72, s73, s74, s75, s76, s77, s78], scope := sc, futureAnnotations := false, file := fi, more := [] }, modules := [], parses := [], absent := [], harvested := [], given := gi }
def rw : PySem.W.OpenLaw := { prog := pw, name := (PySem.Str.ofString "law"), about := [(PySem.Str.ofString "run")], foot := 20, most := some 63, bound := none, writes := false }
theorem rw_eq : PySem.Challenge.rw_ownchain_k22_whole_functions_in_another = rw := rfl
end OcP

namespace PySem.W.Fast
 def tw1087764540432184364:=() def tw9635472417586104121:=() def tw7079120964521728845:=() def tw18231136716077540640:=() def tw6865491019671203184:=() def tw2443252642825284707:=() def tw11551028547931930295:=() def tw5300928694587497626:=()
 def tw10385362307008365155:=() def tw8253464837447748675:=() def tw8668487315815357063:=() def tw9414245730233671303:=() def tw9354058247130196413:=() def tw15139739287950844326:=() def tw3258741275761317034:=() def tw1344352835681429746:=()
 def tw17676274381318247738:=() def tw17401001741297702249:=() def tw10704832186509839579:=() def tw1083465146985467013:=() def tw9334826301053162278:=() def tw14998655377666786584:=() def tw11827849680231415898:=() def tw15918205048225809462:=()
 def tw5459725801950787325:=() def tw10895074192210994425:=() def tw12703968876980175859:=() def tw17247826526294243978:=() def tw4483771659715021256:=() def tw17548361479416147684:=() def tw4141950192858955838:=() def tw14037512627629281281:=()
 def tw8592933327687819379:=() def tw12874377928645259321:=() def tw5197103371027691362:=() def tw16563428825769153337:=() def tw15659991369903575541:=() def tw6985138861638918910:=() def tw18158916609359673601:=() def tw4574464869487359321:=()
 def tw5125974015139585313:=() def tw3641447883227357560:=() def tw12315836285393912620:=() def tw2766054805307612337:=() def tw12444252140665496422:=() def tw12443717588278827412:=() def tw14212852669589675036:=() def tw9358488663237093203:=()
 def tw16116197037709267228:=() def tw15705092757523837266:=() def tw17178543336324738448:=() def tw3616139856175887044:=() def tw16647483894955673178:=() def tw10907660972594748993:=() def tw11090798752492483823:=() def tw10897174581934301506:=()
 def tw6077606381211342266:=() def tw16465246770192541895:=() def tw11230189090397424802:=() def tw5872074898597130479:=() def tw16795169087325374385:=() def tw10190760821163311314:=() def tw10268995570002517024:=() def tw13617595085796071163:=()
 def tw15736028105981497804:=() def tw9225648862931669882:=() def tw16445102297529319686:=() def tw15742279884850612891:=() def tw13817355050249042321:=() def tw18382325662051932295:=() def tw3790259135730953378:=() def tw3710534190482789929:=()
 def tw12075339982052941018:=() def tw9014591252915246621:=() def tw1942014011693943650:=() def tw7708057974741497405:=() def tw197927662839341451:=() def tw16070813952721888823:=() def tw12468565294359966232:=() def tw17762916772538649684:=()
 def tw5422098502218224460:=() def tw3695465632762690287:=() def tw10038844421390814615:=() def tw13321357077132766651:=() def tw7411306735945592124:=() def tw14752137527044830438:=() def tw3943490011435374813:=() def tw18004349449927283036:=()
 def tw4949042205864393429:=() def tw18120512758580505913:=() def tw4292557060733730845:=() def tw7627157098388858712:=() def tw6737846439302147223:=() def tw1141044568398650359:=() def tw8238278348004575118:=() def tw16619868660509095676:=()
 def tw563780177149510836:=() def tw18253411556804916939:=() def tw8174823899729950901:=() def tw12095266713771898601:=() def tw11985473092179773072:=() def tw4053869251326451658:=() def tw3877239102855725734:=() def tw3115028706900329122:=()
 def tw3919633014933348337:=() def tw10179592462480136736:=() def tw10513280337117132679:=() def tw8627156747459471640:=() def tw3247244211829358478:=() def tw1003072225488552566:=() def tw12032257186620458402:=() def tw10804901627454886744:=()
 def tw2366796274326956995:=() def tw5752355154864764088:=() def tw14745026290382559090:=() def tw5927648340111055632:=() def tw8429143413913720726:=() def tw11578040139643096013:=() def tw9604291262821339080:=() def tw17067372615941553551:=()
 def tw12165460433367902911:=() def tw8445301566313845583:=() def tw5304358868980485577:=() def tw12460322001441214580:=() def tw148872175875655857:=() def tw16651726739846362534:=() def tw16722968683625550864:=() def tw7336751411927693870:=()
 def tw14671515448744382437:=() def tw9554633151670977890:=() def tw12132042660537762861:=() def tw17182337925304611411:=() def tw2273385898868661446:=() def tw12978496802430444302:=() def tw9280712776680839931:=() def tw2631075165964488775:=()
 def tw13500110369715756572:=() def tw13704433495880273864:=() def tw14695308884192301083:=() def tw17728032199937746156:=() def tw5064638111906638294:=() def tw15118939720751991857:=() def tw218537494886778366:=() def tw16027865650168404985:=()
 def tw11695540011611687554:=() def tw6870693073953077997:=() def tw6451490770523209692:=() def tw8884170380253577245:=() def tw3483644716850055921:=() def tw5111929386130858123:=() def tw621217174826529469:=() def tw4020660670097404410:=()
 def tw2310053641582147795:=() def tw17447542827098918013:=() def tw18233227055272239408:=() def tw6056170174856749983:=() def tw14385374317512329197:=() def tw15219974741920146073:=() def tw15164231127570067689:=() def tw13401432874881655960:=()
 def tw2195118010141717155:=() def tw12102619073597744085:=() def tw7073015175575505693:=() def tw2457296981896742418:=() def tw316952577834983887:=() def tw15958261133736020634:=() def tw11928505173177174755:=() def tw15466054561601326045:=()
 def tw11941765516715582811:=() def tw7399964416918516250:=() def tw15122800398531353217:=() def tw10795053707437031013:=() def tw3920795139587958538:=() def tw12423665293558108560:=() def tw17276787971758122885:=() def tw10975109203712831588:=()
 def tw17596460295097467131:=() def tw13644831465508279152:=() def tw13923514408142739269:=() def tw7913883065853190887:=() def tw8858111093773331520:=() def tw6829573788664778692:=() def tw6881906551076428771:=() def tw14598452506585616569:=()
 def tw8774773505218902587:=() def tw7553094881996894928:=() def tw3354226944690888187:=() def tw13340878946233870059:=() def tw11159473049229815309:=() def tw6695488925385492857:=() def tw8847542138132984384:=() def tw16625129557227170421:=()
 def tw6564947462099403187:=() def tw6521633746707669245:=() def tw17566915094992610550:=() def tw3447438355436966976:=() def tw10042770132971014173:=() def tw9489891869206410367:=() def tw4304495008080064100:=() def tw5070620456597230639:=()
 def tw4346845237343501025:=() def tw18398035326175241782:=() def tw6011735330988895761:=() def tw2805468587534061224:=() def tw13562792023387729254:=() def tw4821514811183519366:=() def tw819003239039363821:=() def tw7921669589370567429:=()
 def tw3862434842395690221:=() def tw15869867435313413885:=() def tw12544857748556366811:=() def tw15942778794209318346:=() def tw12309606677497007720:=() def tw11755776978910549791:=() def tw686394969984120430:=() def tw5802867579939556711:=()
 def tw10337388434144965460:=()
end PySem.W.Fast
open PySem PySem.W PyProof.Rows
set_option maxRecDepth 100000 in
set_option maxHeartbeats 0 in
theorem PySem.Challenge.cw_ownchain_k22_whole_functions_in_another_holds : PySem.Challenge.rw_ownchain_k22_whole_functions_in_another.Holds := by
 rw [OcP.rw_eq]
 w_on; o_law; z_head; (case hw => w_witness2)
 k_fill
 refine L2.walkX_of (fun P => rfl) ?_
 refine OcL.walk (l := OcP.rw) rfl rfl (fun w h Y => Y) ?F
 case F =>
  intro w mg fa h KX G hmg
  refine' OcL.all_mk KX G hmg ?c_NoSheet ?c_Look ?c_Fault ?c_Work ?a0 ?l0 ?c0 ?k0 ?a1 ?l1 ?c1 ?k1 ?a2 ?l2 ?c2 ?k2 ?a3 ?l3 ?c3 ?k3 ?a4 ?l4 ?c4 ?k4 ?a5 ?l5 ?c5 ?k5 ?a6 ?l6 ?c6 ?k6 ?a7 ?l7 ?c7 ?k7 ?a8 ?l8 ?c8 ?k8 ?a9 ?l9 ?c9 ?k9 ?a10 ?l10 ?c10 ?k10 ?a11 ?l11 ?c11 ?k11 ?a12 ?l12 ?c12 ?k12 ?a13 ?l13 ?c13 ?k13 ?a14 ?l14 ?c14 ?k14 ?a15 ?l15 ?c15 ?k15 ?a16 ?l16 ?c16 ?k16 ?a17 ?l17 ?c17 ?k17 ?a18 ?l18 ?c18 ?k18 ?a19 ?l19 ?c19 ?k19 ?a20 ?l20 ?c20 ?k20 ?a21 ?l21 ?c21 ?k21 ?a22 ?l22 ?c22 ?k22 ?a23 ?l23 ?c23 ?k23 ?a24 ?l24 ?c24 ?k24 ?a25 ?l25 ?c25 ?k25 ?a26 ?l26 ?c26 ?k26 ?a27 ?l27 ?c27 ?k27 ?a28 ?l28 ?c28 ?k28 ?a29 ?l29 ?c29 ?k29 ?a30 ?l30 ?c30 ?k30 ?a31 ?l31 ?c31 ?k31 ?a32 ?l32 ?c32 ?k32 ?a33 ?l33 ?c33 ?k33 ?a34 ?l34 ?c34 ?k34 ?a35 ?l35 ?c35 ?k35 ?a36 ?l36 ?c36 ?k36 ?a37 ?l37 ?c37 ?k37 ?a38 ?l38 ?c38 ?k38 ?a39 ?l39 ?c39 ?k39 ?a40 ?l40 ?c40 ?k40 ?a41 ?l41 ?c41 ?k41 ?a42 ?l42 ?c42 ?k42 ?a43 ?l43 ?c43 ?k43 ?a44 ?l44 ?c44 ?k44 ?a45 ?l45 ?c45 ?k45 ?z_len ?z_abs ?z_range ?z_isinstance ?z_int ?z_bool ?z_list ?z_tuple ?i_NUMBER ?i_GET ?i_SET ?i_ALL ?i_PICK ?i_LOOP ?i_CALL ?i_FAIL ?i_NEW ?i_MOST_FUNCTIONS ?i_MOST_PARAMS ?i_MOST_BOXES ?i_MOST_DEEP ?i_MOST_MANY ?i_LEAST_ALL ?i_LEAST_PICK ?g_PARTS ?o_PARTS ?u_bool ?fn_NoSheet___init__ ?fn_Look___init__ ?fn_Look_take ?fn_Look_take_within ?fn_Fault___init__ ?fn_Work___init__ ?fn_Work_breathe ?makes ?lkp ?pg ?hd ?po ?sa ?lnum ?lpl ?xN ?xC ?xD ?xF ?xkp ?xty ?xobj ?xbase ?xsa ?xga ?xnh ?xpl ?xwd ?xm1 ?xm2 ?xm3 ?xm4 ?xE ?z_str ?u_str ?i_ADD ?i_SUB ?i_MUL ?i_QUO ?i_LESS ?i_SAME ?i_PUSH ?i_PUT ?i_SIZE ?i_GREAT ?i_MOST_DONE_AT_ONCE ?i_ANSWER ?z_reversed ?Work_makes ?Work_kp ?Work_pg ?Work_hd ?Work_po ?Work_sa ?Work_program ?Work_rows ?Work_breaths ?Work_done_at_once ?yN ?ykp ?yty ?yobj ?ybase ?ysa ?yga ?ynh ?ywd ?ynu ?ym1 ?ym2 ?ym3 ?ym4
  (case c_NoSheet => k_is)
  (case c_Look => k_is)
  (case c_Fault => k_is)
  (case c_Work => k_is)
  (case a0 => k_is)
  (case l0 => k_is)
  (case c0 => k_is)
  (case k0 => k_is)
  (case a1 => k_is)
  (case l1 => k_is)
  (case c1 => k_is)
  (case k1 => k_is)
  (case a2 => k_is)
  (case l2 => k_is)
  (case c2 => k_is)
  (case k2 => k_is)
  (case a3 => k_is)
  (case l3 => k_is)
  (case c3 => k_is)
  (case k3 => k_is)
  (case a4 => k_is)
  (case l4 => k_is)
  (case c4 => k_is)
  (case k4 => k_is)
  (case a5 => k_is)
  (case l5 => k_is)
  (case c5 => k_is)
  (case k5 => k_is)
  (case a6 => k_is)
  (case l6 => k_is)
  (case c6 => k_is)
  (case k6 => k_is)
  (case a7 => k_is)
  (case l7 => k_is)
  (case c7 => k_is)
  (case k7 => k_is)
  (case a8 => k_is)
  (case l8 => k_is)
  (case c8 => k_is)
  (case k8 => k_is)
  (case a9 => k_is)
  (case l9 => k_is)
  (case c9 => k_is)
  (case k9 => k_is)
  (case a10 => k_is)
  (case l10 => k_is)
  (case c10 => k_is)
  (case k10 => k_is)
  (case a11 => k_is)
  (case l11 => k_is)
  (case c11 => k_is)
  (case k11 => k_is)
  (case a12 => k_is)
  (case l12 => k_is)
  (case c12 => k_is)
  (case k12 => k_is)
  (case a13 => k_is)
  (case l13 => k_is)
  (case c13 => k_is)
  (case k13 => k_is)
  (case a14 => k_is)
  (case l14 => k_is)
  (case c14 => k_is)
  (case k14 => k_is)
  (case a15 => k_is)
  (case l15 => k_is)
  (case c15 => k_is)
  (case k15 => k_is)
  (case a16 => k_is)
  (case l16 => k_is)
  (case c16 => k_is)
  (case k16 => k_is)
  (case a17 => k_is)
  (case l17 => k_is)
  (case c17 => k_is)
  (case k17 => k_is)
  (case a18 => k_is)
  (case l18 => k_is)
  (case c18 => k_is)
  (case k18 => k_is)
  (case a19 => k_is)
  (case l19 => k_is)
  (case c19 => k_is)
  (case k19 => k_is)
  (case a20 => k_is)
  (case l20 => k_is)
  (case c20 => k_is)
  (case k20 => k_is)
  (case a21 => k_is)
  (case l21 => k_is)
  (case c21 => k_is)
  (case k21 => k_is)
  (case a22 => k_is)
  (case l22 => k_is)
  (case c22 => k_is)
  (case k22 => k_is)
  (case a23 => k_is)
  (case l23 => k_is)
  (case c23 => k_is)
  (case k23 => k_is)
  (case a24 => k_is)
  (case l24 => k_is)
  (case c24 => k_is)
  (case k24 => k_is)
  (case a25 => k_is)
  (case l25 => k_is)
  (case c25 => k_is)
  (case k25 => k_is)
  (case a26 => k_is)
  (case l26 => k_is)
  (case c26 => k_is)
  (case k26 => k_is)
  (case a27 => k_is)
  (case l27 => k_is)
  (case c27 => k_is)
  (case k27 => k_is)
  (case a28 => k_is)
  (case l28 => k_is)
  (case c28 => k_is)
  (case k28 => k_is)
  (case a29 => k_is)
  (case l29 => k_is)
  (case c29 => k_is)
  (case k29 => k_is)
  (case a30 => k_is)
  (case l30 => k_is)
  (case c30 => k_is)
  (case k30 => k_is)
  (case a31 => k_is)
  (case l31 => k_is)
  (case c31 => k_is)
  (case k31 => k_is)
  (case a32 => k_is)
  (case l32 => k_is)
  (case c32 => k_is)
  (case k32 => k_is)
  (case a33 => k_is)
  (case l33 => k_is)
  (case c33 => k_is)
  (case k33 => k_is)
  (case a34 => k_is)
  (case l34 => k_is)
  (case c34 => k_is)
  (case k34 => k_is)
  (case a35 => k_is)
  (case l35 => k_is)
  (case c35 => k_is)
  (case k35 => k_is)
  (case a36 => k_is)
  (case l36 => k_is)
  (case c36 => k_is)
  (case k36 => k_is)
  (case a37 => k_is)
  (case l37 => k_is)
  (case c37 => k_is)
  (case k37 => k_is)
  (case a38 => k_is)
  (case l38 => k_is)
  (case c38 => k_is)
  (case k38 => k_is)
  (case a39 => k_is)
  (case l39 => k_is)
  (case c39 => k_is)
  (case k39 => k_is)
  (case a40 => k_is)
  (case l40 => k_is)
  (case c40 => k_is)
  (case k40 => k_is)
  (case a41 => k_is)
  (case l41 => k_is)
  (case c41 => k_is)
  (case k41 => k_is)
  (case a42 => k_is)
  (case l42 => k_is)
  (case c42 => k_is)
  (case k42 => k_is)
  (case a43 => k_is)
  (case l43 => k_is)
  (case c43 => k_is)
  (case k43 => k_is)
  (case a44 => k_is)
  (case l44 => k_is)
  (case c44 => k_is)
  (case k44 => k_is)
  (case a45 => k_is)
  (case l45 => k_is)
  (case c45 => k_is)
  (case k45 => k_is)
  (case z_len => k_is)
  (case z_abs => k_is)
  (case z_range => k_is)
  (case z_isinstance => k_is)
  (case z_int => k_is)
  (case z_bool => k_is)
  (case z_list => k_is)
  (case z_tuple => k_is)
  (case i_NUMBER => k_is)
  (case i_GET => k_is)
  (case i_SET => k_is)
  (case i_ALL => k_is)
  (case i_PICK => k_is)
  (case i_LOOP => k_is)
  (case i_CALL => k_is)
  (case i_FAIL => k_is)
  (case i_NEW => k_is)
  (case i_MOST_FUNCTIONS => k_is)
  (case i_MOST_PARAMS => k_is)
  (case i_MOST_BOXES => k_is)
  (case i_MOST_DEEP => k_is)
  (case i_MOST_MANY => k_is)
  (case i_LEAST_ALL => k_is)
  (case i_LEAST_PICK => k_is)
  (case g_PARTS => k_is)
  (case o_PARTS => k_is)
  (case u_bool => k_is)
  (case fn_NoSheet___init__ => k_is)
  (case fn_Look___init__ => k_is)
  (case fn_Look_take => k_is)
  (case fn_Look_take_within => k_is)
  (case fn_Fault___init__ => k_is)
  (case fn_Work___init__ => k_is)
  (case fn_Work_breathe => k_is)
  (case makes => k_is)
  (case lkp => k_is)
  (case pg => k_is)
  (case hd => k_is)
  (case po => k_is)
  (case sa => k_is)
  (case lnum => k_is)
  (case lpl => k_is)
  (case xN => k_is)
  (case xC => k_is)
  (case xD => k_is)
  (case xF => k_is)
  (case xkp => k_is)
  (case xty => k_is)
  (case xobj => k_is)
  (case xbase => k_is)
  (case xsa => k_is)
  (case xga => k_is)
  (case xnh => k_is)
  (case xpl => k_is)
  (case xwd => k_is)
  (case xm1 => k_is)
  (case xm2 => k_is)
  (case xm3 => k_is)
  (case xm4 => k_is)
  (case xE => rfl)
  (case z_str => k_is)
  (case u_str => k_is)
  (case i_ADD => k_is)
  (case i_SUB => k_is)
  (case i_MUL => k_is)
  (case i_QUO => k_is)
  (case i_LESS => k_is)
  (case i_SAME => k_is)
  (case i_PUSH => k_is)
  (case i_PUT => k_is)
  (case i_SIZE => k_is)
  (case i_GREAT => k_is)
  (case i_MOST_DONE_AT_ONCE => k_is)
  (case i_ANSWER => k_is)
  (case z_reversed => k_is)
  (case Work_makes => k_is)
  (case Work_kp => k_is)
  (case Work_pg => k_is)
  (case Work_hd => k_is)
  (case Work_po => k_is)
  (case Work_sa => k_is)
  (case Work_program => k_is)
  (case Work_rows => k_is)
  (case Work_breaths => k_is)
  (case Work_done_at_once => k_is)
  (case yN => k_is)
  (case ykp => k_is)
  (case yty => k_is)
  (case yobj => k_is)
  (case ybase => k_is)
  (case ysa => k_is)
  (case yga => k_is)
  (case ynh => k_is)
  (case ywd => k_is)
  (case ynu => k_is)
  (case ym1 => k_is)
  (case ym2 => k_is)
  (case ym3 => k_is)
  (case ym4 => k_is)
