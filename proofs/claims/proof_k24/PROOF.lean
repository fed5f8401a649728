import PyProof.Rows.All
import PyProof.Rows.TupAdd
import PyProof.ExcClass2
import PyProof.AutoSeq1
import PyProof.LayNew
import PyProof.EnumFor
import PyProof.EnumStmt
import PyProof.EnumMake
import PyProof.ConsumeWalk
import KE.KRevSl
import KE.KRevIter
import Wide.All
import OpenK.AllK
import Wide.FinOn
import Lean
import PyProof.EqAt
import PyProof.EqKinds
import PyProof.TupleCall
import PyProof.NeKinds
import PySem.Challenge.RW_ownchain_k24_what_is_no_code
set_option genInjectivity false
set_option genSizeOfSpec false
set_option Elab.async false
set_option linter.all false
set_option maxRecDepth 100000
namespace L2
open PySem PySem.Spec PyProof.Rows

abbrev Key := Sum Int Str
def keyIs : Key -> Value -> Bool
 | .inl k, v => Value.isInt k v
 | .inr x, v => Value.isStrOf x v
def keyH (w : World) : Key -> Int
 | .inl k => hashInt k
 | .inr x => hashStr w x
theorem xD : ∀ {k : Key} {v : Value}, keyIs k v = true -> (∃ i t, k = Sum.inl i /\ v = Value.int i t) \/ (∃ x t, k = Sum.inr x /\ v = Value.str x t)
 | .inl i, v, h => by
  obtain ⟨t, e⟩ := Value.isInt_shape (k := i) (v := v) h
  exact .inl ⟨i, t, rfl, e⟩
 | .inr x, v, h => by
  obtain ⟨t, e⟩ := Value.isStrOf_shape (x := x) (v := v) h
  exact .inr ⟨x, t, rfl, e⟩
theorem key_ll (a b : Int) : decide ((Sum.inl a : Key) = Sum.inl b) = (a == b) := by
 by_cases e : a = b
 ·subst e; simp
 ·have h : ¬ (Sum.inl a : Key) = Sum.inl b := fun q => e (Sum.inl.inj q)
  rw [decide_eq_false h]
  exact (beq_eq_false_iff_ne.mpr e).symm
theorem key_rr (a b : Str) : decide ((Sum.inr a : Key) = Sum.inr b) = decide (a = b) := by
 by_cases e : a = b
 ·subst e; simp
 ·have h : ¬ (Sum.inr a : Key) = Sum.inr b := fun q => e (Sum.inr.inj q)
  rw [decide_eq_false h, decide_eq_false e]
theorem key_lr (a : Int) (b : Str) : decide ((Sum.inl a : Key) = Sum.inr b) = false := decide_eq_false (fun q => nomatch q)
theorem key_rl (a : Str) (b : Int) : decide ((Sum.inr a : Key) = Sum.inl b) = false := decide_eq_false (fun q => nomatch q)

def mixKind (prog : Program) (w : World) : PySem.KeyKind prog w Key where
 is := keyIs
 hash := keyH w
 inj := fun v a b ha hb => by
  rcases xD ha with ⟨i, t, rfl, rfl⟩ | ⟨x, t, rfl, rfl⟩
  ·rcases xD hb with ⟨j, u, rfl, e⟩ | ⟨y, u, rfl, e⟩
   ·injection e with e1 _; rw [e1]
   ·exact nomatch e
  ·rcases xD hb with ⟨j, u, rfl, e⟩ | ⟨y, u, rfl, e⟩
   ·exact nomatch e
   ·injection e with e1 _; rw [e1]
 byValue := fun k v h => by
  rcases xD h with ⟨i, t, rfl, rfl⟩ | ⟨x, t, rfl, rfl⟩ <;> rfl
 pyHash := fun hv h => by
  rcases xD hv with ⟨i, t, rfl, rfl⟩ | ⟨x, t, rfl, rfl⟩
  ·exact wpAny_pyHash_int h
  ·exact wpAny_pyHash_str h
 eqBool := fun hu hv h => by
  rcases xD hu with ⟨i, t, rfl, rfl⟩ | ⟨x, t, rfl, rfl⟩
  ·rcases xD hv with ⟨j, u, rfl, rfl⟩ | ⟨y, u, rfl, rfl⟩
   ·rw [key_ll] at h; exact wpAny_eqBool_int h
   ·rw [key_lr] at h; exact SeqAt.EqAt.int_str i t y u _ _ _ _ h
  ·rcases xD hv with ⟨j, u, rfl, rfl⟩ | ⟨y, u, rfl, rfl⟩
   ·rw [key_rl] at h; exact SeqAt.EqAt.str_int x t j u _ _ _ _ h
   ·rw [key_rr] at h; exact wpAny_eqBool_str h
 «strs» := fun k x t v h => by
  rcases xD h with ⟨i, u, rfl, e⟩ | ⟨y, u, rfl, e⟩
  ·exact nomatch e
  ·injection e with e1 _
   subst e1
   cases v <;> rfl

end L2

namespace L2
open PySem PySem.Spec PyProof.Rows

inductive V where
 | non | bl (b : Bool) | int (i : Int) | str (x : Str) | byt (b : Array UInt8) | flt (b : UInt64) | ref (a : Addr) | ty (n : String)
 deriving DecidableEq

def RelV : V -> Value -> Prop
 | .non, u => u = Value.none
 | .bl b, u => u = Value.bool b
 | .int i, u => ∃ t, u = Value.int i t
 | .str x, u => ∃ t, u = Value.str x t
 | .byt b, u => ∃ t, u = Value.bytes b t
 | .flt b, u => ∃ t, u = Value.float b t
 | .ref a, u => u = Value.ref a
 | .ty n, u => u = Value.type n

abbrev Vals : List V -> List Value -> Prop := Paired RelV
theorem Vals.length {xs : List V} {us : List Value} (r : Vals xs us) : xs.length = us.length := Paired.length r
theorem Vals.get : ∀ {xs : List V} {us : List Value} {i : Nat} {x : V}, Vals xs us -> xs[i]? = some x -> ∃ u, us[i]? = some u /\ RelV x u
 | _, _, _, _, .nil, e => by simp at e
 | _, _, 0, _, .cons r _, e => by simp at e; subst e; exact ⟨_, rfl, r⟩
 | _, _, i + 1, x, .cons _ t, e => by
  obtain ⟨u, h1, h2⟩ := Vals.get (i := i) (x := x) t (by simpa using e)
  exact ⟨u, by simpa using h1, h2⟩
theorem Vals.set {x : V} {u : Value} (r : RelV x u) : ∀ {xs : List V} {us : List Value} (i : Nat), Vals xs us -> Vals (xs.set i x) (us.set i u)
 | _, _, _, .nil => .nil
 | _, _, 0, .cons _ t => .cons r t
 | _, _, i + 1, .cons q t => .cons q (Vals.set r i t)
theorem Vals.append : ∀ {xs ys : List V} {us ws : List Value}, Vals xs us -> Vals ys ws -> Vals (xs ++ ys) (us ++ ws)
 | _, _, _, _, .nil, s => s
 | _, _, _, _, .cons r t, s => .cons r (Vals.append t s)
theorem Vals.take : ∀ {xs : List V} {us : List Value} (n : Nat), Vals xs us -> Vals (xs.take n) (us.take n)
 | _, _, 0, _ => .nil
 | _, _, _ + 1, .nil => .nil
 | _, _, n + 1, .cons r t => .cons r (Vals.take n t)
theorem Vals.drop : ∀ {xs : List V} {us : List Value} (n : Nat), Vals xs us -> Vals (xs.drop n) (us.drop n)
 | _, _, 0, r => r
 | _, _, _ + 1, .nil => .nil
 | _, _, n + 1, .cons _ t => Vals.drop n t
def RelO : Option V -> Option Value -> Prop
 | some v, some u => RelV v u
 | none, none => True
 | _, _ => False
def KV {κ : Type} : List (κ × V) -> List (κ × Value) -> Prop := Paired fun (p : κ × V) (q : κ × Value) => p.1 = q.1 /\ RelV p.2 q.2

def kV : Key -> V
 | .inl i => .int i
 | .inr x => .str x

inductive HO where
 | lst (xs : List V)
 | tup (xs : List V)
 | dK (kvs : List (Key × V)) | dT (kvs : List (List Key × V))
 | set (S : Int -> Bool) (n : Nat)
 | ins (C dx : Addr) (fs : List (Str × V))
 | own (x : Addr)
 | xd (fs : List (Str × V))
 | met (f x : Addr)
 | rng (lo hi : Int)
 | frz (o : Obj) (u : HO)
 | tbl (ps : Array Value)
 | ext (φ : Heap -> Prop)

abbrev Hp := Addr -> Option HO
def upd (H : Hp) (a : Addr) (o : HO) : Hp := fun b => if b = a then some o else H b
theorem zB {H : Hp} {a : Addr} {o : HO} : upd H a o a = some o := by unfold upd; rw [if_pos rfl]
theorem zJ {H : Hp} {a b : Addr} {o : HO} (h : b ≠ a) : upd H a o b = H b := by unfold upd; rw [if_neg h]
theorem upd_upd {H : Hp} {a : Addr} {o u : HO} : upd (upd H a o) a u = upd H a u := by
 funext b; unfold upd; split <;> rfl
theorem zK {H : Hp} {a b : Addr} {o : HO} (h : H a = some o) (h' : H b = none) : a ≠ b := by
 intro e; subst e; rw [h] at h'; cases h'

section
variable (P : Program) (w : World)
def ObjOk (H : Hp) (h : Heap) (a : Addr) : HO -> Prop
 | .lst xs => xs.length <= sizeLine /\ ∃ (its : List Value) (n : Nat), Vals xs its /\ h.get? a = some { cls := .type "list", data := .seq its.toArray n }
 | .tup xs => xs.length <= sizeLine /\ ∃ its : List Value, Vals xs its /\ IsTup h a its.toArray
 | .dK kvs => kvs.length <= sizeLine /\ (a == sysModules) = false /\ ∃ vs, KV kvs vs /\ h.DictOf (mixKind P w) a vs
 | .dT kvs => kvs.length <= sizeLine /\ (a == sysModules) = false /\ ∃ xs : List (List Key × Addr × Value),
   Paired (fun (p : List Key × V) (q : List Key × Addr × Value) => p.1 = q.1 /\ H q.2.1 = some (.tup (p.1.map kV)) /\ RelV p.2 q.2.2) kvs xs /\
   ∃ o es ep, h.get? a = some o /\ o.ExactDict /\ o.data = .dict es ep /\ es.toList = xs.map (entryOfKey (tupleKind (mixKind P w))) /\ (xs.map (·.1)).Nodup
 | .set S n => h.SetOf (intKind P w) a S n
 | .ins C dx fs => H dx = some (.own a) /\ fs.length <= 1000 /\ dx ≠ a /\ h.get? a = some (PySem.W.instObj C dx) /\
   ∃ mA, h.Ns1 dx mA /\ (∀ f, RelO (fs.lookup f) (mA f)) /\ PySem.Within mA (fs.map (·.1))
 | .own _ => ∃ o, h.get? a = some o
 | .xd fs => ∃ mA, h.Ns1 a mA /\ ∀ f, RelO (fs.lookup f) (mA f)
 | .rng lo hi => ∃ t u v, h.get? a = some { cls := .type "range", data := .fields #[.int lo t, .int hi u, .int 1 v] }
 | .frz o u => h.get? a = some o /\ ObjOk H h a u
 | .tbl ps => h.get? a = some { cls := .none, data := .fields ps }
 | .met f x => h.get? a = some (PySem.W.methodObj (.ref f) (.ref x))
 | .ext φ => φ h /\ (∃ o, h.get? a = some o) /\ ∀ h1 h2 : Heap, φ h1 -> (∀ o, h1.get? a = some o -> h2.get? a = some o) -> φ h2
def HOk (H : Hp) (h : Heap) : Prop := ∀ a o, H a = some o -> ObjOk P w H h a o
end

section
variable {P : Program} {w : World} {H H' : Hp} {h h' : Heap} {a : Addr} {o : HO}
theorem ObjOk.lt (x : ObjOk P w H h a o) : a < h.objs.size := by
 cases o with
 | lst xs => obtain ⟨_, _, _, _, e⟩ := x; exact Heap.lt_size e
 | tup xs => obtain ⟨_, _, _, p⟩ := x; exact p.lt
 | dK kvs => obtain ⟨_, _, _, _, o, _, _, e, _⟩ := x; exact Heap.lt_size e
 | dT kvs => obtain ⟨_, _, _, _, o, _, _, e, _⟩ := x; exact Heap.lt_size e
 | set S n => obtain ⟨o, _, _, _, e, _⟩ := x; exact Heap.lt_size e
 | ins C dx fs => obtain ⟨_, _, _, e, _⟩ := x; exact Heap.lt_size e
 | own y => obtain ⟨_, e⟩ := x; exact Heap.lt_size e
 | xd fs => obtain ⟨_, ⟨_, _, _, e, _⟩, _⟩ := x; exact Heap.lt_size e
 | rng lo hi => obtain ⟨_, _, _, e⟩ := x; exact Heap.lt_size e
 | frz ob u => obtain ⟨e, _⟩ := x; exact Heap.lt_size e
 | tbl ps => exact Heap.lt_size (show h.get? a = some _ from x)
 | met f y => exact Heap.lt_size (show h.get? a = some _ from x)
 | ext φ => obtain ⟨_, ⟨_, e⟩, _⟩ := x; exact Heap.lt_size e
theorem Paired.mapP {α β : Type} {F G : α -> β -> Prop} : ∀ {l₁ : List α} {l₂ : List β}, Paired F l₁ l₂ -> (∀ a b, F a b -> G a b) -> Paired G l₁ l₂
 | _, _, .nil, _ => .nil
 | _, _, .cons r t, f => .cons (f _ _ r) (Paired.mapP t f)
theorem ObjOk.stay (x : ObjOk P w H h a o) (k : ∀ b u, (b = a \/ H b = some (.own a)) -> h.get? b = some u -> h'.get? b = some u)
  (ho : ∀ b, H b = some (.own a) -> H' b = some (.own a)) (ht : ∀ b xs, H b = some (.tup xs) -> H' b = some (.tup xs)) : ObjOk P w H' h' a o := by
 induction o with
 | lst xs => obtain ⟨z, its, n, r, e⟩ := x; exact ⟨z, its, n, r, k _ _ (.inl rfl) e⟩
 | tup xs => obtain ⟨z, its, r, ob, e, c⟩ := x; exact ⟨z, its, r, ob, k _ _ (.inl rfl) e, c⟩
 | dK kvs => obtain ⟨z, y, vs, r, ob, es, ep, e, c⟩ := x; exact ⟨z, y, vs, r, ob, es, ep, k _ _ (.inl rfl) e, c⟩
 | dT kvs =>
  obtain ⟨z, y, xs, r, ob, es, ep, e, c⟩ := x
  exact ⟨z, y, xs, Paired.mapP r fun p q z => ⟨z.1, ht _ _ z.2.1, z.2.2⟩, ob, es, ep, k _ _ (.inl rfl) e, c⟩
 | set S n => obtain ⟨ob, es, ep, t, e, c⟩ := x; exact ⟨ob, es, ep, t, k _ _ (.inl rfl) e, c⟩
 | ins C dx fs =>
  obtain ⟨d, z, ne, e, mA, ⟨od, es, ep, e2, c⟩, r⟩ := x
  exact ⟨ho _ d, z, ne, k _ _ (.inl rfl) e, mA, ⟨od, es, ep, k _ _ (.inr d) e2, c⟩, r⟩
 | own y => obtain ⟨ob, e⟩ := x; exact ⟨ob, k _ _ (.inl rfl) e⟩
 | xd fs => obtain ⟨mA, ⟨od, es, ep, e, c⟩, r⟩ := x; exact ⟨mA, ⟨od, es, ep, k _ _ (.inl rfl) e, c⟩, r⟩
 | rng lo hi => obtain ⟨t, u, v, e⟩ := x; exact ⟨t, u, v, k _ _ (.inl rfl) e⟩
 | frz ob u ih => obtain ⟨e, q⟩ := x; exact ⟨k _ _ (.inl rfl) e, ih q⟩
 | tbl ps =>
  have e : h.get? a = some { cls := .none, data := .fields ps } := x
  show h'.get? a = some { cls := .none, data := .fields ps }
  exact k a _ (.inl rfl) e
 | met f y =>
  have e : h.get? a = some (PySem.W.methodObj (.ref f) (.ref y)) := x
  show h'.get? a = some (PySem.W.methodObj (.ref f) (.ref y))
  exact k a _ (.inl rfl) e
 | ext φ => obtain ⟨p, ⟨o, e⟩, st⟩ := x; exact ⟨st _ _ p fun o q => k _ _ (.inl rfl) q, ⟨o, k _ _ (.inl rfl) e⟩, st⟩
theorem HOk.lt (x : HOk P w H h) (e : H a = some o) : a < h.objs.size := (x a o e).lt
theorem HOk.fresh (x : HOk P w H h) (e : h.objs.size <= a) : H a = none := by
 cases q : H a with
 | none => rfl
 | some u => exact absurd (Nat.lt_of_lt_of_le (x.lt q) e) (Nat.lt_irrefl _)
theorem HOk.kept (x : HOk P w H h) (k : ∀ b u, h.get? b = some u -> h'.get? b = some u) : HOk P w H h' := fun a o e =>
 (x a o e).stay (fun b u _ q => k b u q) (fun _ q => q) fun _ _ q => q
theorem HOk.laid (x : HOk P w H h) (k : ∀ b u, h.get? b = some u -> h'.get? b = some u) (hp : h.objs.size <= a) (new : ObjOk P w (upd H a o) h' a o) : HOk P w (upd H a o) h' := fun b u e => by
 have hn := x.fresh hp
 by_cases hb : b = a
 ·subst hb; rw [zB] at e; cases e; exact new
 ·rw [zJ hb] at e
  exact (x b u e).stay (fun c v _ q => k c v q) (fun c q => by rw [zJ (zK q hn)]; exact q) fun c xs q => by rw [zJ (zK q hn)]; exact q
end

def Rd (H : Hp) (a : Addr) (u : HO) : Prop := H a = some u \/ ∃ o, H a = some (.frz o u)
theorem Rd.ok {P : Program} {w : World} {H : Hp} {h : Heap} {a : Addr} {u : HO} (r : Rd H a u) (x : HOk P w H h) : ObjOk P w H h a u := by
 rcases r with r | ⟨o, r⟩
 ·exact x a u r
 ·obtain ⟨_, q⟩ := x a _ r
  exact q
def Mut : Option HO -> Prop
 | some (.lst _) => True
 | some (.dK _) => True
 | some (.dT _) => True
 | some (.set _ _) => True
 | some (.ins _ _ _) => True
 | some (.ext _) => True
 | _ => False
section
variable {P : Program} {w : World} {H : Hp} {h h' : Heap} {x e : Addr} {o' : HO}
theorem HOk.write (ok : HOk P w H h) (mu : Mut (H x)) (he : e = x \/ H e = some (.own x)) (k : ∀ b u, b ≠ e -> h.get? b = some u -> h'.get? b = some u) (heo : ∃ u, h'.get? e = some u)
  (new : ObjOk P w (upd H x o') h' x o') : HOk P w (upd H x o') h' := fun b u q => by
 have nown : ∀ c y, H c = some (.own y) -> c ≠ x := fun c y r z => by subst z; rw [r] at mu; exact mu
 have ntup : ∀ c xs, H c = some (.tup xs) -> c ≠ x := fun c xs r z => by subst z; rw [r] at mu; exact mu
 by_cases hb : b = x
 ·subst hb; rw [zB] at q; cases q; exact new
 ·rw [zJ hb] at q
  by_cases hbe : b = e
  ·have q' : H b = some (.own x) := by
    rcases he with z | z
    ·exact absurd (hbe.trans z) hb
    ·rw [hbe]; exact z
   rw [q] at q'; cases q'
   obtain ⟨v, hv⟩ := heo
   exact ⟨v, by rw [hbe]; exact hv⟩
  ·refine (ok b u q).stay (fun c v hc r => k c v ?_ r) (fun c r => by rw [zJ (nown c b r)]; exact r) fun c xs r => by rw [zJ (ntup c xs r)]; exact r
   rcases hc with rfl | hc
   ·exact hbe
   ·rintro rfl
    rcases he with z | z
    ·exact nown c b hc z
    ·rw [hc] at z; cases z; exact hb rfl
end

structure Un (fs ex : List Addr) (H H' : Hp) (h h' : Heap) : Prop where
 keep : ∀ b o, h.get? b = some o -> H b = none -> b ∉ fs -> b ∉ ex -> h'.get? b = some o
 slot : ∀ b o, h.get? b = some o -> H b = none -> b ∈ fs -> b ∉ ex -> ∃ sl, h'.get? b = some { o with slots := sl }
 free : ∀ b o, h.get? b = some o -> H b = none -> b ∉ ex -> H' b = none
 there : ∀ b o, h.get? b = some o -> b ∉ ex -> ∃ o', h'.get? b = some o'
 tups : ∀ b xs, H b = some (.tup xs) -> H' b = some (.tup xs)
 frzs : ∀ b o u, H b = some (.frz o u) -> H' b = some (.frz o u)
 tbls : ∀ b ps, H b = some (.tbl ps) -> ∃ more, H' b = some (.tbl (ps ++ more))
section
variable {fs fs' ex ex' : List Addr} {H H1 H2 : Hp} {h h1 h2 h' : Heap} {a x e : Addr} {o : HO}
theorem Un.any (u : Un fs ex H H1 h h1) {b : Addr} {ob : Obj} (q : h.get? b = some ob) (n : H b = none) (hx : b ∉ ex) : ∃ sl, h1.get? b = some { ob with slots := sl } := by
 by_cases hb : b ∈ fs
 ·exact u.slot b ob q n hb hx
 ·exact ⟨ob.slots, u.keep b ob q n hb hx⟩
theorem Un.kept (k : ∀ b u, h.get? b = some u -> h'.get? b = some u) : Un fs ex H H h h' :=
 ⟨fun b ob q _ _ _ => k b ob q, fun b ob q _ _ _ => ⟨ob.slots, k b ob q⟩, fun _ _ _ n _ => n, fun b ob q _ => ⟨ob, k b ob q⟩, fun _ _ q => q, fun _ _ _ q => q, fun _ ps q => ⟨#[], by rw [q]; simp⟩⟩
theorem Un.refl : Un fs ex H H h h := Un.kept fun _ _ q => q
theorem Un.laid (k : ∀ b u, h.get? b = some u -> h'.get? b = some u) (hp : h.objs.size <= a) (hn : H a = none) : Un fs ex H (upd H a o) h h' where
 keep := fun b u q _ _ _ => k b u q
 slot := fun b u q _ _ _ => ⟨u.slots, k b u q⟩
 free := fun b u q n _ => by rw [zJ (Nat.ne_of_lt (Nat.lt_of_lt_of_le (Heap.lt_size q) hp))]; exact n
 there := fun b u q _ => ⟨u, k b u q⟩
 tups := fun b xs q => by rw [zJ (zK q hn)]; exact q
 frzs := fun b u xs q => by rw [zJ (zK q hn)]; exact q
 tbls := fun b ps q => ⟨#[], by rw [zJ (zK q hn), q]; simp⟩
theorem Un.write (mu : Mut (H x)) (he : e = x \/ H e = some (.own x)) (k : ∀ b u, b ≠ e -> h.get? b = some u -> h'.get? b = some u) (heo : ∃ u, h'.get? e = some u) : Un fs ex H (upd H x o) h h' := by
 have hx : ∀ b, H b = none -> b ≠ x := fun b n z => by subst z; rw [n] at mu; exact mu
 have hb : ∀ b, H b = none -> b ≠ e := fun b n z => by
  subst z
  rcases he with r | r
  ·exact hx b n r
  ·rw [n] at r; cases r
 have hm : ∀ b u, H b = some u -> ¬ Mut (some u) -> b ≠ x := fun b u q nm z => by subst z; rw [q] at mu; exact nm mu
 refine ⟨fun b u q n _ _ => k b u (hb b n) q, fun b u q n _ _ => ⟨u.slots, k b u (hb b n) q⟩, fun b u q n _ => by rw [zJ (hx b n)]; exact n, fun b u q _ => ?_,
  fun b xs q => by rw [zJ (hm b _ q fun z => z)]; exact q, fun b u xs q => by rw [zJ (hm b _ q fun z => z)]; exact q, fun b ps q => ⟨#[], by rw [zJ (hm b _ q fun z => z), q]; simp⟩⟩
 by_cases hbe : b = e
 ·subst hbe; exact heo
 ·exact ⟨u, k b u hbe q⟩
end

def trk (h : Heap) (H : Hp) : List Addr := (List.range h.objs.size).filter fun a => (H a).isSome
def hidT (h : Heap) (H : Hp) : Heap := PySem.W.hideAll h (trk h H)
theorem hidT_size (h : Heap) (H : Hp) : (hidT h H).objs.size = h.objs.size := PySem.W.hideAll_size _ _
theorem hidT_get {h : Heap} {H : Hp} {b : Addr} {o : Obj} (e : h.get? b = some o) (n : H b = none) : (hidT h H).get? b = some o :=
 PySem.W.hideAll_get _ e fun hm => by
  have q : (H b).isSome = true := (List.mem_filter.mp hm).2
  rw [n] at q; simp at q
theorem of_hidT {h : Heap} {H : Hp} {b : Addr} {o : Obj} (e : (hidT h H).get? b = some o) : h.get? b = some o /\ H b = none := by
 have e' : h.get? b = some o := PySem.W.of_hideAll (trk h H) e
 refine ⟨e', ?_⟩
 cases q : H b with
 | none => rfl
 | some x =>
  have hm : b ∈ trk h H := List.mem_filter.mpr ⟨List.mem_range.mpr (Heap.lt_size e'), by simp [q]⟩
  have z : (hidT h H).get? b = none := PySem.W.hideAll_none (trk h H) hm
  rw [z] at e; cases e

def allNews (g h : Heap) (L : Addr) : List (Addr × Obj) := (List.range h.objs.size).filterMap fun a => if a = L \/ (g.get? a).isSome = true then none else (h.get? a).map fun o => (a, o)
def rest (g h : Heap) (L d : Addr) : List (Addr × Obj) := (allNews g h L).filter fun p => decide (p.1 ≠ d)
end L2

namespace L2
open PySem PySem.Spec PyProof.Rows

structure Mod (K : PySem.W.Frag) (mg : Str -> Option Value) (base : Heap) : Prop where
 kin : K.In base
 glob : base.Ns mainGlobals mg
 blt : ∃ mb, base.Ns builtinsNs mb /\ ∀ x : Str, x ≠ "__name__" -> mb x = bootBuiltins x
 nolimit : base.NoLimit

structure Cx where
 prog : Program
 w : World
 K : PySem.W.Frag
 mg : Str -> Option Value
 base : Heap
 A : Around
 N : List Str
 s₀ : Shared
 H₀ : Hp
 env : Env
 outer : List Env
 stack : List Env
 ex : List Addr
 fn : Str -> Bool
 calm : Bool
 pn : List (Addr × Obj)
 xe : Value -> Shared -> Prop
def frs (l : List Env) : List Addr := l.filterMap (·.frame)
abbrev Cx.fs (X : Cx) : List Addr := frs X.outer

def Vis (sc : Scope) (x : Str) : Prop := sc.names.lookup x = some .local \/ sc.names.lookup x = some .cell \/ sc.names.lookup x = some .free
def Loc (sc : Scope) (x : Str) : Prop := sc.names.lookup x = some .local \/ sc.names.lookup x = some .cell
def Look (env : Env) (h : Heap) (m : Str -> Option Value) (x : Str) (u : Value) : Prop :=
 (env.kindOf x = some .local /\ m x = some u) \/ ((env.kindOf x = some .cell \/ env.kindOf x = some .free) /\ ∃ c, env.cells.lookup x = some c /\ h.IsCell c (some u))

structure Cx.Ok (X : Cx) : Prop where
 mod : Mod X.K X.mg X.base
 kind : X.env.scope.kind = .function
 glob : X.env.globals = mainGlobals
 blt : X.env.builtins = builtinsNs
 above : X.s₀.heap.objs.size <= X.env.locals
 inj : ∀ x y c, X.env.cells.lookup x = some c -> X.env.cells.lookup y = some c -> x = y
 has : ∀ x, (X.env.kindOf x = some .cell \/ X.env.kindOf x = some .free) -> ∃ c, X.env.cells.lookup x = some c
 cab : ∀ x c, X.fn x = true -> X.env.cells.lookup x = some c -> X.s₀.heap.objs.size <= c
 hd : X.calm = true -> X.A.handled = none
 frames : X.A.frames = some X.stack
 stk : X.stack = X.outer \/ (X.stack = X.env :: X.outer /\ X.env.frame = some X.env.locals)
 exf : ∀ b ∈ X.ex, b ≠ X.env.locals /\ ∀ x c, X.env.cells.lookup x = some c -> c ≠ b
 bs : ∀ b o, X.base.get? b = some o -> X.s₀.heap.get? b = some o /\ X.H₀ b = none
 bsz : X.base.objs.size <= X.s₀.heap.objs.size
 noex : ∀ b o, X.base.get? b = some o -> b ∉ X.ex
 exfs : ∀ b ∈ X.ex, b ∉ X.fs
 funs : X.s₀.heap.FunFrames X.base X.outer
 frf : ∀ b ∈ X.fs, X.H₀ b = none

structure Inv (X : Cx) (pins : List (Addr × Obj)) (σ : List (Option V)) (H : Hp) (s : Shared) : Prop where
 ok : X.Ok
 os : s.os = X.s₀.os
 bare : AllBare s.gens
 base : Un X.fs X.ex X.H₀ H X.s₀.heap s.heap
 loc : ∃ m, s.heap.Ns X.env.locals m /\ ∀ (i : Nat) (x : Str) (v : V), X.N[i]? = some x -> σ[i]? = some (some v) -> Vis X.env.scope x -> ∃ u, RelV v u /\ Look X.env s.heap m x u
 cell : ∀ x c, X.env.cells.lookup x = some c -> ∃ v, s.heap.IsCell c v
 free : H X.env.locals = none
 freeC : ∀ x c, X.env.cells.lookup x = some c -> H c = none
 pin : ∀ p ∈ X.pn ++ pins, s.heap.get? p.1 = some p.2 /\ H p.1 = none /\ p.1 ≠ X.env.locals /\ p.1 ∉ X.fs /\ ∀ v, p.2.data ≠ .cell v
 hok : HOk X.prog X.w H s.heap
 len : σ.length = X.N.length

section
variable {X : Cx} {pins : List (Addr × Obj)} {σ : List (Option V)} {H H' : Hp} {s : Shared} {h' : Heap}

theorem Cx.Ok.nofr (ok : X.Ok) {b : Addr} {o : Obj} (e : X.base.get? b = some o) : b ∉ X.fs := fun hb => by
 have := (ok.funs.mem hb).1
 rw [e] at this; cases this
theorem Inv.bs (I : Inv X pins σ H s) : ∀ b o, X.base.get? b = some o -> s.heap.get? b = some o /\ H b = none := fun b o e =>
 ⟨I.base.keep b o (I.ok.bs b o e).1 (I.ok.bs b o e).2 (I.ok.nofr e) (I.ok.noex b o e), I.base.free b o (I.ok.bs b o e).1 (I.ok.bs b o e).2 (I.ok.noex b o e)⟩
theorem Inv.bk (I : Inv X pins σ H s) : ∀ b o, X.base.get? b = some o -> s.heap.get? b = some o := fun b o e => (I.bs b o e).1
theorem Inv.mod (I : Inv X pins σ H s) : Mod X.K X.mg X.base := I.ok.mod
theorem Inv.kIn (I : Inv X pins σ H s) : X.K.In s.heap := I.ok.mod.kin.keeps I.bk
theorem Inv.lt (I : Inv X pins σ H s) : X.env.locals < s.heap.objs.size := let ⟨_, hn, _⟩ := I.loc; hn.lt
theorem Inv.sz (I : Inv X pins σ H s) : X.s₀.heap.objs.size <= s.heap.objs.size := Nat.le_trans I.ok.above (Nat.le_of_lt I.lt)
theorem Inv.nofs (I : Inv X pins σ H s) {a : Addr} (h : s.heap.objs.size <= a) : a ∉ X.fs := fun hb => by
 obtain ⟨_, o, ho, _⟩ := I.ok.funs.mem hb
 exact absurd (Nat.lt_of_lt_of_le (Heap.lt_size ho) (Nat.le_trans I.sz h)) (Nat.lt_irrefl _)
theorem Inv.cne (I : Inv X pins σ H s) : ∀ x c, X.env.cells.lookup x = some c -> c ≠ X.env.locals := fun x c e z => by
 obtain ⟨v, o, ho, hd⟩ := I.cell x c e
 obtain ⟨m, ⟨o', es, ep, ho', hd', _⟩, _⟩ := I.loc
 rw [z, ho'] at ho; cases ho; rw [hd'] at hd; cases hd
theorem Inv.funs (I : Inv X pins σ H s) : s.heap.FunFrames X.base X.outer := by
 have all : ∀ (l : List Env), (∀ b ∈ frs l, b ∈ X.fs) -> X.s₀.heap.FunFrames X.base l -> s.heap.FunFrames X.base l := by
  intro l
  induction l with
  | nil => intro _ _; trivial
  | cons env r ih =>
   intro hs hl
   obtain ⟨hk, ⟨L, o, hf, hn, ho, hd⟩, hr⟩ := hl
   have hL : L ∈ X.fs := hs L (by unfold frs; rw [List.filterMap_cons, hf]; exact List.mem_cons_self)
   obtain ⟨sl, e⟩ := I.base.slot L o ho (I.ok.frf L hL) hL fun z => I.ok.exfs L z hL
   exact ⟨hk, ⟨L, _, hf, hn, e, hd⟩, ih (fun b hb => hs b (by unfold frs; rw [List.filterMap_cons, hf]; exact List.mem_cons_of_mem _ hb)) hr⟩
 exact all X.outer (fun _ hb => hb) I.ok.funs

theorem Inv.stack (I : Inv X pins σ H s) : s.heap.FunFrames X.base X.stack := by
 rcases I.ok.stk with e | ⟨e, hf⟩
 ·rw [e]; exact I.funs
 ·rw [e]
  obtain ⟨m, hn, _⟩ := I.loc
  refine .cons (by rw [I.ok.kind]; decide) hf hn ?_ I.funs
  exact Heap.get?_none_of_le (Nat.le_trans I.ok.bsz I.ok.above)
theorem Inv.stkSub (I : Inv X pins σ H s) : ∀ b ∈ frs X.stack, b ∈ X.env.locals :: X.fs := fun b hb => by
 rcases I.ok.stk with e | ⟨e, hf⟩
 ·rw [e] at hb; exact List.mem_cons_of_mem _ hb
 ·rw [e] at hb
  unfold frs at hb
  rw [List.filterMap_cons, hf] at hb
  exact hb
theorem Inv.stkFree (I : Inv X pins σ H s) : ∀ b ∈ frs X.stack, H b = none := fun b hb => by
 rcases List.mem_cons.mp (I.stkSub b hb) with e | hb
 ·rw [e]; exact I.free
 ·obtain ⟨_, o, ho, _⟩ := I.ok.funs.mem hb
  exact I.base.free b o ho (I.ok.frf b hb) fun z => I.ok.exfs b z hb

theorem Inv.step {g' : Array GenState} {t' : Nat} {d' : Drawn} {ch : List Addr} (I : Inv X pins σ H s)
  (hch : ∀ b ∈ ch, (b ∈ X.ex \/ X.s₀.heap.objs.size <= b) /\ b ≠ X.env.locals /\ (∀ x c, X.env.cells.lookup x = some c -> c ≠ b) /\ ∀ p ∈ X.pn ++ pins, p.1 ≠ b)
  (keep : ∀ b o, b ≠ X.env.locals -> b ∉ X.fs -> b ∉ ch -> s.heap.get? b = some o -> H b = none -> h'.get? b = some o)
  (slot : ∀ b o, b ≠ X.env.locals -> b ∈ X.fs -> b ∉ ch -> s.heap.get? b = some o -> H b = none -> ∃ sl, h'.get? b = some { o with slots := sl }) (free : ∀ b o, b ∉ ch -> s.heap.get? b = some o -> H b = none -> H' b = none)
  (there : ∀ b o, b ∉ ch -> s.heap.get? b = some o -> ∃ o', h'.get? b = some o')
  (tups : ∀ b xs, H b = some (.tup xs) -> H' b = some (.tup xs)) (frzs : ∀ b o u, H b = some (.frz o u) -> H' b = some (.frz o u)) (tbls : ∀ b ps, H b = some (.tbl ps) -> ∃ more, H' b = some (.tbl (ps ++ more)))
  (ns : ∀ m, s.heap.Ns X.env.locals m -> h'.Ns X.env.locals m) (hok : HOk X.prog X.w H' h') (hg : AllBare g') :
  Inv X pins σ H' { s with heap := h', gens := g', drawn := d', toks := t' } := by
 have neL : ∀ b o, X.s₀.heap.get? b = some o -> b ≠ X.env.locals := fun b o e => Nat.ne_of_lt (Nat.lt_of_lt_of_le (Heap.lt_size e) I.ok.above)
 have neC : ∀ b o, X.s₀.heap.get? b = some o -> b ∉ X.ex -> b ∉ ch := fun b o e hx hb => by
  rcases (hch b hb).1 with z | z
  ·exact hx z
  ·exact absurd (Nat.lt_of_lt_of_le (Heap.lt_size e) z) (Nat.lt_irrefl _)
 have cellK : ∀ x c, X.env.cells.lookup x = some c -> ∀ v, s.heap.IsCell c v -> h'.IsCell c v := fun x c e v ⟨o, ho, hd⟩ => by
  have nch : c ∉ ch := fun z => (hch c z).2.2.1 x c e rfl
  by_cases hc : c ∈ X.fs
  ·obtain ⟨sl, q⟩ := slot c o (I.cne x c e) hc nch ho (I.freeC x c e)
   exact ⟨_, q, hd⟩
  ·exact ⟨o, keep c o (I.cne x c e) hc nch ho (I.freeC x c e), hd⟩
 refine ⟨I.ok, I.os, hg, ⟨fun b o e n hb hx => ?_, fun b o e n hb hx => ?_, fun b o e n hx => ?_, fun b o e hx => ?_, fun b xs e => tups b xs (I.base.tups b xs e), fun b o xs e => frzs b o xs (I.base.frzs b o xs e), fun b ps e => ?_⟩, ?_, fun x c e => ?_, ?_, fun x c e => ?_, fun p hp => ?_, hok, I.len⟩
 ·exact keep b o (neL b o e) hb (neC b o e hx) (I.base.keep b o e n hb hx) (I.base.free b o e n hx)
 ·obtain ⟨sl, e1⟩ := I.base.slot b o e n hb hx
  obtain ⟨sl', e2⟩ := slot b _ (neL b o e) hb (neC b o e hx) e1 (I.base.free b o e n hx)
  exact ⟨sl', e2⟩
 ·obtain ⟨o', e1⟩ := I.base.there b o e hx
  exact free b o' (neC b o e hx) e1 (I.base.free b o e n hx)
 ·obtain ⟨o', e1⟩ := I.base.there b o e hx
  exact there b o' (neC b o e hx) e1
 ·obtain ⟨m1, e1⟩ := I.base.tbls b ps e
  obtain ⟨m2, e2⟩ := tbls b _ e1
  exact ⟨m1 ++ m2, by rw [e2, Array.append_assoc]⟩
 ·obtain ⟨m, hn, hl⟩ := I.loc
  refine ⟨m, ns m hn, fun i x v e1 e2 e3 => ?_⟩
  obtain ⟨u, r, l⟩ := hl i x v e1 e2 e3
  refine ⟨u, r, ?_⟩
  rcases l with l | ⟨k, c, e, z⟩
  ·exact .inl l
  ·exact .inr ⟨k, c, e, cellK x c e _ z⟩
 ·obtain ⟨v, z⟩ := I.cell x c e
  exact ⟨v, cellK x c e v z⟩
 ·obtain ⟨m, ⟨o, _, _, ho, _⟩, _⟩ := I.loc
  exact free _ o (fun z => (hch _ z).2.1 rfl) ho I.free
 ·obtain ⟨v, o, ho, hd⟩ := I.cell x c e
  exact free c o (fun z => (hch c z).2.2.1 x c e rfl) ho (I.freeC x c e)
 ·obtain ⟨e, n, ne, nf, d⟩ := I.pin p hp
  have nch : p.1 ∉ ch := fun z => (hch p.1 z).2.2.2 p hp rfl
  exact ⟨keep p.1 p.2 ne nf nch e n, free p.1 p.2 nch e n, ne, nf, d⟩
theorem Inv.un {t' : Nat} (I : Inv X pins σ H s) (u : Un X.fs [] H H' s.heap h') (hok : HOk X.prog X.w H' h') : Inv X pins σ H' { s with heap := h', toks := t' } := by
 obtain ⟨m, ⟨o, es, ep, ho, r⟩, _⟩ := id I.loc
 obtain ⟨sl, hL⟩ := u.any ho I.free (by simp)
 exact I.step (g' := s.gens) (d' := s.drawn) (ch := []) (fun _ z => nomatch z) (fun b o _ hb _ e n => u.keep b o e n hb (by simp)) (fun b o _ hb _ e n => u.slot b o e n hb (by simp)) (fun b o _ e n => u.free b o e n (by simp)) (fun b o _ e => u.there b o e (by simp)) u.tups u.frzs u.tbls (fun m' hm => by
  obtain ⟨o', es', ep', ho', r'⟩ := hm
  rw [ho] at ho'; cases ho'
  exact ⟨_, es', ep', hL, r'⟩) hok I.bare
theorem Inv.call {g' : Array GenState} {t' : Nat} {d' : Drawn} {ch : List Addr} (I : Inv X pins σ H s) (u : Un (frs X.stack) ch H H' s.heap h') (hok : HOk X.prog X.w H' h') (hg : AllBare g')
  (hch : ∀ b ∈ ch, (b ∈ X.ex \/ X.s₀.heap.objs.size <= b) /\ b ≠ X.env.locals /\ (∀ x c, X.env.cells.lookup x = some c -> c ≠ b) /\ ∀ p ∈ X.pn ++ pins, p.1 ≠ b) :
  Inv X pins σ H' { s with heap := h', gens := g', drawn := d', toks := t' } := by
 obtain ⟨m, ⟨o, es, ep, ho, r⟩, _⟩ := id I.loc
 obtain ⟨sl, hL⟩ := u.any ho I.free fun z => (hch _ z).2.1 rfl
 exact I.step (ch := ch) hch (fun b o hL hb hc e n => u.keep b o e n (fun z => (List.mem_cons.mp (I.stkSub b z)).elim hL hb) hc) (fun b o _ _ hc e n => u.any e n hc) (fun b o hc e n => u.free b o e n hc) (fun b o hc e => u.there b o e hc) u.tups u.frzs u.tbls (fun m' hm => by
  obtain ⟨o', es', ep', ho', r'⟩ := hm
  rw [ho] at ho'; cases ho'
  exact ⟨_, es', ep', hL, r'⟩) hok hg
theorem Inv.turned {t' : Nat} {it : Addr} (I : Inv X pins σ H s) (k : ∀ b o, b ≠ it -> s.heap.get? b = some o -> h'.get? b = some o) (hn : H it = none) (hL : it ≠ X.env.locals)
  (h1 : it ∈ X.ex \/ X.s₀.heap.objs.size <= it) (h2 : ∀ x c, X.env.cells.lookup x = some c -> c ≠ it) (h3 : ∀ p ∈ X.pn ++ pins, p.1 ≠ it) : Inv X pins σ H { s with heap := h', toks := t' } := by
 have nit : ∀ b u, H b = some u -> b ≠ it := fun b u e z => by rw [z, hn] at e; cases e
 refine I.step (g' := s.gens) (d' := s.drawn) (ch := [it]) (fun b hb => ?_) (fun b o _ _ hc e _ => k b o (fun z => hc (by simp [z])) e) (fun b o _ _ hc e _ => ⟨o.slots, k b o (fun z => hc (by simp [z])) e⟩) (fun _ _ _ _ n => n)
  (fun b o hc e => ⟨o, k b o (fun z => hc (by simp [z])) e⟩) (fun _ _ e => e) (fun _ _ _ e => e) (fun b ps e => ⟨#[], by rw [e]; simp⟩) (fun m hm => ?_) (fun b u e => ?_) I.bare
 ·have e : b = it := by simpa using hb
  subst e
  exact ⟨h1, hL, h2, h3⟩
 ·obtain ⟨o, es, ep, ho, r⟩ := hm
  exact ⟨o, es, ep, k _ o (Ne.symm hL) ho, r⟩
 ·refine (I.hok b u e).stay (fun c v hc q => k c v ?_ q) (fun _ q => q) fun _ _ q => q
  rcases hc with z | z
  ·rw [z]; exact nit b u e
  ·exact nit c _ z
theorem Inv.tok (I : Inv X pins σ H s) (t : Nat) : Inv X pins σ H { s with toks := t } := I.un (h' := s.heap) (t' := t) Un.refl I.hok
theorem Inv.kept {t' : Nat} (I : Inv X pins σ H s) (k : ∀ b u, s.heap.get? b = some u -> h'.get? b = some u) : Inv X pins σ H { s with heap := h', toks := t' } := I.un (Un.kept k) (I.hok.kept k)
theorem Inv.laid {a : Addr} {o : HO} {t' : Nat} (I : Inv X pins σ H s) (k : ∀ b u, s.heap.get? b = some u -> h'.get? b = some u) (hp : s.heap.objs.size <= a) (new : ObjOk X.prog X.w (upd H a o) h' a o) :
  Inv X pins σ (upd H a o) { s with heap := h', toks := t' } := I.un (Un.laid k hp (I.hok.fresh hp)) (I.hok.laid k hp new)
theorem Inv.write {x e : Addr} {o : HO} {t' : Nat} (I : Inv X pins σ H s) (mu : Mut (H x)) (he : e = x \/ H e = some (.own x)) (k : ∀ b u, b ≠ e -> s.heap.get? b = some u -> h'.get? b = some u) (heo : ∃ u, h'.get? e = some u)
  (new : ObjOk X.prog X.w (upd H x o) h' x o) : Inv X pins σ (upd H x o) { s with heap := h', toks := t' } := I.un (Un.write mu he k heo) (I.hok.write mu he k heo new)
theorem Inv.pins_of {pins' : List (Addr × Obj)} (I : Inv X pins σ H s) (h : ∀ p ∈ pins', s.heap.get? p.1 = some p.2 /\ H p.1 = none /\ p.1 ≠ X.env.locals /\ p.1 ∉ X.fs /\ ∀ v, p.2.data ≠ .cell v) : Inv X pins' σ H s :=
 ⟨I.ok, I.os, I.bare, I.base, I.loc, I.cell, I.free, I.freeC, fun p hp => (List.mem_append.mp hp).elim (fun z => I.pin p (List.mem_append_left _ z)) (h p), I.hok, I.len⟩

theorem nodup_ix {N : List Str} (hN : N.Nodup) {i j : Nat} {x : Str} (a : N[i]? = some x) (b : N[j]? = some x) : i = j := by
 obtain ⟨h1, e1⟩ := List.getElem?_eq_some_iff.mp a
 obtain ⟨h2, e2⟩ := List.getElem?_eq_some_iff.mp b
 exact (List.getElem_inj hN).mp (e1.trans e2.symm)

theorem store_ok2 {M : Model} {A : Around} {E : Value -> Shared -> Prop} {i : Nat} {x : Str} {v : V} {u : Value} {Q : Unit -> Shared -> Prop} (I : Inv X pins σ H s) (hN : X.N.Nodup) (hi : X.N[i]? = some x) (hx : Loc X.env.scope x) (r : RelV v u)
  (h : ∀ s', Inv X pins (σ.set i (some v)) H s' -> (∃ a, Heap.SameBut a s.heap s'.heap /\ (a = X.env.locals \/ X.env.cells.lookup x = some a)) -> Q () s') (hf : X.fn x = true \/ X.env.scope.names.lookup x = some .local := by first | exact .inl rfl | exact .inr rfl | assumption) : wpAny M A (storeName X.env x u) Q E s := by
 obtain ⟨m, hn, hl⟩ := id I.loc
 have hcls : (X.env.scope.kind == .class || (X.env.scope.kind == .module && X.env.locals != X.env.globals)) = false := by rw [I.ok.kind]; rfl
 have hiσ : i < σ.length := by rw [I.len]; exact (List.getElem?_eq_some_iff.mp hi).1
 have cne := I.cne
 have tracked : ∀ {a : Addr} {h' : Heap}, (∃ o, s.heap.get? a = some o /\ H a = none) -> Heap.SameBut a s.heap h' -> HOk X.prog X.w H h' := fun {a h'} ha hs b ob e => by
  obtain ⟨_, _, hfree⟩ := ha
  refine (I.hok b ob e).stay (fun c w' hc q => (hs.2 c ?_).trans q) (fun _ q => q) fun _ _ q => q
  rintro rfl
  rcases hc with rfl | hc
  ·rw [hfree] at e; cases e
  ·rw [hfree] at hc; cases hc
 rcases hx with hk | hk
 ·refine wpAny_storeName_local hk hn (fun h' hn' hs => ?_) hcls
  obtain ⟨oL, _, _, hoL, _⟩ := id hn
  refine h _ ⟨I.ok, I.os, I.bare, ⟨fun b o e n hb hx => ?_, fun b o e n hb hx => ?_, I.base.free, fun b o e hx => ?_, I.base.tups, I.base.frzs, I.base.tbls⟩, ⟨_, hn', fun j y v' e1 e2 e3 => ?_⟩, fun y c e => ?_, I.free, I.freeC, fun p hp => ?_, tracked ⟨oL, hoL, I.free⟩ hs, by simpa using I.len⟩ ⟨_, hs, .inl rfl⟩
  ·exact (hs.2 b (Nat.ne_of_lt (Nat.lt_of_lt_of_le (Heap.lt_size e) I.ok.above))).trans (I.base.keep b o e n hb hx)
  ·obtain ⟨sl, e1⟩ := I.base.slot b o e n hb hx
   exact ⟨sl, (hs.2 b (Nat.ne_of_lt (Nat.lt_of_lt_of_le (Heap.lt_size e) I.ok.above))).trans e1⟩
  ·obtain ⟨o', e1⟩ := I.base.there b o e hx
   exact ⟨o', (hs.2 b (Nat.ne_of_lt (Nat.lt_of_lt_of_le (Heap.lt_size e) I.ok.above))).trans e1⟩
  ·by_cases hj : j = i
   ·subst hj
    rw [hi] at e1; cases e1
    rw [List.getElem?_set_self hiσ] at e2
    cases e2
    exact ⟨u, r, .inl ⟨hk, by simp⟩⟩
   ·rw [List.getElem?_set_ne (Ne.symm hj)] at e2
    obtain ⟨u', r', q⟩ := hl j y v' e1 e2 e3
    refine ⟨u', r', ?_⟩
    rcases q with ⟨k, e⟩ | ⟨k, c, e, z⟩
    ·refine .inl ⟨k, ?_⟩
     have : y ≠ x := fun e => hj (nodup_ix hN e1 (e ▸ hi))
     simp [this, e]
    ·exact .inr ⟨k, c, e, z.sameBut hs (cne y c e)⟩
  ·obtain ⟨w', z⟩ := I.cell y c e
   exact ⟨w', z.sameBut hs (cne y c e)⟩
  ·obtain ⟨e, n, ne, nf, d⟩ := I.pin p hp
   exact ⟨(hs.2 p.1 ne).trans e, n, ne, nf, d⟩
 ·have hfn : X.fn x = true := by
   rcases hf with z | z
   ·exact z
   ·rw [z] at hk; cases hk
  obtain ⟨c, hc⟩ := I.ok.has x (.inl hk)
  obtain ⟨w', z⟩ := I.cell x c hc
  refine wpAny_storeName_cell I.ok.kind hk hc z (fun h' hc' hs => ?_)
  obtain ⟨oc, hoc, hocd⟩ := id z
  refine h { s with heap := h' } ⟨I.ok, I.os, I.bare, ⟨fun b o e n hb hx => ?_, fun b o e n hb hx => ?_, I.base.free, fun b o e hx => ?_, I.base.tups, I.base.frzs, I.base.tbls⟩, ⟨m, hn.sameBut hs (Ne.symm (cne x c hc)), fun j y v' e1 e2 e3 => ?_⟩, fun y c' e => ?_, I.free, I.freeC, fun p hp => ?_, tracked ⟨oc, hoc, I.freeC x c hc⟩ hs, by simpa using I.len⟩ ⟨c, hs, .inr hc⟩
  ·exact (hs.2 b (Nat.ne_of_lt (Nat.lt_of_lt_of_le (Heap.lt_size e) (I.ok.cab x c hfn hc)))).trans (I.base.keep b o e n hb hx)
  ·obtain ⟨sl, e1⟩ := I.base.slot b o e n hb hx
   exact ⟨sl, (hs.2 b (Nat.ne_of_lt (Nat.lt_of_lt_of_le (Heap.lt_size e) (I.ok.cab x c hfn hc)))).trans e1⟩
  ·obtain ⟨o', e1⟩ := I.base.there b o e hx
   exact ⟨o', (hs.2 b (Nat.ne_of_lt (Nat.lt_of_lt_of_le (Heap.lt_size e) (I.ok.cab x c hfn hc)))).trans e1⟩
  ·by_cases hj : j = i
   ·subst hj
    rw [hi] at e1; cases e1
    rw [List.getElem?_set_self hiσ] at e2
    cases e2
    exact ⟨u, r, .inr ⟨.inl hk, c, hc, hc'⟩⟩
   ·rw [List.getElem?_set_ne (Ne.symm hj)] at e2
    obtain ⟨u', r', q⟩ := hl j y v' e1 e2 e3
    refine ⟨u', r', ?_⟩
    rcases q with q | ⟨k, c', e, z'⟩
    ·exact .inl q
    ·refine .inr ⟨k, c', e, z'.sameBut hs ?_⟩
     rintro rfl
     exact hj (nodup_ix hN e1 (I.ok.inj _ _ _ e hc ▸ hi))
  ·by_cases hcc : c' = c
   ·subst hcc; exact ⟨_, hc'⟩
   ·obtain ⟨w2, z2⟩ := I.cell y c' e
    exact ⟨w2, z2.sameBut hs hcc⟩
  ·obtain ⟨e, n, ne, nf, d⟩ := I.pin p hp
   refine ⟨(hs.2 p.1 ?_).trans e, n, ne, nf, d⟩
   intro q
   rw [q, hoc] at e
   have q' : oc = p.2 := Option.some.inj e
   exact d w' (by rw [<- q']; exact hocd)
theorem wZ {M : Model} {A : Around} {E : Value -> Shared -> Prop} {i : Nat} {x : Str} {v : V} {u : Value} {Q : Unit -> Shared -> Prop} (I : Inv X pins σ H s) (hN : X.N.Nodup) (hi : X.N[i]? = some x) (hx : Loc X.env.scope x) (r : RelV v u)
  (h : ∀ s', Inv X pins (σ.set i (some v)) H s' -> Q () s') (hf : X.fn x = true \/ X.env.scope.names.lookup x = some .local := by first | exact .inl rfl | exact .inr rfl | assumption) : wpAny M A (storeName X.env x u) Q E s :=
 store_ok2 I hN hi hx r (fun s' I' _ => h s' I') hf
theorem Inv.call' {s' : Shared} {ch : List Addr} (I : Inv X pins σ H s) (ho : s'.os = s.os) (u : Un (frs X.stack) ch H H' s.heap s'.heap) (hok : HOk X.prog X.w H' s'.heap) (hg : AllBare s'.gens)
  (hch : ∀ b ∈ ch, (b ∈ X.ex \/ X.s₀.heap.objs.size <= b) /\ b ≠ X.env.locals /\ (∀ x c, X.env.cells.lookup x = some c -> c ≠ b) /\ ∀ p ∈ X.pn ++ pins, p.1 ≠ b) : Inv X pins σ H' s' := by
 obtain ⟨h', g', d', t', o'⟩ := s'
 have e : o' = s.os := ho
 subst e
 exact I.call (g' := g') (t' := t') (d' := d') u hok hg hch
end

abbrev XK := Value -> Option Addr -> Hp -> Prop
abbrev St := List (Option V)
abbrev VK := V -> Hp -> Prop
abbrev TE := St -> Hp -> VK -> Prop
abbrev TT := St -> Hp -> (Bool -> Hp -> Prop) -> Prop
abbrev TA := St -> Hp -> (List V -> Hp -> Prop) -> Prop
structure Ends where
 nx : St -> Hp -> Prop
 rt : VK
 bk : St -> Hp -> Prop := fun _ _ => False
 ct : St -> Hp -> Prop := fun _ _ => False
abbrev TS := Ends -> St -> Hp -> Prop

def EP (X : Cx) (pins : List (Addr × Obj)) (σ : St) (Q : VK) (u : Value) (s' : Shared) : Prop := ∃ v H', Inv X pins σ H' s' /\ RelV v u /\ Q v H'
def TP (X : Cx) (pins : List (Addr × Obj)) (σ : St) (Q : Bool -> Hp -> Prop) (b : Bool) (s' : Shared) : Prop := ∃ H', Inv X pins σ H' s' /\ Q b H'
def AP (X : Cx) (pins : List (Addr × Obj)) (σ : St) (Q : List V -> Hp -> Prop) (us : List Value) (s' : Shared) : Prop := ∃ vs H', Inv X pins σ H' s' /\ Vals vs us /\ Q vs H'
def SP (X : Cx) (pins : List (Addr × Obj)) (D : Ends) (f : Flow) (s' : Shared) : Prop :=
 match f with
 | .next => ∃ σ' H', Inv X pins σ' H' s' /\ D.nx σ' H'
 | .brk => ∃ σ' H', Inv X pins σ' H' s' /\ D.bk σ' H'
 | .cont => ∃ σ' H', Inv X pins σ' H' s' /\ D.ct σ' H'
 | .ret u => ∃ v σ' H', Inv X pins σ' H' s' /\ RelV v u /\ D.rt v H'

structure PE (X : Cx) (e : Expr) (t : TE)  : Prop where
 go : ∀ (pins : List (Addr × Obj)) (s : Shared) (σ : St) (H : Hp) (Q : VK), Inv X pins σ H s -> t σ H Q -> wpAny (model X.prog X.w) X.A (eval e X.env) (EP X pins σ Q) X.xe s
instance {X : Cx} {e : Expr} {t : TE} : CoeFun (PE X e t) (fun _ => ∀ (pins : List (Addr × Obj)) (s : Shared) (σ : St) (H : Hp) (Q : VK), Inv X pins σ H s -> t σ H Q -> wpAny (model X.prog X.w) X.A (eval e X.env) (EP X pins σ Q) X.xe s) := ⟨PE.go⟩
structure PT (X : Cx) (e : Expr) (t : TT)  : Prop where
 go : ∀ (pins : List (Addr × Obj)) (s : Shared) (σ : St) (H : Hp) (Q : Bool -> Hp -> Prop), Inv X pins σ H s -> t σ H Q -> wpAny (model X.prog X.w) X.A (isTrue e X.env (eval e X.env)) (TP X pins σ Q) X.xe s
instance {X : Cx} {e : Expr} {t : TT} : CoeFun (PT X e t) (fun _ => ∀ (pins : List (Addr × Obj)) (s : Shared) (σ : St) (H : Hp) (Q : Bool -> Hp -> Prop), Inv X pins σ H s -> t σ H Q -> wpAny (model X.prog X.w) X.A (isTrue e X.env (eval e X.env)) (TP X pins σ Q) X.xe s) := ⟨PT.go⟩
structure PW (X : Cx) (e : Expr) (t : TT)  : Prop where
 go : ∀ (whole : Sem Value) (pins : List (Addr × Obj)) (s : Shared) (σ : St) (H : Hp) (Q : Bool -> Hp -> Prop), Inv X pins σ H s -> t σ H Q -> wpAny (model X.prog X.w) X.A (isTrue e X.env whole) (TP X pins σ Q) X.xe s
instance {X : Cx} {e : Expr} {t : TT} : CoeFun (PW X e t) (fun _ => ∀ (whole : Sem Value) (pins : List (Addr × Obj)) (s : Shared) (σ : St) (H : Hp) (Q : Bool -> Hp -> Prop), Inv X pins σ H s -> t σ H Q -> wpAny (model X.prog X.w) X.A (isTrue e X.env whole) (TP X pins σ Q) X.xe s) := ⟨PW.go⟩
theorem PW.pt {X : Cx} {e : Expr} {t : TT} (h : PW X e t) : PT X e t := ⟨h _⟩
structure PA (X : Cx) (es : List Expr) (t : TA)  : Prop where
 go : ∀ (pos : Pos) (pins : List (Addr × Obj)) (s : Shared) (σ : St) (H : Hp) (Q : List V -> Hp -> Prop), Inv X pins σ H s -> t σ H Q -> wpAny (model X.prog X.w) X.A (spliced (backTo pos (starEach es X.env))) (AP X pins σ Q) X.xe s
instance {X : Cx} {es : List Expr} {t : TA} : CoeFun (PA X es t) (fun _ => ∀ (pos : Pos) (pins : List (Addr × Obj)) (s : Shared) (σ : St) (H : Hp) (Q : List V -> Hp -> Prop), Inv X pins σ H s -> t σ H Q -> wpAny (model X.prog X.w) X.A (spliced (backTo pos (starEach es X.env))) (AP X pins σ Q) X.xe s) := ⟨PA.go⟩
structure PS (X : Cx) (st : Stmt) (t : TS)  : Prop where
 go : ∀ (pins : List (Addr × Obj)) (s : Shared) (σ : St) (H : Hp) (D : Ends), Inv X pins σ H s -> t D σ H -> wpAny (model X.prog X.w) X.A (exec st X.env) (SP X pins D) X.xe s
instance {X : Cx} {st : Stmt} {t : TS} : CoeFun (PS X st t) (fun _ => ∀ (pins : List (Addr × Obj)) (s : Shared) (σ : St) (H : Hp) (D : Ends), Inv X pins σ H s -> t D σ H -> wpAny (model X.prog X.w) X.A (exec st X.env) (SP X pins D) X.xe s) := ⟨PS.go⟩
structure PSs (X : Cx) (st : List Stmt) (t : TS)  : Prop where
 go : ∀ (pins : List (Addr × Obj)) (s : Shared) (σ : St) (H : Hp) (D : Ends), Inv X pins σ H s -> t D σ H -> wpAny (model X.prog X.w) X.A (execs st X.env) (SP X pins D) X.xe s
instance {X : Cx} {st : List Stmt} {t : TS} : CoeFun (PSs X st t) (fun _ => ∀ (pins : List (Addr × Obj)) (s : Shared) (σ : St) (H : Hp) (D : Ends), Inv X pins σ H s -> t D σ H -> wpAny (model X.prog X.w) X.A (execs st X.env) (SP X pins D) X.xe s) := ⟨PSs.go⟩
theorem thn {α : Type} {t : Sem α} {Q Q' : α -> Shared -> Prop} {M : Model} {A : Around} {E : Value -> Shared -> Prop} {s : Shared} (h : wpAny M A t Q E s) (hQ : ∀ a s, Q a s -> Q' a s) : wpAny M A t Q' E s := wpAny_mono h hQ fun _ _ x => x
end L2

namespace L2
open PySem PySem.Spec PyProof.Rows
section
variable {X : Cx}

def tVar (i : Nat) : TE := fun σ H Q => ∃ v, σ[i]? = some (some v) /\ Q v H
def tC (v : V) : TE := fun _ H Q => Q v H
theorem pe_var {i : Nat} {x : Str} {pos : Pos} (hN : X.N[i]? = some x) (hv : Vis X.env.scope x) (hd : (x == ("__debug__" : Str)) = false := by decide) (hcd : (x == ("__classdict__" : Str)) = false := by decide) : PE X (.Name x pos) (tVar i) := by
 refine ⟨?_⟩
 intro pins s σ H Q I h
 obtain ⟨v, e, h⟩ := h
 obtain ⟨m, hn, hl⟩ := I.loc
 obtain ⟨u, r, l⟩ := hl i x v hN e hv
 have fin : EP X pins σ Q u s := ⟨v, H, I, r, h⟩
 rcases l with ⟨hk, hm⟩ | ⟨hk, c, hc, hcell⟩
 ·exact wpAny_Name (wpAny_loadName_local I.ok.kind hk hn hm fin) hd
 ·rcases hk with hk | hk
  ·exact wpAny_Name (wpAny_loadName_cell I.ok.kind hk hc hcell fin) hd
  ·exact wpAny_Name (wpAny_loadName_free I.ok.kind hk hc hcell fin hcd) hd
theorem zF {i j pos} : PE X (.Constant (.int i) j pos) (tC (.int i)) := ⟨fun _ _ _ H _ I h => wpAny_Constant_int ⟨.int i, H, I.tok _, ⟨_, rfl⟩, h⟩⟩
theorem jL {b j pos} : PE X (.Constant (.bool b) j pos) (tC (.bl b)) := ⟨fun _ _ _ H _ I h => Constant_bool ⟨.bl b, H, I, rfl, h⟩⟩
theorem xI {j pos} : PE X (.Constant .none j pos) (tC .non) := ⟨fun _ _ _ H _ I h => Constant_none ⟨.non, H, I, rfl, h⟩⟩
theorem jB {x j pos} : PE X (.Constant (.str x) j pos) (tC (.str x)) := ⟨fun _ _ _ H _ I h => Calls.Constant_str ⟨.str x, H, I.tok _, ⟨_, rfl⟩, h⟩⟩
def Gl (X : Cx) (x : Str) : Prop := X.env.kindOf x = some .globalImplicit
theorem qV {E : Value -> Shared -> Prop} {pins : List (Addr × Obj)} {s : Shared} {σ : St} {H : Hp} {x : Str} {u : Value} {pos : Pos} {Q : Value -> Shared -> Prop} (I : Inv X pins σ H s) (hg : Gl X x) (hm : X.mg x = some u) (h : Q u s)
  (hd : (x == ("__debug__" : Str)) = false := by decide) : wpAny (model X.prog X.w) X.A (eval (.Name x pos) X.env) Q E s :=
 Calls.Name_function_global I.ok.kind hg (Calls.loadGlobal_global (by rw [I.ok.glob]; exact I.mod.glob.keeps I.bk) hm h) hd
theorem ld_blt {E : Value -> Shared -> Prop} {pins : List (Addr × Obj)} {s : Shared} {σ : St} {H : Hp} {x : Str} {u : Value} {pos : Pos} {Q : Value -> Shared -> Prop} (I : Inv X pins σ H s) (hg : Gl X x) (hm : X.mg x = none) (hv : bootBuiltins x = some u) (h : Q u s)
  (hn : x ≠ "__name__" := by decide) (hd : (x == ("__debug__" : Str)) = false := by decide) : wpAny (model X.prog X.w) X.A (eval (.Name x pos) X.env) Q E s := by
 obtain ⟨mb, h1, h2⟩ := I.mod.blt
 exact Calls.Name_function_global I.ok.kind hg (Calls.loadGlobal_builtin (by rw [I.ok.glob]; exact I.mod.glob.keeps I.bk) hm (by rw [I.ok.blt]; exact h1.keeps I.bk) ((h2 x hn).trans hv) h) hd
theorem pe_glob {x : Str} {v : V} {u : Value} {pos : Pos} (hg : Gl X x) (hm : X.mg x = some u) (r : RelV v u) (hd : (x == ("__debug__" : Str)) = false := by decide) : PE X (.Name x pos) (tC v) := ⟨fun _ _ _ H _ I h => qV I hg hm ⟨v, H, I, r, h⟩ hd⟩
theorem qT {x : Str} {v : V} {u : Value} {pos : Pos} (hg : Gl X x) (hm : X.mg x = none) (hv : bootBuiltins x = some u) (r : RelV v u) (hn : x ≠ "__name__" := by decide) (hd : (x == ("__debug__" : Str)) = false := by decide) : PE X (.Name x pos) (tC v) := ⟨fun _ _ _ H _ I h => ld_blt I hg hm hv ⟨v, H, I, r, h⟩ hn hd⟩
variable {a b : Expr} {ta tb : TE} {pos : Pos}
structure PC (X : Cx) (op : CmpOp) (a b : Expr) (t : TE)  : Prop where
 go : ∀ (pins : List (Addr × Obj)) (s : Shared) (σ : St) (H : Hp) (Q : VK), Inv X pins σ H s -> t σ H Q ->
  wpAny (model X.prog X.w) X.A (eval a X.env) (fun v s₁ => wpAny (model X.prog X.w) X.A (eval b X.env) (fun u s₂ => wpAny (model X.prog X.w) X.A (compareOp op v u) (EP X pins σ Q) X.xe s₂) X.xe s₁) X.xe s
instance {X : Cx} {op : CmpOp} {a b : Expr} {t : TE} : CoeFun (PC X op a b t) (fun _ => ∀ (pins : List (Addr × Obj)) (s : Shared) (σ : St) (H : Hp) (Q : VK), Inv X pins σ H s -> t σ H Q ->
  wpAny (model X.prog X.w) X.A (eval a X.env) (fun v s₁ => wpAny (model X.prog X.w) X.A (eval b X.env) (fun u s₂ => wpAny (model X.prog X.w) X.A (compareOp op v u) (EP X pins σ Q) X.xe s₂) X.xe s₁) X.xe s) := ⟨PC.go⟩
def tB (t : TE) : TT := fun σ H Q => t σ H fun x H1 => ∃ c, x = .bl c /\ Q c H1
theorem qM {e : Expr} {t : TE} (h : PE X e t) (he : ∀ whole, isTrue e X.env whole = (do let v <- whole; standAt e.pos; holding [v] (truthy v)) := by intro _; rfl) : PT X e (tB t) := by
 refine ⟨?_⟩
 intro pins s σ H Q I hw
 refine isTrue_plain (thn (h pins s σ H _ I hw) fun v s1 ⟨x, H1, I1, r1, q1⟩ => ?_) (he _)
 obtain ⟨d, rfl, q⟩ := q1
 cases r1
 exact wpAny_truthy_bool ⟨H1, I1, q⟩

variable {tA tB' : TT} {rest : List Expr}
def tAnd (t u : TT) : TT := fun σ H Q => t σ H fun c H1 => if c = true then u σ H1 Q else Q false H1
def tOr (t u : TT) : TT := fun σ H Q => t σ H fun c H1 => if c = true then Q true H1 else u σ H1 Q
def tNot (t : TT) : TT := fun σ H Q => t σ H fun c H1 => Q (!c) H1
theorem pw_and1 (ha : PT X a tA) : PW X (.BoolOp .And [a] pos) tA := by
 refine ⟨?_⟩
 intro wh pins s σ H Q I h
 refine isTrue_and (thn (ha pins s σ H Q I h) fun c s1 e => ?_)
 cases c with
 | true => exact isTrue_and_nil e
 | false => exact e
theorem jE (ha : PT X a tA) : PW X (.BoolOp .Or [a] pos) tA := by
 refine ⟨?_⟩
 intro wh pins s σ H Q I h
 refine isTrue_or (thn (ha pins s σ H Q I h) fun c s1 e => ?_)
 cases c with
 | false => exact isTrue_or_nil e
 | true => exact e
theorem pw_and (ha : PT X a tA) (hb : PW X (.BoolOp .And (b :: rest) pos) tB') : PW X (.BoolOp .And (a :: b :: rest) pos) (tAnd tA tB') := by
 refine ⟨?_⟩
 intro wh pins s σ H Q I h
 refine isTrue_and (thn (ha pins s σ H _ I h) fun c s1 hzz => ?_)
 obtain ⟨H1, I1, q1⟩ := hzz
 cases c with
 | true => exact hb wh pins s1 σ H1 Q I1 q1
 | false => exact ⟨H1, I1, q1⟩
theorem qL (ha : PT X a tA) (hb : PW X (.BoolOp .Or (b :: rest) pos) tB') : PW X (.BoolOp .Or (a :: b :: rest) pos) (tOr tA tB') := by
 refine ⟨?_⟩
 intro wh pins s σ H Q I h
 refine isTrue_or (thn (ha pins s σ H _ I h) fun c s1 hzz => ?_)
 obtain ⟨H1, I1, q1⟩ := hzz
 cases c with
 | true => exact ⟨H1, I1, q1⟩
 | false => exact hb wh pins s1 σ H1 Q I1 q1
theorem kI (ha : PT X a tA) : PT X (.UnaryOp .Not a pos) (tNot tA) := by
 refine ⟨?_⟩
 intro pins s σ H Q I h
 exact isTrue_not (ha pins s σ H (fun c H1 => Q (!c) H1) I h)
def tAndV (ta tb : TE) : TE := fun σ H Q => ta σ H fun x H1 => ∃ c, x = .bl c /\ if c = true then tb σ H1 Q else Q (.bl false) H1
def tNotV (ta : TE) : TE := fun σ H Q => ta σ H fun x H1 => ∃ c, x = .bl c /\ Q (.bl (!c)) H1
theorem pe_one {op} {t : TE} (h : PE X a t) : PE X (.BoolOp op [a] pos) t := ⟨fun pins s σ H Q I hw => BoolOp_one (h pins s σ H Q I hw)⟩
theorem vD (ha : PE X a ta) (hb : PE X (.BoolOp .And (b :: rest) pos) tb) : PE X (.BoolOp .And (a :: b :: rest) pos) (tAndV ta tb) := by
 refine ⟨?_⟩
 intro pins s σ H Q I h
 refine BoolOp_and (thn (ha pins s σ H _ I h) fun v s1 hzz => ?_)
 obtain ⟨x, H1, I1, r1, q1⟩ := hzz
 obtain ⟨c, rfl, q1⟩ := q1
 cases r1
 refine wpAny_truthy_bool ?_
 cases c with
 | true => exact hb pins s1 σ H1 Q I1 q1
 | false => exact ⟨.bl false, H1, I1, rfl, q1⟩
theorem pe_not (ha : PE X a ta) : PE X (.UnaryOp .Not a pos) (tNotV ta) := by
 refine ⟨?_⟩
 intro pins s σ H Q I h
 refine UnaryOp_ (thn (ha pins s σ H _ I h) fun v s1 hzz => ?_)
 obtain ⟨x, H1, I1, r1, q1⟩ := hzz
 obtain ⟨c, rfl, q1⟩ := q1
 cases r1
 exact not_of (wpAny_truthy_bool ⟨.bl (!c), H1, I1, rfl, q1⟩)
def tIf (t : TT) (ta tb : TE) : TE := fun σ H Q => t σ H fun c H1 => if c = true then ta σ H1 Q else tb σ H1 Q
theorem pe_ifExp {c : Expr} (hc : PT X c tA) (ha : PE X a ta) (hb : PE X b tb) : PE X (.IfExp c a b pos) (tIf tA ta tb) := by
 refine ⟨?_⟩
 intro pins s σ H Q I h
 refine wpAny_IfExp (thn (hc pins s σ H _ I h) fun d s1 hzz => ?_)
 obtain ⟨H1, I1, q1⟩ := hzz
 cases d with
 | true => exact ha pins s1 σ H1 Q I1 q1
 | false => exact hb pins s1 σ H1 Q I1 q1
end
end L2

namespace L2
open PySem PySem.Spec PyProof.Rows

def SqL (K : PySem.W.Frag) (H : Hp) (a : Addr) (xs : List V) : Prop :=
 Rd H a (.lst xs) \/
  ∃ (o : Obj) (its : Array Value) (n : Nat), K.lookup a = some o /\ o.cls = .type "list" /\ o.dict = none /\ o.data = .seq its n /\ its.size <= sizeLine /\ Vals xs its.toList
def SqT (K : PySem.W.Frag) (H : Hp) (a : Addr) (xs : List V) : Prop :=
 Rd H a (.tup xs) \/
  ∃ (o : Obj) (its : Array Value) (n : Nat), K.lookup a = some o /\ o.cls = .type "tuple" /\ o.data = .seq its n /\ its.size <= sizeLine /\ Vals xs its.toList
def absV : Value -> Option V
 | .none => some .non
 | .bool b => some (.bl b)
 | .int i _ => some (.int i)
 | .str x _ => some (.str x)
 | .bytes b _ => some (.byt b)
 | .float b _ => some (.flt b)
 | .ref a => some (.ref a)
 | .type n => some (.ty n)
 | _ => none
theorem RelV.abs {x : V} {u : Value} (r : RelV x u) : absV u = some x := by
 cases x with
 | non => cases r; rfl
 | bl _ => cases r; rfl
 | int _ => obtain ⟨t, rfl⟩ := r; rfl
 | str _ => obtain ⟨t, rfl⟩ := r; rfl
 | byt _ => obtain ⟨t, rfl⟩ := r; rfl
 | flt _ => obtain ⟨t, rfl⟩ := r; rfl
 | ref _ => cases r; rfl
 | ty _ => cases r; rfl
theorem RelV.inj {x y : V} {u : Value} (r : RelV x u) (q : RelV y u) : x = y := Option.some.inj (r.abs.symm.trans q.abs)
theorem Vals.inj : ∀ {xs ys : List V} {us : List Value}, Vals xs us -> Vals ys us -> xs = ys
 | _, _, _, .nil, .nil => rfl
 | _, _, _, .cons r t, .cons r' t' => by rw [r.inj r', Vals.inj t t']
section
variable {X : Cx} {pins : List (Addr × Obj)} {σ : St} {H : Hp} {s : Shared} {a : Addr} {xs ys : List V}
theorem SqL.of {K : PySem.W.Frag} (h : H a = some (.lst xs)) : SqL K H a xs := .inl (.inl h)
theorem SqT.of {K : PySem.W.Frag} (h : H a = some (.tup xs)) : SqT K H a xs := .inl (.inl h)
theorem Inv.list (I : Inv X pins σ H s) (h : SqL X.K H a xs) : ∃ its : List Value, Vals xs its /\ PlainL s.heap a its.toArray /\ xs.length <= sizeLine := by
 rcases h with h | ⟨o, its, n, hk, hc, hd, hs, hz, r⟩
 ·obtain ⟨z, its, n, r, e⟩ := h.ok I.hok
  exact ⟨its, r, ⟨_, n, e, rfl, rfl, rfl⟩, z⟩
 ·refine ⟨its.toList, r, ⟨o, n, I.kIn a o hk, hc, hd, by simpa using hs⟩, ?_⟩
  have e := r.length
  simp only [Array.length_toList] at e
  (first|lia|omega)
theorem Inv.tuple (I : Inv X pins σ H s) (h : SqT X.K H a xs) : ∃ its : List Value, Vals xs its /\ IsTup s.heap a its.toArray /\ xs.length <= sizeLine := by
 rcases h with h | ⟨o, its, n, hk, hc, hs, hz, r⟩
 ·obtain ⟨z, its, r, p⟩ := h.ok I.hok
  exact ⟨its, r, p, z⟩
 ·refine ⟨its.toList, r, ⟨o, I.kIn a o hk, hc, n, by simpa using hs⟩, ?_⟩
  have e := r.length
  simp only [Array.length_toList] at e
  (first|lia|omega)
theorem Inv.list_inj (I : Inv X pins σ H s) (h : SqL X.K H a xs) (h' : SqL X.K H a ys) : xs = ys := by
 obtain ⟨its, r, ⟨o, n, e, _, _, d⟩, _⟩ := I.list h
 obtain ⟨its', r', ⟨o', n', e', _, _, d'⟩, _⟩ := I.list h'
 rw [e] at e'; cases e'
 rw [d] at d'
 injection d' with d1 _
 have : its = its' := by simpa using congrArg Array.toList d1
 subst this
 exact r.inj r'
theorem Inv.tuple_inj (I : Inv X pins σ H s) (h : SqT X.K H a xs) (h' : SqT X.K H a ys) : xs = ys := by
 obtain ⟨its, r, ⟨o, e, _, n, d⟩, _⟩ := I.tuple h
 obtain ⟨its', r', ⟨o', e', _, n', d'⟩, _⟩ := I.tuple h'
 rw [e] at e'; cases e'
 rw [d] at d'
 injection d' with d1 _
 have : its = its' := by simpa using congrArg Array.toList d1
 subst this
 exact r.inj r'
end

abbrev Cx.wish (X : Cx) (E : Value -> Shared -> Prop) : Cx := { X with xe := E }
abbrev Cx.nox (X : Cx) : Cx := X.wish fun _ _ => False
theorem Cx.Ok.wish {X : Cx} (ok : X.Ok) (E : Value -> Shared -> Prop) : (X.wish E).Ok :=
 ⟨ok.mod, ok.kind, ok.glob, ok.blt, ok.above, ok.inj, ok.has, ok.cab, ok.hd, ok.frames, ok.stk, ok.exf, ok.bs, ok.bsz, ok.noex, ok.exfs, ok.funs, ok.frf⟩
theorem Cx.Ok.unwish {X : Cx} {E : Value -> Shared -> Prop} (ok : (X.wish E).Ok) : X.Ok :=
 ⟨ok.mod, ok.kind, ok.glob, ok.blt, ok.above, ok.inj, ok.has, ok.cab, ok.hd, ok.frames, ok.stk, ok.exf, ok.bs, ok.bsz, ok.noex, ok.exfs, ok.funs, ok.frf⟩
section
variable {X : Cx} {pins : List (Addr × Obj)} {σ : St} {H : Hp} {s : Shared} {E : Value -> Shared -> Prop}
theorem Inv.wish (I : Inv X pins σ H s) (E : Value -> Shared -> Prop) : Inv (X.wish E) pins σ H s := ⟨I.ok.wish E, I.os, I.bare, I.base, I.loc, I.cell, I.free, I.freeC, I.pin, I.hok, I.len⟩
theorem Inv.unwish (I : Inv (X.wish E) pins σ H s) : Inv X pins σ H s := ⟨I.ok.unwish, I.os, I.bare, I.base, I.loc, I.cell, I.free, I.freeC, I.pin, I.hok, I.len⟩
theorem SP.unwish {D : Ends} {f : Flow} {s' : Shared} (h : SP (X.wish E) pins D f s') : SP X pins D f s' := by
 cases f with
 | next => obtain ⟨σ', H', I, q⟩ := h; exact ⟨σ', H', I.unwish, q⟩
 | brk => obtain ⟨σ', H', I, q⟩ := h; exact ⟨σ', H', I.unwish, q⟩
 | cont => obtain ⟨σ', H', I, q⟩ := h; exact ⟨σ', H', I.unwish, q⟩
 | ret u => obtain ⟨v, σ', H', I, r, q⟩ := h; exact ⟨v, σ', H', I.unwish, r, q⟩
theorem PSs.nox {st : List Stmt} {t : TS} (h : PSs X.nox st t) : PSs X st t := ⟨fun pins s σ H D I hw =>
 wpAny_mono (h pins s σ H D (I.wish _) hw) (fun _ _ q => q.unwish) fun _ _ z => False.elim z⟩
end

section
variable {X : Cx} {st : Stmt} {rest : List Stmt} {t u : TS} {e : Expr} {te : TE} {pos : Pos}
def tNext : TS := fun D σ H => D.nx σ H
def tSeq (t u : TS) : TS := fun D σ H => t { D with nx := u D } σ H
theorem zN : PSs X [] tNext := ⟨fun _ _ σ H _ I h => wpAny_execs_nil ⟨σ, H, I, h⟩⟩
theorem zE (h1 : PS X st t) (h2 : PSs X rest u) : PSs X (st :: rest) (tSeq t u) := by
 refine ⟨?_⟩
 intro pins s σ H D I h
 refine wpAny_execs_cons (thn (h1 pins s σ H { D with nx := u D } I h) fun f s1 q => ?_)
 cases f with
 | next =>
  obtain ⟨σ', H', I', q⟩ := q
  exact h2 pins s1 σ' H' D I' q
 | ret v => exact q
 | brk => exact q
 | cont => exact q
theorem zG (h1 : PS X st t) : PSs X [st] t := by
 refine ⟨?_⟩
 intro pins s σ H D I h
 refine wpAny_execs_cons (thn (h1 pins s σ H D I h) fun f s1 q => ?_)
 cases f with
 | next => exact wpAny_execs_nil q
 | ret v => exact q
 | brk => exact q
 | cont => exact q
theorem Inv.quiet {pins : List (Addr × Obj)} {σ : St} {H : Hp} {s : Shared} (I : Inv X pins σ H s) : interactive X.env = false := by simp [interactive, I.ok.kind]
def tDrop (te : TE) : TS := fun D σ H => te σ H fun _ H1 => D.nx σ H1
theorem yI (he : PE X e te) (hs : swapsWith e none pos.line X.env = pure false := by rfl) : PS X (.Expr e pos) (tDrop te) := by
 refine ⟨?_⟩
 intro pins s σ H D I h
 exact wpAny_Expr_any (thn (he pins s σ H _ I h) fun v s1 ⟨x, H1, I1, r1, q1⟩ => ⟨σ, H1, I1, q1⟩) I.quiet hs
def tRet (te : TE) : TS := fun D σ H => te σ H D.rt
theorem zL (he : PE X e te) : PS X (.Return (some e) pos) (tRet te) := by
 refine ⟨?_⟩
 intro pins s σ H D I h
 exact wpAny_Return_some (thn (he pins s σ H _ I h) fun v s1 ⟨x, H1, I1, r1, q1⟩ => ⟨x, σ, H1, I1, r1, q1⟩)
def tIfS (c : TT) (t u : TS) : TS := fun D σ H => c σ H fun b H1 => if b = true then t D σ H1 else u D σ H1
theorem zW {c : Expr} {a b : List Stmt} {tc : TT} (hc : PT X c tc) (ha : PSs X a t) (hb : PSs X b u) : PS X (.If c a b pos) (tIfS tc t u) := by
 refine ⟨?_⟩
 intro pins s σ H D I h
 refine wpAny_If (thn (hc pins s σ H _ I h) fun d s1 hzz => ?_)
 obtain ⟨H1, I1, q1⟩ := hzz
 cases d with
 | true => exact ha pins s1 σ H1 D I1 q1
 | false => exact hb pins s1 σ H1 D I1 q1
end

abbrev TG := V -> St -> Hp -> (St -> Hp -> Prop) -> Prop
abbrev TGs := List V -> St -> Hp -> (St -> Hp -> Prop) -> Prop
structure PG (X : Cx) (target : Expr) (t : TG)  : Prop where
 go : ∀ (pins : List (Addr × Obj)) (s : Shared) (σ : St) (H : Hp) (v : V) (u : Value) (Q : St -> Hp -> Prop), Inv X pins σ H s -> RelV v u -> t v σ H Q ->
  wpAny (model X.prog X.w) X.A (assign target X.env u) (fun _ s' => ∃ σ' H', Inv X pins σ' H' s' /\ Q σ' H') X.xe s
instance {X : Cx} {target : Expr} {t : TG} : CoeFun (PG X target t) (fun _ => ∀ (pins : List (Addr × Obj)) (s : Shared) (σ : St) (H : Hp) (v : V) (u : Value) (Q : St -> Hp -> Prop), Inv X pins σ H s -> RelV v u -> t v σ H Q ->
  wpAny (model X.prog X.w) X.A (assign target X.env u) (fun _ s' => ∃ σ' H', Inv X pins σ' H' s' /\ Q σ' H') X.xe s) := ⟨PG.go⟩
structure PGs (X : Cx) (ts : List Expr) (t : TGs)  : Prop where
 go : ∀ (pins : List (Addr × Obj)) (s : Shared) (σ : St) (H : Hp) (vs : List V) (us : List Value) (Q : St -> Hp -> Prop), Inv X pins σ H s -> Vals vs us -> t vs σ H Q ->
  wpAny (model X.prog X.w) X.A (assignInOrder ((assignEach ts X.env).map (·.2)) us) (fun _ s' => ∃ σ' H', Inv X pins σ' H' s' /\ Q σ' H') X.xe s
instance {X : Cx} {ts : List Expr} {t : TGs} : CoeFun (PGs X ts t) (fun _ => ∀ (pins : List (Addr × Obj)) (s : Shared) (σ : St) (H : Hp) (vs : List V) (us : List Value) (Q : St -> Hp -> Prop), Inv X pins σ H s -> Vals vs us -> t vs σ H Q ->
  wpAny (model X.prog X.w) X.A (assignInOrder ((assignEach ts X.env).map (·.2)) us) (fun _ s' => ∃ σ' H', Inv X pins σ' H' s' /\ Q σ' H') X.xe s) := ⟨PGs.go⟩
abbrev TSet := V -> V -> V -> Hp -> (Hp -> Prop) -> Prop
def PSet (X : Cx) (t : TSet) : Prop :=
 ∀ (pins : List (Addr × Obj)) (s : Shared) (σ : St) (H : Hp) (o i v : V) (ov iv u : Value) (Q : Hp -> Prop), Inv X pins σ H s -> RelV o ov -> RelV i iv -> RelV v u -> t o i v H Q ->
  wpAny (model X.prog X.w) X.A (setItem ov iv u) (fun _ s' => ∃ H', Inv X pins σ H' s' /\ Q H') X.xe s
abbrev TIp := V -> V -> Hp -> VK -> Prop
def PIp (X : Cx) (op : Operator) (t : TIp) : Prop :=
 ∀ (pins : List (Addr × Obj)) (s : Shared) (σ : St) (H : Hp) (x y : V) (v u : Value) (Q : VK), Inv X pins σ H s -> RelV x v -> RelV y u -> t x y H Q ->
  wpAny (model X.prog X.w) X.A (inplaceOp op v u) (EP X pins σ Q) X.xe s
section
variable {X : Cx} {pos : Pos}
def gName (i : Nat) : TG := fun v σ H Q => Q (σ.set i (some v)) H
theorem yH {i : Nat} {x : Str} (hN : X.N.Nodup) (hi : X.N[i]? = some x) (hx : Loc X.env.scope x) (hf : X.fn x = true \/ X.env.scope.names.lookup x = some .local := by first | exact .inl rfl | exact .inr rfl | assumption) : PG X (.Name x pos) (gName i) := by
 refine ⟨?_⟩
 intro pins s σ H v u Q I r h
 exact wpAny_assign_Name (wZ I hN hi hx r (fun s' I' => ⟨_, H, I', h⟩) hf)
def gNil : TGs := fun vs σ H Q => vs = [] /\ Q σ H
def gCons (t : TG) (u : TGs) : TGs := fun vs σ H Q => ∃ v r, vs = v :: r /\ t v σ H fun σ' H' => u r σ' H' Q
theorem jR : PGs X [] gNil := by
 refine ⟨?_⟩
 intro pins s σ H vs us Q I r h
 obtain ⟨e, h⟩ := h
 subst e
 cases r
 exact assignInOrder_nil ⟨σ, H, I, h⟩
theorem yK {e : Expr} {es : List Expr} {t : TG} {u : TGs} (h1 : PG X e t) (h2 : PGs X es u)
  (hs : (assignEach (e :: es) X.env).map (·.2) = assign e X.env :: (assignEach es X.env).map (·.2) := by rfl) : PGs X (e :: es) (gCons t u) := by
 refine ⟨?_⟩
 intro pins s σ H vs us Q I r h
 obtain ⟨v, vr, e1, h⟩ := h
 subst e1
 cases r with
 | cons r rr =>
  rw [hs]
  refine assignInOrder_cons (thn (h1 pins s σ H _ _ _ I r h) fun _ s1 hzz => ?_)
  obtain ⟨σ1, H1, I1, q1⟩ := hzz
  exact h2 pins s1 σ1 H1 _ _ Q I1 rr q1
def gTup (K : PySem.W.Frag) (n : Nat) (t : TGs) : TG := fun v σ H Q => ∃ a xs, v = .ref a /\ SqT K H a xs /\ xs.length = n /\ t xs σ H Q
theorem qP {es : List Expr} {k : Nat} {t : TGs} {n : Nat} (hc : X.calm = true) (h : PGs X es t)
  (hn : (assignEach es X.env).length = n := by rfl) (hst : (assignEach es X.env).findIdx? (·.1) = none := by rfl) : PG X (.Tuple es k pos) (gTup X.K n t) := by
 refine ⟨?_⟩
 intro pins s σ H v u Q I r hw
 obtain ⟨a, xs, e1, hq, hl, hw⟩ := hw
 subst e1
 cases r
 obtain ⟨its, rv, ht, hz⟩ := I.tuple hq
 refine assign_Tuple_tuple (I.ok.hd hc) ht (by simp [hn, <- hl, rv.length]) hst fun h' hx => ?_
 have I1 : Inv X pins σ H { s with heap := h' } := I.kept (t' := s.toks) fun b o e => hx b o (Nat.ne_of_lt (Heap.lt_size e)) e
 exact h pins _ σ H xs _ Q I1 (by simpa using rv) hw
def gSub (to ti : TE) (t : TSet) : TG := fun v σ H Q => to σ H fun o H1 => ti σ H1 fun i H2 => t o i v H2 fun H3 => Q σ H3
theorem pg_sub {o i : Expr} {to ti : TE} {t : TSet} (ho : PE X o to) (hi : PE X i ti) (hs : PSet X t)
  (ha : ∀ v, assign (.Subscript o i pos) X.env v = (do
   let ov <- holding [v] (eval o X.env)
   let iv <- holding [v, ov] (eval i X.env)
   standAt pos
   holding [v, ov, iv] (setItem ov iv v)
   release [v, ov, iv] []) := by intro _; rfl) : PG X (.Subscript o i pos) (gSub to ti t) := by
 refine ⟨?_⟩
 intro pins s σ H v u Q I r h
 rw [ha]
 refine wpAny_bind (wpAny_holding (thn (ho pins s σ H _ I h) fun ov s1 hzz => ?_))
 obtain ⟨x, H1, I1, r1, q1⟩ := hzz
 refine wpAny_bind (wpAny_holding (thn (hi pins s1 σ H1 _ I1 q1) fun iv s2 hzz => ?_))
 obtain ⟨y, H2, I2, r2, q2⟩ := hzz
 refine wpAny_bind (wpAny_standAt (wpAny_bind (wpAny_holding (thn (hs pins s2 σ H2 x y v ov iv u _ I2 r1 r2 r q2) fun _ s3 hzz => ?_))))
 obtain ⟨H3, I3, q3⟩ := hzz
 exact wpAny_release ⟨σ, H3, I3, q3⟩
def tAsg (te : TE) (g : TG) : TS := fun D σ H => te σ H fun x H1 => g x σ H1 D.nx
theorem jQ {tg e : Expr} {te : TE} {g : TG} (he : PE X e te) (hg : PG X tg g) (hs : swapsWithSole [tg] e pos.line X.env = pure false := by rfl) (hw : swappedStores [tg] e X.env = pure none := by rfl)
  (h1 : (assignEach [tg] X.env).map (·.2) = [assign tg X.env] := by rfl) : PS X (.Assign [tg] e pos) (tAsg te g) := by
 refine ⟨?_⟩
 intro pins s σ H D I h
 refine wpAny_Assign_stores (thn (he pins s σ H _ I h) fun v s1 ⟨x, H1, I1, r1, q1⟩ => ?_) hs hw
 rw [h1]
 exact thn (hg pins s1 σ H1 x v _ I1 r1 q1) fun _ s2 q => q
theorem zT {i : Nat} {x : Str} {e : Expr} {te : TE} {pos' : Pos} (hN : X.N.Nodup) (hi : X.N[i]? = some x) (hx : Loc X.env.scope x) (he : PE X e te) (hs : swapsWith e (some (.Name x pos')) pos.line X.env = pure false := by rfl) (hf : X.fn x = true \/ X.env.scope.names.lookup x = some .local := by first | exact .inl rfl | exact .inr rfl | assumption) :
  PS X (.Assign [.Name x pos'] e pos) (tAsg te (gName i)) := by
 refine ⟨?_⟩
 intro pins s σ H D I h
 refine wpAny_Assign_Name (thn (he pins s σ H _ I h) fun v s1 ⟨y, H1, I1, r1, q1⟩ => ?_) hs
 exact wZ I1 hN hi hx r1 (fun s2 I2 => ⟨_, H1, I2, q1⟩) hf
def tAug (i : Nat) (te : TE) (ti : TIp) : TS := fun D σ H => ∃ x, σ[i]? = some (some x) /\ te σ H fun y H1 => ti x y H1 fun z H2 => D.nx (σ.set i (some z)) H2
theorem ps_aug {i : Nat} {x : Str} {e : Expr} {te : TE} {op : Operator} {ti : TIp} {pos' : Pos} (hN : X.N.Nodup) (hi : X.N[i]? = some x) (hx : Loc X.env.scope x) (he : PE X e te) (ho : PIp X op ti) (hf : X.fn x = true \/ X.env.scope.names.lookup x = some .local := by first | exact .inl rfl | exact .inr rfl | assumption) :
  PS X (.AugAssign (.Name x pos') op e pos) (tAug i te ti) := by
 refine ⟨?_⟩
 intro pins s σ H D I h
 obtain ⟨v, e1, h⟩ := h
 obtain ⟨m, hn, hl⟩ := I.loc
 have vis : Vis X.env.scope x := by rcases hx with k | k; exact .inl k; exact .inr (.inl k)
 obtain ⟨u, r, l⟩ := hl i x v hi e1 vis
 refine wpAny_AugAssign_Name ?_
 have go : wpAny (model X.prog X.w) X.A (eval e X.env) (fun w s₂ => wpAny (model X.prog X.w) X.A (inplaceOp op u w) (fun r s₃ => wpAny (model X.prog X.w) X.A (storeName X.env x r) (fun _ => SP X pins D .next) X.xe s₃) X.xe s₂) X.xe s := by
  refine thn (he pins s σ H _ I h) fun w s1 hzz => ?_
  obtain ⟨y, H1, I1, r1, q1⟩ := hzz
  refine thn (ho pins s1 σ H1 v y u w _ I1 r r1 q1) fun z s2 hzz => ?_
  obtain ⟨zv, H2, I2, r2, q2⟩ := hzz
  exact wZ I2 hN hi hx r2 (fun s3 I3 => ⟨_, H2, I3, q2⟩) hf
 rcases l with ⟨hk, hm⟩ | ⟨hk, c, hc, hcell⟩
 ·exact wpAny_loadName_local I.ok.kind hk hn hm go
 ·rcases hk with hk | hk
  ·exact wpAny_loadName_cell I.ok.kind hk hc hcell go
  ·rcases hx with k | k
   ·have : X.env.scope.names.lookup x = some .free := hk
    rw [k] at this; cases this
   ·have : X.env.scope.names.lookup x = some .free := hk
    rw [k] at this; cases this
def ipI (f : Int -> Int -> Int) : TIp := fun x y H Q => ∃ i j, x = .int i /\ y = .int j /\ Q (.int (f i j)) H
theorem ip_add : PIp X .Add (ipI fun i j => i + j) := by
 intro pins s σ H x y v u Q I r1 r2 h
 obtain ⟨i, j, e1, e2, q⟩ := h
 subst e1; subst e2
 obtain ⟨t, rfl⟩ := r1
 obtain ⟨t', rfl⟩ := r2
 exact iadd_int ⟨.int _, H, I.tok _, ⟨_, rfl⟩, q⟩
end

section
variable {X : Cx} {pos : Pos}
def tWhile (c : TT) (tb : TS) : TS := fun D σ H => ∃ W : Nat -> St -> Hp -> Prop, (∃ m, W m σ H) /\ ∀ m σ H, W m σ H ->
 c σ H fun b H1 => if b = true then ∃ N : St -> Hp -> Prop, (∀ σ' H', N σ' H' -> ∃ m', m' < m /\ W m' σ' H') /\ tb { D with nx := N, ct := N, bk := D.nx } σ H1 else D.nx σ H1
theorem ps_while {c : Expr} {body : List Stmt} {tc : TT} {tb : TS} (hp : PassesOwn (model X.prog X.w) X.A X.env X.xe) (hc : PT X c tc) (hb : PSs X body tb) : PS X (.While c body [] pos) (tWhile tc tb) := by
 refine ⟨?_⟩
 intro pins s σ H D I h
 obtain ⟨W, ⟨m0, w0⟩, turn⟩ := h
 refine wpAny_While (codeAny_whileLoop (fun n s' => ∃ σ' H', Inv X pins σ' H' s' /\ W n σ' H') ?_ m0 ⟨σ, H, I, w0⟩)
 rintro n s1 ⟨σ1, H1, I1, w1⟩
 refine wpAny_passesOwn hp (thn (hc pins s1 σ1 H1 _ I1 (turn n σ1 H1 w1)) fun b s2 hzz => ?_)
 obtain ⟨H2, I2, q2⟩ := hzz
 cases b with
 | true =>
  obtain ⟨N, hN, q2⟩ := q2
  rw [if_pos rfl]
  refine wpAny_passesOwn hp (thn (hb pins s2 σ1 H2 _ I2 q2) fun f s3 q3 => ?_)
  cases f with
  | next =>
   obtain ⟨σ3, H3, I3, n3⟩ := q3
   obtain ⟨m', hm, w3⟩ := hN σ3 H3 n3
   exact ⟨m', hm, σ3, H3, I3, w3⟩
  | cont =>
   obtain ⟨σ3, H3, I3, n3⟩ := q3
   obtain ⟨m', hm, w3⟩ := hN σ3 H3 n3
   exact ⟨m', hm, σ3, H3, I3, w3⟩
  | brk => exact q3
  | ret v => exact q3
 | false =>
  rw [if_neg Bool.false_ne_true]
  exact wpAny_execs_nil ⟨σ1, H2, I2, q2⟩
end

structure It where
 go : Nat -> Hp -> Prop
 yld : Nat -> Hp -> V -> Hp -> Prop
 stop : Nat -> Hp -> Prop
def FpOk (X : Cx) (pins : List (Addr × Obj)) (H : Hp) (b : Addr) : Prop :=
 H b = none /\ b ≠ X.env.locals /\ b ∉ X.fs /\ (b ∈ X.ex \/ X.s₀.heap.objs.size <= b) /\ (∀ x c, X.env.cells.lookup x = some c -> c ≠ b) /\ ∀ p ∈ X.pn ++ pins, p.1 ≠ b
theorem Inv.fpOk {X : Cx} {pins : List (Addr × Obj)} {σ : St} {H H' : Hp} {s : Shared} {b : Addr} (I : Inv X pins σ H s) (hb : s.heap.objs.size <= b) (hn : H' b = none) : FpOk X pins H' b := by
 refine ⟨hn, Nat.ne_of_gt (Nat.lt_of_lt_of_le I.lt hb), I.nofs hb, .inr (Nat.le_trans I.sz hb), fun x c e z => ?_, fun p hp z => ?_⟩
 ·obtain ⟨v, q⟩ := I.cell x c e
  exact absurd (Nat.lt_of_lt_of_le q.lt (by rw [z]; exact hb)) (Nat.lt_irrefl _)
 ·exact absurd (Nat.lt_of_lt_of_le (Heap.lt_size (I.pin p hp).1) (by rw [z]; exact hb)) (Nat.lt_irrefl _)
structure Turn (P : Program) (w : World) (K : PySem.W.Frag) (tg : Expr) (J : It) (fp : List Addr) (it : Addr) (tn : Nat -> Heap -> Prop) : Prop where
 mem : it ∈ fp
 obj : ∀ i h, tn i h -> ∀ b ∈ fp, ∃ o, h.get? b = some o /\ ∀ v, o.data ≠ .cell v
 keep : ∀ i h h', tn i h -> (∀ b ∈ fp, ∀ o, h.get? b = some o -> h'.get? b = some o) -> tn i h'
 item : ∀ (X : Cx), X.prog = P -> X.w = w -> X.K = K -> X.calm = true -> ∀ (i : Nat) (pins : List (Addr × Obj)) (s : Shared) (σ : St) (H : Hp) (E : Value -> Shared -> Prop), Inv X pins σ H s -> (∀ b ∈ fp, FpOk X pins H b) -> tn i s.heap -> J.go i H ->
  wpAny (model P w) X.A (pyNext (.ref it)) (fun r s1 => ∃ u, r = some u /\
   wpAny (model P w) X.A (letOwnedTupleGo tg (.ref it) u) (fun _ s2 => ∃ x H', Inv X pins σ H' s2 /\ RelV x u /\ J.yld i H x H' /\ tn (i + 1) s2.heap /\ ∀ b ∈ fp, H' b = none) E s1) E s
 done : ∀ (X : Cx), X.prog = P -> X.w = w -> X.K = K -> X.calm = true -> ∀ (i : Nat) (pins : List (Addr × Obj)) (s : Shared) (σ : St) (H : Hp) (E : Value -> Shared -> Prop), Inv X pins σ H s -> (∀ b ∈ fp, FpOk X pins H b) -> tn i s.heap -> J.stop i H ->
  wpAny (model P w) X.A (pyNext (.ref it)) (fun r s1 => r = none /\ Inv X pins σ H s1) E s
 self : ∀ (A : Around) (i : Nat) (s : Shared) (Q : Value -> Shared -> Prop) (E : Value -> Shared -> Prop), tn i s.heap -> Q (.ref it) s -> wpAny (model P w) A (pyIter (.ref it)) Q E s
abbrev TI := St -> Hp -> (It -> Hp -> Prop) -> Prop
def PIE (X : Cx) (pins : List (Addr × Obj)) (σ : St) (tg : Expr) (R : It -> Hp -> Prop) (itv : Value) (s2 : Shared) : Prop :=
 ∃ (it : Addr) (fp : List Addr) (tn : Nat -> Heap -> Prop) (J : It) (H' : Hp), itv = .ref it /\ Inv X pins σ H' s2 /\ Turn X.prog X.w X.K tg J fp it tn /\ tn 0 s2.heap /\ (∀ b ∈ fp, FpOk X pins H' b) /\ R J H'
structure PI (X : Cx) (tg iter : Expr) (wi : TI)  : Prop where
 go : ∀ (pins : List (Addr × Obj)) (s : Shared) (σ : St) (H : Hp) (R : It -> Hp -> Prop), Inv X pins σ H s -> wi σ H R ->
  wpAny (model X.prog X.w) X.A (eval iter X.env) (fun v s1 => wpAny (model X.prog X.w) X.A (pyIter v) (PIE X pins σ tg R) X.xe s1) X.xe s
instance {X : Cx} {tg iter : Expr} {wi : TI} : CoeFun (PI X tg iter wi) (fun _ => ∀ (pins : List (Addr × Obj)) (s : Shared) (σ : St) (H : Hp) (R : It -> Hp -> Prop), Inv X pins σ H s -> wi σ H R ->
  wpAny (model X.prog X.w) X.A (eval iter X.env) (fun v s1 => wpAny (model X.prog X.w) X.A (pyIter v) (PIE X pins σ tg R) X.xe s1) X.xe s) := ⟨PI.go⟩

theorem go_of {M : Model} {A : Around} {E : Value -> Shared -> Prop} {s : Shared} {tg : Expr} {it : Addr} {u : Value} {o : Obj} {n : String} {vs : Array Value} {Q : Unit -> Shared -> Prop} (ho : s.heap.get? it = some o) (hc : o.cls = .type n) (hd : o.data = .fields vs)
    (hn : ["enumerate", "zip", "dict_itemiterator", "dict_reverseitemiterator", "odict_iterator", "itertools.zip_longest", "itertools.pairwise"].contains n = false) (hQ : Q () s) : wpAny M A (letOwnedTupleGo tg (.ref it) u) Q E s := by
  unfold letOwnedTupleGo
  cases tg <;> first
    | exact wpAny_pure hQ
    | (cases u <;> first
        | exact wpAny_pure hQ
        | (refine wpAny_bind (wpAny_load ho ?_)
           rw [hc, hd]
           show wpAny M A (if (["enumerate", "zip", "dict_itemiterator", "dict_reverseitemiterator", "odict_iterator", "itertools.zip_longest", "itertools.pairwise"].contains n && vs[0]? == some (rawInt _)) = true then _ else _) Q E s
           rw [if_neg (by intro h; rw [hn, Bool.false_and] at h; cases h)]
           exact wpAny_pure hQ))

def Itl (K : PySem.W.Frag) (a : Addr) : It :=
 ⟨fun i H => ∃ xs x, SqL K H a xs /\ xs[i]? = some x, fun i H x H' => H' = H /\ ∀ xs, SqL K H a xs -> xs[i]? = some x, fun i H => ∃ xs, SqL K H a xs /\ xs.length <= i⟩
def Itt (K : PySem.W.Frag) (a : Addr) : It :=
 ⟨fun i H => ∃ xs x, SqT K H a xs /\ xs[i]? = some x, fun i H x H' => H' = H /\ ∀ xs, SqT K H a xs -> xs[i]? = some x, fun i H => ∃ xs, SqT K H a xs /\ xs.length <= i⟩
def Itr (lo : Int) (n : Nat) : It := ⟨fun i _ => i < n, fun i H x H' => H' = H /\ x = .int (lo + i), fun i _ => n <= i⟩
theorem turn_list {P : Program} {w : World} {K : PySem.W.Frag} {tg : Expr} (a it : Addr) : Turn P w K tg (Itl K a) [it] it (fun i h => h.IsListIter it a i) where
 mem := by simp
 obj := fun i h st b hb => by
  have e : b = it := by simpa using hb
  subst e
  obtain ⟨o, e, c, d⟩ := st
  exact ⟨o, e, fun v z => by rw [d] at z; cases z⟩
 keep := fun i h h' st k => st.at fun o e => k it (by simp) o e
 item := by
  intro X hP hw hK hc i pins s σ H E I hf st hg
  subst hP hw hK
  obtain ⟨xs, x, hq, hx⟩ := hg
  obtain ⟨its, rv, p, hz⟩ := I.list hq
  obtain ⟨u, hu, ru⟩ := rv.get hx
  obtain ⟨f0, f1, f2, f3, f4, f5⟩ := hf it (by simp)
  refine wpAny_pyNext_list_item st p.isList (x := u) (by simpa using hu) fun h' st' sb => ?_
  have I1 : Inv X pins σ H { s with heap := h' } := I.turned (t' := s.toks) (fun b o hb e => (sb.2 b hb).trans e) f0 f1 f3 f4 f5
  obtain ⟨o, e, c, d⟩ := id st'
  exact ⟨u, rfl, go_of (s := { s with heap := h' }) e c d (by decide) ⟨x, H, I1, ru, ⟨rfl, fun ys hy => by rw [I.list_inj hy hq]; exact hx⟩, st', fun b hb => (hf b hb).1⟩⟩
 done := by
  intro X hP hw hK hc i pins s σ H E I hf st hg
  subst hP hw hK
  obtain ⟨xs, hq, hx⟩ := hg
  obtain ⟨its, rv, p, hz⟩ := I.list hq
  obtain ⟨f0, f1, f2, f3, f4, f5⟩ := hf it (by simp)
  have hl := rv.length
  exact wpAny_pyNext_list_end (I.ok.hd hc) st p.isList (by simp; (first|lia|omega)) fun h' eb => ⟨rfl, I.turned (t' := s.toks) (fun b o hb e => eb b o hb e) f0 f1 f3 f4 f5⟩
 self := fun _ _ _ _ _ st h => wpAny_pyIter_listiter st h
theorem turn_tuple {P : Program} {w : World} {K : PySem.W.Frag} {tg : Expr} (a it : Addr) : Turn P w K tg (Itt K a) [it] it (fun i h => h.IsTupleIter it a i) where
 mem := by simp
 obj := fun i h st b hb => by
  have e : b = it := by simpa using hb
  subst e
  obtain ⟨o, e, c, d⟩ := st
  exact ⟨o, e, fun v z => by rw [d] at z; cases z⟩
 keep := fun i h h' st k => st.at fun o e => k it (by simp) o e
 item := by
  intro X hP hw hK hc i pins s σ H E I hf st hg
  subst hP hw hK
  obtain ⟨xs, x, hq, hx⟩ := hg
  obtain ⟨its, rv, p, hz⟩ := I.tuple hq
  obtain ⟨u, hu, ru⟩ := rv.get hx
  obtain ⟨f0, f1, f2, f3, f4, f5⟩ := hf it (by simp)
  refine wpAny_pyNext_tuple_item st (show s.heap.IsTuple a its.toArray from p) (x := u) (by simpa using hu) fun h' st' sb => ?_
  have I1 : Inv X pins σ H { s with heap := h' } := I.turned (t' := s.toks) (fun b o hb e => (sb.2 b hb).trans e) f0 f1 f3 f4 f5
  obtain ⟨o, e, c, d⟩ := id st'
  exact ⟨u, rfl, go_of (s := { s with heap := h' }) e c d (by decide) ⟨x, H, I1, ru, ⟨rfl, fun ys hy => by rw [I.tuple_inj hy hq]; exact hx⟩, st', fun b hb => (hf b hb).1⟩⟩
 done := by
  intro X hP hw hK hc i pins s σ H E I hf st hg
  subst hP hw hK
  obtain ⟨xs, hq, hx⟩ := hg
  obtain ⟨its, rv, p, hz⟩ := I.tuple hq
  obtain ⟨f0, f1, f2, f3, f4, f5⟩ := hf it (by simp)
  have hl := rv.length
  exact wpAny_pyNext_tuple_end (I.ok.hd hc) st (show s.heap.IsTuple a its.toArray from p) (by simp; (first|lia|omega)) fun h' eb => ⟨rfl, I.turned (t' := s.toks) (fun b o hb e => eb b o hb e) f0 f1 f3 f4 f5⟩
 self := fun _ _ _ _ _ st h => wpAny_pyIter_tupleiter st h
theorem turn_range {P : Program} {w : World} {K : PySem.W.Frag} {tg : Expr} (it : Addr) (lo : Int) (n : Nat) : Turn P w K tg (Itr lo n) [it] it (fun i h => IsRangeIter h it (lo + (i : Nat) * 1) ((n : Int) - (i : Nat)) 1) where
 mem := by simp
 obj := fun i h st b hb => by
  have e : b = it := by simpa using hb
  subst e
  exact ⟨_, st, fun v z => by
   have z' : Data.fields _ = Data.cell v := z
   cases z'⟩
 keep := fun i h h' st k => k it (by simp) _ st
 item := by
  intro X hP hw hK hc i pins s σ H E I hf st hg
  subst hP hw hK
  obtain ⟨f0, f1, f2, f3, f4, f5⟩ := hf it (by simp)
  have W := Walks.range (prog := X.prog) (w := X.w) (I.ok.hd hc) it lo 1 n
  refine W.item i s _ _ hg st fun v h' tk hv st' kk => ?_
  obtain ⟨t, rfl⟩ := hv
  have I1 : Inv X pins σ H { s with heap := h', toks := tk } := I.turned (fun b o hb e => kk b o (by simpa using hb) e) f0 f1 f3 f4 f5
  refine ⟨_, rfl, go_of (s := { s with heap := h', toks := tk }) (n := "range_iterator") st' rfl rfl (by decide) ⟨.int (lo + i), H, I1, ⟨t, ?_⟩, ⟨rfl, rfl⟩, st', fun b hb => (hf b hb).1⟩⟩
  rw [Int.mul_one]
 done := by
  intro X hP hw hK hc i pins s σ H E I hf st hg
  subst hP hw hK
  obtain ⟨f0, f1, f2, f3, f4, f5⟩ := hf it (by simp)
  exact wpAny_pyNext_range_end (I.ok.hd hc) st (by have : n <= i := hg; (first|lia|omega)) fun h' eb => ⟨rfl, I.turned (t' := s.toks) (fun b o hb e => eb b o hb e) f0 f1 f3 f4 f5⟩
 self := fun _ _ _ _ _ st h => wpAny_pyIter_rangeiter st h
end L2

namespace L2
open PySem PySem.Spec PyProof.Rows
section
variable {X : Cx} {tg : Expr}
def iList (K : PySem.W.Frag) (tl : TE) : TI := fun σ H R => tl σ H fun x H1 => ∃ a, x = .ref a /\ (∃ xs, SqL K H1 a xs) /\ R (Itl K a) H1
theorem pi_list {l : Expr} {tl : TE} (hl : PE X l tl) : PI X tg l (iList X.K tl) := by
 refine ⟨?_⟩
 intro pins s σ H R I h
 refine thn (hl pins s σ H _ I h) fun v s1 hzz => ?_
 obtain ⟨x, H1, I1, r1, q1⟩ := hzz
 obtain ⟨a, e, ⟨xs, hq⟩, q⟩ := q1
 subst e
 cases r1
 obtain ⟨its, rv, p, hz⟩ := I1.list hq
 refine wpAny_pyIter_list p.isList ?_
 refine ⟨s1.heap.objs.size, [s1.heap.objs.size], _, _, H1, rfl, I1.kept (t' := s1.toks) fun b o e => Heap.get?_push_of_some _ e, turn_list a _, ⟨_, Heap.get?_push_size _ rfl, rfl, rfl⟩, fun b hb => ?_, q⟩
 have e : b = s1.heap.objs.size := by simpa using hb
 subst e
 exact I1.fpOk (Nat.le_refl _) (I1.hok.fresh (Nat.le_refl _))
theorem range_it {pins : List (Addr × Obj)} {σ : St} {H : Hp} {s : Shared} {R : It -> Hp -> Prop} {E : Value -> Shared -> Prop} {lo hi : Int} {t u v : Tok} {tk : Nat} (I : Inv X pins σ H s) (h1 : -(2 ^ 62) <= lo) (h2 : lo < 2 ^ 62) (h3 : -(2 ^ 62) <= hi) (h4 : hi < 2 ^ 62)
  (q : R (Itr lo (hi - lo).toNat) H) : wpAny (model X.prog X.w) X.A (pyIter (.ref s.heap.objs.size)) (PIE X pins σ tg R) E { s with heap := s.heap.push { cls := .type "range", data := .fields #[.int lo t, .int hi u, .int 1 v] }, toks := tk } := by
 refine wpAny_pyIter_range (IsRange.new ..) (small_one h1 h2 h3 h4) ?_
 have I1 : Inv X pins σ H { s with heap := s.heap.push { cls := .type "range", data := .fields #[.int lo t, .int hi u, .int 1 v] }, toks := tk } := I.kept fun b o e => Heap.get?_push_of_some _ e
 refine ⟨(s.heap.push { cls := .type "range", data := .fields #[.int lo t, .int hi u, .int 1 v] }).objs.size, [(s.heap.push { cls := .type "range", data := .fields #[.int lo t, .int hi u, .int 1 v] }).objs.size], _, _, H, rfl,
  I1.kept (t' := tk) fun b o e => Heap.get?_push_of_some _ e, turn_range _ lo (hi - lo).toNat, ?_, fun b hb => ?_, q⟩
 ·have e1 : lo + ((0 : Nat) : Int) * 1 = lo := by simp
  have e2 : (((hi - lo).toNat : Nat) : Int) - ((0 : Nat) : Int) = Builtin.Range.rangeSize lo hi 1 := by rw [rangeSize_one]; split <;> (first|lia|omega)
  show IsRangeIter _ _ (lo + ((0 : Nat) : Int) * 1) ((((hi - lo).toNat : Nat) : Int) - ((0 : Nat) : Int)) 1
  rw [e1, e2]
  exact Heap.get?_push_size _ rfl
 ·have e : b = (s.heap.push { cls := .type "range", data := .fields #[.int lo t, .int hi u, .int 1 v] }).objs.size := by simpa using hb
  subst e
  exact I1.fpOk (Nat.le_refl _) (I1.hok.fresh (Nat.le_refl _))
def iRng1 (ta : TA) : TI := fun σ H R => ta σ H fun vs H1 => ∃ j : Int, vs = [.int j] /\ -(2 ^ 62) <= j /\ j < 2 ^ 62 /\ R (Itr 0 j.toNat) H1
theorem kE {a : Expr} {ta : TA} {p pos : Pos} (hg : Gl X "range") (hm : X.mg "range" = none) (ha : PA X [a] ta) (hs : starEach [a] X.env = [(false, eval a X.env)] := by rfl) : PI X tg (.Call (.Name "range" p) [a] [] pos) (iRng1 ta) := by
 refine ⟨?_⟩
 intro pins s σ H R I h
 refine Call_ (ld_blt I hg hm boot_range (PyProof.Rows.callWith_type1 (thn (ha pos pins s σ H _ I h) fun us s1 ⟨vs, H1, I1, r1, q1⟩ => ?_) hs rfl))
 obtain ⟨j, e, q1, q2, q⟩ := q1
 subst e
 cases r1 with
 | cons r rr =>
  cases rr
  obtain ⟨t, rfl⟩ := r
  exact call_range_1 (range_it I1 (by (first|lia|omega)) (by (first|lia|omega)) q1 q2 (by simpa using q))
def tFor (wi : TI) (g : TG) (tb : TS) : TS := fun D σ H => wi σ H fun J H1 => ∃ W : Nat -> Nat -> St -> Hp -> Prop, (∃ m, W 0 m σ H1) /\ ∀ i m σ H, W i m σ H ->
 (J.stop i H /\ D.nx σ H) \/ (J.go i H /\ ∃ N : St -> Hp -> Prop, (∀ σ' H', N σ' H' -> ∃ m', m' < m /\ W (i + 1) m' σ' H') /\ ∀ x H', J.yld i H x H' -> g x σ H' fun σ2 H2 => tb { D with nx := N, ct := N, bk := D.nx } σ2 H2)
def pinsAt (fp : List Addr) (h : Heap) : List (Addr × Obj) := fp.filterMap fun b => (h.get? b).map fun o => (b, o)
theorem wW {fp : List Addr} {h : Heap} {b : Addr} {o : Obj} (hb : b ∈ fp) (e : h.get? b = some o) : (b, o) ∈ pinsAt fp h := List.mem_filterMap.mpr ⟨b, hb, by rw [e]; rfl⟩
theorem of_pinsAt {fp : List Addr} {h : Heap} {p : Addr × Obj} (hp : p ∈ pinsAt fp h) : p.1 ∈ fp /\ h.get? p.1 = some p.2 := by
 obtain ⟨b, hb, e⟩ := List.mem_filterMap.mp hp
 cases q : h.get? b with
 | none => rw [q] at e; cases e
 | some o =>
  rw [q] at e
  have e' : (b, o) = p := Option.some.inj e
  subst e'
  exact ⟨hb, q⟩
theorem Inv.pinned {pins : List (Addr × Obj)} {σ : St} {H : Hp} {s : Shared} {fp : List Addr} (I : Inv X pins σ H s) (hf : ∀ b ∈ fp, FpOk X pins H b) (ho : ∀ b ∈ fp, ∃ o, s.heap.get? b = some o /\ ∀ v, o.data ≠ .cell v) : Inv X (pins ++ pinsAt fp s.heap) σ H s :=
 I.pins_of fun p hp => (List.mem_append.mp hp).elim (fun z => I.pin p (List.mem_append_right _ z)) fun z => by
  obtain ⟨hb, e⟩ := of_pinsAt z
  obtain ⟨f0, f1, f2, _⟩ := hf p.1 hb
  obtain ⟨o, e', d⟩ := ho p.1 hb
  rw [e] at e'; cases e'
  exact ⟨e, f0, f1, f2, d⟩
theorem Inv.unpinned {pins pl : List (Addr × Obj)} {σ : St} {H : Hp} {s : Shared} (I : Inv X (pins ++ pl) σ H s) : Inv X pins σ H s := I.pins_of fun p hp => I.pin p (List.mem_append_right _ (List.mem_append_left _ hp))
theorem qO {iter : Expr} {body : List Stmt} {wi : TI} {g : TG} {tb : TS} {pos : Pos} (hp : PassesOwn (model X.prog X.w) X.A X.env X.xe) (hc : X.calm = true) (hi : PI X tg iter wi) (hg : PG X tg g) (hb : PSs X body tb)
  (hs : ∀ x, foldedSetIterable iter X.env x = pure x := by intro _; rfl) : PS X (.For tg iter body [] pos) (tFor wi g tb) := by
 refine ⟨?_⟩
 intro pins s σ H D I h
 refine wpAny_For (thn (hi pins s σ H _ I h) fun v s1 h1 => thn h1 fun itv s2 h2 => ?_) hs
 obtain ⟨it, fp, tn, J, H2, e, I2, T, st2, f2, W, ⟨m0, w0⟩, turn⟩ := h2
 subst e
 have stat : ∀ {H' : Hp}, (∀ b ∈ fp, H' b = none) -> ∀ b ∈ fp, FpOk X pins H' b := fun hn b hb => ⟨hn b hb, (f2 b hb).2⟩
 refine codeAny_forLoop_any (fun n s' => ∃ i σ' H', Inv X pins σ' H' s' /\ tn i s'.heap /\ (∀ b ∈ fp, H' b = none) /\ W i n σ' H') ?_ m0 ⟨0, σ, H2, I2, st2, fun b hb => (f2 b hb).1, w0⟩
 rintro n s3 ⟨i, σ3, H3, I3, st3, fr3, w3⟩
 rcases turn i n σ3 H3 w3 with ⟨stop, qn⟩ | ⟨go, N, hN, step⟩
 ·refine wpAny_passesOwn hp (thn (T.done X rfl rfl rfl hc i pins s3 σ3 H3 X.xe I3 (stat fr3) st3 stop) fun r s4 hzz => ?_)
  obtain ⟨hr, I4⟩ := hzz
  subst hr
  exact wpAny_execs_nil ⟨σ3, H3, I4, qn⟩
 ·refine wpAny_passesOwn hp (thn (T.item X rfl rfl rfl hc i pins s3 σ3 H3 X.xe I3 (stat fr3) st3 go) fun r s4 hzz => ?_)
  obtain ⟨u, hr, h4⟩ := hzz
  subst hr
  refine wpAny_passesOwn hp (thn h4 fun _ s5 hzz => ?_)
  obtain ⟨x, H5, I5, r5, y5, st5, fr5⟩ := hzz
  have I5' := I5.pinned (stat fr5) (T.obj _ _ st5)
  refine wpAny_passesOwn hp (thn (hg _ s5 σ3 H5 x u _ I5' r5 (step x H5 y5)) fun _ s6 hzz => ?_)
  obtain ⟨σ6, H6, I6, q6⟩ := hzz
  refine wpAny_passesOwn hp (thn (hb _ s6 σ6 H6 _ I6 q6) fun f s7 q7 => ?_)
  have again : ∀ {σ7 : St} {H7 : Hp}, Inv X (pins ++ pinsAt fp s5.heap) σ7 H7 s7 -> N σ7 H7 -> ∃ m, m < n /\ ∃ i σ' H', Inv X pins σ' H' s7 /\ tn i s7.heap /\ (∀ b ∈ fp, H' b = none) /\ W i m σ' H' := fun {σ7 H7} I7 n7 => by
   obtain ⟨m', hm, w7⟩ := hN σ7 H7 n7
   refine ⟨m', hm, i + 1, σ7, H7, I7.unpinned, T.keep _ _ _ st5 fun b hb o e => (I7.pin (b, o) (List.mem_append_right _ (List.mem_append_right _ (wW hb e)))).1, fun b hb => ?_, w7⟩
   obtain ⟨o, e, d⟩ := T.obj _ _ st5 b hb
   exact (I7.pin (b, o) (List.mem_append_right _ (List.mem_append_right _ (wW hb e)))).2.1
  cases f with
  | next => obtain ⟨σ7, H7, I7, n7⟩ := q7; exact again I7 n7
  | cont => obtain ⟨σ7, H7, I7, n7⟩ := q7; exact again I7 n7
  | brk => obtain ⟨σ7, H7, I7, q7⟩ := q7; exact ⟨σ7, H7, I7.unpinned, q7⟩
  | ret v => obtain ⟨x7, σ7, H7, I7, r7, q7⟩ := q7; exact ⟨x7, σ7, H7, I7.unpinned, r7, q7⟩
end

theorem for_list {K : PySem.W.Frag} {a : Addr} {xs : List V} {g : TG} {tb : TS} {D : Ends} {σ : St} {H : Hp} (Pv : Nat -> St -> Hp -> Prop) (h0 : Pv 0 σ H) (hl : ∀ i σ H, i <= xs.length -> Pv i σ H -> SqL K H a xs)
  (hs : ∀ i x σ H, xs[i]? = some x -> Pv i σ H -> g x σ H fun σ2 H2 => tb { D with nx := Pv (i + 1), ct := Pv (i + 1), bk := D.nx } σ2 H2) (hd : ∀ σ H, Pv xs.length σ H -> D.nx σ H) :
  ∃ W : Nat -> Nat -> St -> Hp -> Prop, (∃ m, W 0 m σ H) /\ ∀ i m σ H, W i m σ H ->
   ((Itl K a).stop i H /\ D.nx σ H) \/ ((Itl K a).go i H /\ ∃ N : St -> Hp -> Prop, (∀ σ' H', N σ' H' -> ∃ m', m' < m /\ W (i + 1) m' σ' H') /\ ∀ x H', (Itl K a).yld i H x H' -> g x σ H' fun σ2 H2 => tb { D with nx := N, ct := N, bk := D.nx } σ2 H2) := by
 refine ⟨fun i m σ H => m = xs.length - i /\ i <= xs.length /\ Pv i σ H, ⟨xs.length, by simp, Nat.zero_le _, h0⟩, ?_⟩
 rintro i m σ H ⟨rfl, hi, p⟩
 have q := hl i σ H hi p
 by_cases hlt : i < xs.length
 ·refine .inr ⟨⟨xs, xs[i], q, by simp [hlt]⟩, Pv (i + 1), fun σ' H' p' => ⟨xs.length - (i + 1), by (first|lia|omega), rfl, hlt, p'⟩, fun x H' y => ?_⟩
  obtain ⟨e, y⟩ := y
  subst e
  exact hs i x σ _ (y xs q) p
 ·have e : i = xs.length := by (first|lia|omega)
  subst e
  exact .inl ⟨⟨xs, q, Nat.le_refl _⟩, hd σ H p⟩
theorem for_tup {K : PySem.W.Frag} {a : Addr} {xs : List V} {g : TG} {tb : TS} {D : Ends} {σ : St} {H : Hp} (Pv : Nat -> St -> Hp -> Prop) (h0 : Pv 0 σ H) (hl : ∀ i σ H, i <= xs.length -> Pv i σ H -> SqT K H a xs)
  (hs : ∀ i x σ H, xs[i]? = some x -> Pv i σ H -> g x σ H fun σ2 H2 => tb { D with nx := Pv (i + 1), ct := Pv (i + 1), bk := D.nx } σ2 H2) (hd : ∀ σ H, Pv xs.length σ H -> D.nx σ H) :
  ∃ W : Nat -> Nat -> St -> Hp -> Prop, (∃ m, W 0 m σ H) /\ ∀ i m σ H, W i m σ H ->
   ((Itt K a).stop i H /\ D.nx σ H) \/ ((Itt K a).go i H /\ ∃ N : St -> Hp -> Prop, (∀ σ' H', N σ' H' -> ∃ m', m' < m /\ W (i + 1) m' σ' H') /\ ∀ x H', (Itt K a).yld i H x H' -> g x σ H' fun σ2 H2 => tb { D with nx := N, ct := N, bk := D.nx } σ2 H2) := by
 refine ⟨fun i m σ H => m = xs.length - i /\ i <= xs.length /\ Pv i σ H, ⟨xs.length, by simp, Nat.zero_le _, h0⟩, ?_⟩
 rintro i m σ H ⟨rfl, hi, p⟩
 have q := hl i σ H hi p
 by_cases hlt : i < xs.length
 ·refine .inr ⟨⟨xs, xs[i], q, by simp [hlt]⟩, Pv (i + 1), fun σ' H' p' => ⟨xs.length - (i + 1), by (first|lia|omega), rfl, hlt, p'⟩, fun x H' y => ?_⟩
  obtain ⟨e, y⟩ := y
  subst e
  exact hs i x σ _ (y xs q) p
 ·have e : i = xs.length := by (first|lia|omega)
  subst e
  exact .inl ⟨⟨xs, q, Nat.le_refl _⟩, hd σ H p⟩
theorem wO {lo : Int} {n : Nat} {g : TG} {tb : TS} {D : Ends} {σ : St} {H : Hp} (Pv : Nat -> St -> Hp -> Prop) (h0 : Pv 0 σ H)
  (hs : ∀ i σ H, i < n -> Pv i σ H -> g (.int (lo + i)) σ H fun σ2 H2 => tb { D with nx := Pv (i + 1), ct := Pv (i + 1), bk := D.nx } σ2 H2) (hd : ∀ σ H, Pv n σ H -> D.nx σ H) :
  ∃ W : Nat -> Nat -> St -> Hp -> Prop, (∃ m, W 0 m σ H) /\ ∀ i m σ H, W i m σ H ->
   ((Itr lo n).stop i H /\ D.nx σ H) \/ ((Itr lo n).go i H /\ ∃ N : St -> Hp -> Prop, (∀ σ' H', N σ' H' -> ∃ m', m' < m /\ W (i + 1) m' σ' H') /\ ∀ x H', (Itr lo n).yld i H x H' -> g x σ H' fun σ2 H2 => tb { D with nx := N, ct := N, bk := D.nx } σ2 H2) := by
 refine ⟨fun i m σ H => m = n - i /\ i <= n /\ Pv i σ H, ⟨n, by simp, Nat.zero_le _, h0⟩, ?_⟩
 rintro i m σ H ⟨rfl, hi, p⟩
 by_cases hlt : i < n
 ·refine .inr ⟨hlt, Pv (i + 1), fun σ' H' p' => ⟨n - (i + 1), by (first|lia|omega), rfl, hlt, p'⟩, fun x H' y => ?_⟩
  obtain ⟨e, y⟩ := y
  subst e y
  exact hs i σ _ hlt p
 ·have e : i = n := by (first|lia|omega)
  subst e
  exact .inl ⟨Nat.le_refl _, hd σ H p⟩
end L2

namespace L2
open PySem PySem.Spec PyProof.Rows

abbrev R2 := V -> V -> Hp -> VK -> Prop
def OpR (X : Cx) (f : Value -> Value -> Sem Value) (r : R2) : Prop :=
 ∀ (pins : List (Addr × Obj)) (s : Shared) (σ : St) (H : Hp) (x y : V) (v u : Value) (Q : VK), Inv X pins σ H s -> RelV x v -> RelV y u -> r x y H Q ->
  wpAny (model X.prog X.w) X.A (f v u) (EP X pins σ Q) X.xe s
def UnR (X : Cx) (f : Value -> Sem Value) (r : V -> Hp -> VK -> Prop) : Prop :=
 ∀ (pins : List (Addr × Obj)) (s : Shared) (σ : St) (H : Hp) (x : V) (v : Value) (Q : VK), Inv X pins σ H s -> RelV x v -> r x H Q ->
  wpAny (model X.prog X.w) X.A (f v) (EP X pins σ Q) X.xe s
def CallR (X : Cx) (f : Value) (r : List V -> Hp -> VK -> Prop) : Prop :=
 ∀ (pins : List (Addr × Obj)) (s : Shared) (σ : St) (H : Hp) (xs : List V) (us : List Value) (Q : VK), Inv X pins σ H s -> Vals xs us -> r xs H Q ->
  wpAny (model X.prog X.w) X.A (call f us) (EP X pins σ Q) X.xe s
def TruR (X : Cx) (r : V -> Hp -> (Bool -> Hp -> Prop) -> Prop) : Prop :=
 ∀ (pins : List (Addr × Obj)) (s : Shared) (σ : St) (H : Hp) (x : V) (v : Value) (Q : Bool -> Hp -> Prop), Inv X pins σ H s -> RelV x v -> r x H Q ->
  wpAny (model X.prog X.w) X.A (truthy v) (TP X pins σ Q) X.xe s

def tOp (r : R2) (ta tb : TE) : TE := fun σ H Q => ta σ H fun x H1 => tb σ H1 fun y H2 => r x y H2 Q
def tUn (r : V -> Hp -> VK -> Prop) (ta : TE) : TE := fun σ H Q => ta σ H fun x H1 => r x H1 Q
def rI (C : Int -> Int -> Prop) (g : Int -> Int -> V) : R2 := fun x y H Q => ∃ i j, x = .int i /\ y = .int j /\ C i j /\ Q (g i j) H
def rI0 (g : Int -> Int -> V) : R2 := fun x y H Q => ∃ i j, x = .int i /\ y = .int j /\ Q (g i j) H
def rU (g : Int -> V) : V -> Hp -> VK -> Prop := fun x H Q => ∃ i, x = .int i /\ Q (g i) H

section
variable {X : Cx} {a b c : Expr} {ta tb tc : TE} {pos : Pos}

theorem binT (ha : PE X a ta) (hb : PE X b tb) {pins : List (Addr × Obj)} {s : Shared} {σ : St} {H : Hp} {R : V -> V -> Hp -> Prop} (I : Inv X pins σ H s)
  (h : ta σ H fun x H1 => tb σ H1 fun y H2 => R x y H2) {Q : Value -> Shared -> Prop} {f : Value -> Value -> Sem Value}
  (hf : ∀ v u s2 x y H2, Inv X pins σ H2 s2 -> RelV x v -> RelV y u -> R x y H2 -> wpAny (model X.prog X.w) X.A (f v u) Q X.xe s2) :
  wpAny (model X.prog X.w) X.A (eval a X.env) (fun v s₁ => wpAny (model X.prog X.w) X.A (eval b X.env) (fun u s₂ => wpAny (model X.prog X.w) X.A (f v u) Q X.xe s₂) X.xe s₁) X.xe s := by
 refine thn (ha pins s σ H _ I h) fun v s1 hzz => ?_
 obtain ⟨x, H1, I1, r1, q1⟩ := hzz
 refine thn (hb pins s1 σ H1 _ I1 q1) fun u s2 hzz => ?_
 obtain ⟨y, H2, I2, r2, q2⟩ := hzz
 exact hf v u s2 x y H2 I2 r1 r2 q2

theorem zR {op : Operator} {r : R2} (ho : OpR X (binaryOp op) r) (ha : PE X a ta) (hb : PE X b tb) : PE X (.BinOp a op b pos) (tOp r ta tb) := by
 refine ⟨?_⟩
 intro pins s σ H Q I h
 exact wpAny_BinOp (binT ha hb I h fun v u s2 x y H2 I2 rx ry q => ho pins s2 σ H2 x y v u Q I2 rx ry q)
theorem qS {op : UnaryOp} {r : V -> Hp -> VK -> Prop} (ho : UnR X (unaryOp op) r) (ha : PE X a ta) : PE X (.UnaryOp op a pos) (tUn r ta) := by
 refine ⟨?_⟩
 intro pins s σ H Q I h
 exact UnaryOp_ (thn (ha pins s σ H _ I h) fun v s1 ⟨x, H1, I1, r1, q1⟩ => ho pins s1 σ H1 x v Q I1 r1 q1)
theorem opI {f : Value -> Value -> Sem Value} {C : Int -> Int -> Prop} {g : Int -> Int -> Int}
  (rule : ∀ (i j : Int) (t u : Tok) (s : Shared) (Q : Value -> Shared -> Prop) (E : Value -> Shared -> Prop), C i j -> Q (.int (g i j) s.toks) { s with toks := s.toks + 1 } -> wpAny (model X.prog X.w) X.A (f (.int i t) (.int j u)) Q E s) :
  OpR X f (rI C fun i j => .int (g i j)) := by
 intro pins s σ H x y v u Q I rx ry h
 obtain ⟨i, j, rfl, rfl, hc, q⟩ := h
 obtain ⟨t, rfl⟩ := rx
 obtain ⟨t', rfl⟩ := ry
 exact rule i j t t' s _ _ hc ⟨.int (g i j), H, I.tok _, ⟨_, rfl⟩, q⟩
theorem opI0 {f : Value -> Value -> Sem Value} {g : Int -> Int -> Int}
  (rule : ∀ (i j : Int) (t u : Tok) (s : Shared) (Q : Value -> Shared -> Prop) (E : Value -> Shared -> Prop), Q (.int (g i j) s.toks) { s with toks := s.toks + 1 } -> wpAny (model X.prog X.w) X.A (f (.int i t) (.int j u)) Q E s) :
  OpR X f (rI0 fun i j => .int (g i j)) := by
 intro pins s σ H x y v u Q I rx ry h
 obtain ⟨i, j, rfl, rfl, q⟩ := h
 obtain ⟨t, rfl⟩ := rx
 obtain ⟨t', rfl⟩ := ry
 exact rule i j t t' s _ _ ⟨.int (g i j), H, I.tok _, ⟨_, rfl⟩, q⟩
theorem opB0 {f : Value -> Value -> Sem Value} {g : Int -> Int -> Bool}
  (rule : ∀ (i j : Int) (t u : Tok) (s : Shared) (Q : Value -> Shared -> Prop) (E : Value -> Shared -> Prop), Q (.bool (g i j)) s -> wpAny (model X.prog X.w) X.A (f (.int i t) (.int j u)) Q E s) :
  OpR X f (rI0 fun i j => .bl (g i j)) := by
 intro pins s σ H x y v u Q I rx ry h
 obtain ⟨i, j, rfl, rfl, q⟩ := h
 obtain ⟨t, rfl⟩ := rx
 obtain ⟨t', rfl⟩ := ry
 exact rule i j t t' s _ _ ⟨.bl (g i j), H, I, rfl, q⟩

def CPow (i j : Int) : Prop := 0 <= j /\ j <= 1000000 /\ i.natAbs < 2 ^ 64
def CMul (i j : Int) : Prop := (-(2 ^ 64) < i /\ i < 2 ^ 64) \/ (-(2 ^ 64) < j /\ j < 2 ^ 64)
theorem CMul.ok {i j : Int} (h : CMul i j) : IntMulOk i j := by
 rcases h with ⟨h1, h2⟩ | ⟨h1, h2⟩
 ·exact .of_left (intBits_le_64 h1 h2)
 ·exact .of_right (intBits_le_64 h1 h2)
theorem xF : OpR X (binaryOp .Add) (rI0 fun i j => .int (i + j)) := opI0 fun _ _ _ _ _ _ _ q => add_int q
theorem xQ : OpR X (binaryOp .Sub) (rI0 fun i j => .int (i - j)) := opI0 fun _ _ _ _ _ _ _ q => sub_int q
theorem vG : OpR X (binaryOp .Mult) (rI CMul fun i j => .int (i * j)) := opI fun _ _ _ _ _ _ _ hc q => mul_int q hc.ok
theorem wT : OpR X (binaryOp .Mod) (rI (fun _ j => 0 < j) fun i j => .int (i % j)) := opI fun i j _ _ _ _ _ hc q => by
 have h1 : (0 : Int) < j := hc
 exact mod_int' (by (first|lia|omega)) (by rw [Int.fmod_eq_emod_of_nonneg i (by (first|lia|omega))]; exact q)
theorem op_modN : OpR X (binaryOp .Mod) (rI (fun _ j => j ≠ 0) fun i j => .int (i.fmod j)) := opI fun _ _ _ _ _ _ _ hc q => mod_int' hc q
theorem op_pow : OpR X (binaryOp .Pow) (rI CPow fun i j => .int (i ^ j.toNat)) := opI fun _ _ _ _ _ _ _ hc q => pow_int_small hc.1 hc.2.1 hc.2.2 q
theorem unI {f : Value -> Sem Value} {g : Int -> Int}
  (rule : ∀ (i : Int) (t : Tok) (s : Shared) (Q : Value -> Shared -> Prop) (E : Value -> Shared -> Prop), Q (.int (g i) s.toks) { s with toks := s.toks + 1 } -> wpAny (model X.prog X.w) X.A (f (.int i t)) Q E s) :
  UnR X f (rU fun i => .int (g i)) := by
 intro pins s σ H x v Q I rx h
 obtain ⟨i, rfl, q⟩ := h
 obtain ⟨t, rfl⟩ := rx
 exact rule i t s _ _ ⟨.int (g i), H, I.tok _, ⟨_, rfl⟩, q⟩
theorem jM : UnR X (unaryOp .USub) (rU fun i => .int (-i)) := unI fun _ _ _ _ _ q => neg_int q
end

def scal : V -> V -> Bool
 | .non, .non => true | .non, .int _ => true | .int _, .non => true | .non, .bl _ => true | .bl _, .non => true | .non, .str _ => true | .str _, .non => true
 | .int _, .int _ => true | .bl _, .bl _ => true | .str _, .str _ => true | .byt _, .byt _ => true
 | .int _, .str _ => true | .str _, .int _ => true | .bl _, .str _ => true | .str _, .bl _ => true
 | _, _ => false
def rEq : R2 := fun x y H Q => scal x y = true /\ Q (.bl (decide (x = y))) H
def rNe : R2 := fun x y H Q => scal x y = true /\ Q (.bl (!decide (x = y))) H

theorem dec_int {i j : Int} : decide (V.int i = V.int j) = (i == j) := by
 rw [Bool.eq_iff_iff]
 simp
 exact ⟨fun h => by injection h, fun h => by rw [h]⟩
theorem dec_bl {i j : Bool} : decide (V.bl i = V.bl j) = (i == j) := by
 rw [Bool.eq_iff_iff]
 simp
 exact ⟨fun h => by injection h, fun h => by rw [h]⟩
theorem dec_str {i j : Str} : decide (V.str i = V.str j) = (i == j) := by
 rw [Bool.eq_iff_iff]
 simp
 exact ⟨fun h => by injection h, fun h => by rw [h]⟩
theorem dec_byt {i j : Array UInt8} : decide (V.byt i = V.byt j) = (i.toList == j.toList) := by
 rw [Bool.eq_iff_iff]
 cases i
 cases j
 simp
 exact ⟨fun h => by injection h with h; injection h, fun h => by rw [h]⟩

section
variable {X : Cx} {a b c : Expr} {ta tb tc : TE} {pos : Pos}
theorem yQ {pins : List (Addr × Obj)} {σ : St} {H : Hp} {s : Shared} {Q : VK} {k k' : Bool} (I : Inv X pins σ H s) (q : Q (.bl k) H) (e : k = k') : EP X pins σ Q (.bool k') s := by
 subst e
 exact ⟨.bl k, H, I, rfl, q⟩
theorem yJ : OpR X (compareOp .Eq) rEq := by
 intro pins s σ H x y v u Q I rx ry h
 obtain ⟨hs, q⟩ := h
 cases x with
 | non =>
  cases rx
  cases y with
  | non => cases ry; exact PySem.EqNone.eq_none_none (yQ I q (by simp))
  | bl j => cases ry; exact PySem.EqNone.eq_none_bool (yQ I q (by simp))
  | int j => obtain ⟨t', rfl⟩ := ry; exact PySem.EqNone.eq_none_int (yQ I q (by simp))
  | str j => obtain ⟨t', rfl⟩ := ry; exact PySem.EqNone.eq_none_str (yQ I q (by simp))
  | _ => exact absurd (show false = true from hs) Bool.false_ne_true
 | bl i =>
  cases rx
  cases y with
  | non => cases ry; exact PySem.EqNone.eq_bool_none (yQ I q (by simp))
  | bl j => cases ry; exact eq_bool (yQ I q dec_bl)
  | str j => obtain ⟨t', rfl⟩ := ry; exact PySem.EqMixed.eq_bool_str (yQ I q (by simp))
  | _ => exact absurd (show false = true from hs) Bool.false_ne_true
 | int i =>
  obtain ⟨t, rfl⟩ := rx
  cases y with
  | non => cases ry; exact PySem.EqNone.eq_int_none (yQ I q (by simp))
  | int j => obtain ⟨t', rfl⟩ := ry; exact eq_int (yQ I q dec_int)
  | str j => obtain ⟨t', rfl⟩ := ry; exact PySem.EqMixed.eq_int_str (yQ I q (by simp))
  | _ => exact absurd (show false = true from hs) Bool.false_ne_true
 | str i =>
  obtain ⟨t, rfl⟩ := rx
  cases y with
  | non => cases ry; exact PySem.EqNone.eq_str_none (yQ I q (by simp))
  | bl j => cases ry; exact PySem.EqMixed.eq_str_bool (yQ I q (by simp))
  | int j => obtain ⟨t', rfl⟩ := ry; exact PySem.EqMixed.eq_str_int (yQ I q (by simp))
  | str j => obtain ⟨t', rfl⟩ := ry; exact eq_str (yQ I q dec_str)
  | _ => exact absurd (show false = true from hs) Bool.false_ne_true
 | byt i =>
  obtain ⟨t, rfl⟩ := rx
  cases y with
  | byt j => obtain ⟨t', rfl⟩ := ry; exact PySem.W.eq_bytes (yQ I q dec_byt)
  | _ => exact absurd (show false = true from hs) Bool.false_ne_true
 | _ => cases y <;> exact absurd (show false = true from hs) Bool.false_ne_true
theorem op_ne : OpR X (compareOp .NotEq) rNe := by
 intro pins s σ H x y v u Q I rx ry h
 obtain ⟨hs, q⟩ := h
 cases x with
 | non =>
  cases rx
  cases y with
  | non => cases ry; exact PySem.EqNone.ne_none_none (yQ I q (by simp))
  | bl j => cases ry; exact PySem.EqNone.ne_none_bool (yQ I q (by simp))
  | int j => obtain ⟨t', rfl⟩ := ry; exact PySem.EqNone.ne_none_int (yQ I q (by simp))
  | str j => obtain ⟨t', rfl⟩ := ry; exact PySem.EqNone.ne_none_str (yQ I q (by simp))
  | _ => exact absurd (show false = true from hs) Bool.false_ne_true
 | bl i =>
  cases rx
  cases y with
  | non => cases ry; exact PySem.EqNone.ne_bool_none (yQ I q (by simp))
  | bl j => cases ry; exact ne_bool (yQ I q (congrArg not dec_bl))
  | str j => obtain ⟨t', rfl⟩ := ry; exact PySem.EqMixed.ne_bool_str (yQ I q (by simp))
  | _ => exact absurd (show false = true from hs) Bool.false_ne_true
 | int i =>
  obtain ⟨t, rfl⟩ := rx
  cases y with
  | non => cases ry; exact PySem.EqNone.ne_int_none (yQ I q (by simp))
  | int j => obtain ⟨t', rfl⟩ := ry; exact ne_int (yQ I q (congrArg not dec_int))
  | str j => obtain ⟨t', rfl⟩ := ry; exact PySem.EqMixed.ne_int_str (yQ I q (by simp))
  | _ => exact absurd (show false = true from hs) Bool.false_ne_true
 | str i =>
  obtain ⟨t, rfl⟩ := rx
  cases y with
  | non => cases ry; exact PySem.EqNone.ne_str_none (yQ I q (by simp))
  | bl j => cases ry; exact PySem.EqMixed.ne_str_bool (yQ I q (by simp))
  | int j => obtain ⟨t', rfl⟩ := ry; exact PySem.EqMixed.ne_str_int (yQ I q (by simp))
  | str j => obtain ⟨t', rfl⟩ := ry; exact ne_str (yQ I q (congrArg not dec_str))
  | _ => exact absurd (show false = true from hs) Bool.false_ne_true
 | byt i =>
  obtain ⟨t, rfl⟩ := rx
  cases y with
  | byt j => obtain ⟨t', rfl⟩ := ry; exact PySem.W.ne_bytes (yQ I q (congrArg not dec_byt))
  | _ => exact absurd (show false = true from hs) Bool.false_ne_true
 | _ => cases y <;> exact absurd (show false = true from hs) Bool.false_ne_true

theorem kO : OpR X (compareOp .Lt) (rI0 fun i j => .bl (decide (i < j))) := opB0 fun _ _ _ _ _ _ _ q => lt_int q
theorem qU : OpR X (compareOp .LtE) (rI0 fun i j => .bl (decide (i <= j))) := opB0 fun _ _ _ _ _ _ _ q => le_int q
theorem op_gt : OpR X (compareOp .Gt) (rI0 fun i j => .bl (decide (j < i))) := opB0 fun _ _ _ _ _ _ _ q => gt_int q
theorem op_ge : OpR X (compareOp .GtE) (rI0 fun i j => .bl (decide (j <= i))) := opB0 fun _ _ _ _ _ _ _ q => ge_int q
theorem op_isN : OpR X (compareOp .Is) (fun x y H Q => y = .non /\ Q (.bl (decide (x = .non))) H) := by
 intro pins s σ H x y v u Q I rx ry h
 obtain ⟨rfl, q⟩ := h
 cases ry
 refine is_none_gen (yQ I q ?_)
 cases x <;> first
  | (cases rx; rfl)
  | (obtain ⟨t, rfl⟩ := rx; rfl)
theorem op_notN : OpR X (compareOp .IsNot) (fun x y H Q => y = .non /\ Q (.bl (!decide (x = .non))) H) := by
 intro pins s σ H x y v u Q I rx ry h
 obtain ⟨rfl, q⟩ := h
 cases ry
 refine isnot_none_gen (yQ I q ?_)
 cases x <;> first
  | (cases rx; rfl)
  | (obtain ⟨t, rfl⟩ := rx; rfl)

theorem nomark (b : Expr) {op : CmpOp} (h : op ≠ .In := by decide) (h2 : op ≠ .NotIn := by decide) : behindInMarks op b = false := by
 have e1 : (op == CmpOp.In) = false := by cases op <;> first | rfl | exact absurd rfl h
 have e2 : (op == CmpOp.NotIn) = false := by cases op <;> first | rfl | exact absurd rfl h2
 cases b <;> simp [behindInMarks, e1, e2]
theorem kU {op : CmpOp} {r : R2} (ho : OpR X (compareOp op) r) (ha : PE X a ta) (hb : PE X b tb) (hm : behindInMarks op b = false) : PE X (.Compare a [op] [b] pos) (tOp r ta tb) := by
 refine ⟨?_⟩
 intro pins s σ H Q I h
 exact wpAny_Compare1 (binT ha hb I h fun v u s2 x y H2 I2 rx ry q => ho pins s2 σ H2 x y v u Q I2 rx ry q) hm
def tTest (t : TE) : TT := fun σ H Q => t σ H fun x H' => ∃ k, x = .bl k /\ Q k H'
theorem zI {op : CmpOp} {r : R2} (ho : OpR X (compareOp op) r) (ha : PE X a ta) (hb : PE X b tb) (hm : behindInMarks op b = false) : PT X (.Compare a [op] [b] pos) (tTest (tOp r ta tb)) := by
 refine ⟨?_⟩
 intro pins s σ H Q I h
 refine wpAny_isTrue_Compare1 (thn (ha pins s σ H _ I h) fun v s1 ⟨x, H1, I1, r1, q1⟩ => thn (hb pins s1 σ H1 _ I1 q1) fun u s2 ⟨y, H2, I2, r2, q2⟩ =>
  thn (ho pins s2 σ H2 x y v u _ I2 r1 r2 q2) fun c s3 ⟨z, H3, I3, r3, k, e, q3⟩ => ?_) hm
 subst e
 cases r3
 exact wpAny_truthy_bool ⟨H3, I3, q3⟩
def tChain (r r' : R2) (ta tb tc : TE) : TE := fun σ H Q => ta σ H fun x H1 => tb σ H1 fun y H2 => r x y H2 fun z H3 => ∃ k, z = .bl k /\
 (if k = true then tc σ H3 fun w' H4 => r' y w' H4 Q else Q (.bl false) H3)
theorem qQ {op op' : CmpOp} {r r' : R2} (ho : OpR X (compareOp op) r) (ho' : OpR X (compareOp op') r') (ha : PE X a ta) (hb : PE X b tb) (hc : PE X c tc)
  (hm : lastMarks [op, op'] [b, c] = false := by with_unfolding_all rfl) : PE X (.Compare a [op, op'] [b, c] pos) (tChain r r' ta tb tc) := by
 refine ⟨?_⟩
 intro pins s σ H Q I h
 refine Compare_chain (thn (ha pins s σ H _ I h) fun v s1 ⟨x, H1, I1, r1, q1⟩ => chain_link (thn (hb pins s1 σ H1 _ I1 q1) fun u s2 ⟨y, H2, I2, r2, q2⟩ =>
  thn (ho pins s2 σ H2 x y v u _ I2 r1 r2 q2) fun d s3 ⟨z, H3, I3, r3, k, e, q3⟩ => ?_)) hm
 subst e
 cases r3
 refine wpAny_truthy_bool ?_
 cases k with
 | false => exact ite_ff ⟨.bl false, H3, I3, rfl, q3⟩
 | true => exact ite_tt (chain_last (thn (hc pins s3 σ H3 _ I3 q3) fun w' s4 ⟨z', H4, I4, r4, q4⟩ => ho' pins s4 σ H4 y z' u w' Q I4 r2 r4 q4))
theorem pt_chain {op op' : CmpOp} {r r' : R2} (ho : OpR X (compareOp op) r) (ho' : OpR X (compareOp op') r') (ha : PE X a ta) (hb : PE X b tb) (hc : PE X c tc)
  (hm : lastMarks [op, op'] [b, c] = false := by with_unfolding_all rfl) : PT X (.Compare a [op, op'] [b, c] pos) (tTest (tChain r r' ta tb tc)) := by
 refine ⟨?_⟩
 intro pins s σ H Q I h
 refine isTrue_chain (thn (ha pins s σ H _ I h) fun v s1 ⟨x, H1, I1, r1, q1⟩ => test_link (thn (hb pins s1 σ H1 _ I1 q1) fun u s2 ⟨y, H2, I2, r2, q2⟩ =>
  thn (ho pins s2 σ H2 x y v u _ I2 r1 r2 q2) fun d s3 ⟨z, H3, I3, r3, k, e, q3⟩ => ?_)) hm
 subst e
 cases r3
 refine wpAny_truthy_bool ?_
 cases k with
 | false =>
  obtain ⟨k', e', q'⟩ := q3
  cases e'
  exact ite_ff ⟨H3, I3, q'⟩
 | true =>
  refine ite_tt (test_last (thn (hc pins s3 σ H3 _ I3 q3) fun w' s4 ⟨z', H4, I4, r4, q4⟩ => thn (ho' pins s4 σ H4 y z' u w' _ I4 r2 r4 q4) fun d' s5 hzz => ?_))
  obtain ⟨z2, H5, I5, r5, k2, e2, q5⟩ := hzz
  subst e2
  cases r5
  exact wpAny_truthy_bool ⟨H5, I5, q5⟩

def TruV (K : PySem.W.Frag) (x : V) (H : Hp) (k : Bool) : Prop :=
 match x with
 | .non => k = false
 | .bl b => k = b
 | .int i => k = (i != 0)
 | .str y => y.length <= sizeLine /\ k = ((y.length : Int) != 0)
 | .byt y => y.size <= sizeLine /\ k = ((y.size : Int) != 0)
 | .ref p => (∃ xs, SqL K H p xs /\ k = !xs.isEmpty) \/ (∃ xs, SqT K H p xs /\ k = !xs.isEmpty) \/ ∃ kvs, H p = some (.dK kvs) /\ k = !kvs.isEmpty
 | _ => False
theorem isEmpty_kv {κ : Type} {kvs : List (κ × V)} {vs : List (κ × Value)} (r : KV kvs vs) : (!vs.isEmpty) = !kvs.isEmpty := by
 cases r <;> rfl
theorem isEmpty_of {xs : List V} {its : List Value} (r : Vals xs its) : (!its.toArray.isEmpty) = !xs.isEmpty := by
 cases r <;> simp
theorem line63 : (sizeLine : Nat) < 2 ^ 63 := by rw [sizeLine_eq]; decide
theorem tru_ok : TruR X (fun x H Q => ∃ k, TruV X.K x H k /\ Q k H) := by
 intro pins s σ H x v Q I rx h
 obtain ⟨k, e, q⟩ := h
 have hl := line63
 have hs : sizeLine = 16777216 := sizeLine_eq
 cases x with
 | non =>
  cases rx
  have e' : k = false := e
  subst e'
  exact truthy_none ⟨H, I, q⟩
 | bl b =>
  cases rx
  have e' : k = b := e
  subst e'
  exact wpAny_truthy_bool ⟨H, I, q⟩
 | int i =>
  obtain ⟨t, rfl⟩ := rx
  have e' : k = (i != 0) := e
  subst e'
  exact PySem.P.truthy_int ⟨H, I, q⟩
 | str y =>
  obtain ⟨t, rfl⟩ := rx
  obtain ⟨hy, e'⟩ : y.length <= sizeLine /\ k = ((y.length : Int) != 0) := e
  subst e'
  exact PySem.P.truthy_str (by (first|lia|omega)) ⟨H, I.tok _, q⟩
 | byt y =>
  obtain ⟨t, rfl⟩ := rx
  obtain ⟨hy, e'⟩ : y.size <= sizeLine /\ k = ((y.size : Int) != 0) := e
  subst e'
  exact PySem.W.truthy_bytes (by (first|lia|omega)) ⟨H, I.tok _, q⟩
 | ref p =>
  cases rx
  have e' : (∃ xs, SqL X.K H p xs /\ k = !xs.isEmpty) \/ (∃ xs, SqT X.K H p xs /\ k = !xs.isEmpty) \/ ∃ kvs, H p = some (.dK kvs) /\ k = !kvs.isEmpty := e
  rcases e' with ⟨xs, hx, e'⟩ | ⟨xs, hx, e'⟩ | ⟨kvs, hx, e'⟩
  ·subst e'
   obtain ⟨its, r, pl, hz⟩ := I.list hx
   have hlen := r.length
   exact wpAny_truthy_list pl.isList (by simp only [List.size_toArray]; (first|lia|omega)) ⟨H, I.tok _, by rw [isEmpty_of r]; exact q⟩
  ·subst e'
   obtain ⟨its, r, pl, hz⟩ := I.tuple hx
   have hlen := r.length
   exact truthy_tuple pl (by simp only [List.size_toArray]; (first|lia|omega)) ⟨H, I.tok _, by rw [isEmpty_of r]; exact q⟩
  ·subst e'
   obtain ⟨hz, hS, vs, r, m⟩ : kvs.length <= sizeLine /\ (p == sysModules) = false /\ ∃ vs, KV kvs vs /\ s.heap.DictOf (mixKind X.prog X.w) p vs := I.hok p _ hx
   have hlen : kvs.length = vs.length := Paired.length r
   exact wpAny_truthy_dict hS m (by (first|lia|omega)) ⟨H, I.tok _, by rw [isEmpty_kv r]; exact q⟩
 | _ => exact (show False from e).elim
theorem pt_truth (ha : PE X a ta) (he : ∀ whole, isTrue a X.env whole = (do let v <- whole; standAt a.pos; holding [v] (truthy v))) :
  PT X a (fun σ H Q => ta σ H fun x H' => ∃ k, TruV X.K x H' k /\ Q k H') := by
 refine ⟨?_⟩
 intro pins s σ H Q I h
 exact isTrue_plain (thn (ha pins s σ H _ I h) fun v s1 ⟨x, H1, I1, r1, q1⟩ => tru_ok pins s1 σ H1 x v Q I1 r1 q1) (he _)

theorem vals1 {x : V} {us : List Value} (r : Vals [x] us) : ∃ u, us = [u] /\ RelV x u := by
 cases r with
 | cons r1 r2 => cases r2; exact ⟨_, rfl, r1⟩
theorem vals2 {x y : V} {us : List Value} (r : Vals [x, y] us) : ∃ u w', us = [u, w'] /\ RelV x u /\ RelV y w' := by
 cases r with
 | cons r1 r2 =>
  cases r2 with
  | cons r3 r4 => cases r4; exact ⟨_, _, rfl, r1, r3⟩
theorem call_max2 (hc : X.calm = true) : CallR X (.builtin "max") (fun xs H Q => ∃ i j, xs = [.int i, .int j] /\ Q (.int (if j > i then j else i)) H) := by
 intro pins s σ H xs us Q I r h
 obtain ⟨i, j, rfl, q⟩ := h
 obtain ⟨u, w', rfl, ⟨t, rfl⟩, ⟨t', rfl⟩⟩ := vals2 r
 refine max_two_ints (I.ok.hd hc) fun h' tk k => ⟨_, H, I.kept k, ?_, q⟩
 by_cases hj : j > i
 ·rw [if_pos hj, if_pos hj]; exact ⟨_, rfl⟩
 ·rw [if_neg hj, if_neg hj]; exact ⟨_, rfl⟩
theorem call_int1 : CallR X (.type "int") (fun xs H Q => (∃ i, xs = [.int i] /\ Q (.int i) H) \/ ∃ k, xs = [.bl k] /\ Q (.int (if k then 1 else 0)) H) := by
 intro pins s σ H xs us Q I r h
 rcases h with ⟨i, rfl, q⟩ | ⟨k, rfl, q⟩
 ·obtain ⟨u, rfl, t, rfl⟩ := vals1 r
  exact call_int_int ⟨.int i, H, I, ⟨_, rfl⟩, q⟩
 ·obtain ⟨u, rfl, r1⟩ := vals1 r
  cases r1
  exact call_int_bool ⟨.int (if k then 1 else 0), H, I.tok _, ⟨_, rfl⟩, q⟩
end
end L2

namespace L2
open PySem PySem.Spec PyProof.Rows

structure ObjM (h : Heap) (x dx C : Addr) (mA : Str -> Option Value) : Prop where
 obj : h.get? x = some (PySem.W.instObj C dx)
 ns : h.Ns1 dx mA
 ne : dx ≠ x

theorem lookIn_ns {h : Heap} {dx : Addr} {mA : Str -> Option Value} (n : h.Ns1 dx mA) : ∃ od, h.get? dx = some od /\ ∀ name, PySem.W.lookIn name od = some (mA name) := by
 obtain ⟨o, es, ep, ho, hd, hk, _, hm⟩ := n
 refine ⟨o, ho, fun name => ?_⟩
 have e := hm name
 unfold nsFind findBy at e
 rw [<- Array.find?_toList] at e
 unfold PySem.W.lookIn
 rw [hd]
 dsimp only
 split
 ·rename_i y q
  rw [q] at e
  exact congrArg some e
 ·rename_i q
  rw [q] at e
  have a : es.toList.any (·.refKey) = false := by
   rw [List.any_eq_false]
   intro y hy
   obtain ⟨z, t, hkey⟩ := hk y (Array.mem_toList_iff.mp hy)
   simp [DictEntry.refKey, hkey]
  have a' : ¬ es.toList.any (·.refKey) = true := by rw [a]; exact Bool.false_ne_true
  rw [if_neg a']
  exact congrArg some e

theorem ObjM.look {h : Heap} {x dx C : Addr} {mA : Str -> Option Value} (I : ObjM h x dx C mA) : ∃ od, PySem.W.InstAt h x (PySem.W.instObj C dx) C (some od) /\ ∀ name, PySem.W.lookIn name od = some (mA name) :=
 let ⟨od, ho, hl⟩ := lookIn_ns I.ns
 ⟨od, ⟨I.obj, rfl, rfl, ho⟩, hl⟩

section
variable {prog : Program} {w : World} {A : Around} {E : Value -> Shared -> Prop} {s : Shared} {K : PySem.W.Frag} {x dx C f : Addr} {mA : Str -> Option Value} {name : Str} {v : Value}

theorem get_map {expr : Bool} {Q : Value -> Shared -> Prop} (X : K.In s.heap) (I : ObjM s.heap x dx C mA) (hg : PySem.W.plainGet K C name = true) (hh : PySem.W.hasDictIn K C = true)
  (ha : PySem.W.findIn K (.ref C) name = some none) (hv : mA name = some v) (hv' : PySem.W.handedIn v = true) (h : Q v { s with toks := s.toks + 1 }) :
  wpAny (model prog w) A (getAttr (.ref x) name expr) Q E s := by
 obtain ⟨od, J, hl⟩ := I.look
 exact PySem.W.get_value X J (PySem.W.plainGet_of hg).1 (PySem.W.findObj_own hh ha rfl (by rw [hl, hv])) hv' h

theorem get_meth {pl : Sem Bool} {Q : Value × List Value -> Shared -> Prop} (X : K.In s.heap) (I : ObjM s.heap x dx C mA) (hg : PySem.W.plainGet K C name = true)
  (hf : PySem.W.findIn K (.ref C) name = some (some (.ref f))) (ht : PySem.W.isFn K (.ref f) = true) (hv : mA name = none) (h : Q (.ref f, [.ref x]) s) :
  wpAny (model prog w) A (getMethod (.ref x) name pl) Q E s := by
 obtain ⟨od, J, hl⟩ := I.look
 exact PySem.W.method_fn X J (PySem.W.plainGet_of hg).1 (PySem.W.plainGet_of hg).2 hf (beq_iff_eq.mp ht) (by show (PySem.W.lookIn name od).map (·.isSome) = some false; rw [hl, hv]; rfl) h

theorem set_map {ns : List Str} {Q : Unit -> Shared -> Prop} (X : K.In s.heap) (I : ObjM s.heap x dx C mA)
  (hs : PySem.W.findIn K (.ref C) "__setattr__" = some (some (.builtin "object.__setattr__"))) (hp : PySem.W.plainOver K C = true) (ht : PySem.W.takerIn K C name = some none) (hh : PySem.W.hasDictIn K C = true)
  (hw : PySem.Within mA ns) (hsz : ns.length <= sizeLine)
  (h : ∀ h', ObjM h' x dx C (fun y => if y = name then some v else mA y) -> Heap.SameBut dx s.heap h' -> Q () { s with heap := h', toks := s.toks + 2 }) :
  wpAny (model prog w) A (setAttr (.ref x) name v) Q E s := by
 obtain ⟨od, J, hl⟩ := I.look
 refine PySem.W.set_plain X J hs (PySem.W.osa_open (s := { s with toks := s.toks + 1 }) (r := none) X J hp ht fun b => ?_)
 obtain ⟨cd, hc, hd'⟩ := PySem.W.any_some hh
 have hx : s.heap.get? x = some ⟨.ref C, some dx, .plain, #[]⟩ := I.obj
 refine wpAny_bind (wpAny_pure (wpAny_bind (wpAny_bind (wpAny_loadPart hx (wpAny_bind (PySem.W.Looks.here (s := { s with toks := s.toks + 1 }) (PySem.W.looks_clsIn X hc) ?_))))))
 rw [hd']
 refine wpAny_pure (a := some dx) (wpAny_bind (wpAny_pure (wpAny_bind ?_)))
 refine wpAny_nsSet1 (s := { s with toks := s.toks + 1 }) I.ns fun h' hn2 hs2 => ?_
 obtain ⟨oD, esD, epD, hoD, hdD, hcD⟩ := hn2.count (PySem.Within.cons name v hw)
 refine wpAny_bind (wpAny_lookBehind hoD (by rw [hdD]; exact pastItsLine_dict (Nat.le_trans hcD (by rw [List.length_cons]; (first|lia|omega)))) ?_)
 exact wpAny_pure (h _ ⟨(hs2.2 _ (Ne.symm I.ne)).trans I.obj, hn2, I.ne⟩ hs2)

theorem make_map {R : Result -> Shared -> Prop} {vs : List Value} {kw : List (Str × Value)} (X : K.In s.heap) (hm : PySem.W.makesIn K C = true)
  (hi : PySem.W.findIn K (.ref C) "__init__" = some (some (.ref f))) (hf : PySem.W.typeIn K (.ref f) = some (.type "function"))
  (h : codeAny (model prog w) (A.under (.builtin "type.__call__" ⟨.ref C :: vs, kw⟩)) (.call (.ref f) ⟨.ref (s.heap.objs.size + 1) :: vs, kw⟩) (PySem.W.InitBack (s.heap.objs.size + 1) R)
   { s with heap := (s.heap.push PySem.W.emptyDict).push (PySem.W.instObj C s.heap.objs.size) }) :
  codeAny (model prog w) A (.call (.ref C) ⟨vs, kw⟩) R s := by
 obtain ⟨hh, g, d, t, os⟩ := s
 exact PySem.W.make_core (PySem.W.makes_of X hm) (PySem.W.looks_findIn X hi) (fun self => PySem.W.bind_fn X self hf) (.inl rfl) h
end

def putF (f : Str) (v : V) : List (Str × V) -> List (Str × V)
 | [] => [(f, v)]
 | (g, x) :: r => if g = f then (g, v) :: r else (g, x) :: putF f v r
theorem lookup_putF (f g : Str) (v : V) : ∀ fs : List (Str × V), (putF f v fs).lookup g = if g = f then some v else fs.lookup g
 | [] => by
  show List.lookup g [(f, v)] = _
  by_cases h : g = f
  ·have hb : (g == f) = true := beq_iff_eq.mpr h
   simp only [List.lookup, hb, if_pos h]
  ·have hb : (g == f) = false := beq_eq_false_iff_ne.mpr h
   simp only [List.lookup, hb, if_neg h]
 | (k, x) :: r => by
  have ih := lookup_putF f g v r
  rw [show putF f v ((k, x) :: r) = (if k = f then (k, v) :: r else (k, x) :: putF f v r) from rfl]
  by_cases hk : k = f
  ·rw [if_pos hk]
   by_cases h : g = k
   ·have hb : (g == k) = true := beq_iff_eq.mpr h
    simp only [List.lookup, hb, if_pos (h.trans hk)]
   ·have hb : (g == k) = false := beq_eq_false_iff_ne.mpr h
    simp only [List.lookup, hb, if_neg (fun e : g = f => h (e.trans hk.symm))]
  ·rw [if_neg hk]
   by_cases h : g = k
   ·have hb : (g == k) = true := beq_iff_eq.mpr h
    simp only [List.lookup, hb, if_neg (fun e : g = f => hk (h.symm.trans e))]
   ·have hb : (g == k) = false := beq_eq_false_iff_ne.mpr h
    simp only [List.lookup, hb]
    exact ih
theorem wL (f : Str) (v : V) : ∀ fs : List (Str × V), f ∈ (putF f v fs).map (·.1) /\ ∀ g, g ∈ fs.map (·.1) -> g ∈ (putF f v fs).map (·.1)
 | [] => ⟨by simp [putF], fun g h => by simp at h⟩
 | (k, x) :: r => by
  obtain ⟨i1, i2⟩ := wL f v r
  rw [show putF f v ((k, x) :: r) = (if k = f then (k, v) :: r else (k, x) :: putF f v r) from rfl]
  by_cases hk : k = f
  ·rw [if_pos hk]
   subst hk
   exact ⟨by simp, fun g h => by simpa using h⟩
  ·rw [if_neg hk]
   refine ⟨?_, fun g h => ?_⟩
   ·rw [List.map_cons]
    exact List.mem_cons_of_mem _ i1
   ·rw [List.map_cons] at h ⊢
    rcases List.mem_cons.mp h with e | e
    ·exact List.mem_cons.mpr (.inl e)
    ·exact List.mem_cons_of_mem _ (i2 g e)
theorem length_putF (f : Str) (v : V) : ∀ fs : List (Str × V), (putF f v fs).length <= fs.length + 1
 | [] => by simp [putF]
 | (k, x) :: r => by
  have ih := length_putF f v r
  rw [show putF f v ((k, x) :: r) = (if k = f then (k, v) :: r else (k, x) :: putF f v r) from rfl]
  by_cases hk : k = f
  ·rw [if_pos hk, List.length_cons, List.length_cons]; (first|lia|omega)
  ·rw [if_neg hk, List.length_cons, List.length_cons]; (first|lia|omega)

theorem RelO.some_of {v : V} {o : Option Value} (r : RelO (some v) o) : ∃ u, o = some u /\ RelV v u := by
 cases o with
 | none => exact (show False from r).elim
 | some u => exact ⟨u, rfl, r⟩
theorem RelO.none_of {o : Option Value} (r : RelO none o) : o = none := by
 cases o with
 | none => rfl
 | some u => exact (show False from r).elim
theorem handed_of {v : V} {u : Value} (r : RelV v u) : PySem.W.handedIn u = true := by
 cases v with
 | non => cases (show u = Value.none from r); rfl
 | bl b => cases (show u = Value.bool b from r); rfl
 | int i => obtain ⟨t, e⟩ := (show ∃ t, u = Value.int i t from r); cases e; rfl
 | str x => obtain ⟨t, e⟩ := (show ∃ t, u = Value.str x t from r); cases e; rfl
 | byt b => obtain ⟨t, e⟩ := (show ∃ t, u = Value.bytes b t from r); cases e; rfl
 | flt b => obtain ⟨t, e⟩ := (show ∃ t, u = Value.float b t from r); cases e; rfl
 | ref a => cases (show u = Value.ref a from r); rfl
 | ty n => cases (show u = Value.type n from r); rfl

section
variable {P : Program} {w : World} {H H' : Hp} {h h' : Heap} {a C dx : Addr} {fs fs' : List (Str × V)}
theorem ins_get (hok : HOk P w H h) (e : H a = some (.ins C dx fs)) : ∃ mA, ObjM h a dx C mA /\ (∀ f, RelO (fs.lookup f) (mA f)) /\ PySem.Within mA (fs.map (·.1)) /\ fs.length <= 1000 /\ H dx = some (.own a) := by
 obtain ⟨d, z, ne, ob, mA, n, r, q⟩ := (show ObjOk P w H h a (.ins C dx fs) from hok a _ e)
 exact ⟨mA, ⟨ob, n, ne⟩, r, q, z, d⟩
end

structure Cls (K : PySem.W.Frag) (C : Addr) : Prop where
 pg : PySem.W.plainGet K C Str.empty = true
 hd : PySem.W.hasDictIn K C = true
 po : PySem.W.plainOver K C = true
 sa : PySem.W.findIn K (.ref C) "__setattr__" = some (some (.builtin "object.__setattr__"))
theorem Cls.get {K : PySem.W.Frag} {C : Addr} (c : Cls K C) (f : Str) : PySem.W.plainGet K C f = true := c.pg
def NoAttr (K : PySem.W.Frag) (C : Addr) (f : Str) : Prop := PySem.W.findIn K (.ref C) f = some none
theorem NoAttr.taker {K : PySem.W.Frag} {C : Addr} {f : Str} (n : NoAttr K C f) : PySem.W.takerIn K C f = some none := by
 unfold PySem.W.takerIn
 rw [show PySem.W.findIn K (.ref C) f = some none from n]
 rfl
structure Meth (K : PySem.W.Frag) (C : Addr) (m : Str) (f : Addr) : Prop where
 at_ : PySem.W.findIn K (.ref C) m = some (some (.ref f))
 fn : PySem.W.isFn K (.ref f) = true
 kp : PySem.W.keepIn K (.ref f) = true

section
variable {X : Cx} {pins : List (Addr × Obj)} {σ : St} {H : Hp} {s : Shared} {a C dx : Addr} {fs : List (Str × V)} {f : Str} {v : V} {A : Around} {E : Value -> Shared -> Prop}

theorem getattr_ok {b : Bool} {Q : Value -> Shared -> Prop} (I : Inv X pins σ H s) (e : H a = some (.ins C dx fs)) (c : Cls X.K C) (n : NoAttr X.K C f) (l : fs.lookup f = some v)
  (h : ∀ u s', Inv X pins σ H s' -> RelV v u -> Q u s') : wpAny (model X.prog X.w) A (getAttr (.ref a) f b) Q E s := by
 obtain ⟨mA, O, r, _, _, _⟩ := ins_get I.hok e
 obtain ⟨u, hu, ru⟩ := RelO.some_of (v := v) (o := mA f) (by rw [<- l]; exact r f)
 exact get_map I.kIn O (c.get f) c.hd n hu (handed_of ru) (h u _ (I.tok _) ru)

theorem getmeth_ok {m : Str} {g : Addr} {pl : Sem Bool} {Q : Value × List Value -> Shared -> Prop} (I : Inv X pins σ H s) (e : H a = some (.ins C dx fs)) (c : Cls X.K C) (k : Meth X.K C m g) (l : fs.lookup m = none)
  (h : Q (.ref g, [.ref a]) s) : wpAny (model X.prog X.w) A (getMethod (.ref a) m pl) Q E s := by
 obtain ⟨mA, O, r, _, _, _⟩ := ins_get I.hok e
 have hn : mA m = none := RelO.none_of (by rw [<- l]; exact r m)
 exact get_meth I.kIn O (c.get m) k.at_ k.fn hn h

theorem setattr_ok {y : V} {u : Value} {Q : Unit -> Shared -> Prop} (I : Inv X pins σ H s) (e : H a = some (.ins C dx fs)) (c : Cls X.K C) (n : NoAttr X.K C f) (hl : fs.length < 1000) (ry : RelV y u)
  (h : ∀ s', Inv X pins σ (upd H a (.ins C dx (putF f y fs))) s' -> Q () s') : wpAny (model X.prog X.w) A (setAttr (.ref a) f u) Q E s := by
 obtain ⟨mA, O, r, wi, _, ho⟩ := ins_get I.hok e
 have hz : (fs.map (·.1)).length <= sizeLine := by rw [List.length_map, sizeLine_eq]; (first|lia|omega)
 refine set_map I.kIn O c.sa c.po n.taker c.hd wi hz fun h' O' sb => h _ ?_
 have hd : ∃ o, h'.get? dx = some o := let ⟨o, _, _, e', _⟩ := O'.ns; ⟨o, e'⟩
 refine I.write (x := a) (e := dx) (by rw [e]; exact True.intro) (.inr ho) (fun b q hb z => (sb.2 b hb).trans z) hd ?_
 refine ⟨by rw [zJ O.ne]; exact ho, ?_, O.ne, O'.obj, _, O'.ns, fun g => ?_, fun g hg => ?_⟩
 ·have := length_putF f y fs; (first|lia|omega)
 ·show RelO ((putF f y fs).lookup g) (if g = f then some u else mA g)
  rw [lookup_putF]
  by_cases q : g = f
  ·rw [if_pos q, if_pos q]; exact ry
  ·rw [if_neg q, if_neg q]; exact r g
 ·by_cases q : g = f
  ·rw [q]; exact (wL f y fs).1
  ·refine (wL f y fs).2 g (wi g fun z => hg ?_)
   show (if g = f then some u else mA g) = none
   rw [if_neg q]; exact z

theorem Inv.made (I : Inv X pins σ H s) : Inv X pins σ (upd (upd H s.heap.objs.size (.own (s.heap.objs.size + 1))) (s.heap.objs.size + 1) (.ins C s.heap.objs.size []))
  { s with heap := (s.heap.push PySem.W.emptyDict).push (PySem.W.instObj C s.heap.objs.size) } := by
 have e1 : (s.heap.push PySem.W.emptyDict).get? s.heap.objs.size = some PySem.W.emptyDict := Heap.get?_push_size s.heap rfl
 have e2 : ((s.heap.push PySem.W.emptyDict).push (PySem.W.instObj C s.heap.objs.size)).get? (s.heap.objs.size + 1) = some (PySem.W.instObj C s.heap.objs.size) := by
  have := Heap.get?_push_size (s.heap.push PySem.W.emptyDict) (o := PySem.W.instObj C s.heap.objs.size) rfl
  rwa [Heap.size_push] at this
 have e3 : (s.heap.push PySem.W.emptyDict).Ns s.heap.objs.size (fun _ => none) := ⟨PySem.W.emptyDict, #[], _, e1, rfl, (fun e he => absurd he (by simp)), fun _ => rfl⟩
 have I1 := I.laid (a := s.heap.objs.size) (o := .own (s.heap.objs.size + 1)) (h' := s.heap.push PySem.W.emptyDict) (t' := s.toks) (fun b u q => Heap.get?_push_of_some _ q) (Nat.le_refl _) ⟨_, e1⟩
 refine I1.laid (a := s.heap.objs.size + 1) (o := .ins C s.heap.objs.size []) (t' := s.toks) (fun b u q => Heap.get?_push_of_some _ q) (Nat.le_of_eq (Heap.size_push _ _)) ?_
 have ne : s.heap.objs.size ≠ s.heap.objs.size + 1 := Nat.ne_of_lt (Nat.lt_succ_self _)
 refine ⟨by rw [zJ ne, zB], Nat.zero_le _, ne, e2, fun _ => none, (Heap.Ns1.of_empty e3).at fun o q => Heap.get?_push_of_some _ q, fun _ => True.intro, fun y hy => absurd rfl hy⟩

theorem attr_of {prog : Program} {w : World} {env : Env} {e : Expr} {f : Str} {pos : Pos} {s : Shared} {Q : Value -> Shared -> Prop} (hb : attributeBase e f env (eval e env) = eval e env)
  (h : wpAny (model prog w) A (eval e env) (fun o s₁ => wpAny (model prog w) A (getAttr o f true) Q E s₁) E s) : wpAny (model prog w) A (eval (.Attribute e f pos) env) Q E s :=
 Attribute_any_ h (by rw [arm_eval_Attribute, hb])
end

def tFld (K : PySem.W.Frag) (ta : TE) (f : Str) : TE := fun σ H Q => ta σ H fun x H1 => ∃ a C dx fs v, x = .ref a /\ H1 a = some (.ins C dx fs) /\ Cls K C /\ NoAttr K C f /\ fs.lookup f = some v /\ Q v H1
def sFld (K : PySem.W.Frag) (ta tv : TE) (f : Str) : TS := fun D σ H => tv σ H fun y H1 => ta σ H1 fun x H2 => ∃ a C dx fs, x = .ref a /\ H2 a = some (.ins C dx fs) /\ Cls K C /\ NoAttr K C f /\ fs.length < 1000 /\
 D.nx σ (upd H2 a (.ins C dx (putF f y fs)))
def InOp (X : Cx) (op : Operator) (rd : V -> V -> Hp -> VK -> Prop) : Prop :=
 ∀ (pins : List (Addr × Obj)) (s : Shared) (σ : St) (H : Hp) (x y : V) (u v : Value) (Q : VK), Inv X pins σ H s -> RelV x u -> RelV y v -> rd x y H Q -> wpAny (model X.prog X.w) X.A (inplaceOp op u v) (EP X pins σ Q) X.xe s
def sFldAug (K : PySem.W.Frag) (ta tv : TE) (rd : V -> V -> Hp -> VK -> Prop) (f : Str) : TS := fun D σ H => ta σ H fun x H1 => ∃ a C dx fs v, x = .ref a /\ H1 a = some (.ins C dx fs) /\ Cls K C /\ NoAttr K C f /\ fs.lookup f = some v /\
 tv σ H1 fun y H2 => rd v y H2 fun z H3 => ∃ dx' fs', H3 a = some (.ins C dx' fs') /\ fs'.length < 1000 /\ D.nx σ (upd H3 a (.ins C dx' (putF f z fs')))

section
variable {X : Cx} {o e value : Expr} {f : Str} {pos pos' tpos : Pos} {ta tv : TE}
theorem yP (he : PE X e ta) (hb : attributeBase e f X.env (eval e X.env) = eval e X.env) : PE X (.Attribute e f pos) (tFld X.K ta f) := by
 refine ⟨?_⟩
 intro pins s σ H Q I h
 refine attr_of hb (thn (he pins s σ H _ I h) fun u s1 hzz => ?_)
 obtain ⟨x, H1, I1, rx, a, C, dx, fs, v, ex, ea, c, n, l, q⟩ := hzz
 subst ex
 obtain rfl : u = Value.ref a := rx
 exact getattr_ok I1 ea c n l fun u' s2 I2 ru => ⟨v, H1, I2, ru, q⟩
theorem xJ (ha : PE X o ta) (hv : PE X value tv) (hs : swapsWith value (some (.Attribute o f pos')) pos.line X.env = pure false) : PS X (.Assign [.Attribute o f pos'] value pos) (sFld X.K ta tv f) := by
 refine ⟨?_⟩
 intro pins s σ H D I h
 refine plainObj_wpAny_Assign_Attribute (thn (hv pins s σ H _ I h) fun u s1 ⟨y, H1, I1, ry, q⟩ => thn (ha pins s1 σ H1 _ I1 q) fun ov s2 ⟨x, H2, I2, rx, a, C, dx, fs, ex, ea, c, n, l, q2⟩ => ?_) hs
 subst ex
 obtain rfl : ov = Value.ref a := rx
 exact setattr_ok I2 ea c n l ry fun s3 I3 => ⟨σ, _, I3, q2⟩
theorem ps_fldaug {op : Operator} {rd : V -> V -> Hp -> VK -> Prop} (ha : PE X o ta) (hv : PE X value tv) (hop : InOp X op rd) : PS X (.AugAssign (.Attribute o f tpos) op value pos) (sFldAug X.K ta tv rd f) := by
 refine ⟨?_⟩
 intro pins s σ H D I h
 refine wpAny_AugAssign_AttributeAny (thn (ha pins s σ H _ I h) fun ov s1 hzz => ?_)
 obtain ⟨x, H1, I1, rx, a, C, dx, fs, v, ex, ea, c, n, l, q⟩ := hzz
 subst ex
 obtain rfl : ov = Value.ref a := rx
 refine getattr_ok I1 ea c n l fun u s2 I2 ru => thn (hv pins s2 σ H1 _ I2 q) fun w3 s3 ⟨y, H2, I3, ry, q3⟩ => thn (hop pins s3 σ H2 v y u w3 _ I3 ru ry q3) fun w4 s4 hzz => ?_
 obtain ⟨z, H3, I4, rz, dx', fs', ea', l', q4⟩ := hzz
 exact setattr_ok I4 ea' c n l' rz fun s5 I5 => ⟨σ, _, I5, q4⟩
def rAdd : V -> V -> Hp -> VK -> Prop := fun x y H Q => ∃ i j, x = .int i /\ y = .int j /\ Q (.int (i + j)) H
def rSub : V -> V -> Hp -> VK -> Prop := fun x y H Q => ∃ i j, x = .int i /\ y = .int j /\ Q (.int (i - j)) H
theorem in_add : InOp X .Add rAdd := by
 rintro pins s σ H x y u v Q I rx ry ⟨i, j, rfl, rfl, q⟩
 obtain ⟨t, rfl⟩ := (show ∃ t, u = Value.int i t from rx)
 obtain ⟨t', rfl⟩ := (show ∃ t', v = Value.int j t' from ry)
 exact PyProof.Rows.iadd_int ⟨.int (i + j), H, I.tok _, ⟨_, rfl⟩, q⟩
theorem in_sub : InOp X .Sub rSub := by
 rintro pins s σ H x y u v Q I rx ry ⟨i, j, rfl, rfl, q⟩
 obtain ⟨t, rfl⟩ := (show ∃ t, u = Value.int i t from rx)
 obtain ⟨t', rfl⟩ := (show ∃ t', v = Value.int j t' from ry)
 exact PyProof.Rows.isub_int ⟨.int (i - j), H, I.tok _, ⟨_, rfl⟩, q⟩

end

section
variable {X : Cx} {pins : List (Addr × Obj)} {σ : St} {H : Hp} {s : Shared} {A : Around} {E : Value -> Shared -> Prop} {Q : Value -> Shared -> Prop} {c : Value} {b : Bool}
inductive TyOf (K : PySem.W.Frag) (H : Hp) : V -> Value -> Prop where
 | non : TyOf K H .non (.type "NoneType")
 | bl (x : Bool) : TyOf K H (.bl x) (.type "bool")
 | int (i : Int) : TyOf K H (.int i) (.type "int")
 | str (x : Str) : TyOf K H (.str x) (.type "str")
 | flt (x : UInt64) : TyOf K H (.flt x) (.type "float")
 | lst {a : Addr} {xs : List V} (e : H a = some (.lst xs)) : TyOf K H (.ref a) (.type "list")
 | frz {a : Addr} {o : Obj} {xs : List V} (e : H a = some (.frz o (.lst xs))) : TyOf K H (.ref a) (.type "list")
 | tup {a : Addr} {xs : List V} (e : H a = some (.tup xs)) : TyOf K H (.ref a) (.type "tuple")
 | dK {a : Addr} {kvs : List (Key × V)} (e : H a = some (.dK kvs)) : TyOf K H (.ref a) (.type "dict")
 | dT {a : Addr} {kvs : List (List Key × V)} (e : H a = some (.dT kvs)) : TyOf K H (.ref a) (.type "dict")
 | ins {a C dx : Addr} {fs : List (Str × V)} (e : H a = some (.ins C dx fs)) (cl : Cls K C) (ha : PySem.W.findIn K (.ref C) "__class__" = some (some (.builtin "object.__class__")))
   (hn : PySem.W.specialIn K (.builtin "object.__class__") "__get__" = some (some (.builtin "getset_descriptor.__get__"))) (htk : PySem.W.takesIn K (.builtin "object.__class__") = some true)
   (hm : PySem.W.mroIn K C (.type "object") = some true) : TyOf K H (.ref a) (.ref C)
theorem isinst_ok {x : V} {u t : Value} (I : Inv X pins σ H s) (rx : RelV x u) (ty : TyOf X.K H x t) (e : PySem.W.kitOne X.K t c = some b) (h : ∀ tk, Q (.bool b) { s with toks := tk }) :
  wpAny (model X.prog X.w) A (call (.builtin "isinstance") [u, c]) Q E s := by
 cases ty with
 | non => cases (show u = Value.none from rx); exact PySem.W.kia_one PySem.W.kitx_none I.kIn True.intro e (fun z => nomatch z) h
 | bl y => cases (show u = Value.bool y from rx); exact PySem.W.kia_one PySem.W.kitx_bool I.kIn True.intro e (fun z => nomatch z) h
 | int i => obtain ⟨t, q⟩ := (show ∃ t, u = Value.int i t from rx); cases q; exact PySem.W.kia_one PySem.W.kitx_int I.kIn True.intro e (fun z => nomatch z) h
 | str y => obtain ⟨t, q⟩ := (show ∃ t, u = Value.str y t from rx); cases q; exact PySem.W.kia_one PySem.W.kitx_str I.kIn True.intro e (fun z => nomatch z) h
 | flt y => obtain ⟨t, q⟩ := (show ∃ t, u = Value.float y t from rx); cases q; exact PySem.W.kia_one PySem.W.kitx_float I.kIn True.intro e (fun z => nomatch z) h
 | @lst a xs ea =>
  cases (show u = Value.ref a from rx)
  obtain ⟨_, _, n, _, h1⟩ := (show ObjOk X.prog X.w H s.heap a (.lst xs) from I.hok a _ ea)
  exact PySem.W.kia_one PySem.W.kitx_list I.kIn ⟨_, h1, rfl⟩ e (fun z => nomatch z) h
 | @frz a ob xs ea =>
  cases (show u = Value.ref a from rx)
  obtain ⟨_, _, _, n, _, h1⟩ := (show ObjOk X.prog X.w H s.heap a (.frz ob (.lst xs)) from I.hok a _ ea)
  exact PySem.W.kia_one PySem.W.kitx_list I.kIn ⟨_, h1, rfl⟩ e (fun z => nomatch z) h
 | @tup a xs ea =>
  cases (show u = Value.ref a from rx)
  obtain ⟨_, _, _, p⟩ := (show ObjOk X.prog X.w H s.heap a (.tup xs) from I.hok a _ ea)
  obtain ⟨o, h1, h2, _⟩ := p
  exact PySem.W.kia_one PySem.W.kitx_tuple I.kIn ⟨o, h1, h2⟩ e (fun z => nomatch z) h
 | @dK a kvs ea =>
  cases (show u = Value.ref a from rx)
  obtain ⟨_, _, vs, _, p⟩ := (show ObjOk X.prog X.w H s.heap a (.dK kvs) from I.hok a _ ea)
  obtain ⟨o, es, ep, h1, h2, _⟩ := p
  exact PySem.W.kia_one PySem.W.kitx_dict I.kIn ⟨o, h1, h2.1⟩ e (fun z => nomatch z) h
 | @dT a kvs ea =>
  cases (show u = Value.ref a from rx)
  obtain ⟨_, _, xs, _, o, es, ep, h1, h2, _⟩ := (show ObjOk X.prog X.w H s.heap a (.dT kvs) from I.hok a _ ea)
  exact PySem.W.kia_one PySem.W.kitx_dict I.kIn ⟨o, h1, h2.1⟩ e (fun z => nomatch z) h
 | @ins a C dx fs ea cl ha hn htk hm =>
  cases (show u = Value.ref a from rx)
  obtain ⟨mA, O, _⟩ := ins_get I.hok ea
  obtain ⟨od, J, _⟩ := O.look
  exact PySem.W.kia_one (PySem.W.kitx_own (cl.get _) cl.hd ha hn htk hm) I.kIn J e (fun z => nomatch z) h
end
end L2

namespace L2
open PySem PySem.Spec PyProof.Rows

structure Room (k : Nat) (A : Around) : Prop where
 hd : A.handled = none
 dp : A.depth + 3 * k + 5 < recursionLimit
 un : A.units + 16 * k + 200 < cLine
theorem Room.mono {j k : Nat} {A : Around} (r : Room k A) (h : j <= k) : Room j A := ⟨r.hd, by have := r.dp; (first|lia|omega), by have := r.un; (first|lia|omega)⟩
theorem Room.deeper {k : Nat} {A : Around} (r : Room (k + 1) A) (env : Env) : Room k (A.deeper env) :=
 ⟨r.hd, by have := r.dp; show A.depth + 1 + 3 * k + 5 < _; (first|lia|omega), by have := r.un; show A.units + 3 + 16 * k + 200 < _; (first|lia|omega)⟩
theorem make_depth {A : Around} {C : Addr} {us : List Value} {kw : List (Str × Value)} : (A.under (.builtin "type.__call__" ⟨.ref C :: us, kw⟩)).depth = A.depth + 1 := by
 first | rfl | simp [Around.under, Code.weight, Code.isCreation, Code.isGuard, Code.isCaller, Code.frames, Code.isFrame, guardIds]
theorem make_units {A : Around} {C : Addr} {us : List Value} {kw : List (Str × Value)} : (A.under (.builtin "type.__call__" ⟨.ref C :: us, kw⟩)).units = A.units + 1 := by
 first | rfl | simp [Around.under, Code.cUnits, Code.frames, Code.isFrame]
theorem Room.make {k : Nat} {A : Around} (r : Room (k + 1) A) (C : Addr) (us : List Value) (kw : List (Str × Value)) : Room k (A.under (.builtin "type.__call__" ⟨.ref C :: us, kw⟩)) :=
 ⟨r.hd, by have := r.dp; rw [make_depth]; (first|lia|omega), by have := r.un; rw [make_units]; (first|lia|omega)⟩
theorem Room.depth {k : Nat} {A : Around} (r : Room k A) : A.depth < recursionLimit := by have := r.dp; (first|lia|omega)
def tNil : TA := fun _ H Q => Q [] H
def tCons (ta : TE) (tr : TA) : TA := fun σ H Q => ta σ H fun x H1 => tr σ H1 fun xs H2 => Q (x :: xs) H2
section
variable {X : Cx} {e : Expr} {es : List Expr} {te : TE} {t : TA} {pos : Pos}
theorem zC : PA X [] tNil := ⟨fun _ _ _ _ H Q I h => Calls.spliced_nil ⟨[], H, I, .nil, h⟩⟩
theorem zA (ha : PE X e te) (hr : PA X es t) (hs : starEach (e :: es) X.env = (false, eval e X.env) :: starEach es X.env := by rfl) : PA X (e :: es) (tCons te t) := by
 refine ⟨?_⟩
 intro pos pins s σ H Q I h
 rw [hs]
 show wpAny _ _ (spliced ((false, eval e X.env) :: backTo pos (starEach es X.env))) _ _ s
 refine Calls.spliced_cons (thn (ha pins s σ H _ I h) fun u s1 hzz => ?_)
 obtain ⟨x, H1, I1, r1, q1⟩ := hzz
 exact thn (hr pos pins s1 σ H1 _ I1 q1) fun us s2 ⟨xs, H2, I2, r2, q2⟩ => ⟨x :: xs, H2, I2, .cons r1 r2, q2⟩

def tTup (t : TA) : TE := fun σ H Q => t σ H fun xs H1 => xs.length <= sizeLine /\ ∀ p, H1 p = none -> Q (.ref p) (upd H1 p (.tup xs))
def tLst (t : TA) : TE := fun σ H Q => t σ H fun xs H1 => xs.length <= sizeLine /\ ∀ p, H1 p = none -> Q (.ref p) (upd H1 p (.lst xs))
theorem zM {x1} (h : PA X es t) : PE X (.Tuple es x1 pos) (tTup t) := by
 refine ⟨?_⟩
 intro pins s σ H Q I hq
 refine wpAny_Tuple_spliced (thn (h pos pins s σ H _ I hq) fun us s1 ⟨xs, H1, I1, r, z, q⟩ => ⟨by rw [<- r.length]; exact z, ?_⟩)
 have hf : H1 s1.heap.objs.size = none := I1.hok.fresh (Nat.le_refl _)
 refine ⟨.ref s1.heap.objs.size, upd H1 s1.heap.objs.size (.tup xs), I1.laid (t' := s1.toks) (fun b u e => Heap.get?_push_of_some _ e) (Nat.le_refl _) ?_, rfl, q _ hf⟩
 exact ⟨z, us, r, ⟨_, Heap.get?_push_size _ rfl, rfl, _, rfl⟩⟩
theorem zV (h : PA X es t) : PE X (.List es pos) (tLst t) := by
 refine ⟨?_⟩
 intro pins s σ H Q I hq
 refine wpAny_List_spliced (thn (h pos pins s σ H _ I hq) fun us s1 ⟨xs, H1, I1, r, z, q⟩ => ⟨by rw [<- r.length]; exact z, ?_⟩)
 have hf : H1 s1.heap.objs.size = none := I1.hok.fresh (Nat.le_refl _)
 refine ⟨.ref s1.heap.objs.size, upd H1 s1.heap.objs.size (.lst xs), I1.laid (t' := s1.toks) (fun b u e => Heap.get?_push_of_some _ e) (Nat.le_refl _) ?_, rfl, q _ hf⟩
 exact ⟨z, us, 0, r, Heap.get?_push_size _ rfl⟩
end

abbrev Sp := List V -> Hp -> VK -> XK -> Prop
abbrev CXT := List Env -> Hp -> Shared -> XK -> Value -> Shared -> Prop

structure Env0 (P : Program) (w : World) (K : PySem.W.Frag) (mg : Str -> Option Value) (base : Heap) (A : Around) (outer : List Env) (s : Shared) (H : Hp) : Prop where
 frames : A.frames = some outer
 mod : Mod K mg base
 bs : ∀ b o, base.get? b = some o -> s.heap.get? b = some o /\ H b = none
 bsz : base.objs.size <= s.heap.objs.size
 funs : s.heap.FunFrames base outer
 frf : ∀ b ∈ frs outer, H b = none
 hok : HOk P w H s.heap
 bare : AllBare s.gens
def CE (outer : List Env) (P : Program) (w : World) (H : Hp) (s : Shared) (Q : VK) (u : Value) (s' : Shared) : Prop :=
 ∃ v H', s'.os = s.os /\ AllBare s'.gens /\ Un (frs outer) [] H H' s.heap s'.heap /\ HOk P w H' s'.heap /\ RelV v u /\ Q v H'
def CR (CX : CXT) (outer : List Env) (P : Program) (w : World) (H : Hp) (s : Shared) (Q : VK) (E : XK) (r : Result) (s' : Shared) : Prop :=
 match r with
 | .ok (.ret u) => CE outer P w H s Q u s'
 | .ok _ => False
 | .error e => CX outer H s E e s'
structure FnOk (P : Program) (w : World) (K : PySem.W.Frag) (mg : Str -> Option Value) (base : Heap) (CX : CXT) (k : Nat) (f : Addr) (fd : FuncData) (ps : List Str) (sp : Sp) : Prop where
 len : ∀ vs H Q E, sp vs H Q E -> vs.length = ps.length
 run : ∀ (A : Around) (outer : List Env) (s : Shared) (H : Hp) (args : Args) (us : List Value) (vs : List V) (Q : VK) (E : XK), Room k A -> Env0 P w K mg base A outer s H -> BindsTo s fd args (ps.zip us) -> Vals vs us -> sp vs H Q E ->
  codeAny (model P w) A (.call (.ref f) args) (CR CX outer P w H s Q E) s
theorem FnOk.imp {P : Program} {w : World} {K : PySem.W.Frag} {mg : Str -> Option Value} {base : Heap} {CX : CXT} {k : Nat} {f : Addr} {fd : FuncData} {ps : List Str} {sp sp' : Sp} (F : FnOk P w K mg base CX k f fd ps sp)
  (h : ∀ vs H Q E, sp' vs H Q E -> sp vs H Q E) : FnOk P w K mg base CX k f fd ps sp' :=
 ⟨fun vs H Q E q => F.len vs H Q E (h _ _ _ _ q), fun A outer s H args us vs Q E hr he hb hv hs => F.run A outer s H args us vs Q E hr he hb hv (h _ _ _ _ hs)⟩

theorem Env0.make {P : Program} {w : World} {K : PySem.W.Frag} {mg : Str -> Option Value} {base : Heap} {A : Around} {outer : List Env} {s : Shared} {H : Hp} (e : Env0 P w K mg base A outer s H) (C : Addr) (us : List Value) (kw : List (Str × Value)) :
  Env0 P w K mg base (A.under (.builtin "type.__call__" ⟨.ref C :: us, kw⟩)) outer s H := ⟨by first | exact e.frames | (simpa [Around.under, Code.envs, Code.isFrame, pushEnvs] using e.frames), e.mod, e.bs, e.bsz, e.funs, e.frf, e.hok, e.bare⟩
section
variable {X : Cx} {pins : List (Addr × Obj)} {σ : St} {H : Hp} {s s' : Shared}
theorem Inv.env0 (I : Inv X pins σ H s) : Env0 X.prog X.w X.K X.mg X.base X.A X.stack s H :=
 ⟨I.ok.frames, I.ok.mod, I.bs, Nat.le_trans I.ok.bsz I.sz, I.stack, I.stkFree, I.hok, I.bare⟩
theorem Inv.after {Q : VK} {u : Value} (I : Inv X pins σ H s) (h : CE X.stack X.prog X.w H s Q u s') : EP X pins σ Q u s' := by
 obtain ⟨v, H', os, bare, un, hok, r, q⟩ := h
 obtain ⟨hh, g, d, t, os'⟩ := s'
 obtain rfl : os' = s.os := os
 exact ⟨v, H', I.call (h' := hh) (g' := g) (d' := d) (t' := t) (ch := []) un hok bare (fun b z => absurd z (by simp)), r, q⟩
end

def tCall (sp : Sp) (dvs : List V) (E : XK) (t : TA) : TE := fun σ H Q => t σ H fun vs H1 => sp (vs ++ dvs) H1 Q E
def tMeth (C : Addr) (m : Str) (sp : Sp) (dvs : List V) (E : XK) (ta : TE) (t : TA) : TE := fun σ H Q => ta σ H fun x H1 => ∃ a dx fs, x = .ref a /\ H1 a = some (.ins C dx fs) /\ fs.lookup m = none /\
 t σ H1 fun vs H2 => sp (x :: (vs ++ dvs)) H2 Q E
def tMake (C : Addr) (sp : Sp) (dvs : List V) (E : XK) (t : TA) : TE := fun σ H Q => t σ H fun vs H1 => ∀ x dx, H1 x = none -> H1 dx = none -> dx ≠ x ->
 sp (.ref x :: (vs ++ dvs)) (upd (upd H1 dx (.own x)) x (.ins C dx [])) (fun v H2 => v = .non /\ Q (.ref x) H2) E

def Binds (K : PySem.W.Frag) (fd : FuncData) (ps : List Str) (ds : List Value) : Prop :=
 ∀ (s : Shared) (us : List Value), K.In s.heap -> (us ++ ds).length = ps.length -> BindsTo s fd ⟨us, []⟩ (ps.zip (us ++ ds))
theorem Binds.all {K : PySem.W.Frag} {fd : FuncData} {ps : List Str} (h : ∀ us : List Value, us.length = ps.length -> bindArgs fd ⟨us, []⟩ = pure (ps.zip us)) : Binds K fd ps [] := fun s us _ hl => by
 rw [List.append_nil] at hl ⊢
 exact .of_eq (h us hl)

def Passes (CX : CXT) (X : Cx) (E : XK) : Prop := ∀ (pins : List (Addr × Obj)) (σ : St) (H : Hp) (s : Shared) (e : Value) (s' : Shared), Inv X pins σ H s -> CX X.stack H s E e s' -> X.xe e s'

section
variable {X : Cx} {CX : CXT} {k : Nat} {f C : Addr} {fd : FuncData} {ps : List Str} {sp : Sp} {dvs : List V} {ds : List Value} {E : XK} {x m : Str} {p pos apos : Pos} {e o : Expr} {es : List Expr} {ta : TE} {t : TA}

theorem run_fn {pins : List (Addr × Obj)} {σ : St} {H : Hp} {s : Shared} {Q : VK} {us : List Value} {vs : List V} (F : FnOk X.prog X.w X.K X.mg X.base CX k f fd ps sp) (hr : Room k X.A) (hb : Binds X.K fd ps ds) (hd : Vals dvs ds) (hx : Passes CX X E)
  (I : Inv X pins σ H s) (r : Vals vs us) (h : sp (vs ++ dvs) H Q E) : wpAny (model X.prog X.w) X.A (call (.ref f) us) (EP X pins σ Q) X.xe s := by
 have r2 : Vals (vs ++ dvs) (us ++ ds) := r.append hd
 have hl : (us ++ ds).length = ps.length := by rw [<- r2.length]; exact F.len _ _ _ _ h
 refine wpAny_call (codeAny_mono (F.run X.A X.stack s H ⟨us, []⟩ (us ++ ds) (vs ++ dvs) Q E hr I.env0 (hb s us I.kIn hl) r2 h) fun r s' hq => ?_)
 cases r with
 | error e => exact hx pins σ H s e s' I hq
 | ok fl =>
  cases fl with
  | ret u => exact I.after hq
  | next => exact False.elim hq
  | brk => exact False.elim hq
  | cont => exact False.elim hq

theorem pe_call (F : FnOk X.prog X.w X.K X.mg X.base CX k f fd ps sp) (hr : Room k X.A) (hg : Gl X x) (hm : X.mg x = some (.ref f)) (hk : PySem.W.keepIn X.K (.ref f) = true) (hb : Binds X.K fd ps ds) (hd : Vals dvs ds) (hx : Passes CX X E)
  (ha : PA X (e :: es) t) (hdb : (x == ("__debug__" : Str)) = false := by decide) (he : starEach (e :: es) X.env = (false, eval e X.env) :: starEach es X.env := by rfl) (hpl : (backTo pos (starEach es X.env)).any (·.1) = false := by rfl) :
  PE X (.Call (.Name x p) (e :: es) [] pos) (tCall sp dvs E t) := by
 refine ⟨?_⟩
 intro pins s σ H Q I h
 refine wpAny_Call_Name_kw (qV I hg hm ?_ hdb)
 refine PySem.W.callWith_K (h₀ := X.base) I.ok.mod.kin hk (thn (ha pos pins s σ H _ I h) fun us s1 ⟨vs, H1, I1, r, q⟩ => ⟨I1.kIn, ?_⟩) he hpl
 exact run_fn F hr hb hd hx I1 r q
theorem pe_meth0 {pl : Sem Bool} (he : PE X o ta) (c : Cls X.K C) (hm : Meth X.K C m f) (F : FnOk X.prog X.w X.K X.mg X.base CX k f fd ps sp) (hr : Room k X.A) (hb : Binds X.K fd ps ds) (hd : Vals dvs ds) (hx : Passes CX X E)
  (ht : eval (.Call (.Attribute o m apos) [] [] pos) X.env = (do
   let ov <- eval o X.env
   standAt apos.atName
   let (f, first) <- holding [ov] (getMethod ov m pl)
   callWith pos f first (backTo pos (starEach [] X.env)) (backToKw pos (keywordEach [] X.env))) := by rfl) :
  PE X (.Call (.Attribute o m apos) [] [] pos) (tMeth C m sp dvs E ta tNil) := by
 refine ⟨?_⟩
 intro pins s σ H Q I h
 refine PySem.W.methodCall_KW (pl := pl) (thn (he pins s σ H _ I h) fun u s1 ⟨x, H1, I1, rx, a, dx, fs, ex, ea, l, q⟩ => ?_) ht
 subst ex
 obtain rfl : u = Value.ref a := rx
 refine getmeth_ok I1 ea c hm l ?_
 exact PySem.W.callWith_K0 (first := [.ref a]) I1.kIn hm.kp (run_fn (us := [.ref a]) (vs := [.ref a]) F hr hb hd hx I1 (.cons rfl .nil) q)

structure Mk (K : PySem.W.Frag) (C f : Addr) : Prop where
 makes : PySem.W.makesIn K C = true
 init : PySem.W.findIn K (.ref C) "__init__" = some (some (.ref f))
 fn : PySem.W.isFn K (.ref f) = true
 kp : PySem.W.keepIn K (.ref C) = true

theorem run_make {pins : List (Addr × Obj)} {σ : St} {H : Hp} {s : Shared} {Q : VK} {us : List Value} {vs : List V} (M : Mk X.K C f) (F : FnOk X.prog X.w X.K X.mg X.base CX k f fd ps sp) (hr : Room (k + 1) X.A) (hb : Binds X.K fd ps ds) (hd : Vals dvs ds)
  (hx : Passes CX X E) (I : Inv X pins σ H s) (r : Vals vs us)
  (h : ∀ x dx, H x = none -> H dx = none -> dx ≠ x -> sp (.ref x :: (vs ++ dvs)) (upd (upd H dx (.own x)) x (.ins C dx [])) (fun v H2 => v = .non /\ Q (.ref x) H2) E) :
  wpAny (model X.prog X.w) X.A (call (.ref C) us) (EP X pins σ Q) X.xe s := by
 have hq := h (s.heap.objs.size + 1) s.heap.objs.size (I.hok.fresh (Nat.le_succ _)) (I.hok.fresh (Nat.le_refl _)) (Nat.ne_of_lt (Nat.lt_succ_self _))
 have I2 := Inv.made (C := C) I
 have r2 : Vals (V.ref (s.heap.objs.size + 1) :: (vs ++ dvs)) (Value.ref (s.heap.objs.size + 1) :: (us ++ ds)) := .cons rfl (r.append hd)
 have hl : (Value.ref (s.heap.objs.size + 1) :: us ++ ds).length = ps.length := by
  have e := r2.length
  rw [F.len _ _ _ _ hq] at e
  exact e.symm
 refine wpAny_call (make_map (f := f) I.kIn M.makes M.init (beq_iff_eq.mp M.fn) (codeAny_mono (F.run _ X.stack _ _ ⟨Value.ref (s.heap.objs.size + 1) :: us, []⟩ (Value.ref (s.heap.objs.size + 1) :: (us ++ ds)) _ _ E (hr.make C us [])
  (I2.env0.make C us []) (hb _ (Value.ref (s.heap.objs.size + 1) :: us) I2.kIn hl) r2 hq) fun r s' hq' => ?_))
 cases r with
 | error e => exact hx pins σ _ _ e s' I2 hq'
 | ok fl =>
  cases fl with
  | ret u =>
   obtain ⟨v, H', I3, rv, ev, q3⟩ := I2.after hq'
   subst ev
   exact ⟨rv, ⟨V.ref (s.heap.objs.size + 1), H', I3, rfl, q3⟩⟩
  | next => exact False.elim hq'
  | brk => exact False.elim hq'
  | cont => exact False.elim hq'
theorem pe_make (M : Mk X.K C f) (F : FnOk X.prog X.w X.K X.mg X.base CX k f fd ps sp) (hr : Room (k + 1) X.A) (hg : Gl X x) (hm : X.mg x = some (.ref C)) (hb : Binds X.K fd ps ds) (hd : Vals dvs ds) (hx : Passes CX X E)
  (ha : PA X (e :: es) t) (hdb : (x == ("__debug__" : Str)) = false := by decide) (he : starEach (e :: es) X.env = (false, eval e X.env) :: starEach es X.env := by rfl) (hpl : (backTo pos (starEach es X.env)).any (·.1) = false := by rfl) :
  PE X (.Call (.Name x p) (e :: es) [] pos) (tMake C sp dvs E t) := by
 refine ⟨?_⟩
 intro pins s σ H Q I h
 refine wpAny_Call_Name_kw (qV I hg hm ?_ hdb)
 refine PySem.W.callWith_K (h₀ := X.base) I.ok.mod.kin M.kp (thn (ha pos pins s σ H _ I h) fun us s1 ⟨vs, H1, I1, r, q⟩ => ⟨I1.kIn, ?_⟩) he hpl
 exact run_make M F hr hb hd hx I1 r q
end

structure PK (X : Cx) (kws : List Keyword) (t : TA)  : Prop where
 go : ∀ (pos : Pos) (pins : List (Addr × Obj)) (s : Shared) (σ : St) (H : Hp) (Q : List V -> Hp -> Prop), Inv X pins σ H s -> t σ H Q -> wpAny (model X.prog X.w) X.A (evalAll ((backToKw pos (keywordEach kws X.env)).map (·.2))) (AP X pins σ Q) X.xe s
instance {X : Cx} {kws : List Keyword} {t : TA} : CoeFun (PK X kws t) (fun _ => ∀ (pos : Pos) (pins : List (Addr × Obj)) (s : Shared) (σ : St) (H : Hp) (Q : List V -> Hp -> Prop), Inv X pins σ H s -> t σ H Q -> wpAny (model X.prog X.w) X.A (evalAll ((backToKw pos (keywordEach kws X.env)).map (·.2))) (AP X pins σ Q) X.xe s) := ⟨PK.go⟩
section
variable {X : Cx} {CX : CXT} {k : Nat} {f C : Addr} {fd : FuncData} {ps ks : List Str} {sp : Sp} {E : XK} {x m : Str} {p pos apos kpos : Pos} {e o : Expr} {es : List Expr} {kws : List Keyword} {te ta : TE} {t tk : TA} {nm : Option Str}
variable {g : List Value -> List Value -> List Value} {gV : List V -> List V -> List V}
end

structure FnScope (N P : List Str) (sc : Scope) : Prop where
 kind : sc.kind = .function
 co : sc.isCoroutine = false
 gen : sc.isGenerator = false
 nd : N.Nodup
 pre : N.take P.length = P
 par : ∀ x ∈ P, sc.names.lookup x = some .local \/ sc.names.lookup x = some .cell
 nofree : ∀ y ∈ sc.names, y.2 ≠ .free

theorem bindL_out {kindOf : Str -> Option NameKind} {x : Str} : ∀ {binds : List (Str × Value)} {m : Str -> Option Value}, (∀ v, (x, v) ∉ binds) -> bindL kindOf binds m x = m x
 | [], _, _ => rfl
 | (n, v) :: r, m, h => by
  unfold bindL
  rw [bindL_out fun w hw => h w (List.mem_cons_of_mem _ hw)]
  split
  ·have : x ≠ n := by rintro rfl; exact h v List.mem_cons_self
   simp [this]
  ·rfl
theorem bindC_out {kindOf : Str -> Option NameKind} {x : Str} : ∀ {binds : List (Str × Value)} {m : Str -> Option Value}, (∀ v, (x, v) ∉ binds) -> bindC kindOf binds m x = m x
 | [], _, _ => rfl
 | (n, v) :: r, m, h => by
  unfold bindC
  rw [bindC_out fun w hw => h w (List.mem_cons_of_mem _ hw)]
  split
  ·rfl
  ·have : x ≠ n := by rintro rfl; exact h v List.mem_cons_self
   simp [this]
theorem bindL_get {kindOf : Str -> Option NameKind} {x : Str} {v : Value} : ∀ {P : List Str} {vs : List Value} {i : Nat} {m : Str -> Option Value}, P.Nodup -> P[i]? = some x -> vs[i]? = some v -> kindOf x = some .local ->
  bindL kindOf (P.zip vs) m x = some v
 | [], _, _, _, _, h, _, _ => by simp at h
 | _ :: _, [], _, _, _, _, h, _ => by simp at h
 | p :: P, w :: vs, 0, m, nd, h1, h2, hk => by
  simp at h1 h2; subst h1; subst h2
  show bindL kindOf ((p, w) :: P.zip vs) m p = _
  unfold bindL
  rw [bindL_out fun v hv => (List.nodup_cons.mp nd).1 (List.of_mem_zip hv).1, if_pos hk]
  simp
 | p :: P, w :: vs, i + 1, m, nd, h1, h2, hk => by
  show bindL kindOf ((p, w) :: P.zip vs) m x = _
  unfold bindL
  exact bindL_get (i := i) (List.nodup_cons.mp nd).2 (by simpa using h1) (by simpa using h2) hk
theorem bindC_get {kindOf : Str -> Option NameKind} {x : Str} {v : Value} : ∀ {P : List Str} {vs : List Value} {i : Nat} {m : Str -> Option Value}, P.Nodup -> P[i]? = some x -> vs[i]? = some v -> kindOf x ≠ some .local ->
  bindC kindOf (P.zip vs) m x = some v
 | [], _, _, _, _, h, _, _ => by simp at h
 | _ :: _, [], _, _, _, _, h, _ => by simp at h
 | p :: P, w :: vs, 0, m, nd, h1, h2, hk => by
  simp at h1 h2; subst h1; subst h2
  show bindC kindOf ((p, w) :: P.zip vs) m p = _
  unfold bindC
  rw [bindC_out fun v hv => (List.nodup_cons.mp nd).1 (List.of_mem_zip hv).1, if_neg hk]
  simp
 | p :: P, w :: vs, i + 1, m, nd, h1, h2, hk => by
  show bindC kindOf ((p, w) :: P.zip vs) m x = _
  unfold bindC
  exact bindC_get (i := i) (List.nodup_cons.mp nd).2 (by simpa using h1) (by simpa using h2) hk

def start (N : List Str) (vs : List V) : St := vs.map some ++ List.replicate (N.length - vs.length) none

def cxOf (CX : CXT) (P : Program) (w : World) (K : PySem.W.Frag) (mg : Str -> Option Value) (base : Heap) (N : List Str) (qual : Str) (scope : Scope) (f : Addr) (cd : Value) (A : Around) (outer : List Env) (s : Shared) (H : Hp) (E : XK) : Cx where
 prog := P
 w := w
 K := K
 mg := mg
 base := base
 A := A.deeper (envOfC qual scope s.heap.objs.size f cd)
 N := N
 s₀ := s
 H₀ := H
 env := envOfC qual scope s.heap.objs.size f cd
 outer := outer
 stack := envOfC qual scope s.heap.objs.size f cd :: outer
 ex := []
 calm := true
 fn := fun _ => true
 pn := []
 xe := fun e s' => wpAny (model P w) (A.deeper (envOfC qual scope s.heap.objs.size f cd)) (leaving (envOfC qual scope s.heap.objs.size f cd) e) (fun _ s'' => CX outer H s E e s'') (fun e' s'' => CX outer H s E e' s'') s'

theorem cell_has {sc : Scope} {n : Nat} {x : Str} (h : sc.names.lookup x = some .cell) : ∃ c, (cellsFrom n sc.names []).lookup x = some c := by
 have q := PySem.W.cellsFrom_some sc.names n [] (.inl h)
 exact Option.isSome_iff_exists.mp q

theorem inv_start {CX : CXT} {P : Program} {w : World} {K : PySem.W.Frag} {mg : Str -> Option Value} {base : Heap} {N ps : List Str} {qual : Str} {scope : Scope} {f : Addr} {cd : Value} {A : Around} {outer : List Env} {s s1 : Shared} {H : Hp} {E : XK} {us : List Value} {vs : List V}
  (S : FnScope N ps scope) (hd : A.handled = none) (e0 : Env0 P w K mg base A outer s H) (hl : vs.length = ps.length) (r : Vals vs us)
  (x : InCallC s s.heap.objs.size (bindL (envOfC qual scope s.heap.objs.size f cd).kindOf (ps.zip us) fun _ => none) (cellsFrom (s.heap.objs.size + 1) scope.names []) (bindC (envOfC qual scope s.heap.objs.size f cd).kindOf (ps.zip us) fun _ => none) s1) :
  Inv (cxOf CX P w K mg base N qual scope f cd A outer s H E) [] (start N vs) H s1 := by
 have hpl : ps.length <= N.length := by have := congrArg List.length S.pre; rw [List.length_take] at this; (first|lia|omega)
 obtain ⟨h1, tk, rfl, hk⟩ := x.done
 have noA : ∀ b : Addr, b ∉ (cxOf CX P w K mg base N qual scope f cd A outer s H E).ex := fun b z => absurd (show b ∈ ([] : List Addr) from z) (by simp)
 refine ⟨⟨e0.mod, S.kind, rfl, rfl, Nat.le_refl _, fun y z c h1 h2 => ?_, fun y hy => ?_, fun y c _ h => ?_, fun _ => hd, Around.frames_deeper e0.frames, .inr ⟨rfl, rfl⟩, fun b z => absurd z (noA b), e0.bs, e0.bsz, fun b _ _ => noA b, fun b z => absurd z (noA b), e0.funs, e0.frf⟩,
  rfl, e0.bare, Un.kept hk, ⟨_, x.toInCall.ns, fun i y v h1 h2 h3 => ?_⟩, fun y c h => ⟨_, x.cell y c h⟩, e0.hok.fresh (Nat.le_refl _), fun y c h => ?_, fun p hp => absurd (show p ∈ ([] : List (Addr × Obj)) from hp) (by simp), e0.hok.kept hk, ?_⟩
 ·exact name_of_addr x.apart (PySem.mem_of_lookup h1) (PySem.mem_of_lookup h2)
 ·have hy : scope.names.lookup y = some .cell \/ scope.names.lookup y = some .free := hy
  rcases hy with hy | hy
  ·exact cell_has hy
  ·exact absurd rfl (S.nofree _ (PySem.mem_of_lookup hy))
 ·exact Nat.le_of_lt (x.above y c (PySem.mem_of_lookup h))
 ·have hi : i < vs.length := by
   unfold start at h2
   by_cases hi : i < vs.length
   ·exact hi
   ·rw [List.getElem?_append_right (by simpa using hi)] at h2
    rw [List.getElem?_replicate] at h2
    split at h2 <;> cases h2
  have ha : vs[i]? = some v := by
   unfold start at h2
   rw [List.getElem?_append_left (by simpa using hi), List.getElem?_map] at h2
   cases e : vs[i]? with
   | none => rw [e] at h2; cases h2
   | some a => rw [e] at h2; cases h2; rfl
  obtain ⟨u, hu, rv⟩ := r.get ha
  have hp : ps[i]? = some y := by
   rw [<- S.pre, List.getElem?_take_of_lt (by (first|lia|omega))]; exact h1
  have ndP : ps.Nodup := by rw [<- S.pre]; exact S.nd.sublist (List.take_sublist _ _)
  refine ⟨u, rv, ?_⟩
  rcases S.par y (List.mem_of_getElem? hp) with k | k
  ·exact .inl ⟨k, bindL_get ndP hp hu k⟩
  ·obtain ⟨c, e⟩ := cell_has (n := s.heap.objs.size + 1) k
   refine .inr ⟨.inl k, c, e, ?_⟩
   have q := x.cell y c e
   rw [bindC_get ndP hp hu (by show scope.names.lookup y ≠ _; rw [k]; decide)] at q
   exact q
 ·exact e0.hok.fresh (Nat.le_of_lt (x.above y c (PySem.mem_of_lookup h)))
 ·unfold start
  show _ = N.length
  rw [List.length_append, List.length_map, List.length_replicate]
  (first|lia|omega)

theorem fn_of {CX : CXT} {P : Program} {w : World} {K : PySem.W.Frag} {mg : Str -> Option Value} {base : Heap} {k : Nat} {f : Addr} {name qual : Str} {params : Arguments} {body : List Stmt} {scope : Scope} {dV kV doc pm cdv ct oc : Value} {an od : Option Addr}
  {osl : Array (Option Value)} {N ps : List Str} {sp : Sp} (lk : K.lookup f = some ⟨oc, od, .func (PySem.W.fnOf name qual params body scope dV kV doc pm an cdv ct), osl⟩) (hcd : PySem.W.codeIn K cdv qual = true) (S : FnScope N ps scope)
  (len : ∀ vs H Q E, sp vs H Q E -> vs.length = ps.length)
  (hbody : ∀ (A : Around) (outer : List Env) (s : Shared) (H : Hp) (vs : List V) (Q : VK) (E : XK), Room k (A.deeper (envOfC qual scope s.heap.objs.size f cdv)) -> sp vs H Q E ->
   ∃ t, PSs (cxOf CX P w K mg base N qual scope f cdv A outer s H E) body t /\ t { nx := fun _ H' => Q .non H', rt := Q } (start N vs) H) :
  FnOk P w K mg base CX (k + 1) f (PySem.W.fnOf name qual params body scope dV kV doc pm an cdv ct) ps sp := by
 refine ⟨len, fun A outer s H args us vs Q E hr e0 hb r hsp => ?_⟩
 have hl := len _ _ _ _ hsp
 have KX : K.In s.heap := e0.mod.kin.keeps fun b o e => (e0.bs b o e).1
 have lim : s.heap.NoLimit := e0.mod.nolimit.keeps fun b o e => (e0.bs b o e).1
 have hkind : ∀ y ∈ ps.zip us, scope.names.lookup y.1 = some .local \/ (scope.names.lookup y.1 = some .cell /\ ((cellsFrom (s.heap.objs.size + 1) scope.names []).lookup y.1).isSome = true) := fun ⟨n, v⟩ hy => by
  rcases S.par n (List.of_mem_zip hy).1 with q | q
  ·exact .inl q
  ·exact .inr ⟨q, PySem.W.cellsFrom_some _ _ _ (.inl q)⟩
 refine codeAny_call_function hr.depth (KX _ _ lk) rfl S.co S.gen rfl (PySem.W.codeRec_of KX hcd) (hb _ _ _ _ ?_)
 refine wpAny_newFunctionEnv_cells S.kind hkind fun env he s1 x => ?_
 subst he
 refine ⟨lim.keeps x.toInCall.keep, codeAny_func ?_⟩
 obtain ⟨t, ht, hq⟩ := hbody A outer s H vs Q E (hr.deeper _) hsp
 have I : Inv (cxOf CX P w K mg base N qual scope f cdv A outer s H E) [] (start N vs) H s1 := inv_start S hr.hd e0 hl r x
 refine wpAny_mono (ht [] s1 (start N vs) H _ I hq) (fun fl s' hs => ?_) fun e s' hs => hs
 have fin : ∀ {σ' : St} {H' : Hp} {v : V} {u : Value}, Inv (cxOf CX P w K mg base N qual scope f cdv A outer s H E) [] σ' H' s' -> RelV v u -> Q v H' -> CE outer P w H s Q u s' :=
  fun {σ' H' v u} J rv q => ⟨v, H', J.os, J.bare, J.base, J.hok, rv, q⟩
 cases fl with
 | ret u =>
  obtain ⟨v, σ', H', J, rv, q⟩ := hs
  exact fin J rv q
 | next =>
  obtain ⟨σ', H', J, q⟩ := hs
  exact fin (v := V.non) (u := Value.none) J rfl q
 | brk =>
  obtain ⟨_, _, _, q⟩ := hs
  exact False.elim q
 | cont =>
  obtain ⟨_, _, _, q⟩ := hs
  exact False.elim q
end L2

namespace L2
open PySem PySem.Spec PyProof.Rows
section
variable {X : Cx} {x : Str} {p pos : Pos} {e : Expr} {es : List Expr} {t : TA} {id T : String} {r : List V -> Hp -> VK -> Prop}

def tCB (r : List V -> Hp -> VK -> Prop) (t : TA) : TE := fun σ H Q => t σ H fun vs H1 => r vs H1 Q
theorem zU (hc : CallR X (.builtin id) r) (hg : Gl X x) (hm : X.mg x = none) (hv : bootBuiltins x = some (.builtin id)) (ha : PA X (e :: es) t) (hn : x ≠ "__name__" := by decide) (hdb : (x == ("__debug__" : Str)) = false := by decide)
  (he : starEach (e :: es) X.env = (false, eval e X.env) :: starEach es X.env := by rfl) (hpl : (backTo pos (starEach es X.env)).any (·.1) = false := by rfl) : PE X (.Call (.Name x p) (e :: es) [] pos) (tCB r t) := by
 refine ⟨?_⟩
 intro pins s σ H Q I h
 refine wpAny_Call_Name_kw (ld_blt I hg hm hv ?_ hn hdb)
 exact PyProof.Rows.callWith_builtin1 (thn (ha pos pins s σ H _ I h) fun us s1 ⟨vs, H1, I1, r1, q1⟩ => hc pins s1 σ H1 vs us Q I1 r1 q1) he hpl
theorem jA (hc : CallR X (.type T) r) (hg : Gl X x) (hm : X.mg x = none) (hv : bootBuiltins x = some (.type T)) (ha : PA X (e :: es) t) (hn : x ≠ "__name__" := by decide) (hdb : (x == ("__debug__" : Str)) = false := by decide)
  (he : starEach (e :: es) X.env = (false, eval e X.env) :: starEach es X.env := by rfl) (hpl : (backTo pos (starEach es X.env)).any (·.1) = false := by rfl) : PE X (.Call (.Name x p) (e :: es) [] pos) (tCB r t) := by
 refine ⟨?_⟩
 intro pins s σ H Q I h
 refine wpAny_Call_Name_kw (ld_blt I hg hm hv ?_ hn hdb)
 exact PyProof.Rows.callWith_type1 (thn (ha pos pins s σ H _ I h) fun us s1 ⟨vs, H1, I1, r1, q1⟩ => hc pins s1 σ H1 vs us Q I1 r1 q1) he hpl
end
end L2

namespace HT
open PySem PyProof.Rows

section
open PySem.SeqAt
open PySem.AutoSeq1 (wpAny_loadPart')
open PySem.MeetsSeq PySem.MeetsSeq2 PySem.MeetsSeq3

end

section
variable {prog : Program} {w : World} {A : Around} {E : Value -> Shared -> Prop} {s : Shared}

def sIx (n d : Nat) : Option Int -> Nat
 | none => d
 | some v => if v < 0 then (v + (n : Int)).toNat else min v.toNat n
theorem sIx_none (n d : Nat) : sIx n d none = d := rfl
theorem sIx_nat (n d k : Nat) : sIx n d (some (k : Int)) = min k n := by
 show (if (k : Int) < 0 then ((k : Int) + (n : Int)).toNat else min (k : Int).toNat n) = min k n
 rw [if_neg (by (first|lia|omega)), Int.toNat_natCast]
end
end HT

namespace L2
open PySem PySem.Spec PyProof.Rows

abbrev TO := St -> Hp -> (Option Int -> Hp -> Prop) -> Prop
structure PO (X : Cx) (e : Option Expr) (t : TO)  : Prop where
 go : ∀ (pins : List (Addr × Obj)) (s : Shared) (σ : St) (H : Hp) (Q : Option Int -> Hp -> Prop), Inv X pins σ H s -> t σ H Q ->
  wpAny (model X.prog X.w) X.A (evalPart e X.env) (fun u s' => ∃ o H', Inv X pins σ H' s' /\ IsPart u o /\ Q o H') X.xe s
instance {X : Cx} {e : Option Expr} {t : TO} : CoeFun (PO X e t) (fun _ => ∀ (pins : List (Addr × Obj)) (s : Shared) (σ : St) (H : Hp) (Q : Option Int -> Hp -> Prop), Inv X pins σ H s -> t σ H Q ->
  wpAny (model X.prog X.w) X.A (evalPart e X.env) (fun u s' => ∃ o H', Inv X pins σ H' s' /\ IsPart u o /\ Q o H') X.xe s) := ⟨PO.go⟩
def tNoPart : TO := fun _ H Q => Q none H
def tPart (t : TE) : TO := fun σ H Q => t σ H fun x H1 => ∃ i, x = .int i /\ Q (some i) H1

section
variable {X : Cx} {e : Expr} {te : TE} {lo hi : Option Expr} {tl th : TO} {pos p2 : Pos}

theorem kS : PO X none tNoPart := by
 refine ⟨?_⟩
 intro pins s σ H Q I h
 rw [evalPart_none]
 exact wpAny_pure ⟨none, H, I, .none, h⟩
theorem xZ (h : PE X e te) : PO X (some e) (tPart te) := by
 refine ⟨?_⟩
 intro pins s σ H Q I hw
 rw [evalPart_some]
 refine thn (h pins s σ H _ I hw) fun u s1 hzz => ?_
 obtain ⟨x, H1, I1, r1, q1⟩ := hzz
 obtain ⟨i, rfl, q⟩ := q1
 obtain ⟨t, rfl⟩ := r1
 exact ⟨some i, H1, I1, .int i t, q⟩

def SlR (X : Cx) (r : V -> Option Int -> Option Int -> Hp -> VK -> Prop) : Prop :=
 ∀ (pins : List (Addr × Obj)) (s : Shared) (σ : St) (H : Hp) (x : V) (v vl vu : Value) (lo hi : Option Int) (sl : Addr) (Q : VK), Inv X pins σ H s -> RelV x v -> s.heap.IsSliceOf sl vl vu .none -> IsPart vl lo -> IsPart vu hi -> r x lo hi H Q ->
  ∃ T id, typeLookup (.type T) "__getitem__" = pure (some (.builtin id)) /\ s.TypeIs v T /\ wpAny (model X.prog X.w) X.A (getItem v (.ref sl)) (EP X pins σ Q) X.xe s
def tSl (r : V -> Option Int -> Option Int -> Hp -> VK -> Prop) (te : TE) (tl th : TO) : TE := fun σ H Q => te σ H fun x H1 => tl σ H1 fun l H2 => th σ H2 fun u H3 => r x l u H3 Q
theorem xT {r : V -> Option Int -> Option Int -> Hp -> VK -> Prop} (hr : SlR X r) (he : PE X e te) (hl : PO X lo tl) (hu : PO X hi th) : PE X (.Subscript e (.Slice lo hi none p2) pos) (tSl r te tl th) := by
 refine ⟨?_⟩
 intro pins s σ H Q I h
 refine Subscript_ (thn (he pins s σ H _ I h) fun v s1 hzz => ?_)
 obtain ⟨x, H1, I1, r1, q1⟩ := hzz
 refine wpAny_Slice (thn (hl pins s1 σ H1 _ I1 q1) fun vl s2 ⟨l, H2, I2, pl, q2⟩ => thn (hu pins s2 σ H2 _ I2 q2) fun vu s3 hzz => ?_)
 obtain ⟨u, H3, I3, pu, q3⟩ := hzz
 rw [evalPart_none]
 refine wpAny_pure ?_
 have I4 : Inv X pins σ H3 { s3 with heap := s3.heap.push { cls := .type "slice", data := .fields #[vl, vu, .none] } } := I3.kept (t' := s3.toks) fun b ob q => Heap.get?_push_of_some _ q
 obtain ⟨T, id, hT, ht, hg⟩ := hr pins { s3 with heap := s3.heap.push { cls := .type "slice", data := .fields #[vl, vu, .none] } } σ H3 x v vl vu l u s3.heap.objs.size Q I4 r1 (Heap.IsSliceOf.new ..) pl pu q3
 show wpAny (model X.prog X.w) X.A (subscriptTail e (.Slice lo hi none p2) v (.ref s3.heap.objs.size)) (EP X pins σ Q) X.xe { s3 with heap := s3.heap.push { cls := .type "slice", data := .fields #[vl, vu, .none] } }
 exact tail_any (ops := [.ref s3.heap.objs.size, v]) ht hT hg (by with_unfolding_all rfl)

def cutV (xs : List V) (lo hi : Option Int) : List V := (xs.drop (HT.sIx xs.length 0 lo)).take (HT.sIx xs.length xs.length hi - HT.sIx xs.length 0 lo)
theorem cutV_length (xs : List V) (lo hi : Option Int) : (cutV xs lo hi).length <= xs.length := by
 unfold cutV
 rw [List.length_take, List.length_drop]
 (first|lia|omega)
end
end L2

namespace L2
open PySem PySem.Spec PyProof.Rows

def ixN (n : Nat) (i : Int) : Option Nat := if 0 <= i then (if i < n then some i.toNat else none) else if -(n : Int) <= i then some (i + n).toNat else none
def atI {α : Type} (xs : List α) (i : Int) : Option α := (ixN xs.length i).bind fun j => xs[j]?
theorem ixN_seq {n : Nat} {i : Int} {j : Nat} (h : ixN n i = some j) : seqIndex? i n = some j /\ j < n /\ -(n : Int) <= i /\ i < n := by
 unfold ixN at h
 by_cases h0 : 0 <= i
 ·rw [if_pos h0] at h
  by_cases h1 : i < n
  ·rw [if_pos h1] at h
   have e : i.toNat = j := Option.some.inj h
   exact ⟨by rw [seqIndex_of h0 h1, e], by (first|lia|omega), by (first|lia|omega), h1⟩
  ·rw [if_neg h1] at h; cases h
 ·rw [if_neg h0] at h
  by_cases h1 : -(n : Int) <= i
  ·rw [if_pos h1] at h
   have e : (i + n).toNat = j := Option.some.inj h
   exact ⟨by rw [seqIndex_neg (by (first|lia|omega)) h1, e], by (first|lia|omega), h1, by (first|lia|omega)⟩
  ·rw [if_neg h1] at h; cases h
theorem atI_get {α : Type} {xs : List α} {i : Int} {v : α} (h : atI xs i = some v) : ∃ j, seqIndex? i xs.length = some j /\ xs[j]? = some v /\ j < xs.length /\ -(xs.length : Int) <= i /\ i < xs.length := by
 unfold atI at h
 cases e : ixN xs.length i with
 | none => rw [e] at h; cases h
 | some j =>
  rw [e] at h
  obtain ⟨h1, h2, h3, h4⟩ := ixN_seq e
  exact ⟨j, h1, h, h2, h3, h4⟩
theorem qW {α : Type} {xs : List α} {j : Nat} {v : α} (h : xs[j]? = some v) : atI xs (j : Int) = some v := by
 have hj : j < xs.length := (List.getElem?_eq_some_iff.mp h).1
 have e : ixN xs.length (j : Int) = some j := by
  unfold ixN
  rw [if_pos (by (first|lia|omega)), if_pos (by (first|lia|omega))]; simp
 unfold atI; rw [e]; exact h
def PlainIx (b : Expr) : Prop := ∀ o i, subscripted b false o i = operate [o, i] (getItem o i)
def IxR (X : Cx) (r : R2) : Prop :=
 ∀ (value slice : Expr) (pins : List (Addr × Obj)) (s : Shared) (σ : St) (H : Hp) (x y : V) (v u : Value) (Q : VK), Inv X pins σ H s -> RelV x v -> RelV y u -> r x y H Q ->
  subscripted slice false v u = operate [v, u] (getItem v u) -> wpAny (model X.prog X.w) X.A (subscriptTail value slice v u) (EP X pins σ Q) X.xe s
def MtR (X : Cx) (id : String) (r : V -> List V -> Hp -> VK -> Prop) : Prop :=
 ∀ (pins : List (Addr × Obj)) (s : Shared) (σ : St) (H : Hp) (x : V) (xs : List V) (v : Value) (us : List Value) (Q : VK), Inv X pins σ H s -> RelV x v -> Vals xs us -> r x xs H Q ->
  wpAny (model X.prog X.w) X.A (call (.builtin id) (v :: us)) (EP X pins σ Q) X.xe s
section
variable {X : Cx} {a b : Expr} {ta tb : TE} {pos : Pos}
theorem zX {r : R2} (hr : IxR X r) (ha : PE X a ta) (hb : PE X b tb) (hs : PlainIx b) : PE X (.Subscript a b pos) (tOp r ta tb) := by
 refine ⟨?_⟩
 intro pins s σ H Q I h
 exact Subscript_ (binT ha hb I h fun v u s2 x y H2 I2 rx ry q => hr a b pins s2 σ H2 x y v u Q I2 rx ry q (hs _ _))

def rIxL (K : PySem.W.Frag) : R2 := fun x y H Q => ∃ p xs i v, x = .ref p /\ y = .int i /\ SqL K H p xs /\ atI xs i = some v /\ Q v H
def rIxT (K : PySem.W.Frag) : R2 := fun x y H Q => ∃ p xs i v, x = .ref p /\ y = .int i /\ SqT K H p xs /\ atI xs i = some v /\ Q v H
theorem zP : IxR X (rIxL X.K) := by
 intro value slice pins s σ H x y v u Q I rx ry h hs
 obtain ⟨p, xs, i, z, rfl, rfl, hq, he, q⟩ := h
 cases rx
 obtain ⟨t, rfl⟩ := ry
 obtain ⟨its, r, pl, hz⟩ := I.list hq
 obtain ⟨j, h1, h2, h3, h4, h5⟩ := atI_get he
 obtain ⟨w, ew, rw'⟩ := r.get h2
 have hl := r.length
 have hn := line63
 have fin : EP X pins σ Q w s := ⟨z, H, I, rw', q⟩
 by_cases h0 : 0 <= i
 ·have hj : i.toNat = j := by
   rw [seqIndex_of h0 h5] at h1
   exact Option.some.inj h1
  exact item_listR pl.isList h0 (by (first|lia|omega)) (by rw [hj]; simpa using ew) fin hs
 ·have hj : (i + (its.toArray.size : Int)).toNat = j := by
   rw [seqIndex_neg (by (first|lia|omega)) h4] at h1
   rw [List.size_toArray, <- hl]
   exact Option.some.inj h1
  exact subscriptTail_builtinR (x := w) pl.isList.typeIs slot_list_getitem.lookup
   (wpAny_getItem_list_neg (Q := fun r s' => r = w /\ EP X pins σ Q r s') pl.isList (by (first|lia|omega)) (by rw [List.size_toArray] <;> (first|lia|omega)) (by (first|lia|omega)) (by rw [hj]; simpa using ew) ⟨rfl, fin⟩) hs
theorem ix_tup : IxR X (rIxT X.K) := by
 intro value slice pins s σ H x y v u Q I rx ry h hs
 obtain ⟨p, xs, i, z, rfl, rfl, hq, he, q⟩ := h
 cases rx
 obtain ⟨t, rfl⟩ := ry
 obtain ⟨its, r, pl, hz⟩ := I.tuple hq
 obtain ⟨j, h1, h2, h3, h4, h5⟩ := atI_get he
 obtain ⟨w, ew, rw'⟩ := r.get h2
 have hl := r.length
 have hn := line63
 have fin : EP X pins σ Q w s := ⟨z, H, I, rw', q⟩
 exact subscriptTail_builtinR (x := w) pl.typeIs slot_tuple_getitem.lookup
  (getItem_tuple (j := j) (Q := fun r s' => r = w /\ EP X pins σ Q r s') pl (by (first|lia|omega)) (by (first|lia|omega)) (by rw [List.size_toArray, <- hl]; exact h1) (by simpa using ew) ⟨rfl, fin⟩) hs
theorem mapSeq_set (its : List Value) (n j : Nat) (u : Value) : Obj.mapSeq (·.setIfInBounds j u) { cls := .type "list", data := .seq its.toArray n } = { cls := .type "list", data := .seq (its.set j u).toArray n } := by
 simp [Obj.mapSeq]
theorem Inv.lst {pins : List (Addr × Obj)} {σ : St} {H : Hp} {s : Shared} {p : Addr} {xs : List V} (I : Inv X pins σ H s) (h : H p = some (.lst xs)) :
  ∃ (its : List Value) (n : Nat), Vals xs its /\ s.heap.get? p = some { cls := .type "list", data := .seq its.toArray n } /\ xs.length <= sizeLine := by
 obtain ⟨z, its, n, r, e⟩ := I.hok p _ h
 exact ⟨its, n, r, e, z⟩
theorem Inv.lstUpd {pins : List (Addr × Obj)} {σ : St} {H : Hp} {s : Shared} {p : Addr} {xs ys : List V} {its its' : List Value} {n n' : Nat} {f : Obj -> Obj} (I : Inv X pins σ H s) (h : H p = some (.lst xs))
  (ho : s.heap.get? p = some { cls := .type "list", data := .seq its.toArray n }) (hf : f { cls := .type "list", data := .seq its.toArray n } = { cls := .type "list", data := .seq its'.toArray n' }) (r : Vals ys its') (hz : ys.length <= sizeLine) (t : Nat) :
  Inv X pins σ (upd H p (.lst ys)) { s with heap := s.heap.update p f, toks := t } := by
 have e : (s.heap.update p f).get? p = some { cls := .type "list", data := .seq its'.toArray n' } := by
  rw [Heap.get?_update_self f ho (by rw [hf] <;> rfl), hf]
 refine I.write (x := p) (e := p) (by rw [h]; trivial) (.inl rfl) (fun b u hb q => (Heap.get?_update_other _ _ (Ne.symm hb)).trans q) ⟨_, e⟩ ?_
 exact ⟨hz, its', n', r, e⟩
def rSetL : V -> V -> V -> Hp -> (Hp -> Prop) -> Prop := fun o i v H Q => ∃ p xs k j, o = .ref p /\ i = .int k /\ H p = some (.lst xs) /\ ixN xs.length k = some j /\ Q (upd H p (.lst (xs.set j v)))
theorem qI : PSet X rSetL := by
 intro pins s σ H o i v ov iv u Q I ro ri rv h
 obtain ⟨p, xs, k, j, rfl, rfl, hp, hj, q⟩ := h
 cases ro
 obtain ⟨t, rfl⟩ := ri
 obtain ⟨its, n, r, ho, hz⟩ := I.lst hp
 obtain ⟨h1, h2, h3, h4⟩ := ixN_seq hj
 have hl := r.length
 have hn := line63
 have I' : Inv X pins σ (upd H p (.lst (xs.set j v))) { s with heap := s.heap.update p (Obj.mapSeq (·.setIfInBounds j u)) } :=
  I.lstUpd hp ho (mapSeq_set its n j u) (r.set rv j) (by rw [List.length_set]; exact hz) s.toks
 by_cases h0 : 0 <= k
 ·have hk : k.toNat = j := by
   rw [seqIndex_of h0 h4] at h1
   exact Option.some.inj h1
  exact PySem.W.ki_setAt ho h0 (by (first|lia|omega)) (by rw [List.size_toArray, <- hl]; exact h4) (by rw [hk]; exact ⟨_, I', q⟩)
 ·have hk : (k + (its.toArray.size : Int)).toNat = j := by
   rw [seqIndex_neg (by (first|lia|omega)) h3] at h1
   rw [List.size_toArray, <- hl]
   exact Option.some.inj h1
  exact PySem.W.ki_setBack ho (by (first|lia|omega)) (by rw [List.size_toArray, <- hl]; exact h3) (by (first|lia|omega)) (by rw [hk]; exact ⟨_, I', q⟩)

theorem slice_bounds (lo hi : Option Int) (n : Nat) : (sliceBounds lo hi none n).1 = ((HT.sIx n 0 lo : Nat) : Int) /\ (sliceBounds lo hi none n).2.1 = ((HT.sIx n n hi : Nat) : Int) /\ (sliceBounds lo hi none n).2.2 = 1 := by
 refine ⟨?_, ?_, rfl⟩
 ·cases lo with
  | none => simp [sliceBounds, HT.sIx]
  | some i =>
   simp only [sliceBounds, HT.sIx, Option.getD_none, show (1 : Int) > 0 by decide, if_true]
   by_cases h : i < 0
   ·simp only [h, if_true] <;> (first|lia|omega)
   ·simp only [h, if_false] <;> (first|lia|omega)
 ·cases hi with
  | none => simp [sliceBounds, HT.sIx]
  | some i =>
   simp only [sliceBounds, HT.sIx, Option.getD_none, show (1 : Int) > 0 by decide, if_true]
   by_cases h : i < 0
   ·simp only [h, if_true] <;> (first|lia|omega)
   ·simp only [h, if_false] <;> (first|lia|omega)
theorem slicePick_cut (its : List Value) (lo hi : Option Int) : slicePick its.toArray lo hi none = ((its.drop (HT.sIx its.length 0 lo)).take (HT.sIx its.length its.length hi - HT.sIx its.length 0 lo)).toArray := by
 obtain ⟨h1, h2, h3⟩ := slice_bounds lo hi its.toArray.size
 unfold slicePick
 rw [h1, h2, h3]
 simp only [sliceRange_one, pick_run, List.size_toArray] <;> rfl
def rSlL (K : PySem.W.Frag) : V -> Option Int -> Option Int -> Hp -> VK -> Prop := fun x lo hi H Q => ∃ a xs, x = .ref a /\ SqL K H a xs /\ ∀ p, H p = none -> Q (.ref p) (upd H p (.lst (cutV xs lo hi)))
theorem jN : SlR X (rSlL X.K) := by
 intro pins s σ H x v vl vu lo hi sl Q I rx hs pl pu h
 obtain ⟨a, xs, rfl, hx, q⟩ := h
 cases rx
 obtain ⟨its, r, ht, hz⟩ := I.list hx
 have hlen := r.length
 refine ⟨"list", _, slot_list_getitem.lookup, ht.isList.typeIs, ?_⟩
 refine wpAny_getItem_list_slice ht.isList hs pl pu .none (by simp) ?_ (by rw [List.size_toArray] <;> (first|lia|omega))
 rw [slicePick_cut, <- hlen]
 refine ⟨.ref s.heap.objs.size, _, I.laid (t' := s.toks) (o := .lst (cutV xs lo hi)) (fun b ob q => Heap.get?_push_of_some _ q) (Nat.le_refl _) ?_, rfl, q _ (I.hok.fresh (Nat.le_refl _))⟩
 exact ⟨Nat.le_trans (cutV_length xs lo hi) hz, _, 0, (r.drop (HT.sIx xs.length 0 lo)).take (HT.sIx xs.length xs.length hi - HT.sIx xs.length 0 lo), Heap.get?_push_size _ rfl⟩

def flatV : V -> Bool
 | .non => true
 | .bl _ => true
 | .int _ => true
 | .str _ => true
 | _ => false
def eqV : V -> V -> Bool
 | .non, .non => true
 | .bl a, .bl b => a == b
 | .bl a, .int b => (if a then 1 else 0) == b
 | .int a, .bl b => a == (if b then 1 else 0)
 | .int a, .int b => a == b
 | .str a, .str b => a == b
 | _, _ => false
theorem eqAt_V {A : Around} {s : Shared} {y x : V} {u v : Value} (ry : RelV y u) (rx : RelV x v) (fy : flatV y = true) (fx : flatV x = true) : SeqAt.EqAt A s u v (eqV y x) := by
 cases y with
 | non =>
  cases ry
  cases x with
  | non => cases rx; exact SeqAt.EqAt.same _
  | bl b => cases rx; exact SeqAt.EqAt.none_bool b
  | int b => obtain ⟨t, rfl⟩ := rx; exact SeqAt.EqAt.none_int b t
  | str b => obtain ⟨t, rfl⟩ := rx; exact SeqAt.EqAt.none_str b t
  | _ => exact absurd (show false = true from fx) Bool.false_ne_true
 | bl a =>
  cases ry
  cases x with
  | non => cases rx; exact SeqAt.EqAt.bool_none a
  | bl b => cases rx; exact SeqAt.EqAt.bool_bool a b
  | int b => obtain ⟨t, rfl⟩ := rx; exact SeqAt.EqAt.bool_int a b t
  | str b => obtain ⟨t, rfl⟩ := rx; exact SeqAt.EqAt.bool_str a b t
  | _ => exact absurd (show false = true from fx) Bool.false_ne_true
 | int a =>
  obtain ⟨t', rfl⟩ := ry
  cases x with
  | non => cases rx; exact SeqAt.EqAt.int_none a t'
  | bl b => cases rx; exact SeqAt.EqAt.int_bool a t' b
  | int b => obtain ⟨t, rfl⟩ := rx; exact SeqAt.EqAt.int_int a t' b t
  | str b => obtain ⟨t, rfl⟩ := rx; exact SeqAt.EqAt.int_str a t' b t
  | _ => exact absurd (show false = true from fx) Bool.false_ne_true
 | str a =>
  obtain ⟨t', rfl⟩ := ry
  cases x with
  | non => cases rx; exact SeqAt.EqAt.str_none a t'
  | bl b => cases rx; exact SeqAt.EqAt.str_bool a t' b
  | int b => obtain ⟨t, rfl⟩ := rx; exact SeqAt.EqAt.str_int a t' b t
  | str b => obtain ⟨t, rfl⟩ := rx; exact SeqAt.EqAt.str_str a t' b t
  | _ => exact absurd (show false = true from fx) Bool.false_ne_true
 | _ => exact absurd (show false = true from fy) Bool.false_ne_true
def eqU (x : V) (u : Value) : Bool := match u with
 | .none => eqV .non x
 | .bool b => eqV (.bl b) x
 | .int i _ => eqV (.int i) x
 | .str z _ => eqV (.str z) x
 | _ => false
theorem eqU_of {x y : V} {u : Value} (r : RelV y u) (f : flatV y = true) : eqU x u = eqV y x := by
 cases y with
 | non => cases r; rfl
 | bl b => cases r; rfl
 | int i => obtain ⟨t, rfl⟩ := r; rfl
 | str z => obtain ⟨t, rfl⟩ := r; rfl
 | _ => exact absurd (show false = true from f) Bool.false_ne_true
theorem any_eqU {x : V} : ∀ {xs : List V} {us : List Value}, Vals xs us -> xs.all flatV = true -> us.any (eqU x) = xs.any fun y => eqV y x
 | _, _, .nil, _ => rfl
 | y :: xs, u :: us, .cons r t, f => by
  rw [List.all_cons, Bool.and_eq_true] at f
  rw [List.any_cons, List.any_cons, eqU_of r f.1, any_eqU t f.2]
theorem mem_eqAt {A : Around} {s : Shared} {x : V} {v : Value} (rx : RelV x v) (fx : flatV x = true) : ∀ {xs : List V} {us : List Value}, Vals xs us -> xs.all flatV = true -> ∀ u ∈ us, SeqAt.EqAt A s u v (eqU x u)
 | _, _, .nil, _ => fun u hu => by cases hu
 | y :: xs, u :: us, .cons r t, f => fun u' hu => by
  rw [List.all_cons, Bool.and_eq_true] at f
  rcases List.mem_cons.mp hu with rfl | hu
  ·rw [eqU_of r f.1]; exact eqAt_V r rx f.1 fx
  ·exact mem_eqAt rx fx t f.2 u' hu
def inV (x : V) (xs : List V) : Bool := xs.any fun y => eqV y x
def rIn (K : PySem.W.Frag) (neg : Bool) : R2 := fun x y H Q => ∃ p xs, y = .ref p /\ (SqL K H p xs \/ SqT K H p xs) /\ flatV x = true /\ xs.all flatV = true /\ Q (.bl (if neg then !inV x xs else inV x xs)) H
theorem wJ : OpR X (compareOp .In) (rIn X.K false) := by
 intro pins s σ H x y v u Q I rx ry h
 obtain ⟨p, xs, rfl, hq, fx, fs, q⟩ := h
 cases ry
 rcases hq with hq | hq
 ·obtain ⟨its, r, pl, hz⟩ := I.list hq
  refine SeqAt.in_listAt (eqU x) pl.isList (fun w hw => mem_eqAt rx fx r fs w (by simpa using hw)) ⟨.bl _, H, I, rfl, ?_⟩
  rw [show its.toArray.any (eqU x) = its.any (eqU x) by simp, any_eqU r fs]
  exact q
 ·obtain ⟨its, r, pl, hz⟩ := I.tuple hq
  refine SeqAt.in_tupleAt (eqU x) pl (fun w hw => mem_eqAt rx fx r fs w (by simpa using hw)) ⟨.bl _, H, I, rfl, ?_⟩
  rw [show its.toArray.any (eqU x) = its.any (eqU x) by simp, any_eqU r fs]
  exact q
theorem zQ : CallR X (.builtin "len") (fun xs H Q => ∃ p ys, xs = [.ref p] /\ (SqL X.K H p ys \/ SqT X.K H p ys) /\ Q (.int ys.length) H) := by
 intro pins s σ H xs us Q I r h
 obtain ⟨p, ys, rfl, hq, q⟩ := h
 obtain ⟨u, rfl, rx⟩ := vals1 r
 cases rx
 have hn := line63
 rcases hq with hq | hq
 ·obtain ⟨its, r', pl, hz⟩ := I.list hq
  have hlen := r'.length
  exact Calls.call_len_list pl.isList (by simp only [List.size_toArray] <;> (first|lia|omega)) ⟨.int ys.length, H, I.tok _, ⟨s.toks + 1, by rw [List.size_toArray, hlen]⟩, q⟩
 ·obtain ⟨its, r', pl, hz⟩ := I.tuple hq
  have hlen := r'.length
  exact len_tuple pl (by simp only [List.size_toArray] <;> (first|lia|omega)) ⟨.int ys.length, H, I.tok _, ⟨s.toks + 1, by rw [List.size_toArray, hlen]⟩, q⟩
theorem wX : CallR X (.type "list") (fun xs H Q => ∃ p ys, xs = [.ref p] /\ (SqL X.K H p ys \/ SqT X.K H p ys) /\ ∀ l, H l = none -> Q (.ref l) (upd H l (.lst ys))) := by
 intro pins s σ H xs us Q I r h
 obtain ⟨p, ys, rfl, hq, q⟩ := h
 obtain ⟨u, rfl, rx⟩ := vals1 r
 cases rx
 have fin : ∀ (its : List Value), Vals ys its -> ys.length <= sizeLine -> ∀ (h' : Heap) (c' : Nat), (∀ b o', s.heap.get? b = some o' -> h'.get? b = some o') ->
   h'.get? s.heap.objs.size = some { cls := .type "list", dict := none, data := .seq its.toArray c', slots := #[] } -> EP X pins σ Q (.ref s.heap.objs.size) { s with heap := h' } := fun its r' hz h' c' kp e =>
  ⟨.ref s.heap.objs.size, _, I.laid (t' := s.toks) kp (Nat.le_refl _) (show ObjOk X.prog X.w _ h' _ (.lst ys) from ⟨hz, its, c', r', e⟩), rfl, q _ (I.hok.fresh (Nat.le_refl _))⟩
 rcases hq with hq | hq
 ·obtain ⟨its, r', pl, hz⟩ := I.list hq
  have hlen := r'.length
  obtain ⟨o, ho, hc, n, hd⟩ := pl.isList
  exact call_list_seq p (.inl rfl) ho hc hd (fun h' c' kp e => fin its r' hz h' c' kp e) (by simp only [List.size_toArray] <;> (first|lia|omega))
 ·obtain ⟨its, r', pl, hz⟩ := I.tuple hq
  have hlen := r'.length
  obtain ⟨o, ho, hc, n, hd⟩ := pl
  exact call_list_seq p (.inr rfl) ho hc hd (fun h' c' kp e => fin its r' hz h' c' kp e) (by simp only [List.size_toArray] <;> (first|lia|omega))
theorem call_tuple_of : CallR X (.type "tuple") (fun xs H Q => ∃ p ys, xs = [.ref p] /\ ((SqL X.K H p ys /\ ∀ l, H l = none -> Q (.ref l) (upd H l (.tup ys))) \/ (SqT X.K H p ys /\ Q (.ref p) H))) := by
 intro pins s σ H xs us Q I r h
 obtain ⟨p, ys, rfl, h⟩ := h
 obtain ⟨u, rfl, rx⟩ := vals1 r
 cases rx
 rcases h with ⟨hq, q⟩ | ⟨hq, q⟩
 ·obtain ⟨its, r', pl, hz⟩ := I.list hq
  have hlen := r'.length
  refine call_tuple_list pl.isList (fun h' kp => ?_) (by simp only [List.size_toArray] <;> (first|lia|omega))
  have I1 : Inv X pins σ H { s with heap := h' } := I.kept (t' := s.toks) kp
  have I2 : Inv X pins σ (upd H h'.objs.size (.tup ys)) { s with heap := h'.push { cls := .type "tuple", data := .seq its.toArray } } :=
   I1.laid (t' := s.toks) (fun b o e => Heap.get?_push_of_some _ e) (Nat.le_refl _) (show ObjOk X.prog X.w _ _ _ (.tup ys) from ⟨hz, its, r', IsTup.new _ _⟩)
  exact ⟨.ref h'.objs.size, _, I2, rfl, q _ (I1.hok.fresh (Nat.le_refl _))⟩
 ·obtain ⟨its, r', pl, hz⟩ := I.tuple hq
  exact call_tuple_same pl ⟨.ref p, H, I, rfl, q⟩

def tyV (K : PySem.W.Frag) (T : String) (x : V) (H : Hp) : Prop := match x with
 | .str _ => T = "str"
 | .int _ => T = "int"
 | .ref p => (T = "list" /\ ∃ xs, SqL K H p xs) \/ (T = "tuple" /\ ∃ o, K.lookup p = some o /\ o.cls = .type "tuple" /\ o.dict = none) \/
   (T = "dict" /\ ((∃ kvs, H p = some (.dK kvs)) \/ ∃ kvs, H p = some (.dT kvs))) \/ (T = "set" /\ ∃ S n, H p = some (.set S n))
 | _ => False
theorem tyV_is {pins : List (Addr × Obj)} {σ : St} {H : Hp} {s : Shared} {T : String} {x : V} {v : Value} (I : Inv X pins σ H s) (r : RelV x v) (ty : tyV X.K T x H) :
  s.TypeIs v T /\ ∀ a, v = .ref a -> ∃ ob, s.heap.get? a = some ob /\ ob.dict = none := by
 cases x with
 | str z =>
  obtain ⟨t, rfl⟩ := r
  cases (show T = "str" from ty)
  exact ⟨typeIs_str s z t, fun _ e => nomatch e⟩
 | int i =>
  obtain ⟨t, rfl⟩ := r
  cases (show T = "int" from ty)
  exact ⟨typeIs_int s i t, fun _ e => nomatch e⟩
 | ref p =>
  cases r
  rcases ty with ⟨rfl, xs, hq⟩ | ⟨rfl, o, hk, hc, hd⟩ | ⟨rfl, hk⟩ | ⟨rfl, S, n, hk⟩
  ·obtain ⟨its, _, pl, _⟩ := I.list hq
   refine ⟨pl.isList.typeIs, fun a e => ?_⟩
   cases e
   obtain ⟨o, n, e, c, hd, _⟩ := pl
   exact ⟨o, e, hd⟩
  ·refine ⟨⟨o, I.kIn p o hk, hc⟩, fun a e => ?_⟩
   cases e
   exact ⟨o, I.kIn _ o hk, hd⟩
  ·have z : ∃ o, s.heap.get? p = some o /\ o.ExactDict := by
    rcases hk with ⟨kvs, hk⟩ | ⟨kvs, hk⟩
    ·obtain ⟨_, _, _, _, o, _, _, e, ex, _⟩ := I.hok p _ hk
     exact ⟨o, e, ex⟩
    ·obtain ⟨_, _, _, _, o, _, _, e, ex, _⟩ := I.hok p _ hk
     exact ⟨o, e, ex⟩
   obtain ⟨o, e, ex⟩ := z
   refine ⟨⟨o, e, ex.1⟩, fun a e2 => ?_⟩
   cases e2
   exact ⟨o, e, ex.2.1⟩
  ·obtain ⟨o, _, _, _, e, ex, _⟩ := I.hok p _ hk
   refine ⟨⟨o, e, ex.1⟩, fun a e2 => ?_⟩
   cases e2
   exact ⟨o, e, ex.2.1⟩
 | _ => exact False.elim ty
def tBM0 (K : PySem.W.Frag) (T : String) (r : V -> List V -> Hp -> VK -> Prop) (to : TE) : TE := fun σ H Q => to σ H fun x H1 => tyV K T x H1 /\ r x [] H1 Q
def tBM (K : PySem.W.Frag) (T : String) (r : V -> List V -> Hp -> VK -> Prop) (to : TE) (t : TA) : TE := fun σ H Q => to σ H fun x H1 => tyV K T x H1 /\ t σ H1 fun xs H2 => r x xs H2 Q
variable {o e : Expr} {es : List Expr} {to : TE} {t : TA} {name : Str} {apos cpos : Pos} {T id : String} {r : V -> List V -> Hp -> VK -> Prop}
theorem pe_bm0 (pa : PlainAttrs T) (slot : Slot T name id) (hty : typeOf (.builtin id) = pure (.type "method_descriptor")) (hm : MtR X id r) (ho : PE X o to)
  (hbase : attributeBase o name X.env (eval o X.env) = eval o X.env := by rfl) (hline : (apos.endLine == cpos.line) = true := by rfl) : PE X (.Call (.Attribute o name apos) [] [] cpos) (tBM0 X.K T r to) := by
 refine ⟨?_⟩
 intro pins s σ H Q I h
 refine wpAny_Call_method0_late hbase hline (thn (ho pins s σ H _ I h) fun v s1 hzz => ?_)
 obtain ⟨x, H1, I1, r1, ty, q1⟩ := hzz
 obtain ⟨h1, h2⟩ := tyV_is I1 r1 ty
 exact ⟨T, id, pa, slot, hty, h1, h2, Calls.callWith_builtin rfl (PySem.evalArgs_none (hm pins s1 σ H1 x [] v [] Q I1 r1 .nil q1))⟩
theorem wI (pa : PlainAttrs T) (slot : Slot T name id) (hty : typeOf (.builtin id) = pure (.type "method_descriptor")) (hm : MtR X id r) (ho : PE X o to) (ha : PA X (e :: es) t)
  (hbase : attributeBase o name X.env (eval o X.env) = eval o X.env := by rfl)
  (hfew : ((backTo cpos (starEach (e :: es) X.env)).all (fun x => !x.1) && (backToKw cpos (keywordEach [] X.env)).all (fun x => x.1.isSome)
   && decide ((e :: es).length + ([] : List Keyword).length + (if ([] : List Keyword).isEmpty then 0 else 1) < 30)) = true := by rfl)
  (hline : (apos.endLine == cpos.line) = true := by rfl) (hs : starEach (e :: es) X.env = (false, eval e X.env) :: starEach es X.env := by rfl) (hplain : (backTo cpos (starEach es X.env)).any (·.1) = false := by rfl) :
  PE X (.Call (.Attribute o name apos) (e :: es) [] cpos) (tBM X.K T r to t) := by
 refine ⟨?_⟩
 intro pins s σ H Q I h
 refine wpAny_Call_method_late hbase hfew hline rfl (thn (ho pins s σ H _ I h) fun v s1 hzz => ?_)
 obtain ⟨x, H1, I1, r1, ty, q1⟩ := hzz
 obtain ⟨h1, h2⟩ := tyV_is I1 r1 ty
 refine ⟨T, id, pa, slot, hty, h1, h2, ?_⟩
 have hA := ha cpos pins s1 σ H1 _ I1 q1
 rw [hs] at hA ⊢
 refine Calls.callWith_builtin (by show (false || (backTo cpos (starEach es X.env)).any (·.1)) = false; rw [hplain] <;> rfl) (Calls.evalArgs_plain ?_)
 exact thn hA fun us s2 ⟨vs, H2, I2, r2, q2⟩ => hm pins s2 σ H2 x vs v us Q I2 r1 r2 q2
/- xs.append(e), list.index on a module's tuple .. are MtR facts of 06m -/
end
end L2

namespace L2
open PySem PySem.Spec PyProof.Rows

def MtM (X : Cx) (id : String) (r : V -> List V -> Hp -> VK -> Prop) : Prop :=
 ∀ (pins : List (Addr × Obj)) (s : Shared) (σ : St) (H : Hp) (x : V) (xs : List V) (v : Value) (us : List Value) (Q : VK), Inv X pins σ H s -> RelV x v -> Vals xs us -> r x xs H Q ->
  wpAny (model X.prog X.w) X.A (call (.builtin id) (v :: us)) (EP X pins σ Q) X.xe s

theorem Vals.one : ∀ {x : V} {us : List Value}, Vals [x] us -> ∃ u, us = [u] /\ RelV x u
 | _, _, .cons r .nil => ⟨_, rfl, r⟩
theorem Vals.zero : ∀ {us : List Value}, Vals [] us -> us = []
 | _, .nil => rfl
theorem Vals.dropLast {xs : List V} {us : List Value} (h : Vals xs us) : Vals xs.dropLast us.dropLast := by
 induction h with
 | nil => exact .nil
 | cons r t ih =>
  cases t with
  | nil => exact .nil
  | cons q t' => exact .cons r ih
theorem Vals.reverse {xs : List V} {us : List Value} (h : Vals xs us) : Vals xs.reverse us.reverse := by
 induction h with
 | nil => exact .nil
 | cons r t ih => rw [List.reverse_cons, List.reverse_cons]; exact Vals.append ih (.cons r .nil)
theorem Vals.rep {xs : List V} {us : List Value} (h : Vals xs us) : ∀ k : Nat, Vals (List.replicate k xs).flatten (List.replicate k us).flatten
 | 0 => .nil
 | k + 1 => by
  rw [List.replicate_succ, List.replicate_succ, List.flatten_cons, List.flatten_cons]
  exact Vals.append h (Vals.rep h k)
theorem erase_last {α : Type} (l : List α) : l.eraseIdx (l.length - 1) = l.dropLast := by
 induction l with
 | nil => rfl
 | cons a r ih =>
  cases r with
  | nil => rfl
  | cons b r =>
   have e : (a :: b :: r).length - 1 = ((b :: r).length - 1) + 1 := by
    have h1 : (a :: b :: r).length = r.length + 2 := rfl
    have h2 : (b :: r).length = r.length + 1 := rfl
    (first|lia|omega)
   rw [e, List.eraseIdx_cons_succ, ih]
   all_goals rfl
theorem foldl_rep (its : List Value) : ∀ (k : Nat) (acc : List Value),
  List.foldl (fun x1 x2 => x1 ++ x2) acc.toArray (List.replicate k its.toArray) = (acc ++ (List.replicate k its).flatten).toArray
 | 0, acc => by simp
 | k + 1, acc => by
  have e : acc.toArray ++ its.toArray = (acc ++ its).toArray := by simp
  have e2 : (acc ++ its) ++ (List.replicate k its).flatten = acc ++ (List.replicate (k + 1) its).flatten := by
   rw [List.replicate_succ, List.flatten_cons, List.append_assoc]
  rw [<- e2, <- foldl_rep its k (acc ++ its), <- e, List.replicate_succ, List.foldl_cons]

section
variable {X : Cx} {pins : List (Addr × Obj)} {σ : St} {H : Hp} {s : Shared} {l b : Addr} {xs ys zs : List V}

theorem Inv.lset {its its' : List Value} {n : Nat} {f : Array Value -> Array Value} {t' : Nat} (I : Inv X pins σ H s) (hH : H l = some (.lst xs))
  (e : s.heap.get? l = some { cls := .type "list", data := .seq its.toArray n }) (hf : f its.toArray = its'.toArray) (hv : Vals ys its') (hz : ys.length <= sizeLine) :
  Inv X pins σ (upd H l (.lst ys)) { s with heap := s.heap.update l (Obj.mapSeq f), toks := t' } := by
 have q := PySem.IsL.update e f
 rw [hf] at q
 refine I.write (x := l) (e := l) (by rw [hH]; exact trivial) (.inl rfl) (fun b' u hb hu => (Heap.get?_update_other s.heap (Obj.mapSeq f) (Ne.symm hb)).trans hu) ⟨_, q⟩ ?_
 exact ⟨hz, its', _, hv, q⟩
theorem Inv.lnew {its : List Value} {t' : Nat} (I : Inv X pins σ H s) (hv : Vals ys its) (hz : ys.length <= sizeLine) :
  Inv X pins σ (upd H s.heap.objs.size (.lst ys)) { s with heap := s.heap.push { cls := .type "list", data := .seq its.toArray }, toks := t' } :=
 I.laid (fun _ _ q => Heap.get?_push_of_some _ q) (Nat.le_refl _) ⟨hz, its, 0, hv, Heap.get?_push_size _ rfl⟩
theorem Inv.fresh (I : Inv X pins σ H s) : H s.heap.objs.size = none := I.hok.fresh (Nat.le_refl _)
theorem Inv.lstM (I : Inv X pins σ H s) (hH : H l = some (.lst xs)) : xs.length <= sizeLine /\ ∃ (its : List Value) (n : Nat), Vals xs its /\ xs.length = its.length /\ s.heap.get? l = some { cls := .type "list", data := .seq its.toArray n } := by
 obtain ⟨z, its, n, r, e⟩ := I.hok l _ hH
 exact ⟨z, its, n, r, r.length, e⟩

theorem notLongL {n : Nat} (h : n <= sizeLine) : Builtin.List.listTooLong n = false := by
 unfold Builtin.List.listTooLong
 exact decide_eq_false (by (first|lia|omega))
end

section
variable {X : Cx}

def rAppend : V -> List V -> Hp -> VK -> Prop := fun x vs H Q => ∃ l xs y, x = .ref l /\ vs = [y] /\ H l = some (.lst xs) /\ xs.length < sizeLine /\ Q .non (upd H l (.lst (xs ++ [y])))
theorem yZ : MtM X "list.append" rAppend := by
 intro pins s σ H x vs v us Q I rx rv h
 obtain ⟨l, xs, y, rfl, rfl, hH, hz, q⟩ := h
 cases rx
 obtain ⟨u, rfl, ru⟩ := rv.one
 obtain ⟨z, its, n, r, hl, e⟩ := I.lstM hH
 refine call_meets F.slot_list_append ⟨_, e, rfl⟩ F.entry_list_append (F.args_list_append_2 _ _) (PySem.list_append l its.toArray n u (by rw [List.size_toArray]; (first|lia|omega))) ⟨e, ?_⟩
 refine ⟨.non, _, I.lset (its' := its ++ [u]) hH e (by simp) (r.append (.cons ru .nil)) ?_, rfl, q⟩
 rw [List.length_append, List.length_singleton]
 (first|lia|omega)

def rExtend : V -> List V -> Hp -> VK -> Prop := fun x vs H Q => ∃ l b xs zs, x = .ref l /\ vs = [.ref b] /\ H l = some (.lst xs) /\ H b = some (.lst zs) /\ xs.length + zs.length <= sizeLine /\ Q .non (upd H l (.lst (xs ++ zs)))
theorem mt_extend : MtM X "list.extend" rExtend := by
 intro pins s σ H x vs v us Q I rx rv h
 obtain ⟨l, b, xs, zs, rfl, rfl, hH, hB, hz, q⟩ := h
 cases rx
 obtain ⟨u, rfl, ru⟩ := rv.one
 cases ru
 obtain ⟨z, its, n, r, hl, e⟩ := I.lstM hH
 obtain ⟨z2, its2, n2, r2, hl2, e2⟩ := I.lstM hB
 have hsz : its.toArray.size + its2.toArray.size <= sizeLine := by rw [List.size_toArray, List.size_toArray]; (first|lia|omega)
 have hlong : ¬ (!its.toArray.isEmpty && Builtin.List.listTooLong (its.toArray.size + its2.toArray.size)) = true := by
  rw [notLongL hsz, Bool.and_false]
  exact Bool.false_ne_true
 refine call_meets F.slot_list_extend ⟨_, e, rfl⟩ F.entry_list_extend (F.args_list_extend_2 _ _)
  (AutoSeq1.list_extend_list_list_0 l its.toArray n b its2.toArray n2 hlong (by rw [List.size_toArray]; (first|lia|omega)) (by (first|lia|omega))) ⟨e, e2, ?_⟩
 refine ⟨.non, _, I.lset (its' := its ++ its2) hH e (by simp) (r.append r2) ?_, rfl, q⟩
 rw [List.length_append]
 (first|lia|omega)

def rPop : V -> List V -> Hp -> VK -> Prop := fun x vs H Q => ∃ l xs y, x = .ref l /\ vs = [] /\ H l = some (.lst xs) /\ xs[xs.length - 1]? = some y /\ Q y (upd H l (.lst xs.dropLast))
theorem mt_pop : MtM X "list.pop" rPop := by
 intro pins s σ H x vs v us Q I rx rv h
 obtain ⟨l, xs, y, rfl, rfl, hH, hy, q⟩ := h
 cases rx
 have hus := rv.zero
 subst hus
 obtain ⟨z, its, n, r, hl, e⟩ := I.lstM hH
 obtain ⟨u, hu, ru⟩ := r.get hy
 have hy' : its.toArray[its.toArray.size - 1]? = some u := by
  show its.toArray[its.length - 1]? = some u
  rw [<- Array.getElem?_toList, <- hl]
  exact hu
 refine call_meets F.slot_list_pop ⟨_, e, rfl⟩ F.entry_list_pop (F.args_list_pop_1 _) (MeetsSeq.list_pop_last l its.toArray n u hy' (by rw [List.size_toArray]; (first|lia|omega))) ⟨e, ?_⟩
 refine ⟨y, _, I.lset (its' := its.dropLast) hH e ?_ r.dropLast ?_, ru, q⟩
 ·show its.toArray.eraseIdxIfInBounds (its.toArray.size - 1) = its.dropLast.toArray
  rw [List.size_toArray, List.eraseIdxIfInBounds_toArray, erase_last]
 ·rw [List.length_dropLast]
  (first|lia|omega)

def rReverse : V -> List V -> Hp -> VK -> Prop := fun x vs H Q => ∃ l xs, x = .ref l /\ vs = [] /\ H l = some (.lst xs) /\ Q .non (upd H l (.lst xs.reverse))
theorem mt_reverse : MtM X "list.reverse" rReverse := by
 intro pins s σ H x vs v us Q I rx rv h
 obtain ⟨l, xs, rfl, rfl, hH, q⟩ := h
 cases rx
 have hus := rv.zero
 subst hus
 obtain ⟨z, its, n, r, hl, e⟩ := I.lstM hH
 refine call_meets F.slot_list_reverse ⟨_, e, rfl⟩ F.entry_list_reverse (F.args_list_reverse_1 _) (AutoSeq1.list_reverse_list_0 l its.toArray n (by rw [List.size_toArray]; (first|lia|omega))) ⟨e, ?_⟩
 refine ⟨.non, _, I.lset (its' := its.reverse) hH e (by simp) r.reverse ?_, rfl, q⟩
 rw [List.length_reverse]
 (first|lia|omega)

def rCat : R2 := fun x y H Q => ∃ l b xs zs, x = .ref l /\ y = .ref b /\ H l = some (.lst xs) /\ H b = some (.lst zs) /\ xs.length + zs.length <= sizeLine /\ ∀ p, H p = none -> Q (.ref p) (upd H p (.lst (xs ++ zs)))
theorem yT : OpR X (binaryOp .Add) rCat := by
 intro pins s σ H x y v u Q I rx ry h
 obtain ⟨l, b, xs, zs, rfl, rfl, hH, hB, hz, q⟩ := h
 cases rx
 cases ry
 obtain ⟨z, its, n, r, hl, e⟩ := I.lstM hH
 obtain ⟨z2, its2, n2, r2, hl2, e2⟩ := I.lstM hB
 refine PySem.P.add_list e e2 ?_ (by rw [List.size_toArray, List.size_toArray]; (first|lia|omega))
 have ea : its.toArray ++ its2.toArray = (its ++ its2).toArray := by simp
 rw [ea]
 exact ⟨.ref _, _, I.lnew (t' := s.toks) (r.append r2) (by rw [List.length_append]; (first|lia|omega)), rfl, q _ I.fresh⟩
def rRep : R2 := fun x y H Q => ∃ l k xs, x = .ref l /\ y = .int k /\ H l = some (.lst xs) /\ -(2 ^ 63) <= k /\ k < 2 ^ 63 /\ xs.length * k.toNat <= sizeLine /\
 ∀ p, H p = none -> Q (.ref p) (upd H p (.lst (List.replicate k.toNat xs).flatten))
theorem len_rep {α : Type} (xs : List α) (k : Nat) : (List.replicate k xs).flatten.length = k * xs.length := by
 induction k with
 | zero => simp
 | succ k ih => rw [List.replicate_succ, List.flatten_cons, List.length_append, ih, Nat.succ_mul, Nat.add_comm]
theorem op_rep : OpR X (binaryOp .Mult) rRep := by
 intro pins s σ H x y v u Q I rx ry h
 obtain ⟨l, k, xs, rfl, rfl, hH, h1, h2, hz, q⟩ := h
 cases rx
 obtain ⟨t, rfl⟩ := ry
 obtain ⟨z, its, n, r, hl, e⟩ := I.lstM hH
 have hlen : its.toArray.size * k.toNat <= sizeLine := by rw [List.size_toArray, <- hl]; exact hz
 have hcap : ¬ its.toArray.size * k.toNat > (2 ^ 63 - 1) / 8 := by
  have : (sizeLine : Nat) <= (2 ^ 63 - 1) / 8 := by decide
  (first|lia|omega)
 have hfit : ¬ (!Builtin.List.listFitsIndex k) = true := by
  rw [fitsIndex_both h1 h2]
  exact Bool.false_ne_true
 have hlong : ¬ Builtin.List.listTooLong (its.toArray.size * k.toNat) = true := by
  rw [notLongL hlen]
  exact Bool.false_ne_true
 have hnew : List.foldl (fun x1 x2 => x1 ++ x2) #[] (List.replicate (if its.toArray.isEmpty = true then 0 else k.toNat) its.toArray) = (List.replicate k.toNat its).flatten.toArray := by
  have f0 : ∀ m : Nat, List.foldl (fun x1 x2 => x1 ++ x2) #[] (List.replicate m its.toArray) = (List.replicate m its).flatten.toArray := fun m => by
   have := foldl_rep its m []
   rw [List.nil_append] at this
   exact this
  rw [f0]
  cases its with
  | nil => simp
  | cons a r' => rw [if_neg (by simp)]
 refine wpAny_binaryOp_repeat_ref (T := "list") (U := "int") (by decide) ⟨_, e, rfl⟩ (fun s' => typeIs_int s' k t) noFill_list_mul F.fills_int_mul F.slot_int_rmul repeat_list F.slot_int_index.lookup
  (call_meets F.slot_int_rmul (typeIs_int s k t) F.entry_int_rmul (F.args_int_rmul_2 _ _) (int___rmul___int_list k t l its.toArray n)
   ⟨e, rfl, ⟨_, e, rfl⟩, call_meets F.slot_list_mul ⟨_, e, rfl⟩ F.entry_list_mul (F.args_list_mul_2 _ _) (AutoListH.list___mul___list_int_3 l its.toArray n k t hfit hcap hlong) ⟨e, ?_⟩⟩)
 rw [hnew]
 exact ⟨.ref _, _, I.lnew (t' := s.toks) (r.rep k.toNat) (by rw [len_rep, Nat.mul_comm]; exact hz), rfl, q _ I.fresh⟩

end

section
variable {prog : Program} {w : World} {A : Around} {E : Value -> Shared -> Prop} {s : Shared}
set_option maxRecDepth 100000 in
end

section
variable {X : Cx}
end
end L2

namespace Att
open PySem PySem.W PySem.Calls PyProof.Rows

theorem ints_of_wellAll {P : Params} {h : Heap} : ∀ (ns : List Int) (vs : List Value), WellAll P h vs (ns.map WData.int) -> IntsAre vs ns := by
 intro ns
 induction ns with
 | nil =>
  intro vs w
  rw [List.map_nil] at w
  cases w
  exact .nil
 | cons n ns ih =>
  intro vs w
  rw [List.map_cons] at w
  cases w with
  | cons a b =>
   cases a
   exact .cons _ _ (ih _ b)

theorem script_of {l : OpenLaw} {n : Nat} (hn : l.most = some n) {P : Params} {h : Heap} {args : List WData} {vals : List Value}
  (hpre : l.row.toRowW.claim.pre args = true) (hwl : WellAll P h vals args) :
  ∃ a vs ns, vals = [Value.ref a] /\ args = [WData.list (ns.map WData.int)] /\ h.get? a = some { cls := .type "list", data := .seq vs.toArray } /\ IntsAre vs ns /\ ns.length <= n := by
 have hsh : WShape.hasAll [] args [.list .int] = true := (pre_splitW hpre).1
 have hc : l.pre.holds [] { args := args } = true := (pre_splitW hpre).2
 obtain ⟨d, r, rfl, h1, h2⟩ := hasAllW_cons hsh
 obtain rfl := hasAllW_nil h2
 obtain ⟨xs, rfl, h3⟩ := hasW_list h1
 obtain ⟨ns, rfl⟩ := items_int h3
 have hlen : ns.length <= n := by
  unfold OpenLaw.pre at hc
  have h4 : (WTm.not (.lt (.lit (.int (n : Int))) (.len (.arg 0)))).holds [] { args := [.list (ns.map .int)] } = true := by
   have h4 := (holds_andW hc).1
   rw [hn] at h4
   exact h4
  have h5 := condW_of h4 (w_not (w_lt w_lit (w_len_list (w_arg rfl))))
  rw [List.length_map] at h5
  refine Nat.le_of_not_lt fun q => ?_
  have q' : (n : Int) < ((ns.length : Nat) : Int) := by (first|lia|omega)
  first
   | (rw [decide_eq_true q'] at h5; exact absurd h5 (by decide))
   | (simp at h5; (first|lia|omega))
 cases hwl with
 | cons w1 w2 =>
  cases w2
  cases w1 with
  | list ho hall => exact ⟨_, _, ns, rfl, rfl, ho, ints_of_wellAll ns _ hall, hlen⟩

theorem post_true (l : OpenLaw) (args : List WData) : l.row.toRowW.claim.post args (.bool true) args = true :=
 postW_of (r := l.row.toRowW) (X := (true == true))
  (show WShape.has [] (.bool true) .bool = true by first | rfl | decide | simp [WShape.has, WShape.arms, WShape.armsAll])
  (show (WTm.eq .res (.lit (.bool true))).value [] { args := args, res := some (.bool true), after := args } = some (.bool (true == true)) from w_eq_bool (w_res rfl) w_lit) rfl

theorem attach_call {l : OpenLaw} {n : Nat} {q : Program} {loose : List Str} {XP : (Str -> Option Value) -> Heap -> Prop} {YP : World -> Heap -> Prop} {d : DefRec}
  (hn : l.most = some n) (hdf : d.params.defaults = [])
  (call : ∀ (w : World) (s₀ s₁ : Shared) (mg mb : Str -> Option Value) (fa : Addr) (o : Obj) (pm cd doc : Value) (a : Addr) (vs : List Value) (ns : List Int),
   Ground q loose [] XP w s₀ mg mb s₁.heap -> YP w s₁.heap ->
   s₁.heap.get? fa = some o -> o.data = .func (docDef d.name d.params d.body d.scope pm cd doc) -> s₁.heap.CodeRec cd d.name -> mg d.name = some (.ref fa) ->
   s₁.heap.get? a = some { cls := .type "list", data := .seq vs.toArray } -> IntsAre vs ns -> ns.length <= n -> s₁.gens = #[] ->
   codeAny (model l.prog w) callerA (.call (.ref fa) ⟨[.ref a], []⟩) (fun r s' => r = .ok (.ret (.bool true)) /\ OldK s₁.heap s'.heap /\ s'.os = s₁.os /\ AllBare s'.gens) s₁) :
  WalkO q loose XP YP l.row.toRowW d [] (fun f vs => PySem.call f vs) := by
 intro w s₀ s₁ mg mb G Y fa o pm cd doc dV kV ho hd hcd hD hmg hg args vals as hpre hlay hrd hwl hlo
 obtain rfl : dV = .none := Dflts.none hD hdf
 obtain rfl : kV = .none := Dflts.noKw hD
 obtain ⟨a, vs, ns, rfl, rfl, hobj, hints, hlen⟩ := script_of hn hpre hwl
 refine enter_call (codeAny_mono (call w s₀ s₁ mg mb fa o pm cd doc a vs ns G Y ho (fd_plain hd) hcd hmg hobj hints hlen hg) fun r s' hq => ?_)
 obtain ⟨rfl, h2, h3, h4⟩ := hq
 exact ⟨.inl ⟨.bool true, .bool true, [], rfl, fun _ => rfl, .bool true, post_true l _, fun _ => ⟨List.Pairwise.nil, fun _ hm => (nomatch hm)⟩⟩, h2, h3, h4⟩

section
variable {prog : Program} {w : World} {A : Around} {E : Value -> Shared -> Prop} {s : Shared} {K : Frag}

def ledger (h : Heap) (L d : Addr) : List (Addr × Obj) := (List.range h.objs.size).filterMap fun a => if a = L \/ a = d then none else (h.get? a).map fun o => (a, o)
end
end Att

namespace L2
open PySem PySem.Spec PyProof.Rows

theorem vals_ints : ∀ {vs : List Value} {ns : List Int}, IntsAre vs ns -> Vals (ns.map V.int) vs
 | _, _, .nil => .nil
 | _, _, .cons n t h => .cons ⟨t, rfl⟩ (vals_ints h)

def Only (H : Hp) : Prop := ∀ b, H b = none \/ ∃ o xs, H b = some (.frz o (.lst xs))

theorem law_call {P : Program} {w : World} {K : PySem.W.Frag} {mg mb : Str -> Option Value} {CX : CXT} {k : Nat} {fa a : Addr} {fd : FuncData} {x : Str} {sp : Sp} {s₁ : Shared} {vs : List Value} {ns : List Int}
  (KX : K.In s₁.heap) (hns : s₁.heap.Ns mainGlobals mg) (hb : s₁.heap.Ns builtinsNs mb) (hbb : ∀ x : Str, x ≠ "__name__" -> mb x = bootBuiltins x) (hlim : s₁.heap.NoLimit) (hg : s₁.gens = #[])
  (ha : s₁.heap.get? a = some { cls := .type "list", data := .seq vs.toArray }) (hi : IntsAre vs ns) (hl : ns.length <= sizeLine) (hr : Room k callerA)
  (F : ∀ base : Heap, K.In base -> base.Ns mainGlobals mg -> FnOk P w K mg base CX k fa fd [x] sp) (hbind : ∀ (s : Shared) (u : Value), BindsTo s fd ⟨[u], []⟩ [(x, u)])
  (hsp : ∀ H : Hp, Only H -> SqL K H a (ns.map V.int) -> sp [.ref a] H (fun v _ => v = .bl true) fun _ _ _ => False)
  (hCX : ∀ H e s', CX [] H s₁ (fun _ _ _ => False) e s' -> False) :
  codeAny (model P w) callerA (.call (.ref fa) ⟨[.ref a], []⟩) (fun r s' => r = .ok (.ret (.bool true)) /\ OldK s₁.heap s'.heap /\ s'.os = s₁.os /\ AllBare s'.gens) s₁ := by
 have rv := vals_ints hi
 have lenV := hi.length
 have core : ∀ H : Hp, Only H -> SqL K H a (ns.map V.int) -> HOk P w H s₁.heap -> (∀ b, H b ≠ none -> b = a) -> (H a ≠ none -> K.lookup a = none) ->
   codeAny (model P w) callerA (.call (.ref fa) ⟨[.ref a], []⟩) (fun r s' => r = .ok (.ret (.bool true)) /\ OldK s₁.heap s'.heap /\ s'.os = s₁.os /\ AllBare s'.gens) s₁ := by
  intro H hO hS hok hA hK
  have base_of : ∀ {b : Addr} {o : Obj}, s₁.heap.get? b = some o -> H b = none -> (hidT s₁.heap H).get? b = some o := fun e n => hidT_get e n
  have noA : ∀ {b : Addr} {o : Obj} {es : Array DictEntry} {ep : Nat}, s₁.heap.get? b = some o -> o.data = .dict es ep -> H b = none := fun {b o es ep} e d => by
   cases q : H b with
   | none => rfl
   | some u =>
    have e' : b = a := hA b (by rw [q]; simp)
    subst e'
    rw [ha] at e; cases e
    have d' : Data.seq vs.toArray _ = Data.dict es ep := d
    cases d'
  have nsK : ∀ {b : Addr} {m : Str -> Option Value}, s₁.heap.Ns b m -> (hidT s₁.heap H).Ns b m := fun {b m} ⟨o, es, ep, e, d, r⟩ => ⟨o, es, ep, base_of e (noA e d), d, r⟩
  have hKb : K.In (hidT s₁.heap H) := fun b o e => base_of (KX b o e) (by
   cases q : H b with
   | none => rfl
   | some u =>
    have e' : b = a := hA b (by rw [q]; simp)
    subst e'
    rw [hK (by rw [q]; simp)] at e; cases e)
  have hM : Mod K mg (hidT s₁.heap H) := ⟨hKb, nsK hns, ⟨mb, nsK hb, hbb⟩, let ⟨mc, h1, h2⟩ := hlim; ⟨mc, nsK h1, h2⟩⟩
  have e0 : Env0 P w K mg (hidT s₁.heap H) callerA [] s₁ H := ⟨rfl, hM, fun b o e => of_hidT e, Nat.le_of_eq (hidT_size _ _), trivial, fun b hb => absurd (show b ∈ ([] : List Addr) from hb) (by simp), hok, .of_eq hg⟩
  refine codeAny_mono ((F _ hKb (nsK hns)).run callerA [] s₁ H ⟨[.ref a], []⟩ [.ref a] [.ref a] _ _ hr e0 (hbind s₁ (.ref a)) (.cons rfl .nil) (hsp H hO hS)) fun r s' h => ?_
  cases r with
  | error e => exact (hCX H e s' h).elim
  | ok fl =>
   cases fl with
   | next => exact False.elim h
   | brk => exact False.elim h
   | cont => exact False.elim h
   | ret u =>
    obtain ⟨v, H', os, bare, un, hok', r', q⟩ := h
    have q' : v = .bl true := q
    subst q'
    obtain rfl : u = Value.bool true := r'
    refine ⟨rfl, OldK.of_keep fun b o e => ?_, os, bare⟩
    cases q : H b with
    | none => exact un.keep b o e q (by intro z; exact absurd (show b ∈ ([] : List Addr) from z) (by simp)) (by simp)
    | some u =>
     rcases hO b with z | ⟨ob, xs, z⟩
     ·rw [q] at z; cases z
     ·have z2 := un.frzs b ob _ z
      obtain ⟨e1, _⟩ := hok b _ z
      obtain ⟨e2, _⟩ := hok' b _ z2
      rw [e] at e1; cases e1
      exact e2
 cases hk : K.lookup a with
 | some o =>
  have e := KX a o hk
  rw [ha] at e
  cases e
  refine core (fun _ => none) (fun _ => .inl rfl) (.inr ⟨_, vs.toArray, _, hk, rfl, rfl, rfl, by rw [List.size_toArray, lenV]; exact hl, by simpa using rv⟩) (fun b u z => by have z' : (none : Option HO) = some u := z; cases z') (fun b z => absurd rfl z) fun z => absurd rfl z
 | none =>
  refine core (fun b => if b = a then some (.frz { cls := .type "list", data := .seq vs.toArray } (.lst (ns.map V.int))) else none) (fun b => ?_) (.inl (.inr ⟨{ cls := .type "list", data := .seq vs.toArray }, if_pos rfl⟩)) (fun b u z => ?_) (fun b z => ?_) fun _ => hk
  ·by_cases hb : b = a
   ·exact .inr ⟨_, _, if_pos hb⟩
   ·exact .inl (if_neg hb)
  ·by_cases hb : b = a
   ·have z' := (if_pos hb).symm.trans z
    cases z'
    subst hb
    exact ⟨ha, by rw [List.length_map]; exact hl, vs, _, rv, ha⟩
   ·have z' := (if_neg hb).symm.trans z
    cases z'
  ·by_cases hb : b = a
   ·exact hb
   ·exact absurd (if_neg hb) z
end L2

namespace L2
open PySem PySem.Spec PyProof.Rows

theorem walk_of {l : PySem.W.OpenLaw} {n k : Nat} {q : Program} {loose : List Str} {XP : (Str -> Option Value) -> Heap -> Prop} {YP : World -> Heap -> Prop} {d : DefRec} {K : Params -> PySem.W.Frag} {CX : World -> CXT} {sp : World -> Sp} {x : Str}
  (hn : l.most = some n) (hn2 : n <= sizeLine) (hdf : d.params.defaults = []) (hr : Room k callerA)
  (hY : ∀ (w : World) (h : Heap), YP w h -> (K w.params).In h)
  (F : ∀ (w : World) (mg : Str -> Option Value) (fa : Addr) (h : Heap), (K w.params).In h -> h.Ns mainGlobals mg -> mg d.name = some (.ref fa) ->
   ∃ fd : FuncData, (∀ (s : Shared) (u : Value), BindsTo s fd ⟨[u], []⟩ [(x, u)]) /\
    ∀ base : Heap, (K w.params).In base -> base.Ns mainGlobals mg -> FnOk l.prog w (K w.params) mg base (CX w) k fa fd [x] (sp w))
  (hsp : ∀ (w : World) (H : Hp) (a : Addr) (ns : List Int), ns.length <= n -> Only H -> SqL (K w.params) H a (ns.map V.int) -> sp w [.ref a] H (fun v _ => v = .bl true) fun _ _ _ => False)
  (hCX : ∀ (w : World) (H : Hp) (s : Shared) (e : Value) (s' : Shared), CX w [] H s (fun _ _ _ => False) e s' -> False) :
  PySem.W.WalkO q loose XP YP l.row.toRowW d [] (fun f vs => PySem.call f vs) := by
 refine Att.attach_call hn hdf fun w s₀ s₁ mg mb fa o pm cd doc a vs ns G Y ho hd hcd hmg hobj hints hlen hg => ?_
 have KX := hY w _ Y
 obtain ⟨fd, hb, hF⟩ := F w mg fa _ KX G.T.g hmg
 exact law_call KX G.T.g G.T.b G.T.builtins G.T.nolimit hg hobj hints (Nat.le_trans hlen hn2) hr hF hb (fun H hO hS => hsp w H a ns hlen hO hS) fun H e s' => hCX w H s₁ e s'
end L2


namespace L2
open PySem PySem.Spec PyProof.Rows

def inClass (s : Stmt) (j : Nat) : Stmt := match s with
 | .ClassDef _ _ _ body _ _ _ _ _ _ _ => body.getD j (.Pass ⟨0, 0, 0, 0⟩)
 | _ => .Pass ⟨0, 0, 0, 0⟩
def defArgs (s : Stmt) : Arguments := match s with
 | .FunctionDef _ a _ _ _ _ _ _ _ _ => a
 | _ => { posonlyargs := [], args := [], vararg := none, kwonlyargs := [], kw_defaults := [], kwarg := none, defaults := [] }
def defBody (s : Stmt) : List Stmt := match s with
 | .FunctionDef _ _ b _ _ _ _ _ _ _ => b
 | _ => []
def defScope (s : Stmt) : Scope := match s with
 | .FunctionDef _ _ _ _ _ _ sc _ _ _ => sc
 | _ => { kind := .function, names := [], isGenerator := false, isCoroutine := false }

abbrev E0 : XK := fun _ _ _ => False
structure Fun (K : PySem.W.Frag) (x qual : Str) (st : Stmt) (f : Addr) (fd : FuncData) : Prop where
 ex : ∃ (oc : Value) (od : Option Addr) (kV doc pm : Value) (an : Option Addr) (cdv ct : Value) (osl : Array (Option Value)),
  fd = PySem.W.fnOf x qual (defArgs st) (defBody st) (defScope st) .none kV doc pm an cdv ct /\ K.lookup f = some ⟨oc, od, .func fd, osl⟩ /\ PySem.W.codeIn K cdv qual = true
 kp : PySem.W.keepIn K (.ref f) = true
section
variable {P : Program} {w : World} {K : PySem.W.Frag} {mg : Str -> Option Value} {base : Heap}
theorem Fun.binds {x qual : Str} {st : Stmt} {f : Addr} {fd : FuncData} {ps : List Str} (F : Fun K x qual st f fd)
  (h : ∀ (kV doc pm : Value) (an : Option Addr) (cdv ct : Value) (us : List Value), us.length = ps.length -> bindArgs (PySem.W.fnOf x qual (defArgs st) (defBody st) (defScope st) .none kV doc pm an cdv ct) ⟨us, []⟩ = pure (ps.zip us)) : Binds K fd ps [] := by
 obtain ⟨oc, od, kV, doc, pm, an, cdv, ct, osl, rfl, lk, hcd⟩ := F.ex
 exact .all (h kV doc pm an cdv ct)
theorem zZ {x qual : Str} {st : Stmt} {f : Addr} {oc : Value} {od an : Option Addr} {osl : Array (Option Value)} {kV doc pm cdv ct : Value} (l : K.lookup f = some ⟨oc, od, .func (PySem.W.fnOf x qual (defArgs st) (defBody st) (defScope st) .none kV doc pm an cdv ct), osl⟩)
  (c : PySem.W.codeIn K cdv qual = true) (k : PySem.W.keepIn K (.ref f) = true) : Fun K x qual st f (PySem.W.fnOf x qual (defArgs st) (defBody st) (defScope st) .none kV doc pm an cdv ct) := ⟨⟨oc, od, kV, doc, pm, an, cdv, ct, osl, rfl, l, c⟩, k⟩
end
theorem small1000 {n : Nat} (h : n <= 1000) : n < sizeLine := Nat.lt_of_le_of_lt h (by decide)

section
variable {X : Cx}
theorem pv (i : Nat) {x : Str} {pos : Pos} (hN : X.N[i]? = some x := by rfl) (hv : Vis X.env.scope x := by first | exact Or.inl rfl | exact Or.inr (Or.inl rfl) | exact Or.inr (Or.inr rfl)) (hd : (x == ("__debug__" : Str)) = false := by decide)
  (hcd : (x == ("__classdict__" : Str)) = false := by decide) : PE X (.Name x pos) (tVar i) := pe_var hN hv hd hcd
end

theorem iteF {A B : Prop} (h : B) : if false = true then A else B := by
 rw [if_neg Bool.false_ne_true]
 exact h
theorem iteT {A B : Prop} (h : A) : if true = true then A else B := by
 rw [if_pos rfl]
 exact h
theorem ite2 {c A B : Prop} [Decidable c] (h1 : c -> A) (h2 : ¬ c -> B) : if c then A else B := by
 by_cases h : c
 ·rw [if_pos h]
  exact h1 h
 ·rw [if_neg h]
  exact h2 h
theorem iteNS {c A B : Prop} [Decidable c] (hc : c) (h : B) : if (!decide c) = true then A else B := by
 rw [decide_eq_true hc]
 exact iteF h

def Same (H H' : Hp) : Prop := ∀ b o, H b = some o -> H' b = some o
theorem Same.refl (H : Hp) : Same H H := fun _ _ h => h
theorem Same.trans {H H1 H2 : Hp} (a : Same H H1) (b : Same H1 H2) : Same H H2 := fun c o h => b c o (a c o h)
theorem Same.free {H H' : Hp} (e : Same H H') {l : Addr} (h : H' l = Option.none) : H l = Option.none := by
 cases q : H l with
 | none => rfl
 | some o =>
  rw [e l o q] at h
  cases h
theorem Same.seq {K : PySem.W.Frag} {H H' : Hp} {a : Addr} {xs : List V} (e : Same H H') (h : SqL K H a xs) : SqL K H' a xs := by
 rcases h with (h | ⟨o, h⟩) | h
 ·exact .inl (.inl (e _ _ h))
 ·exact .inl (.inr ⟨o, e _ _ h⟩)
 ·exact .inr h

end L2

namespace L2
open PySem PySem.Spec PyProof.Rows

theorem comp_turns {prog : Program} {w : World} {A : Around} {R : Result -> Shared -> Prop} {s : Shared} {elt target iter : Expr} {ifs : List Expr} {scope : Scope} {pos : Pos} {it acc : Value} {env : Env} (J : Nat -> Shared -> Prop)
  (turn : ∀ n s, J n s -> wpAny (model prog w) A (pyNext it) (fun r s1 => match r with
   | none => R (.ok .next) s1
   | some v => wpAny (model prog w) A (letOwnedTupleGo target it v) (fun _ s1 => wpAny (model prog w) A (assign target env v) (fun _ s2 =>
     wpAny (model prog w) A (forIn ifs true fun c r => if r = true then do let ok <- isTrue c env (eval c env); pure (ForInStep.yield ok) else pure (ForInStep.yield r)) (fun ok s3 =>
      if ok = true then wpAny (model prog w) A (eval elt env) (fun x s4 =>
       wpAny (model prog w) A (call (.builtin "list.append") [acc, x]) (fun _ s5 => ∃ m, m < n /\ J m s5) (fun _ _ => False) s4) (fun _ _ => False) s3
      else ∃ m, m < n /\ J m s3) (fun _ _ => False) s2) (fun _ _ => False) s1) (fun _ _ => False) s1) (fun _ _ => False) s)
  (n : Nat) (h : J n s) :
  codeAny (model prog w) A (.compLoop (.ListComp elt [⟨target, iter, ifs, 0⟩] scope pos) 0 it acc env) R s := by
 refine codeAny_loop rfl J (fun n s hI => ?_) n h
 show wpAny _ A ((compTurn (.ListComp elt [⟨target, iter, ifs, 0⟩] scope pos) 0 it acc env).onRaise (fun x => do noteFrame x env; theTreesLotGoes x)) _ _ s
 refine wpAny_noted (wpAny_mono (E := fun _ _ => False) ?_ (fun _ _ q => q) fun _ _ q => q.elim)
 rw [compTurn_list]
 refine wpAny_bind (wpAny_standAt (wpAny_bind (thn (turn n s hI) fun r s1 h1 => ?_)))
 cases r with
 | none => exact wpAny_pure h1
 | some v =>
  refine wpAny_bind (thn h1 fun _ s1 h1 => ?_)
  refine wpAny_bind (thn h1 fun _ s2 h2 => wpAny_bind (thn h2 fun ok s3 h3 => ?_))
  cases ok with
  | false => exact wpAny_pure ⟨rfl, h3⟩
  | true => exact wpAny_bind (wpAny_bind (thn h3 fun x s4 h4 => wpAny_bind (thn h4 fun _ s5 h5 => wpAny_pure (wpAny_pure ⟨rfl, h5⟩))))

theorem closure_ok {env : Env} : ∀ (names : List (Str × NameKind)) (acc : List (Str × Addr)), (∀ y ∈ names, y.2 = .free -> ∃ c, env.cells.lookup y.1 = some c) ->
  ∃ cl : List (Str × Addr), (forIn names acc (fun (y : Str × NameKind) (r : List (Str × Addr)) => if (y.2 == NameKind.free) = true then do let a <- cellOf env y.1; pure (ForInStep.yield ((y.1, a) :: r)) else pure (ForInStep.yield r)) : Sem _) = pure cl /\
   ∀ x, (∀ c, cl.lookup x = some c -> acc.lookup x = some c \/ env.cells.lookup x = some c) /\ ((acc.lookup x).isSome = true \/ (x, NameKind.free) ∈ names -> (cl.lookup x).isSome = true)
 | [], acc, _ => ⟨acc, rfl, fun x => ⟨fun c h => .inl h, fun h => h.elim id fun z => nomatch z⟩⟩
 | (n, k) :: r, acc, hf => by
  by_cases hk : k = .free
  ·subst hk
   obtain ⟨c, hc⟩ := hf (n, .free) List.mem_cons_self rfl
   obtain ⟨cl, e, q⟩ := closure_ok r ((n, c) :: acc) fun y hy => hf y (List.mem_cons_of_mem _ hy)
   refine ⟨cl, ?_, fun x => ⟨fun d hd => ?_, fun hx => ?_⟩⟩
   ·rw [List.forIn_cons]
    have e1 : cellOf env n = pure c := by unfold cellOf; simp only [hc]
    simp only [beq_self_eq_true, if_true, e1]
    exact e
   ·rcases (q x).1 d hd with z | z
    ·by_cases hx : x = n
     ·subst hx; rw [List.lookup_cons_self] at z; cases z; exact .inr hc
     ·rw [List.lookup_cons, beq_eq_false_iff_ne.mpr hx] at z; exact .inl z
    ·exact .inr z
   ·refine (q x).2 ?_
    by_cases hxn : x = n
    ·subst hxn; exact .inl (by rw [List.lookup_cons_self]; rfl)
    ·rcases hx with z | z
     ·exact .inl (by rw [List.lookup_cons, beq_eq_false_iff_ne.mpr hxn]; exact z)
     ·rcases List.mem_cons.mp z with z | z
      ·cases z; exact absurd rfl hxn
      ·exact .inr z
  ·obtain ⟨cl, e, q⟩ := closure_ok r acc fun y hy => hf y (List.mem_cons_of_mem _ hy)
   refine ⟨cl, ?_, fun x => ⟨(q x).1, fun hx => (q x).2 ?_⟩⟩
   ·rw [List.forIn_cons]
    have hb : (k == NameKind.free) = false := by simpa using hk
    simp only [hb, Bool.false_eq_true, if_false]
    exact e
   ·rcases hx with z | z
    ·exact .inl z
    ·rcases List.mem_cons.mp z with z | z
     ·cases z; exact absurd rfl hk
     ·exact .inr z
theorem closure_at {env : Env} {scope : Scope} (hf : ∀ y ∈ scope.names, y.2 = .free -> ∃ c, env.cells.lookup y.1 = some c) :
  ∃ cl, closureFor scope env = pure cl /\ (∀ x c, cl.lookup x = some c -> env.cells.lookup x = some c) /\ ∀ x, (x, NameKind.free) ∈ scope.names -> ∃ c, cl.lookup x = some c := by
 obtain ⟨cl, e, q⟩ := closure_ok scope.names [] hf
 refine ⟨cl, ?_, fun x c h => ?_, fun x hx => Option.isSome_iff_exists.mp ((q x).2 (.inr hx))⟩
 ·unfold closureFor
  exact (congrArg (· >>= fun r => pure r) e).trans rfl
 ·rcases (q x).1 c h with z | z
  ·simp at z
  ·exact z

abbrev Cx.comp (X : Cx) (N : List Str) (scope : Scope) (cl : List (Str × Addr)) (C : Addr) (fp : List Addr) (s : Shared) (H : Hp) : Cx :=
 { X with N := N, s₀ := s, H₀ := H, env := compEnvC scope cl C X.env, outer := X.stack, stack := X.stack, ex := fp, fn := fun _ => false, pn := [], xe := fun _ _ => False }

structure PTs (X : Cx) (ifs : List Expr) (t : TT)  : Prop where
 go : ∀ (pins : List (Addr × Obj)) (s : Shared) (σ : St) (H : Hp) (Q : Bool -> Hp -> Prop), Inv X pins σ H s -> t σ H Q ->
  wpAny (model X.prog X.w) X.A (forIn ifs true fun c r => if r = true then do let ok <- isTrue c X.env (eval c X.env); pure (ForInStep.yield ok) else pure (ForInStep.yield r)) (TP X pins σ Q) X.xe s
instance {X : Cx} {ifs : List Expr} {t : TT} : CoeFun (PTs X ifs t) (fun _ => ∀ (pins : List (Addr × Obj)) (s : Shared) (σ : St) (H : Hp) (Q : Bool -> Hp -> Prop), Inv X pins σ H s -> t σ H Q ->
  wpAny (model X.prog X.w) X.A (forIn ifs true fun c r => if r = true then do let ok <- isTrue c X.env (eval c X.env); pure (ForInStep.yield ok) else pure (ForInStep.yield r)) (TP X pins σ Q) X.xe s) := ⟨PTs.go⟩
def tYes : TT := fun _ H Q => Q true H
theorem pts_nil {X : Cx} : PTs X [] tYes := ⟨fun _ _ _ H _ I h => wpAny_tests_nil ⟨H, I, h⟩⟩
def compSt (own : Nat) (js : List Nat) (σ : St) : St := List.replicate own none ++ js.map fun j => (σ[j]?).join
def CompGo (J : It) (p : Addr) (σ0 : St) (H0 : Hp) (g : TG) (tt : TT) (te : TE) (R : Hp -> Prop) : Prop :=
 ∃ W : Nat -> Nat -> St -> Hp -> Prop, (∃ m, W 0 m σ0 H0) /\ ∀ i m σ' H', W i m σ' H' ->
  (J.stop i H' /\ R H') \/ (J.go i H' /\ ∀ x H2, J.yld i H' x H2 -> g x σ' H2 fun σ3 H3 => tt σ3 H3 fun b H4 =>
   if b = true then te σ3 H4 fun v H5 => ∃ ys, H5 p = some (.lst ys) /\ ys.length < sizeLine /\ ∃ m', m' < m /\ W (i + 1) m' σ3 (upd H5 p (.lst (ys ++ [v])))
   else ∃ m', m' < m /\ W (i + 1) m' σ3 H4)
def tComp (wi : TI) (own : Nat) (js : List Nat) (g : TG) (tt : TT) (te : TE) : TE := fun σ H Q => wi σ H fun J H1 => ∀ p, H1 p = none -> CompGo J p (compSt own js σ) (upd H1 p (.lst [])) g tt te (Q (.ref p))
inductive Frees (N : List Str) : List Str -> List Nat -> Prop where
 | nil : Frees N [] []
 | cons {y : Str} {j : Nat} {ys : List Str} {js : List Nat} (h : N[j]? = some y) (r : Frees N ys js) : Frees N (y :: ys) (j :: js)
theorem Frees.at {N : List Str} : ∀ {ys : List Str} {js : List Nat}, Frees N ys js -> ∀ (i : Nat) (y : Str), ys[i]? = some y -> ∃ j, js[i]? = some j /\ N[j]? = some y
 | _, _, .nil, _, _, e => by simp at e
 | _, _, .cons (j := j) h _, 0, _, e => by simp at e; subst e; exact ⟨j, rfl, h⟩
 | _, _, .cons _ r, i + 1, y, e => by
  obtain ⟨j, h1, h2⟩ := r.at i y (by simpa using e)
  exact ⟨j, by simpa using h1, h2⟩
theorem Frees.length {N : List Str} : ∀ {ys : List Str} {js : List Nat}, Frees N ys js -> ys.length = js.length
 | _, _, .nil => rfl
 | _, _, .cons _ r => by simp [r.length]
theorem wK {f : Str -> NameKind -> NameKind} : ∀ {names : List (Str × NameKind)} {x : Str}, (names.map fun y => (y.1, f y.1 y.2)).lookup x = (names.lookup x).map (f x)
 | [], _ => rfl
 | (n, k) :: r, x => by
  by_cases h : x = n
  ·subst h; rw [List.map_cons, List.lookup_cons_self, List.lookup_cons_self]; rfl
  ·have hb : (x == n) = false := beq_eq_false_iff_ne.mpr h
   rw [List.map_cons, List.lookup_cons, List.lookup_cons, hb]
   exact wK
def relK (env : Env) (n : Str) (k : NameKind) : NameKind := if (k == .free && env.scope.kind == .function && env.kindOf n == some .cell) = true then .cell else k
theorem relabel_look (scope : Scope) (env : Env) (x : Str) : (relabel scope env).names.lookup x = (scope.names.lookup x).map (relK env x) := by
 have e : (relabel scope env).names = scope.names.map fun y => (y.1, relK env y.1 y.2) := by
  unfold relabel
  refine List.map_congr_left fun y _ => ?_
  obtain ⟨n, k⟩ := y
  show (if (k == .free && env.scope.kind == .function && env.kindOf n == some .cell) = true then (n, NameKind.cell) else (n, k)) = (n, relK env n k)
  unfold relK
  split <;> rfl
 rw [e, wK]

section
variable {X : Cx} {elt target iter : Expr} {ifs : List Expr} {scope : Scope} {own ys : List Str} {js : List Nat} {wi : TI} {g : TG} {tt : TT} {te : TE} {pos : Pos}
theorem comp_block {pins : List (Addr × Obj)} {σ : St} {H : Hp} {s2 : Shared} {it : Addr} {fp : List Addr} {tn : Nat -> Heap -> Prop} {J : It} {Q : VK} {E : Value -> Shared -> Prop} {cl : List (Str × Addr)} {RR : Value -> Addr -> Result -> Shared -> Prop}
  (hc : X.calm = true) (I : Inv X pins σ H s2) (T : Turn X.prog X.w X.K target J fp it tn) (st : tn 0 s2.heap) (fpk : ∀ b ∈ fp, FpOk X pins H b)
  (hkind : scope.kind = .function) (hcell : ∀ y ∈ scope.names, y.2 ≠ .cell) (fr : Frees X.N ys js) (hys : ∀ y ∈ ys, X.env.kindOf y = some .cell)
  (hcl1 : ∀ x c, cl.lookup x = some c -> X.env.cells.lookup x = some c) (hcl2 : ∀ x, (x, NameKind.free) ∈ scope.names -> ∃ c, cl.lookup x = some c)
  (hvis : ∀ y ∈ ys, (relabel scope X.env).names.lookup y = some .cell)
  (hg : ∀ cl C fp s H, PG (X.comp (own ++ ys) scope cl C fp s H) target g) (ht : ∀ cl C fp s H, PTs (X.comp (own ++ ys) scope cl C fp s H) ifs tt) (he : ∀ cl C fp s H, PE (X.comp (own ++ ys) scope cl C fp s H) elt te)
  (h : ∀ p, H p = none -> ∃ W : Nat -> Nat -> St -> Hp -> Prop, (∃ m, W 0 m (compSt own.length js σ) (upd H p (.lst []))) /\ ∀ i m σ' H', W i m σ' H' ->
   (J.stop i H' /\ Q (.ref p) H') \/ (J.go i H' /\ ∀ x H2, J.yld i H' x H2 -> g x σ' H2 fun σ3 H3 => tt σ3 H3 fun b H4 =>
    if b = true then te σ3 H4 fun v H5 => ∃ ys, H5 p = some (.lst ys) /\ ys.length < sizeLine /\ ∃ m', m' < m /\ W (i + 1) m' σ3 (upd H5 p (.lst (ys ++ [v])))
    else ∃ m', m' < m /\ W (i + 1) m' σ3 H4))
  (hRR : ∀ D C (H' : Hp) (s' : Shared), Inv X pins σ H' s' -> Q (.ref D) H' -> (∃ m, s'.heap.Ns C m) -> H' C = none -> C ≠ X.env.locals -> X.s₀.heap.objs.size <= C -> (∀ x c, X.env.cells.lookup x = some c -> c ≠ C) -> (∀ p ∈ X.pn ++ pins, p.1 ≠ C) -> RR (.ref D) C (.ok .next) s') :
  wpAny (model X.prog X.w) X.A (newList []) (fun acc s3 => wpAny (model X.prog X.w) X.A (newFunctionEnv scope X.env.globals cl [] X.env.qual none .none (some X.env)) (fun cenv s4 =>
   codeAny (model X.prog X.w) X.A (.compStart (.ListComp elt [⟨target, iter, ifs, 0⟩] scope pos) 0 (.ref it) acc { cenv with scope := relabel scope X.env }) (RR acc cenv.locals) s4) E s3) E s2 := by
 refine wpAny_newObj_type (wpAny_newFunctionEnv hcell (by intro y hy; simp at hy) (fun h1 hns1 hsb1 => ?_) hkind)
 have hnp : H s2.heap.objs.size = none := I.hok.fresh (Nat.le_refl _)
 have I3 : Inv X pins σ (upd H s2.heap.objs.size (.lst [])) { s2 with heap := s2.heap.push { cls := .type "list", data := .seq ([] : List Value).toArray }, toks := s2.toks } :=
  I.lnew (its := []) (ys := []) .nil (Nat.zero_le _)
 obtain ⟨W, ⟨m0, w0⟩, turn⟩ := h _ hnp
 clear h
 generalize hH0 : upd H s2.heap.objs.size (.lst []) = H0 at I3 w0
 generalize hp : s2.heap.objs.size = p at *
 have eS : ({ s2 with heap := s2.heap.push { cls := .type "list", data := .seq ([] : List Value).toArray }, toks := s2.toks } : Shared) = { s2 with heap := s2.heap.push { cls := .type "list", data := .seq ([] : List Value).toArray } } := rfl
 rw [eS] at I3
 clear eS
 generalize hs3 : ({ s2 with heap := s2.heap.push { cls := .type "list", data := .seq ([] : List Value).toArray } } : Shared) = s3 at *
 have heap3 : s3.heap = s2.heap.push { cls := .type "list", data := .seq ([] : List Value).toArray } := by rw [<- hs3]
 have old3 : ∀ b o, s2.heap.get? b = some o -> s3.heap.get? b = some o := fun b o e => by rw [heap3]; exact Heap.get?_push_of_some _ e
 generalize hC : s3.heap.objs.size = C at *
 have st3 : tn 0 s3.heap := T.keep _ _ _ st fun b _ o e => old3 b o e
 have fp3 : ∀ b ∈ fp, b < C := fun b hb => by
  obtain ⟨o, e, _⟩ := T.obj _ _ st3 b hb
  have := Heap.lt_size e
  rw [hC] at this; exact this
 have nH0 : ∀ b ∈ fp, H0 b = none := fun b hb => by
  obtain ⟨o, e, _⟩ := T.obj _ _ st b hb
  rw [<- hH0, zJ (fun z => by have := Heap.lt_size e; rw [hp, z] at this; exact Nat.lt_irrefl _ this)]
  exact (fpk b hb).1
 have old1 : ∀ b o, s3.heap.get? b = some o -> h1.get? b = some o := fun b o e =>
  hsb1.extBut b o (fun z => by have := Heap.lt_size e; rw [hC, z] at this; exact Nat.lt_irrefl _ this) (Heap.get?_push_of_some _ e)
 have nstk : ∀ b ∈ fp, b ∉ frs X.stack := fun b hb z => by
  rcases List.mem_cons.mp (I.stkSub b z) with e | e
  ·exact (fpk b hb).2.1 e
  ·exact (fpk b hb).2.2.1 e
 have ncC : ∀ x c, X.env.cells.lookup x = some c -> c ≠ C := fun x c e z => by
  obtain ⟨v, o, ho, _⟩ := I3.cell x c e
  have := Heap.lt_size ho
  rw [hC, z] at this; exact Nat.lt_irrefl _ this
 have LC : C ≠ X.env.locals := fun z => by have := I3.lt; rw [hC, z] at this; exact Nat.lt_irrefl _ this
 have sC : X.s₀.heap.objs.size <= C := by rw [<- hC]; exact I3.sz
 have rl : ∀ x k, (compEnvC scope cl C X.env).kindOf x = some k -> (k = .cell \/ k = .free) -> (x, NameKind.free) ∈ scope.names := fun x k e hk => by
  have e' : (relabel scope X.env).names.lookup x = some k := e
  rw [relabel_look] at e'
  cases q : scope.names.lookup x with
  | none => rw [q] at e'; cases e'
  | some k0 =>
   rw [q] at e'
   have m0 := PySem.mem_of_lookup q
   have n0 := hcell _ m0
   have : relK X.env x k0 = k := Option.some.inj e'
   unfold relK at this
   split at this
   ·rename_i z
    have : k0 = .free := by
     simp only [Bool.and_eq_true, beq_iff_eq] at z
     exact z.1.1
    rw [<- this]; exact m0
   ·rcases hk with hk | hk
    ·exact absurd (this.trans hk) n0
    ·rw [<- hk, <- this]; exact m0
 let Y := X.comp (own ++ ys) scope cl C fp s3 H0
 have okY : Y.Ok := by
  refine ⟨I.ok.mod, ?_, I.ok.glob, I.ok.blt, ?_, fun x y c e1 e2 => I.ok.inj x y c (hcl1 x c e1) (hcl1 y c e2), fun x hx => ?_, fun x c z => (nomatch z), I.ok.hd, I.ok.frames, .inl rfl, fun b hb => ⟨?_, fun x c e => (fpk b hb).2.2.2.2.1 x c (hcl1 x c e)⟩, fun b o e => I3.bs b o e, ?_, fun b o e hb => ?_, nstk, I3.stack, I3.stkFree⟩
  ·exact hkind
  ·exact Nat.le_of_eq hC
  ·rcases hx with hx | hx
   ·exact hcl2 x (rl x _ hx (.inl rfl))
   ·exact hcl2 x (rl x _ hx (.inr rfl))
  ·exact Nat.ne_of_lt (fp3 b hb)
  ·exact Nat.le_trans I.ok.bsz I3.sz
  ·rcases (fpk b hb).2.2.2.1 with z | z
   ·exact I.ok.noex b o e z
   ·exact absurd (Nat.lt_of_lt_of_le (Heap.lt_size e) (Nat.le_trans I.ok.bsz z)) (Nat.lt_irrefl _)
 have I4 : Inv Y [] (compSt own.length js σ) H0 { s3 with heap := h1, toks := s3.toks + ([] : List (Str × Value)).length } := by
  refine ⟨okY, rfl, I3.bare, Un.kept old1, ⟨_, hns1, fun i x v e1 e2 e3 => ?_⟩, fun x c e => ?_, ?_, fun x c e => I3.freeC x c (hcl1 x c e), fun p hp => absurd (show p ∈ ([] : List (Addr × Obj)) from hp) (by simp), I3.hok.kept old1, ?_⟩
  ·have e1 : (own ++ ys)[i]? = some x := e1
   have hi : own.length <= i := Nat.le_of_not_lt fun lt => by
    unfold compSt at e2
    rw [List.getElem?_append_left (by simpa using lt), List.getElem?_replicate] at e2
    split at e2 <;> cases e2
   rw [List.getElem?_append_right hi] at e1
   obtain ⟨j, hj, hN⟩ := fr.at _ _ e1
   unfold compSt at e2
   rw [List.getElem?_append_right (by simpa using hi), List.length_replicate, List.getElem?_map, hj] at e2
   have e2 : (σ[j]?).join = some v := Option.some.inj e2
   have e2' : σ[j]? = some (some v) := by
    cases q : σ[j]? with
    | none => rw [q] at e2; cases e2
    | some z => rw [q] at e2; rw [show z = some v from e2]
   have my := List.mem_of_getElem? e1
   have hk := hys x my
   obtain ⟨m, hn, hl⟩ := I3.loc
   obtain ⟨u, r, q⟩ := hl j x v hN e2' (.inr (.inl hk))
   refine ⟨u, r, ?_⟩
   rcases q with ⟨k, _⟩ | ⟨_, c, e, z⟩
   ·rw [hk] at k; cases k
   ·obtain ⟨c', e'⟩ := hcl2 x (rl x _ (hvis x my) (.inl rfl))
    have : c' = c := by have := hcl1 x c' e'; rw [e] at this; exact (Option.some.inj this).symm
    subst this
    refine .inr ⟨?_, c', e', ?_⟩
    ·exact .inl (hvis x my)
    ·obtain ⟨o, ho, hd⟩ := z
     exact ⟨o, old1 _ _ ho, hd⟩
  ·obtain ⟨v, o, ho, hd⟩ := I3.cell x c (hcl1 x c e)
   exact ⟨v, o, old1 _ _ ho, hd⟩
  ·exact I3.hok.fresh (Nat.le_of_eq hC)
  ·unfold compSt
   show _ = (own ++ ys).length
   rw [List.length_append, List.length_replicate, List.length_map, List.length_append, fr.length]
 have stat : ∀ {H' : Hp}, (∀ b ∈ fp, H' b = none) -> ∀ b ∈ fp, FpOk Y [] H' b := fun hn b hb =>
  ⟨hn b hb, Nat.ne_of_lt (fp3 b hb), nstk b hb, .inl hb, fun x c e => (fpk b hb).2.2.2.2.1 x c (hcl1 x c e), fun p hp => absurd (show p ∈ ([] : List (Addr × Obj)) from hp) (by simp)⟩
 have fin : ∀ {σ' : St} {H' : Hp} {s' : Shared}, Inv Y [] σ' H' s' -> Q (.ref p) H' -> RR (.ref p) C (.ok .next) s' := fun {σ' H' s'} I' q => by
  have back : Inv X pins σ H' s' := I3.call' (ch := fp) I'.os I'.base I'.hok I'.bare fun b hb => ⟨(fpk b hb).2.2.2.1, (fpk b hb).2.1, (fpk b hb).2.2.2.2.1, (fpk b hb).2.2.2.2.2⟩
  obtain ⟨m, hn, _⟩ := I'.loc
  exact hRR p C H' s' back q ⟨m, hn⟩ I'.free LC sC ncC fun q hq z => by
   have := Heap.lt_size (I3.pin q hq).1
   rw [hC, z] at this; exact Nat.lt_irrefl _ this
 have loop : ∀ s4 : Shared, s4 = { s3 with heap := h1, toks := s3.toks + ([] : List (Str × Value)).length } ->
   codeAny (model X.prog X.w) X.A (.compLoop (.ListComp elt [⟨target, iter, ifs, 0⟩] scope pos) 0 (.ref it) (.ref p) (compEnvC scope cl C X.env)) (RR (.ref p) C) s4 := by
  rintro s4 rfl
  refine comp_turns (fun n s' => ∃ i σ' H', Inv Y [] σ' H' s' /\ tn i s'.heap /\ (∀ b ∈ fp, H' b = none) /\ W i n σ' H') ?_ m0 ⟨0, _, _, I4, T.keep _ _ _ st3 fun b _ o e => old1 b o e, nH0, w0⟩
  rintro n s5 ⟨i, σ5, H5, I5, st5, fr5, w5⟩
  rcases turn i n σ5 H5 w5 with ⟨stop, qn⟩ | ⟨go, step⟩
  ·refine thn (T.done Y rfl rfl rfl hc i [] s5 σ5 H5 (fun _ _ => False) I5 (stat fr5) st5 stop) fun r s6 hzz => ?_
   obtain ⟨hr, I6⟩ := hzz
   subst hr
   exact fin I6 qn
  ·refine thn (T.item Y rfl rfl rfl hc i [] s5 σ5 H5 (fun _ _ => False) I5 (stat fr5) st5 go) fun r s6 hzz => ?_
   obtain ⟨u, hr, h6⟩ := hzz
   subst hr
   refine thn h6 fun _ s7 hzz => ?_
   obtain ⟨x, H7, I7, r7, y7, st7, fr7⟩ := hzz
   have I7' := I7.pinned (stat fr7) (T.obj _ _ st7)
   have again : ∀ {σ9 : St} {H9 : Hp} {s9 : Shared} {m' : Nat}, Inv Y ([] ++ pinsAt fp s7.heap) σ9 H9 s9 -> m' < n -> W (i + 1) m' σ9 H9 -> ∃ m, m < n /\ ∃ i σ' H', Inv Y [] σ' H' s9 /\ tn i s9.heap /\ (∀ b ∈ fp, H' b = none) /\ W i m σ' H' := fun {σ9 H9 s9 m'} I9 hm w9 => by
    refine ⟨m', hm, i + 1, σ9, H9, I9.unpinned, T.keep _ _ _ st7 fun b hb o e => (I9.pin (b, o) (List.mem_append_right _ (List.mem_append_right _ (wW hb e)))).1, fun b hb => ?_, w9⟩
    obtain ⟨o, e, d⟩ := T.obj _ _ st7 b hb
    exact (I9.pin (b, o) (List.mem_append_right _ (List.mem_append_right _ (wW hb e)))).2.1
   refine thn (hg cl C fp s3 H0 _ s7 σ5 H7 x u _ I7' r7 (step x H7 y7)) fun _ s8 hzz => ?_
   obtain ⟨σ8, H8, I8, q8⟩ := hzz
   refine thn (ht cl C fp s3 H0 _ s8 σ8 H8 _ I8 q8) fun b s9 hzz => ?_
   obtain ⟨H9, I9, q9⟩ := hzz
   cases b with
   | false =>
    obtain ⟨m', hm, w9⟩ := q9
    exact again I9 hm w9
   | true =>
    refine thn (he cl C fp s3 H0 _ s9 σ8 H9 _ I9 q9) fun y s10 hzz => ?_
    obtain ⟨v, H10, I10, r10, zs, e10, z10, m', hm, w10⟩ := hzz
    refine thn (yZ (X := Y) _ s10 σ8 H10 (.ref p) [v] (.ref p) [y] (fun _ H' => H' = upd H10 p (.lst (zs ++ [v]))) I10 rfl (.cons r10 .nil) ⟨p, zs, v, rfl, rfl, e10, z10, rfl⟩) fun _ s11 hzz => ?_
    obtain ⟨_, H11, I11, _, q11⟩ := hzz
    subst q11
    exact again I11 hm w10
 have st4 : tn 0 h1 := T.keep _ _ _ st3 fun b _ o e => old1 b o e
 exact codeAny_compStart_list (loop _ rfl) (T.self _ 0 _ _ _ st4 (loop _ rfl))
end

section
variable {X : Cx} {elt target iter : Expr} {ifs : List Expr} {scope : Scope} {own ys : List Str} {js : List Nat} {wi : TI} {g : TG} {tt : TT} {te : TE} {pos : Pos}
structure CompSc (X : Cx) (scope : Scope) (ys : List Str) : Prop where
 kind : scope.kind = .function
 cell : ∀ y ∈ scope.names, y.2 ≠ .cell
 loc : ∀ y ∈ scope.names, y.2 = .local -> scope.names.lookup y.1 = some .local
 free : ∀ y ∈ scope.names, y.2 = .free -> X.env.kindOf y.1 = some .cell
 cap : ∀ y ∈ ys, X.env.kindOf y = some .cell
 vis : ∀ y ∈ ys, (relabel scope X.env).names.lookup y = some .cell
def compScB (sc scope : Scope) (ys : List Str) : Bool :=
 scope.kind == .function && sc.kind == .function && (scope.names.all fun y => y.2 != .cell && (y.2 != .local || scope.names.lookup y.1 == some .local) && (y.2 != .free || sc.names.lookup y.1 == some .cell)) &&
  ys.all fun y => sc.names.lookup y == some .cell && scope.names.lookup y == some .free
theorem qH {sc : Scope} (hsc : X.env.scope = sc) (h : compScB sc scope ys = true) : CompSc X scope ys := by
 unfold compScB at h
 simp only [Bool.and_eq_true, List.all_eq_true, beq_iff_eq, bne_iff_ne, Bool.or_eq_true, ne_eq] at h
 obtain ⟨⟨⟨h1, h0⟩, h2⟩, h3⟩ := h
 subst hsc
 refine ⟨h1, fun y hy => (h2 y hy).1.1, fun y hy e => ?_, fun y hy e => ?_, fun y hy => (h3 y hy).1, fun y hy => ?_⟩
 ·rcases (h2 y hy).1.2 with z | z
  ·exact absurd e z
  ·exact z
 ·rcases (h2 y hy).2 with z | z
  ·exact absurd e z
  ·exact z
 ·rw [relabel_look, (h3 y hy).2]
  show some (relK X.env y .free) = _
  have z : X.env.kindOf y = some .cell := (h3 y hy).1
  unfold relK
  rw [z, h0]
  rfl
theorem pe_comp (hc : X.calm = true) (hi : PI X target iter wi) (S : CompSc X scope ys) (fr : Frees X.N ys js)
  (hg : ∀ cl C fp s H, PG (X.comp (own ++ ys) scope cl C fp s H) target g) (ht : ∀ cl C fp s H, PTs (X.comp (own ++ ys) scope cl C fp s H) ifs tt) (he : ∀ cl C fp s H, PE (X.comp (own ++ ys) scope cl C fp s H) elt te)
  (hs : ∀ x, foldedSetIterable iter X.env x = pure x := by intro _; rfl) : PE X (.ListComp elt [⟨target, iter, ifs, 0⟩] scope pos) (tComp wi own.length js g tt te) := by
 refine ⟨?_⟩
 intro pins s σ H Q I h
 rw [eval_ListComp]
 obtain ⟨cl, e, c1, c2⟩ := closure_at (env := X.env) (scope := scope) fun y hy hf => I.ok.has y.1 (.inl (S.free y hy hf))
 refine wpAny_comprehension_free (use := none) rfl hs e S.kind S.loc (thn (hi pins s σ H _ I h) fun v s1 h1 => thn h1 fun itv s2 h2 => ?_)
 obtain ⟨it, fp, tn, J, H2, e, I2, T, st2, f2, q2⟩ := h2
 subst e
 refine comp_block (Q := Q) (RR := fun acc C => compPost (model X.prog X.w) X.A X.xe none (EP X pins σ Q) acc C) hc I2 T st2 f2 S.kind S.cell fr S.cap c1 c2 S.vis hg ht he q2 ?_
 intro D C H' s' I' q hm n1 n2 n3 n4 n5
 obtain ⟨m, hn⟩ := hm
 exact ⟨m, hn, fun h' hs' => ⟨.ref D, H', I'.turned (fun b o hb e => (hs'.2 b hb).trans e) n1 n2 (.inr n3) n4 n5, rfl, q⟩⟩
theorem ps_setcomp {i : Nat} {x : Str} {pos' spos : Pos} (hN : X.N.Nodup) (hix : X.N[i]? = some x) (hx : X.env.scope.names.lookup x = some .local) (hc : X.calm = true) (hi : PI X target iter wi) (S : CompSc X scope ys) (fr : Frees X.N ys js)
  (hg : ∀ cl C fp s H, PG (X.comp (own ++ ys) scope cl C fp s H) target g) (ht : ∀ cl C fp s H, PTs (X.comp (own ++ ys) scope cl C fp s H) ifs tt) (he : ∀ cl C fp s H, PE (X.comp (own ++ ys) scope cl C fp s H) elt te)
  (hsw : swapsWith (.ListComp elt [⟨target, iter, ifs, 0⟩] scope pos) (some (.Name x pos')) spos.line X.env = pure true := by rfl)
  (hs : ∀ x, foldedSetIterable iter X.env x = pure x := by intro _; rfl) : PS X (.Assign [.Name x pos'] (.ListComp elt [⟨target, iter, ifs, 0⟩] scope pos) spos) (fun D σ H => tComp wi own.length js g tt te σ H fun v H1 => D.nx (σ.set i (some v)) H1) := by
 refine ⟨?_⟩
 intro pins s σ H D I h
 rw [exec_Assign_Name_used _ _ _ _ hsw]
 refine wpAny_bind (wpAny_standAt (wpAny_bind ?_))
 show wpAny _ X.A (do let _ <- comprehension (.ListComp elt [⟨target, iter, ifs, 0⟩] scope pos) scope X.env _ (newList []) false (eval iter X.env) (some (assign (.Name x pos') X.env))) _ _ s
 obtain ⟨cl, e, c1, c2⟩ := closure_at (env := X.env) (scope := scope) fun y hy hf => I.ok.has y.1 (.inl (S.free y hy hf))
 refine wpAny_bind (thn (wpAny_comprehension_free (use := some (assign (.Name x pos') X.env)) (Q := fun _ s' => SP X pins D .next s') rfl hs e S.kind S.loc
  (thn (hi pins s σ H _ I h) fun v s1 h1 => thn h1 fun itv s2 h2 => ?_)) fun _ s' hq => wpAny_pure (wpAny_pure hq))
 obtain ⟨it, fp, tn, J, H2, e, I2, T, st2, f2, q2⟩ := h2
 subst e
 refine comp_block (Q := fun v H1 => D.nx (σ.set i (some v)) H1) (RR := fun acc C => compPost (model X.prog X.w) X.A X.xe (some (assign (.Name x pos') X.env)) (fun _ s' => SP X pins D .next s') acc C) hc I2 T st2 f2 S.kind S.cell fr S.cap c1 c2 S.vis hg ht he q2 ?_
 intro B C H' s' I' q hm n1 n2 n3 n4 n5
 obtain ⟨m, hn⟩ := hm
 show wpAny _ X.A (assign (.Name x pos') X.env (.ref B)) _ _ _
 refine wpAny_assign_Name (store_ok2 I' hN hix (.inl hx) (v := .ref B) rfl (fun s2 I2 hsb => ?_) (.inr hx))
 obtain ⟨a, hsb, ha⟩ := hsb
 have ne : C ≠ a := by
  rcases ha with z | z
  ·rw [z]; exact n2
  ·exact Ne.symm (n4 x a z)
 exact ⟨m, hn.sameBut hsb ne, fun h' hs' => ⟨_, H', I2.turned (fun b o hb e => (hs'.2 b hb).trans e) n1 n2 (.inr n3) n4 n5, q⟩⟩
end
end L2

namespace L2
open PySem PySem.Spec PyProof.Rows
section
variable {X : Cx} {x : Str} {p pos : Pos} {e : Expr} {es : List Expr} {t : TA}

def GInt (mg : Str -> Option Value) (x : Str) (i : Int) : Prop := ∃ t, mg x = some (.int i t)
theorem zO {i : Int} (hg : Gl X x) (hm : GInt X.mg x i) (hd : (x == ("__debug__" : Str)) = false := by decide) : PE X (.Name x pos) (tC (.int i)) := by
 obtain ⟨t, hm⟩ := hm
 exact pe_glob (v := .int i) hg hm ⟨t, rfl⟩ hd
theorem pe_gref {a : Addr} (hg : Gl X x) (hm : X.mg x = some (.ref a)) (hd : (x == ("__debug__" : Str)) = false := by decide) : PE X (.Name x pos) (tC (.ref a)) := pe_glob (v := .ref a) hg hm rfl hd

structure Cal (P : Program) (w : World) (K : PySem.W.Frag) (mg : Str -> Option Value) (base : Heap) (CX : CXT) (k : Nat) (x : Str) (ps : List Str) (sp : Sp) : Prop where
 ex : ∃ f fd, FnOk P w K mg base CX k f fd ps sp /\ mg x = some (.ref f) /\ PySem.W.keepIn K (.ref f) = true /\ Binds K fd ps []
theorem zH {CX : CXT} {k n : Nat} {ps : List Str} {sp : Sp} {E : XK} (C : Cal X.prog X.w X.K X.mg X.base CX k x ps sp) (hr : Room n X.A) (hg : Gl X x) (ha : PA X (e :: es) t) (hx : Passes CX X E) (hk : k <= n := by first | decide | (first|lia|omega)) (hdb : (x == ("__debug__" : Str)) = false := by decide)
  (he : starEach (e :: es) X.env = (false, eval e X.env) :: starEach es X.env := by rfl) (hpl : (backTo pos (starEach es X.env)).any (·.1) = false := by rfl) : PE X (.Call (.Name x p) (e :: es) [] pos) (tCall sp [] E t) := by
 obtain ⟨f, fd, F, hm, kp, hb⟩ := C.ex
 exact pe_call F (hr.mono hk) hg hm kp hb .nil hx ha hdb he hpl
inductive Consts : List Expr -> List V -> Prop where
 | nil : Consts [] []
 | int {i j pos es vs} (r : Consts es vs) : Consts (.Constant (.int i) j pos :: es) (.int i :: vs)
 | str {x j pos es vs} (r : Consts es vs) : Consts (.Constant (.str x) j pos :: es) (.str x :: vs)
theorem zS : ∀ {es : List Expr} {vs : List V}, Consts es vs -> PA X es (fun _ H Q => Q vs H)
 | _, _, .nil => ⟨fun pos pins s σ H Q I h => zC pos pins s σ H Q I h⟩
 | _, _, .int r => ⟨fun pos pins s σ H Q I h => zA zF (zS r) (by rfl) pos pins s σ H Q I h⟩
 | _, _, .str r => ⟨fun pos pins s σ H Q I h => zA jB (zS r) (by rfl) pos pins s σ H Q I h⟩

def rIsi (K : PySem.W.Frag) : List V -> Hp -> VK -> Prop := fun xs H Q =>
 (∃ x n t b, xs = [x, .ty n] /\ TyOf K H x t /\ PySem.W.kitOne K t (.type n) = some b /\ Q (.bl b) H) \/ ∃ x C t b, xs = [x, .ref C] /\ TyOf K H x t /\ PySem.W.kitOne K t (.ref C) = some b /\ Q (.bl b) H
theorem call_isiK (K : PySem.W.Frag) (hK : X.K = K) : CallR X (.builtin "isinstance") (rIsi K) := by
 subst hK
 intro pins s σ H xs us Q I r h
 rcases h with ⟨x, n, t, b, rfl, ty, e, q⟩ | ⟨x, C, t, b, rfl, ty, e, q⟩
 ·obtain ⟨u, w', rfl, ru, rw'⟩ := vals2 r
  cases rw'
  exact isinst_ok I ru ty e fun tk => ⟨.bl b, H, I.tok tk, rfl, q⟩
 ·obtain ⟨u, w', rfl, ru, rw'⟩ := vals2 r
  cases rw'
  exact isinst_ok I ru ty e fun tk => ⟨.bl b, H, I.tok tk, rfl, q⟩
theorem call_isi : CallR X (.builtin "isinstance") (rIsi X.K) := call_isiK X.K rfl

theorem ix_listK (K : PySem.W.Frag) (hK : X.K = K) : IxR X (rIxL K) := hK ▸ zP
end
end L2

namespace L2
open PySem PySem.Spec PyProof.Rows
theorem yS : bootBuiltins "len" = some (.builtin "len") := PySem.boot_len
theorem yV : bootBuiltins "isinstance" = some (.builtin "isinstance") := by decide +kernel
theorem bt_int : bootBuiltins "int" = some (.type "int") := by decide +kernel
theorem bt_bool : bootBuiltins "bool" = some (.type "bool") := by decide +kernel
theorem bt_list : bootBuiltins "list" = some (.type "list") := by decide +kernel
theorem bt_tuple : bootBuiltins "tuple" = some (.type "tuple") := by decide +kernel
theorem bt_ValueError : bootBuiltins "ValueError" = some (.type "ValueError") := by decide +kernel
theorem bt_max : bootBuiltins "max" = some (.builtin "max") := by decide +kernel

theorem small {n : Nat} (h : n <= 1000) : n <= sizeLine := Nat.le_of_lt (small1000 h)
theorem zD {H : Hp} {p : Addr} (h : H p = none) (o : HO) : Same H (upd H p o) := fun b u q => by rw [zJ (zK q h)]; exact q

def Scr (K : PySem.W.Frag) (H : Hp) (a : Addr) (ns : List Int) : Prop :=
 (∃ o, H a = some (.frz o (.lst (ns.map V.int)))) \/
  ∃ (o : Obj) (its : Array Value) (n : Nat), K.lookup a = some o /\ o.cls = .type "list" /\ o.dict = none /\ o.data = .seq its n /\ its.size <= sizeLine /\ Vals (ns.map V.int) its.toList
theorem Scr.sq {K : PySem.W.Frag} {H : Hp} {a : Addr} {ns : List Int} (h : Scr K H a ns) : SqL K H a (ns.map V.int) := by
 rcases h with h | h
 ·exact .inl (.inr h)
 ·exact .inr h
theorem Scr.of {K : PySem.W.Frag} {H : Hp} {a : Addr} {ns : List Int} (hO : Only H) (h : SqL K H a (ns.map V.int)) : Scr K H a ns := by
 rcases h with (h | h) | h
 ·rcases hO a with z | ⟨o, xs, z⟩
  ·rw [h] at z; cases z
  ·rw [h] at z; cases z
 ·exact .inl h
 ·exact .inr h
def Keep (st : Addr) (H H' : Hp) : Prop := ∀ b o, b ≠ st -> H b = some o -> H' b = some o
theorem Keep.refl (st : Addr) (H : Hp) : Keep st H H := fun _ _ _ e => e
theorem Keep.trans {st : Addr} {H H1 H2 : Hp} (a : Keep st H H1) (b : Keep st H1 H2) : Keep st H H2 := fun c o n e => b c o n (a c o n e)
theorem Keep.same {st : Addr} {H H1 : Hp} (a : Same H H1) : Keep st H H1 := fun c o _ e => a c o e
theorem Keep.upd {st : Addr} {H : Hp} {o : HO} : Keep st H (upd H st o) := fun c u n e => by rw [zJ n]; exact e
theorem Keep.new {st p : Addr} {H : Hp} (o : HO) (h : H p = none) : Keep st H (L2.upd H p o) := Keep.same (zD h o)
theorem Scr.keep {K : PySem.W.Frag} {H H' : Hp} {a st : Addr} {ns : List Int} {xs : List V} (h : Scr K H a ns) (hst : H st = some (.lst xs)) (k : Keep st H H') : Scr K H' a ns := by
 rcases h with ⟨o, h⟩ | h
 ·exact .inl ⟨o, k a _ (fun z => by rw [z, hst] at h; cases h) h⟩
 ·exact .inr h
def Draw (K : PySem.W.Frag) (H : Hp) (st : Addr) : Prop := ∃ a ns k c, H st = some (.lst [.ref a, .int k, .int c]) /\ Scr K H a ns /\ ns.length <= 63 /\ 0 <= k /\ 0 <= c
structure Drawn (K : PySem.W.Frag) (st : Addr) (H H' : Hp) : Prop where
 draw : Draw K H' st
 keep : Keep st H H'
def spMixed : Sp := fun vs H Q _ => ∃ c k : Int, vs = [.int c, .int k] /\ ∀ r : Int, 0 <= r -> Q (.int r) H
def spLaw (K : PySem.W.Frag) : Sp := fun vs H Q _ => ∃ (a : Addr) (ns : List Int), vs = [.ref a] /\ Scr K H a ns /\ ns.length <= 63 /\ ∀ H', Q (.bl true) H'
theorem atI_int {ns : List Int} {k : Int} (h0 : 0 <= k) (h : k < (ns.length : Int)) : ∃ v : Int, atI (ns.map V.int) k = some (.int v) := by
 have hk : k.toNat < ns.length := by (first|lia|omega)
 have q : atI (ns.map V.int) ((k.toNat : Nat) : Int) = some (.int ns[k.toNat]) := qW (by rw [List.getElem?_map, List.getElem?_eq_getElem hk] <;> rfl)
 rw [show ((k.toNat : Nat) : Int) = k by (first|lia|omega)] at q
 exact ⟨_, q⟩

theorem tyes {σ : St} {H : Hp} {A B : Hp -> Prop} (h : A H) : tYes σ H fun b H4 => if b = true then A H4 else B H4 := by
 show if true = true then A H else B H
 exact iteT h
def CompW (n : Nat) (fs : St) (Pv : Nat -> List V -> Hp -> Prop) (i m : Nat) (σ : St) (H : Hp) : Prop := i <= n /\ m = n - i /\ (∃ v, σ = v :: fs) /\ ∃ ys, Pv i ys H
theorem CompW.next {n : Nat} {fs : St} {Pv : Nat -> List V -> Hp -> Prop} {i : Nat} {v : Option V} {H : Hp} {ys : List V} (hi : i < n) (h : Pv (i + 1) ys H) : ∃ m', m' < n - i /\ CompW n fs Pv (i + 1) m' (v :: fs) H :=
 ⟨n - (i + 1), by (first|lia|omega), by (first|lia|omega), rfl, ⟨v, rfl⟩, ys, h⟩
theorem comp_rng {lo : Int} {n : Nat} {fs : St} {tt : TT} {te : TE} {R : Hp -> Prop} {p : Addr} {H0 : Hp} (Pv : Nat -> List V -> Hp -> Prop) (h0 : Pv 0 [] H0)
  (hs : ∀ i ys H, i < n -> Pv i ys H -> tt (some (.int (lo + (i : Nat))) :: fs) H fun b H4 =>
   if b = true then te (some (.int (lo + (i : Nat))) :: fs) H4 fun v H5 => ∃ ys, H5 p = some (.lst ys) /\ ys.length < sizeLine /\ ∃ m', m' < n - i /\ CompW n fs Pv (i + 1) m' (some (.int (lo + (i : Nat))) :: fs) (upd H5 p (.lst (ys ++ [v])))
   else ∃ m', m' < n - i /\ CompW n fs Pv (i + 1) m' (some (.int (lo + (i : Nat))) :: fs) H4)
  (hd : ∀ ys H, Pv n ys H -> R H) : CompGo (Itr lo n) p (none :: fs) H0 (gName 0) tt te R := by
 refine ⟨CompW n fs Pv, ⟨n, Nat.zero_le _, rfl, ⟨_, rfl⟩, [], h0⟩, fun i m σ' H' w => ?_⟩
 obtain ⟨hi, rfl, ⟨v, rfl⟩, ys, hp⟩ := w
 by_cases hlt : i < n
 ·refine .inr ⟨hlt, fun x H2 y => ?_⟩
  obtain ⟨rfl, rfl⟩ := y
  exact hs i ys _ hlt hp
 ·have : i = n := by (first|lia|omega)
  subst this
  exact .inl ⟨Nat.le_refl _, hd ys H' hp⟩
theorem yM {K : PySem.W.Frag} {t : Value} {n : String} {b : Bool} (h : PySem.W.subIn K t (.type n) = some b) (h1 : (t == Value.type n) = false := by decide) (h2 : PySem.W.kitMeta n = true := by decide +kernel) : PySem.W.kitOne K t (.type n) = some b := by
 unfold PySem.W.kitOne PySem.W.kitCls
 rw [h1]
 simp only [Bool.false_eq_true, if_false, h2, if_true]
 exact h
theorem xK {K : PySem.W.Frag} {t : Value} (h : (t == t) = true := by decide) : PySem.W.kitOne K t t = some true := by
 unfold PySem.W.kitOne
 rw [if_pos h]
theorem sqT_of {K : PySem.W.Frag} {a : Addr} {its : Array Value} {n : Nat} {sl : Array (Option Value)} {dd : Option Addr} {xs : List V} (h : K.lookup a = some ⟨.type "tuple", dd, .seq its n, sl⟩) (hz : its.size <= sizeLine) (r : Vals xs its.toList) (H : Hp) : SqT K H a xs :=
 .inr ⟨_, its, n, h, rfl, rfl, hz, r⟩
end L2

namespace L2
open PySem PySem.Spec PySem.W PyProof.Rows
section
variable {prog : Program} {w : World} {A : Around} {K : Frag} {E : Value -> Shared -> Prop} {h : Heap} {g : Array GenState} {d : PySem.Drawn} {t : Nat} {os : OsState} {R : Result -> Shared -> Prop}
variable {nm q : Str} {C N f : Addr} {bs bm bmB : List Value} {hdct : Bool} {sn : List Str} {sub : List Value} {ab : Bool} {col : Option Bool} {dd : Option Addr} {k0 k1 k2 k3 k5 : Option Value} {B newId initId : String}
abbrev excObj (C tp : Addr) : Obj := { cls := .ref C, data := .fields #[.ref tp, .none, .none, .none, .bool false, .none] }
abbrev excHeap (h : Heap) (C : Addr) (rest : List Value) : Heap := (h.push { cls := .type "tuple", data := .seq rest.toArray }).push (excObj C h.objs.size)
theorem exc_make (X : K.In h) (hC : h.get? C = some (excClassObj nm q C N bs bm hdct sn sub ab col dd k0 k1 k2 k3 k5 newId)) (F : ExcBaseFacts B newId initId bmB) (T : OwnTail h bmB bm)
  (hi : findIn K (.ref C) "__init__" = some (some (.ref f))) (hf : typeIn K (.ref f) = some (.type "function")) {rest : List Value} (hrest : rest.length <= sizeLine)
  (hq : codeAny (model prog w) (A.under (.builtin "type.__call__" ⟨.ref C :: rest, []⟩)) (.call (.ref f) ⟨.ref (h.objs.size + 1) :: rest, []⟩) (InitBack (h.objs.size + 1) R) ⟨excHeap h C rest, g, d, t, os⟩) :
  codeAny (model prog w) A (.call (.ref C) ⟨rest, []⟩) R ⟨h, g, d, t, os⟩ := by
 have f1 := tc_lookup
 have f2 := tc_bind (.ref C)
 have hT : (⟨h, g, d, t, os⟩ : Shared).TypeIs (.ref C) "type" := ⟨_, hC, rfl⟩
 refine codeAny_of_tree ?_
 show wpAny _ _ (callAny (.ref C) _) _ _ _
 repeat (any_goals (first | assumption | with_reducible refine wpAny_loadPart_at hC ?_ | wp_step))
 refine ⟨rfl, ?_⟩
 refine codeAny_call_builtin_at (Code.quiet_builtin _ (by decide +kernel)) entry_typeCall (wpAny_check_type_call_sub hC ?_)
 repeat (first | with_reducible refine wpAny_loadPart_at hC ?_ | with_reducible refine wpAny_madeBy_exc hC ?_ | wp_step)
 refine codeAny_call_builtin_code (Code.quiet_builtin _ F.quiet) (wpAny_check_new_subT F T hC ?_)
 refine codeAny_exc_new_subT F T hC ?_ hrest
 show wpAny _ _ _ _ _ _
 have k : ∀ b o, h.get? b = some o -> (excHeap h C rest).get? b = some o := fun b o e => Heap.get?_push_of_some _ (Heap.get?_push_of_some _ e)
 have hx : (excHeap h C rest).get? (h.objs.size + 1) = some (excObj C h.objs.size) := by heap_get
 have t1 : Looks (model prog w) (excHeap h C rest) (typeOf (.ref (h.objs.size + 1))) (.ref C) := (Looks.ld hx).andThen .now
 have hcC : (Value.ref C :: bm).contains (.ref C) = true := by simp
 have i1 := (looks_findIn (M := model prog w) X hi).keeps k
 have b1 := (bind_fn (M := model prog w) X (.ref (h.objs.size + 1)) hf).keeps k
 have s1 : Looks (model prog w) (excHeap h C rest) (isSubtype (.ref C) (.ref C)) true := by
  intro A' Q' E' s' kk hq'
  obtain ⟨h', g', d', t', os'⟩ := s'
  refine wpAny_isSubtype_exc (kk _ _ (k _ _ hC)) ?_
  rw [hcC]; exact hq'
 have n1 : Looks (model prog w) (excHeap h C rest) (isInstance (.ref (h.objs.size + 1)) (.ref C)) true := t1.andThen s1
 refine wpAny_bind (n1.at ?_)
 have c1 : Looks (model prog w) (excHeap h C rest) (specialOf (.ref (h.objs.size + 1)) "__init__") (some (.ref f)) := t1.andThen i1
 unfold callSpecial?
 repeat (first | with_reducible refine wpAny_call ?_ | lk)
 refine codeAny_mono hq fun r s' z => ?_
 rcases r with e | (v | _ | _ | _) <;> first | exact z | exact z.elim | skip
 obtain ⟨rfl, z⟩ := z
 exact wpAny_pure (wpAny_pure z)

structure ExCls (K : Frag) (C : Addr) : Prop where
 cd : ∃ cd, clsIn K C = some cd /\ cd.hasDict = true /\ ∀ self, refuseLoop self "__setattr__" cd.mro = pure ()
 obj : mroIn K C (.type "object") = some true
 base : mroIn K C (.type "BaseException") = some true
 sa : findIn K (.ref C) "__setattr__" = some (some (.builtin "object.__setattr__"))
 ga : findIn K (.ref C) "__getattribute__" = some (some (.builtin "BaseException.__getattribute__"))
 noHook : findIn K (.ref C) "__getattr__" = some none

section
variable {s : Shared} {x : Addr} {ox : Obj} {od : Option Obj} {name : Str} {v : Value} {expr : Bool} {Q : Value -> Shared -> Prop}
theorem exc_getattr (X : K.In s.heap) (I : InstAt s.heap x ox C od) (Ec : ExCls K C) (hf : findObj K C od name = some (.value v)) (hh : handedIn v = true) (hq : Q v { s with toks := s.toks + 1 }) :
  wpAny (model prog w) A (getAttr (.ref x) name expr) Q E s := by
 obtain ⟨h, g, d, t, os⟩ := s
 have L0 := I.type (M := model prog w)
 have L1 := looks_findIn (M := model prog w) X Ec.ga
 have L2' := looks_findIn (M := model prog w) X Ec.noHook
 have L3 := looks_find (M := model prog w) X I hf
 have Lb : Looks (model prog w) h (isInstance (.ref x) (.type "BaseException")) true := L0.andThen (looks_mroIn X Ec.base)
 have f3 := F.excAttr_ValueError.ga.bind (.ref x)
 have hx0 : (expr && onTheHeap (Value.builtin "BaseException.__getattribute__")) = false := by cases expr <;> rfl
 have hk : builtinKind "BaseException.__getattribute__" = some .slot := by decide +kernel
 have hsplit : splitId "BaseException.__getattribute__" = some ("BaseException", "__getattribute__") := by decide +kernel
 unfold getAttr getAttrBy
 refine wpAny_bind (wpAny_mkText (wpAny_holding (wpAny_bind (L0.at (wpAny_bind (L1.at ?_))))))
 show wpAny _ _ (getAttrByItsOwn _ _ _ _ _ _) _ _ _
 unfold getAttrByItsOwn
 refine wpAny_bind (L2'.at (wpAny_bind (wpAny_attempt (wpAny_holding ?_))))
 unfold callGetattribute
 rw [hx0]
 unfold boundAndCalled
 show wpAny _ _ (bindSpecial _ _ >>= _) _ _ _
 rw [f3]
 refine wpAny_bind (wpAny_pure (wpAny_call (codeAny_call_builtin F.excAttr_ValueError.ga.plain F.entry_bexc_ga (@check_slot (model prog w) _ _ _ "BaseException.__getattribute__" "BaseException" "__getattribute__" (.ref x) [.str name t] [] _ hk hsplit Lb (F.args_bexc_ga _ _) ?_))))
 refine wpAny_bind (wpAny_pure (wpAny_bind (wpAny_pure (wpAny_bind (L0.at (wpAny_bind (L3.at ?_)))))))
 refine wpAny_pure ?_
 show wpAny _ _ (handedOut v) _ _ _
 rw [handedOut_of hh]; exact wpAny_pure hq
theorem exc_osa {tk : Tok} {R : Result -> Shared -> Prop} (X : K.In s.heap) (I : InstAt s.heap x ox C od) (Ec : ExCls K C) (ha : findIn K (.ref C) name = some none)
  (hq : wpAny (model prog w) A.in1 (PySem.Builtin.ObjectAttr.storeInOwnDict (.ref x) (.ref C) (.str name tk) name v false)
   (fun fin s' => match fin with | .done f => R (.ok f) s' | .again c' => c'.quiet = true /\ codeAny (model prog w) A c' R s') (fun e s' => R (.error e) s') s) :
  codeAny (model prog w) A (.call (.builtin "object.__setattr__") ⟨[.ref x, .str name tk, v], []⟩) R s := by
 have SF := PySem.F.store_object
 obtain ⟨cd, hc, hd, hp⟩ := Ec.cd
 have sub : Looks (model prog w) s.heap (isInstance (.ref x) (.type "object")) true := I.type.andThen (looks_mroIn X Ec.obj)
 refine codeAny_call_builtin SF.slot.plain SF.entry (@check_slot (model prog w) _ _ s "object.__setattr__" "object" "__setattr__" (.ref x) [.str name tk, v] [] _ SF.kind SF.split sub (SF.args (.ref x) (.str name tk) v) ?_)
 have hm : Looks (model prog w) s.heap (mroOf (.ref C)) cd.mro := (looks_clsIn X hc).andThen .now
 rw [osa_eq, refuse_eq]
 refine wpAny_bind (wpAny_bind (I.type.here (wpAny_bind (hm.here ?_))))
 rw [hp]
 exact wpAny_pure (wpAny_bind (I.type.here (wpAny_bind ((looks_findIn X ha).here (wpAny_bind (wpAny_pure hq))))))
theorem exc_set_new {vs : Array Value} {Qu : Unit -> Shared -> Prop} (X : K.In s.heap) (hx : s.heap.get? x = some ox) (hcl : ox.cls = .ref C) (hdi : ox.dict = none) (hda : ox.data = .fields vs) (Ec : ExCls K C) (ha : findIn K (.ref C) name = some none)
  (hq : ∀ h', h'.Ns1 s.heap.objs.size (fun y => if y = name then some v else none) -> h'.get? x = some { ox with dict := some s.heap.objs.size } -> (∀ b o, b ≠ x -> s.heap.get? b = some o -> h'.get? b = some o) -> Qu () { s with heap := h', toks := s.toks + 2 }) :
  wpAny (model prog w) A (setAttr (.ref x) name v) Qu E s := by
 have I : InstAt s.heap x ox C none := ⟨hx, hcl, by unfold notCls; rw [hda], by rw [hdi]; trivial⟩
 obtain ⟨cd, hc, hd, hp⟩ := id Ec.cd
 refine set_plain X I Ec.sa (exc_osa (s := { s with toks := s.toks + 1 }) X I Ec ha ?_)
 have hxlt := Heap.lt_size hx
 clear I
 obtain ⟨oc, odi, oda, osl⟩ := ox
 dsimp only at hcl hdi hda
 subst hcl hdi hda
 refine wpAny_bind (wpAny_pure (wpAny_bind (wpAny_bind (wpAny_loadPart hx (wpAny_bind (Looks.here (s := { s with toks := s.toks + 1 }) (looks_clsIn X hc) ?_))))))
 rw [hd]
 show wpAny _ _ (alloc { cls := Value.type "dict", data := Data.dict #[] } >>= _) _ _ _
 refine wpAny_bind (wpAny_alloc (wpAny_bind ?_))
 have hx1 := Heap.get?_push_of_some (h := s.heap) ({ cls := Value.type "dict", data := Data.dict #[] } : Obj) hx
 refine wpAny_update hx1 (wpAny_pure ?_)
 have ne : s.heap.objs.size ≠ x := Nat.ne_of_gt hxlt
 have hx2 := Heap.get?_update_self (fun o : Obj => { o with dict := some s.heap.objs.size }) hx1 rfl
 have hd2 : ((s.heap.push ({ cls := Value.type "dict", data := Data.dict #[] } : Obj)).update x fun o => { o with dict := some s.heap.objs.size }).Ns1 s.heap.objs.size (fun _ => none) := by
  refine ⟨_, #[], _, (Heap.get?_update_other _ _ (Ne.symm ne)).trans (Heap.get?_push_size _ rfl), rfl, fun e he => by simp at he, List.Pairwise.nil, fun n => rfl⟩
 refine wpAny_bind (wpAny_pure (wpAny_bind ?_))
 refine wpAny_nsSet1 (s := { s with heap := (s.heap.push ({ cls := Value.type "dict", data := Data.dict #[] } : Obj)).update x fun o => { o with dict := some s.heap.objs.size }, toks := s.toks + 1 }) hd2 fun h' hn2 hs2 => ?_
 have w0 : PySem.Within (fun _ : Str => (none : Option Value)) [] := fun n hn => by first | cases hn | exact absurd rfl hn | simp at hn
 obtain ⟨oD, esD, epD, hoD, hdD, hcD⟩ := hn2.count (PySem.Within.cons name v w0)
 refine wpAny_bind (wpAny_lookBehind hoD (by rw [hdD]; exact pastItsLine_dict (Nat.le_trans hcD (show 1 <= sizeLine + 1 by decide))) ?_)
 refine wpAny_pure (hq _ hn2 ((hs2.2 _ (Ne.symm ne)).trans hx2) fun b o hb e => ?_)
 have hbs : b ≠ s.heap.objs.size := Nat.ne_of_lt (Heap.lt_size e)
 exact (hs2.2 _ hbs).trans ((Heap.get?_update_other _ _ (Ne.symm hb)).trans (Heap.get?_push_of_some _ e))
theorem exc_set_more {vs : Array Value} {dx : Addr} {mA : Str -> Option Value} {ns : List Str} {Qu : Unit -> Shared -> Prop} (X : K.In s.heap) (hx : s.heap.get? x = some ox) (hcl : ox.cls = .ref C) (hdi : ox.dict = some dx) (hda : ox.data = .fields vs) (hn : s.heap.Ns1 dx mA)
  (hw : PySem.Within mA ns) (hsz : ns.length < sizeLine) (Ec : ExCls K C) (ha : findIn K (.ref C) name = some none)
  (hq : ∀ h', h'.Ns1 dx (fun y => if y = name then some v else mA y) -> Heap.SameBut dx s.heap h' -> Qu () { s with heap := h', toks := s.toks + 2 }) :
  wpAny (model prog w) A (setAttr (.ref x) name v) Qu E s := by
 obtain ⟨od, hod, _⟩ := lookIn_ns hn
 have I : InstAt s.heap x ox C (some od) := ⟨hx, hcl, by unfold notCls; rw [hda], by rw [hdi]; exact hod⟩
 obtain ⟨cd, hc, hd, hp⟩ := id Ec.cd
 refine set_plain X I Ec.sa (exc_osa (s := { s with toks := s.toks + 1 }) X I Ec ha ?_)
 clear I
 obtain ⟨oc, odi, oda, osl⟩ := ox
 dsimp only at hcl hdi hda
 subst hcl hdi hda
 refine wpAny_bind (wpAny_pure (wpAny_bind (wpAny_bind (wpAny_loadPart hx (wpAny_bind (Looks.here (s := { s with toks := s.toks + 1 }) (looks_clsIn X hc) ?_))))))
 rw [hd]
 refine wpAny_pure (a := some dx) (wpAny_bind (wpAny_pure (wpAny_bind ?_)))
 refine wpAny_nsSet1 (s := { s with toks := s.toks + 1 }) hn fun h' hn2 hs2 => ?_
 obtain ⟨oD, esD, epD, hoD, hdD, hcD⟩ := hn2.count (PySem.Within.cons name v hw)
 refine wpAny_bind (wpAny_lookBehind hoD (by rw [hdD]; exact pastItsLine_dict (Nat.le_trans hcD (by rw [List.length_cons]; (first|lia|omega)))) ?_)
 exact wpAny_pure (hq _ hn2 hs2)
end
end
end L2

namespace L2
open PySem PySem.Spec PyProof.Rows
def ExO (x C : Addr) (od : Option Addr) : HO := .ext fun h => ∃ o vs, h.get? x = some o /\ o.cls = .ref C /\ o.dict = od /\ o.data = .fields vs /\ 6 <= vs.size
def ExN (x C : Addr) (od : Option Addr) : HO := .ext fun h => ∃ o vs, h.get? x = some o /\ o.cls = .ref C /\ o.dict = od /\ o.data = .fields vs /\ 6 <= vs.size /\ vs[1]? = some .none
def XdO (dx : Addr) (fs : List (Str × V)) : HO := .ext fun h => ∃ mA, h.Ns1 dx mA /\ (∀ f, RelO (fs.lookup f) (mA f)) /\ PySem.Within mA (fs.map (·.1))
section
variable {P : Program} {w : World} {H : Hp} {h : Heap} {x C dx : Addr} {od : Option Addr} {fs : List (Str × V)}
theorem ExO.ok {o : Obj} {vs : Array Value} (e : h.get? x = some o) (hc : o.cls = .ref C) (hd : o.dict = od) (hf : o.data = .fields vs) (hz : 6 <= vs.size) : ObjOk P w H h x (ExO x C od) :=
 ⟨⟨o, vs, e, hc, hd, hf, hz⟩, ⟨o, e⟩, fun h1 h2 ⟨o, vs, e, r⟩ k => ⟨o, vs, k o e, r⟩⟩
theorem ExN.ok {o : Obj} {vs : Array Value} (e : h.get? x = some o) (hc : o.cls = .ref C) (hd : o.dict = od) (hf : o.data = .fields vs) (hz : 6 <= vs.size) (h1 : vs[1]? = some .none) : ObjOk P w H h x (ExN x C od) :=
 ⟨⟨o, vs, e, hc, hd, hf, hz, h1⟩, ⟨o, e⟩, fun g1 g2 ⟨o, vs, e, r⟩ k => ⟨o, vs, k o e, r⟩⟩
theorem ExN.get (ok : HOk P w H h) (e : H x = some (ExN x C od)) : ∃ o vs, h.get? x = some o /\ o.cls = .ref C /\ o.dict = od /\ o.data = .fields vs /\ 6 <= vs.size /\ vs[1]? = some .none := (ok x _ e).1
theorem ExO.get (ok : HOk P w H h) (e : H x = some (ExO x C od)) : ∃ o vs, h.get? x = some o /\ o.cls = .ref C /\ o.dict = od /\ o.data = .fields vs /\ 6 <= vs.size := (ok x _ e).1
theorem XdO.ok {mA : Str -> Option Value} (n : h.Ns1 dx mA) (r : ∀ f, RelO (fs.lookup f) (mA f)) (wi : PySem.Within mA (fs.map (·.1))) : ObjOk P w H h dx (XdO dx fs) := by
 obtain ⟨o, es, ep, e, q⟩ := id n
 exact ⟨⟨mA, n, r, wi⟩, ⟨o, e⟩, fun h1 h2 ⟨mA, n, r⟩ k => ⟨mA, n.at k, r⟩⟩
theorem XdO.get (ok : HOk P w H h) (e : H dx = some (XdO dx fs)) : ∃ mA, h.Ns1 dx mA /\ (∀ f, RelO (fs.lookup f) (mA f)) /\ PySem.Within mA (fs.map (·.1)) := (ok dx _ e).1
end

def tFldX (K : PySem.W.Frag) (ta : TE) (f : Str) : TE := fun σ H Q => ta σ H fun y H1 => ∃ a C d fs v, y = .ref a /\ H1 a = some (ExO a C (some d)) /\ H1 d = some (XdO d fs) /\ ExCls K C /\ NoAttr K C f /\ fs.lookup f = some v /\ Q v H1
def sFldX (K : PySem.W.Frag) (ta tv : TE) (f : Str) : TS := fun D σ H => tv σ H fun y H1 => ta σ H1 fun u H2 => ∃ a C od, u = .ref a /\ H2 a = some (ExN a C od) /\ ExCls K C /\ NoAttr K C f /\
 ((od = none /\ ∀ d, H2 d = none -> D.nx σ (upd (upd H2 d (XdO d [(f, y)])) a (ExN a C (some d)))) \/ ∃ d fs, od = some d /\ H2 d = some (XdO d fs) /\ fs.length < 1000 /\ D.nx σ (upd H2 d (XdO d (putF f y fs))))
section
variable {X : Cx} {o e value : Expr} {f : Str} {pos pos' : Pos} {ta tv : TE}
theorem pe_fldX (he : PE X e ta) (hb : attributeBase e f X.env (eval e X.env) = eval e X.env := by rfl) : PE X (.Attribute e f pos) (tFldX X.K ta f) := by
 refine ⟨?_⟩
 intro pins s σ H Q I h
 refine attr_of hb (thn (he pins s σ H _ I h) fun u s1 hzz => ?_)
 obtain ⟨y, H1, I1, r1, a, C, d, fs, v, hy, ha, hd, ec, na, l, q⟩ := hzz
 subst hy
 cases r1
 obtain ⟨ox, vs, gx, hcl, hdi, hda, _⟩ := ExO.get I1.hok ha
 obtain ⟨mA, n, r, wi⟩ := XdO.get I1.hok hd
 obtain ⟨od, hod, hl⟩ := lookIn_ns n
 have J : PySem.W.InstAt s1.heap a ox C (some od) := ⟨gx, hcl, by unfold PySem.W.notCls; rw [hda], by rw [hdi]; exact hod⟩
 obtain ⟨u, eu, ru⟩ := RelO.some_of (by have := r f; rw [l] at this; exact this)
 obtain ⟨cd, hc, hdd, _⟩ := ec.cd
 refine exc_getattr I1.kIn J ec (v := u) ?_ (handed_of ru) ⟨v, H1, I1.tok _, ru, q⟩
 unfold PySem.W.findObj
 rw [hc, Option.bind_some, na, Option.bind_some]
 simp only [Option.bind_some, PySem.W.ownOf, hdd, if_true, hl, eu]
theorem Inv.excDict {pins : List (Addr × Obj)} {σ : St} {H : Hp} {s : Shared} {h' : Heap} {a C : Addr} {oa ob : HO} {t' : Nat} (I : Inv X pins σ H s) (ha : H a = some (ExN a C none))
  (keep : ∀ b o, b ≠ a -> s.heap.get? b = some o -> h'.get? b = some o) (hat : ∃ o, h'.get? a = some o) (hoa : ObjOk X.prog X.w (upd (upd H s.heap.objs.size ob) a oa) h' a oa) (hob : ObjOk X.prog X.w (upd (upd H s.heap.objs.size ob) a oa) h' s.heap.objs.size ob) :
  Inv X pins σ (upd (upd H s.heap.objs.size ob) a oa) { s with heap := h', toks := t' } := by
 have hd : H s.heap.objs.size = none := I.fresh
 have nda : a ≠ s.heap.objs.size := zK ha hd
 have off : ∀ b u, H b = some u -> u ≠ ExN a C none -> b ≠ a /\ b ≠ s.heap.objs.size := fun b u e ne => ⟨fun z => by rw [z, ha] at e; exact ne (Option.some.inj e).symm, zK e hd⟩
 have up : ∀ b, b ≠ a -> b ≠ s.heap.objs.size -> upd (upd H s.heap.objs.size ob) a oa b = H b := fun b h1 h2 => by rw [zJ h1, zJ h2]
 refine I.un ⟨fun b o e n _ _ => keep b o (fun z => by rw [z, ha] at n; cases n) e, fun b o e n _ _ => ⟨o.slots, keep b o (fun z => by rw [z, ha] at n; cases n) e⟩, fun b o e n _ => ?_, fun b o e _ => ?_, fun b xs e => ?_, fun b o xs e => ?_, fun b ps e => ?_⟩ fun b u e => ?_
 ·rw [up b (fun z => by rw [z, ha] at n; cases n) (Nat.ne_of_lt (Heap.lt_size e))]; exact n
 ·by_cases z : b = a
  ·subst z; exact hat
  ·exact ⟨o, keep b o z e⟩
 ·obtain ⟨h1, h2⟩ := off b _ e (by intro z; cases z)
  rw [up b h1 h2]; exact e
 ·obtain ⟨h1, h2⟩ := off b _ e (by intro z; cases z)
  rw [up b h1 h2]; exact e
 ·obtain ⟨h1, h2⟩ := off b _ e (by intro z; cases z)
  exact ⟨#[], by rw [up b h1 h2, e]; simp⟩
 ·by_cases z : b = a
  ·subst z; rw [zB] at e; cases e; exact hoa
  ·rw [zJ z] at e
   by_cases z2 : b = s.heap.objs.size
   ·subst z2; rw [zB] at e; cases e; exact hob
   ·rw [zJ z2] at e
    refine (I.hok b u e).stay (fun c v hc q => keep c v ?_ q) (fun c q => ?_) fun c xs q => ?_
    ·rcases hc with hc | hc
     ·rw [hc]; exact z
     ·exact (off c _ hc (by intro z; cases z)).1
    ·obtain ⟨h1, h2⟩ := off c _ q (by intro z; cases z)
     rw [up c h1 h2]; exact q
    ·obtain ⟨h1, h2⟩ := off c _ q (by intro z; cases z)
     rw [up c h1 h2]; exact q
theorem ps_fldX (ha : PE X o ta) (hv : PE X value tv) (hs : swapsWith value (some (.Attribute o f pos')) pos.line X.env = pure false := by rfl) : PS X (.Assign [.Attribute o f pos'] value pos) (sFldX X.K ta tv f) := by
 refine ⟨?_⟩
 intro pins s σ H D I h
 refine plainObj_wpAny_Assign_Attribute (thn (hv pins s σ H _ I h) fun u s1 ⟨y, H1, I1, ry, q⟩ => thn (ha pins s1 σ H1 _ I1 q) fun ov s2 ⟨x, H2, I2, rx, a, C, od, ex, ea, ec, na, q2⟩ => ?_) hs
 subst ex
 obtain rfl : ov = Value.ref a := rx
 obtain ⟨ox, vs, gx, hcl, hdi, hda, hz, h1⟩ := ExN.get I2.hok ea
 rcases q2 with ⟨rfl, q2⟩ | ⟨d, fs, rfl, hd, hl, q2⟩
 ·refine exc_set_new I2.kIn gx hcl hdi hda ec na fun h' hn hx' keep => ?_
  refine ⟨σ, _, I2.excDict ea keep ⟨_, hx'⟩ (ExN.ok hx' hcl rfl hda hz h1) (XdO.ok hn (fun g => ?_) fun g hg => ?_), q2 _ I2.fresh⟩
  ·show RelO ([(f, y)].lookup g) (if g = f then some u else none)
   by_cases z : g = f
   ·subst z; rw [List.lookup_cons_self, if_pos rfl]; exact ry
   ·rw [List.lookup_cons, beq_eq_false_iff_ne.mpr z, if_neg z]; exact True.intro
  ·by_cases z : g = f
   ·subst z; simp
   ·exact absurd (show (if g = f then some u else none) = none by rw [if_neg z]) hg
 ·obtain ⟨mA, n, r, wi⟩ := XdO.get I2.hok hd
  refine exc_set_more I2.kIn gx hcl hdi hda n wi (by rw [List.length_map, sizeLine_eq]; (first|lia|omega)) ec na fun h' hn sb => ?_
  refine ⟨σ, _, I2.write (x := d) (e := d) (by rw [hd]; exact True.intro) (.inl rfl) (fun b q hb z => (sb.2 b hb).trans z) (let ⟨o, _, _, e', _⟩ := hn; ⟨o, e'⟩) (XdO.ok hn (fun g => ?_) fun g hg => ?_), q2⟩
  ·show RelO ((putF f y fs).lookup g) (if g = f then some u else mA g)
   rw [lookup_putF]
   by_cases q : g = f
   ·rw [if_pos q, if_pos q]; exact ry
   ·rw [if_neg q, if_neg q]; exact r g
  ·by_cases q : g = f
   ·rw [q]; exact (wL f y fs).1
   ·refine (wL f y fs).2 g (wi g fun z => hg ?_)
    show (if g = f then some u else mA g) = none
    rw [if_neg q]; exact z
end

def Ours (X : Cx) (pins : List (Addr × Obj)) (H : Hp) (T : Addr) : Prop := H T = none /\ X.s₀.heap.objs.size <= T /\ T ≠ X.env.locals /\ ∀ p ∈ X.pn ++ pins, p.1 ≠ T
def Tb (X : Cx) (pins : List (Addr × Obj)) (H : Hp) (x : Addr) (h : Heap) : Prop :=
 ∃ oe vs, h.get? x = some oe /\ oe.data = .fields vs /\ (vs[1]? = some .none \/ ∃ T oT ts fl, vs[1]? = some (.ref T) /\ T ≠ x /\ Ours X pins H T /\ h.get? T = some oT /\ oT.data = .fields ts /\ ts[3]? = some fl /\ (fl = .none \/ fl = rawInt X.env.locals))
def TbAt (X : Cx) (pins : List (Addr × Obj)) (H : Hp) (x : Addr) (fl : Value) (h : Heap) : Prop :=
 ∃ oe vs T oT ts, h.get? x = some oe /\ oe.data = .fields vs /\ vs[1]? = some (.ref T) /\ T ≠ x /\ Ours X pins H T /\ h.get? T = some oT /\ oT.data = .fields ts /\ ts[3]? = some fl
theorem TbAt.tb {X : Cx} {pins : List (Addr × Obj)} {H : Hp} {x : Addr} {fl : Value} {h : Heap} (t : TbAt X pins H x fl h) (hf : fl = .none \/ fl = rawInt X.env.locals) : Tb X pins H x h := by
 obtain ⟨oe, vs, T, oT, ts, e, d, h1, r1, r2, r3, r4, r5⟩ := t
 exact ⟨oe, vs, e, d, .inr ⟨T, oT, ts, fl, h1, r1, r2, r3, r4, r5, hf⟩⟩
section
variable {X : Cx} {pins : List (Addr × Obj)} {σ : St} {H : Hp} {s : Shared} {h' : Heap} {x C : Addr} {od : Option Addr}
theorem Inv.flight (I : Inv X pins σ H s) (hx : H x = some (ExO x C od)) {ch : List Addr} (hch : ∀ b ∈ ch, Ours X pins H b) (ncell : ∀ b ∈ ch, ∀ y c, X.env.cells.lookup y = some c -> c ≠ b)
  (keep : ∀ b o, b ≠ x -> b ∉ ch -> b ∉ frs X.stack -> s.heap.get? b = some o -> h'.get? b = some o) (slot : ∀ b o, b ≠ x -> b ∉ ch -> s.heap.get? b = some o -> ∃ sl, h'.get? b = some { o with slots := sl })
  (hx' : ∃ o vs, h'.get? x = some o /\ o.cls = .ref C /\ o.dict = od /\ o.data = .fields vs /\ 6 <= vs.size) : Inv X pins σ H { s with heap := h' } := by
 have nx : ∀ b, H b = none -> b ≠ x := fun b n z => by rw [z, hx] at n; cases n
 have nst : ∀ b, b ≠ X.env.locals -> b ∉ X.fs -> b ∉ frs X.stack := fun b h1 h2 z => (List.mem_cons.mp (I.stkSub b z)).elim h1 h2
 have nch : ∀ b u, H b = some u -> b ∉ ch := fun b u e z => by rw [(hch b z).1] at e; cases e
 have nfr : ∀ b u, H b = some u -> b ∉ frs X.stack := fun b u e z => by rw [I.stkFree b z] at e; cases e
 refine I.step (g' := s.gens) (d' := s.drawn) (t' := s.toks) (ch := ch) (fun b hb => ⟨.inr (hch b hb).2.1, (hch b hb).2.2.1, ncell b hb, (hch b hb).2.2.2⟩)
  (fun b o hL hf hc e n => keep b o (nx b n) hc (nst b hL hf) e) (fun b o hL hf hc e n => slot b o (nx b n) hc e) (fun b o hc e n => n) (fun b o hc e => ?_) (fun _ _ e => e) (fun _ _ _ e => e) (fun b ps e => ⟨#[], by rw [e]; simp⟩) (fun m hm => ?_) (fun b u e => ?_) I.bare
 ·by_cases z : b = x
  ·subst z; obtain ⟨o, _, g, _⟩ := hx'; exact ⟨o, g⟩
  ·obtain ⟨sl, q⟩ := slot b o z hc e; exact ⟨_, q⟩
 ·obtain ⟨o, es, ep, ho, hd, r⟩ := hm
  obtain ⟨sl, q⟩ := slot _ o (nx _ I.free) (fun z => (hch _ z).2.2.1 rfl) ho
  exact ⟨_, es, ep, q, hd, r⟩
 ·by_cases z : b = x
  ·subst z; rw [hx] at e; cases e
   obtain ⟨o, vs, g, r1, r2, r3, r4⟩ := hx'
   exact ExO.ok g r1 r2 r3 r4
  ·refine (I.hok b u e).stay (fun c v hc q => ?_) (fun _ q => q) fun _ _ q => q
   rcases hc with hc | hc
   ·rw [hc] at q ⊢; exact keep b v z (nch b u e) (nfr b u e) q
   ·exact keep c v (fun z2 => by rw [z2, hx] at hc; cases hc) (nch c _ hc) (nfr c _ hc) q

theorem Ours.ncell {T : Addr} {oT : Obj} {ts : Array Value} (I : Inv X pins σ H s) (g : s.heap.get? T = some oT) (d : oT.data = .fields ts) : ∀ b ∈ [T], ∀ y c, X.env.cells.lookup y = some c -> c ≠ b := fun b hb y c e z => by
 rw [List.mem_singleton.mp hb] at z
 obtain ⟨v, o, ho, hd⟩ := I.cell y c e
 rw [z, g] at ho; cases ho; rw [d] at hd; cases hd
theorem fly_entry {M : Model} {A : Around} {E : Value -> Shared -> Prop} {Q : Unit -> Shared -> Prop} {head : Value} {hadNext : Bool} (I : Inv X pins σ H s) (hst : X.stack = X.env :: X.outer) (hfr : X.env.frame = some X.env.locals) (hA : A.frames = some X.stack)
  (hx : H x = some (ExO x C od)) (hq : ∀ s', Inv X pins σ H s' -> TbAt X pins H x (rawInt X.env.locals) s'.heap -> Q () s') :
  wpAny M A (do let a <- frameOf X.env; let pl <- entryPlaceOf X.env.locals hadNext; let b <- EntryCells.newEntry head a .none (rawInt X.env.locals) .none pl; setField (.ref x) 1 b) Q E s := by
 have hl : s.heap.FunFrames X.base (X.env :: X.outer) := hst ▸ I.stack
 refine wpAny_bind (wpAny_frameOf_fun (hst ▸ hA) hl hfr fun h1 hs1 => ?_)
 refine wpAny_bind (wpAny_entryPlaceOf fun pl hpl => ?_)
 unfold EntryCells.newEntry newFields
 refine wpAny_bind (wpAny_newObj_type ?_ (hpl.sizeOk5 _ _ _ _ _))
 obtain ⟨ox, vs, gx, hcl, hdi, hda, hz⟩ := ExO.get I.hok hx
 have hxf : x ∉ (X.env :: X.outer).filterMap (·.frame) := fun hm => by
  obtain ⟨_, o, ho, hnf⟩ := hl.mem hm
  rw [gx] at ho; cases ho; exact hnf vs hda
 have gx1 : h1.get? x = some ox := (hs1.2.1 x hxf).trans gx
 generalize hob : ({ cls := .type "traceback", dict := none, data := .fields ([head, .ref X.env.locals, .none, rawInt X.env.locals, .none] ++ (if pl.isEmpty then List.replicate 6 Value.none else pl)).toArray } : Obj) = ob
 have gx2 := Heap.get?_push_of_some (h := h1) ob gx1
 have hz1 : 1 < vs.size := by (first|lia|omega)
 refine wpAny_setField gx2 hda hz1 ?_
 have sz : h1.objs.size = s.heap.objs.size := hs1.1
 have hd3 := Obj.data_mapFields hda (·.setIfInBounds 1 (Value.ref h1.objs.size))
 have gx3 := Heap.get?_update_self (Obj.mapFields (·.setIfInBounds 1 (Value.ref h1.objs.size))) gx2 (Obj.isFreed_of_fields hd3)
 have hTx : h1.objs.size ≠ x := Nat.ne_of_gt (Heap.lt_size gx1)
 have gT : (h1.push ob).get? h1.objs.size = some ob := Heap.get?_push_size _ (by rw [<- hob]; rfl)
 have hT : H h1.objs.size = none := by rw [sz]; exact I.fresh
 have keep : ∀ b o, b ≠ x -> h1.get? b = some o -> ((h1.push ob).update x (Obj.mapFields (·.setIfInBounds 1 (Value.ref h1.objs.size)))).get? b = some o := fun b o hb e => by
  rw [Heap.get?_update_other _ _ (Ne.symm hb)]; exact Heap.get?_push_of_some _ e
 have I' : Inv X pins σ H { s with heap := (h1.push ob).update x (Obj.mapFields (·.setIfInBounds 1 (Value.ref h1.objs.size))) } := by
  refine I.flight hx (ch := []) (fun b hb => (nomatch hb)) (fun b hb => (nomatch hb)) (fun b o hb _ hf e => keep b o hb ((hs1.2.1 b (by rw [<- hst]; exact hf)).trans e)) (fun b o hb _ e => ?_) ⟨_, _, gx3, (Obj.cls_mapFields _ _).trans hcl, ?_, hd3, by simp; exact hz⟩
  ·obtain ⟨sl, q⟩ := hs1.2.2 b o e
   exact ⟨sl, keep b _ hb q⟩
  ·obtain ⟨oc, odi, oda, osl⟩ := ox
   simp only at hda
   subst hda
   exact hdi
 refine hq _ I' ⟨_, _, h1.objs.size, ob, _, gx3, hd3, by simp [hz1], hTx, ⟨hT, ?_, ?_, fun p hp z => ?_⟩, ?_, by rw [<- hob], ?_⟩
 ·rw [sz]; exact I.sz
 ·rw [sz]; exact Nat.ne_of_gt I.lt
 ·have := Heap.lt_size (I.pin p hp).1
  rw [z, sz] at this; exact Nat.lt_irrefl _ this
 ·rw [Heap.get?_update_other _ _ (Ne.symm hTx)]; exact gT
 ·first | (simp; done) | (rcases hpl with rfl | ⟨_, _, _, _, _, _, _, rfl⟩ <;> simp)
theorem fly_note {M : Model} {A : Around} {E : Value -> Shared -> Prop} {Q : Unit -> Shared -> Prop} (I : Inv X pins σ H s) (hst : X.stack = X.env :: X.outer) (hfr : X.env.frame = some X.env.locals) (hA : A.frames = some X.stack)
  (hx : H x = some (ExO x C od)) (tb : Tb X pins H x s.heap) (hq : ∀ s', Inv X pins σ H s' -> TbAt X pins H x (rawInt X.env.locals) s'.heap -> Q () s') : wpAny M A (noteFrame (.ref x) X.env) Q E s := by
 obtain ⟨oe, vs, ge, hd, h1⟩ := tb
 unfold noteFrame
 simp only [hfr]
 rcases h1 with h1 | ⟨T, oT, ts, fl, h1, hTx, ours, gT, dT, h3, hfl⟩
 ·refine wpAny_bind (wpAny_field ge hd h1 ?_)
  rw [if_neg (by decide)]
  exact fly_entry I hst hfr hA hx hq
 ·refine wpAny_bind (wpAny_field ge hd h1 ?_)
  rw [if_pos (show (Value.ref T != Value.none) = true from by simp)]
  refine wpAny_bind (wpAny_field gT dT h3 ?_)
  rcases hfl with rfl | rfl
  ·rw [if_neg (show ¬ ((Value.none == rawInt X.env.locals) = true) from by simp [rawInt])]
   refine wpAny_bind (wpAny_setField gT dT (Array.getElem?_eq_some_iff.mp h3).1 ?_)
   have other : ∀ b, b ≠ T -> (s.heap.update T (Obj.mapFields (·.setIfInBounds 3 Value.none))).get? b = s.heap.get? b := fun b hb => Heap.get?_update_other _ _ (Ne.symm hb)
   obtain ⟨ox, ws, gx, r⟩ := ExO.get I.hok hx
   have I' : Inv X pins σ H { s with heap := s.heap.update T (Obj.mapFields (·.setIfInBounds 3 Value.none)) } := by
    refine I.flight hx (ch := [T]) (fun b hb => by rw [List.mem_singleton.mp hb]; exact ours) (Ours.ncell I gT dT) (fun b o hb hc _ e => (other b fun z => hc (by simp [z])).trans e) (fun b o hb hc e => ⟨o.slots, (other b fun z => hc (by simp [z])).trans e⟩) ⟨ox, ws, (other x (Ne.symm hTx)).trans gx, r⟩
   exact fly_entry I' hst hfr hA hx hq
  ·rw [if_pos (show (rawInt X.env.locals == rawInt X.env.locals) = true from by simp)]
   exact wpAny_pure (hq s I ⟨oe, vs, T, oT, ts, ge, hd, h1, hTx, ours, gT, dT, h3⟩)
theorem fly_set {M : Model} {A : Around} {E : Value -> Shared -> Prop} {Q : Unit -> Shared -> Prop} {fl : Value} {to : Option Addr} (I : Inv X pins σ H s) (hx : H x = some (ExO x C od)) (tb : TbAt X pins H x fl s.heap)
  (hq : ∀ s', Inv X pins σ H s' -> TbAt X pins H x (to.elim Value.none fun f => rawInt f) s'.heap -> Q () s') : wpAny M A (setFlight (.ref x) to) Q E s := by
 obtain ⟨oe, vs, T, oT, ts, ge, hd, h1, hTx, ours, gT, dT, h3⟩ := tb
 unfold setFlight
 refine wpAny_bind (wpAny_field ge hd h1 ?_)
 rw [if_pos (show (Value.ref T != Value.none) = true from by simp)]
 have hsz3 := (Array.getElem?_eq_some_iff.mp h3).1
 refine wpAny_setField gT dT hsz3 (hq _ ?_ ?_)
 ·obtain ⟨ox, ws, gx, r⟩ := ExO.get I.hok hx
  exact I.flight hx (ch := [T]) (fun b hb => by rw [List.mem_singleton.mp hb]; exact ours) (Ours.ncell I gT dT) (fun b o hb hc _ e => (Heap.get?_update_other _ _ (fun z => hc (by simp [z]))).trans e) (fun b o hb hc e => ⟨o.slots, (Heap.get?_update_other _ _ (fun z => hc (by simp [z]))).trans e⟩) ⟨ox, ws, (Heap.get?_update_other _ _ hTx).trans gx, r⟩
 ·exact ⟨oe, vs, T, _, _, (Heap.get?_update_other _ _ hTx).trans ge, hd, h1, hTx, ours, Heap.get?_update_self _ gT (Obj.isFreed_of_fields (Obj.data_mapFields dT _)), Obj.data_mapFields dT _, by simp [hsz3]⟩
end

def CXE (P : Program) (w : World) : CXT := fun outer H s E e s' => ∃ x C d H', e = .ref x /\ s'.os = s.os /\ AllBare s'.gens /\ Un (frs outer) [] H H' s.heap s'.heap /\ HOk P w H' s'.heap /\ H' x = some (ExO x C d) /\
 (∃ oe vs T oT ts, s'.heap.get? x = some oe /\ oe.data = .fields vs /\ vs[1]? = some (.ref T) /\ T ≠ x /\ H' T = none /\ s.heap.objs.size <= T /\ s'.heap.get? T = some oT /\ oT.data = .fields ts /\ ts[3]? = some .none) /\ E (.ref C) d H'
theorem cxe_none {P : Program} {w : World} {outer : List Env} {H : Hp} {s : Shared} {e : Value} {s' : Shared} (h : CXE P w outer H s (fun _ _ _ => False) e s') : False := by
 obtain ⟨_, _, _, _, _, _, _, _, _, _, _, z⟩ := h
 exact z
def FlyW (X : Cx) (E : XK) : Value -> Shared -> Prop := fun e s1 => ∃ x C d pins σ H, e = .ref x /\ Inv X pins σ H s1 /\ H x = some (ExO x C d) /\ Tb X pins H x s1.heap /\ E (.ref C) d H
abbrev Cx.exc (X : Cx) (E : XK) : Cx := X.wish (FlyW X E)
section
variable {X : Cx} {E : XK}
theorem passN {P : Program} {w : World} : Passes (CXE P w) X E0 := fun _ _ _ _ _ _ _ h => (cxe_none h).elim
theorem cxe_fly {pins : List (Addr × Obj)} {σ : St} {H : Hp} {s s' : Shared} {e : Value} (I : Inv X pins σ H s) (h : CXE X.prog X.w X.stack H s E e s') : FlyW X E e s' := by
 obtain ⟨x, C, d, H', rfl, ho, hg, u, hok, hx, ⟨oe, vs, T, oT, ts, ge, hd, h1, hTx, hT, lo, gT, dT, h3⟩, q⟩ := h
 have I' : Inv X pins σ H' s' := I.call' (ch := []) ho u hok hg fun b z => (nomatch z)
 refine ⟨x, C, d, pins, σ, H', rfl, I', hx, ⟨oe, vs, ge, hd, .inr ⟨T, oT, ts, .none, h1, hTx, ⟨hT, Nat.le_trans I.sz lo, Nat.ne_of_gt (Nat.lt_of_lt_of_le I.lt lo), fun p hp z => ?_⟩, gT, dT, h3, .inl rfl⟩⟩, q⟩
 have := Heap.lt_size (I.pin p hp).1
 rw [z] at this
 exact absurd (Nat.lt_of_lt_of_le this lo) (Nat.lt_irrefl _)
theorem passX : Passes (CXE X.prog X.w) (X.exc E) E := fun pins σ H s e s' I h => cxe_fly I.unwish h
theorem fly_leave {e : Value} {s1 : Shared} {E' : Value -> Shared -> Prop} (hst : X.stack = X.env :: X.outer) (hfr : X.env.frame = some X.env.locals) (hex : X.ex = []) (h : FlyW X E e s1) :
  wpAny (model X.prog X.w) X.A (leaving X.env e) (fun _ s'' => CXE X.prog X.w X.outer X.H₀ X.s₀ E e s'') E' s1 := by
 obtain ⟨x, C, d, pins, σ, H, rfl, I, hx, tb, q⟩ := h
 unfold leaving
 refine wpAny_bind (fly_note I hst hfr I.ok.frames hx tb fun s2 I2 t2 => fly_set (to := none) I2 hx t2 fun s3 I3 t3 => ?_)
 obtain ⟨oe, vs, T, oT, ts, ge, hd, h1, hTx, ours, gT, dT, h3⟩ := t3
 have b := I3.base
 rw [hex] at b
 exact ⟨x, C, d, H, rfl, I3.os, I3.bare, b, I3.hok, hx, ⟨oe, vs, T, oT, ts, ge, hd, h1, hTx, ours.1, ours.2.1, gT, dT, h3⟩, q⟩
theorem own_fly (hst : X.stack = X.env :: X.outer) (hfr : X.env.frame = some X.env.locals) : PassesOwn (model X.prog X.w) X.A X.env (FlyW X E) := fun e s1 h => by
 obtain ⟨x, C, d, pins, σ, H, rfl, I, hx, tb, q⟩ := h
 refine fly_note I hst hfr I.ok.frames hx tb fun s2 I2 t2 => ?_
 have t2' := t2
 obtain ⟨oe, vs, T, oT, ts, ge, hd, h1, hTx, ours, gT, dT, h3⟩ := t2
 unfold cameBackBy
 refine wpAny_bind (wpAny_field ge hd h1 ?_)
 rw [if_neg (show ¬ ((Value.ref T == Value.none) = true) from by simp)]
 rw [hfr]
 exact fly_set (to := some X.env.locals) I2 hx t2' fun s3 I3 t3 => ⟨x, C, d, pins, σ, H, rfl, I3, hx, t3.tb (.inr rfl), q⟩
end
section
variable {P : Program} {w : World} {K : PySem.W.Frag} {mg : Str -> Option Value} {base : Heap}
theorem Fun.okN {CX : CXT} {x qual : Str} {st : Stmt} {f : Addr} {fd : FuncData} {N ps : List Str} {k : Nat} {sp : Sp} (F : Fun K x qual st f fd) (S : FnScope N ps (defScope st)) (len : ∀ vs H Q E, sp vs H Q E -> vs.length = ps.length)
  (hbody : ∀ (cdv : Value) (A : Around) (outer : List Env) (s : Shared) (H : Hp) (vs : List V) (Q : VK) (E : XK), Room k (A.deeper (envOfC qual (defScope st) s.heap.objs.size f cdv)) -> sp vs H Q E ->
   ∃ t, PSs (cxOf CX P w K mg base N qual (defScope st) f cdv A outer s H E).nox (defBody st) t /\ t { nx := fun _ H' => Q .non H', rt := Q } (start N vs) H) : FnOk P w K mg base CX (k + 1) f fd ps sp := by
 obtain ⟨oc, od, kV, doc, pm, an, cdv, ct, osl, rfl, lk, hcd⟩ := F.ex
 refine fn_of lk hcd S len fun A outer s H vs Q E hr hsp => ?_
 obtain ⟨t, h, q⟩ := hbody cdv A outer s H vs Q E hr hsp
 exact ⟨t, h.nox, q⟩
theorem Fun.okX {x qual : Str} {st : Stmt} {f : Addr} {fd : FuncData} {N ps : List Str} {k : Nat} {sp : Sp} (F : Fun K x qual st f fd) (S : FnScope N ps (defScope st)) (len : ∀ vs H Q E, sp vs H Q E -> vs.length = ps.length)
  (hbody : ∀ (cdv : Value) (A : Around) (outer : List Env) (s : Shared) (H : Hp) (vs : List V) (Q : VK) (E : XK), Room k (A.deeper (envOfC qual (defScope st) s.heap.objs.size f cdv)) -> sp vs H Q E ->
   ∃ t, PSs ((cxOf (CXE P w) P w K mg base N qual (defScope st) f cdv A outer s H E).exc E) (defBody st) t /\ t { nx := fun _ H' => Q .non H', rt := Q } (start N vs) H) : FnOk P w K mg base (CXE P w) (k + 1) f fd ps sp := by
 obtain ⟨oc, od, kV, doc, pm, an, cdv, ct, osl, rfl, lk, hcd⟩ := F.ex
 refine fn_of lk hcd S len fun A outer s H vs Q E hr hsp => ?_
 obtain ⟨t, h, q⟩ := hbody cdv A outer s H vs Q E hr hsp
 refine ⟨t, ⟨fun pins s1 σ H1 D I hw => ?_⟩, q⟩
 refine wpAny_mono (h pins s1 σ H1 D (I.wish _) hw) (fun fl s2 hs => hs.unwish) fun e s2 fl => ?_
 exact fly_leave rfl rfl rfl fl
end
end L2

namespace L2
open PySem PySem.Spec PyProof.Rows
abbrev bmValue : List Value := [.type "ValueError", .type "Exception", .type "BaseException", .type "object"]
structure ExMk (K : PySem.W.Frag) (C f : Addr) : Prop where
 cls : ∃ (B nw ini : String) (bmB : List Value), ExcBaseFacts B nw ini bmB /\ bmB.contains (.type "BaseException") = true /\ ∃ nm q N bs bm hdct sn sub ab col dd k0 k1 k2 k3 k5, K.lookup C = some (excClassObj nm q C N bs bm hdct sn sub ab col dd k0 k1 k2 k3 k5 nw) /\ ∀ h, K.In h -> OwnTail h bmB bm
 init : PySem.W.findIn K (.ref C) "__init__" = some (some (.ref f))
 fn : PySem.W.typeIn K (.ref f) = some (.type "function")
 kp : PySem.W.keepIn K (.ref C) = true
 ec : ExCls K C
section
variable {X : Cx} {pins : List (Addr × Obj)} {σ : St} {H : Hp} {s : Shared}
theorem Inv.excMade (I : Inv X pins σ H s) (C : Addr) (us : List Value) : Inv X pins σ (upd H (s.heap.objs.size + 1) (ExN (s.heap.objs.size + 1) C none)) { s with heap := excHeap s.heap C us } := by
 have gx : (excHeap s.heap C us).get? (s.heap.objs.size + 1) = some (excObj C s.heap.objs.size) := by heap_get
 refine I.laid (t' := s.toks) (fun b o e => Heap.get?_push_of_some _ (Heap.get?_push_of_some _ e)) (Nat.le_succ _) (ExN.ok gx rfl rfl rfl (show 6 <= 6 by decide) rfl)
theorem run_exc {CX : CXT} {k : Nat} {f C : Addr} {fd : FuncData} {ps : List Str} {sp : Sp} {E : XK} {Q : Addr -> Hp -> Prop} {us : List Value} {vs : List V} (M : ExMk X.K C f) (G : FnOk X.prog X.w X.K X.mg X.base CX k f fd ps sp) (hr : Room (k + 1) X.A) (hb : Binds X.K fd ps [])
  (hx : Passes CX X E) (I : Inv X pins σ H s) (r : Vals vs us) (hz : us.length <= sizeLine)
  (h : ∀ x, H x = none -> sp (.ref x :: vs) (upd H x (ExN x C none)) (fun v H2 => v = .non /\ Q x H2) E) :
  wpAny (model X.prog X.w) X.A (call (.ref C) us) (fun u s' => ∃ x H', u = .ref x /\ Inv X pins σ H' s' /\ Q x H') X.xe s := by
 have hq := h (s.heap.objs.size + 1) (I.hok.fresh (Nat.le_succ _))
 have I2 := I.excMade C us
 have r2 : Vals (V.ref (s.heap.objs.size + 1) :: vs) (Value.ref (s.heap.objs.size + 1) :: us) := .cons rfl r
 have hl : (Value.ref (s.heap.objs.size + 1) :: us ++ []).length = ps.length := by
  have e := r2.length
  rw [G.len _ _ _ _ hq] at e
  rw [List.append_nil]
  exact e.symm
 obtain ⟨_, _, _, bmB, BF, hcb, nm, q, N, bs, bm, hdct, sn, sub, ab, col, dd, k0, k1, k2, k3, k5, hC, T⟩ := M.cls
 have KI := I.kIn
 have bd := hb { s with heap := excHeap s.heap C us } (Value.ref (s.heap.objs.size + 1) :: us) I2.kIn hl
 rw [List.append_nil] at bd
 obtain ⟨hh, g, d, t, os⟩ := s
 refine wpAny_call (exc_make KI (KI _ _ hC) BF (T _ KI) M.init M.fn hz (codeAny_mono (G.run _ X.stack _ _ ⟨Value.ref (hh.objs.size + 1) :: us, []⟩ _ _ _ E (hr.make C us []) (I2.env0.make C us []) bd r2 hq) fun r s' hq' => ?_))
 cases r with
 | error e => exact hx pins σ _ _ e s' I2 hq'
 | ok fl =>
  cases fl with
  | ret u =>
   obtain ⟨v, H', I3, rv, ev, q3⟩ := I2.after hq'
   subst ev
   exact ⟨rv, hh.objs.size + 1, H', rfl, I3, q3⟩
  | next => exact False.elim hq'
  | brk => exact False.elim hq'
  | cont => exact False.elim hq'
theorem raise_stmt {M : Model} {A : Around} {E : Value -> Shared -> Prop} {env : Env} {xs : Sem Value} {Q : Flow -> Shared -> Prop} {K : PySem.W.Frag} {C : Addr} {s : Shared} {f : Addr} (hM : ExMk K C f) (hh : A.handled = none)
  (h : wpAny M A xs (fun v s1 => ∃ x oe vs, v = .ref x /\ K.In s1.heap /\ s1.heap.get? x = some oe /\ oe.cls = .ref C /\ oe.data = .fields vs /\ vs[1]? = some .none /\ E (.ref x) s1) E s) :
  wpAny M A (raiseStmt env (some xs) none) Q E s := by
 obtain ⟨_, _, _, bmB, BF, hcb, nm, q, N, bs, bm, hdct, sn, sub, ab, col, dd, k0, k1, k2, k3, k5, hC, T⟩ := hM.cls
 unfold raiseStmt
 refine wpAny_bind (thn h fun v s1 h1 => ?_)
 obtain ⟨x, oe, vs, rfl, KI, ge, hcl, hd, h1, hE⟩ := h1
 have hC1 := KI _ _ hC
 have hcB : (Value.ref C :: bm).contains (.type "BaseException") = true := by rw [List.contains_cons, (T _ KI).hasType hcb, Bool.or_true]
 obtain ⟨hp, g, d, tk, os⟩ := s1
 repeat (first | (with_reducible refine wpAny_loadPart_at ge ?_; try rw [hcl]) | with_reducible refine wpAny_loadPart_at hC1 ?_ | (with_reducible refine wpAny_isSubtype_exc hC1 ?_; rw [hcB]) | with_reducible refine wpAny_field ge hd h1 ?_ | wp_step)
 exact wpAny_raiseNew_none hh hE
theorem Inv.excFlies {x C d : Addr} (I : Inv X pins σ H s) (hx : H x = some (ExN x C (some d))) : Inv X pins σ (upd H x (ExO x C (some d))) s := by
 obtain ⟨o, vs, g, r1, r2, r3, r4, r5⟩ := ExN.get I.hok hx
 exact I.write (h' := s.heap) (t' := s.toks) (x := x) (e := x) (by rw [hx]; exact True.intro) (.inl rfl) (fun _ _ _ q => q) ⟨o, g⟩ (ExO.ok g r1 r2 r3 r4)
end
def tRaise (C : Addr) (sp : Sp) (E : XK) (t : TA) : TS := fun _ σ H => t σ H fun vs H1 => vs.length <= sizeLine /\ ∀ x, H1 x = none ->
 sp (.ref x :: vs) (upd H1 x (ExN x C none)) (fun v H2 => v = .non /\ ∃ d, H2 x = some (ExN x C (some d)) /\ E (.ref C) (some d) (upd H2 x (ExO x C (some d)))) E
section
variable {X : Cx} {E : XK} {k : Nat} {f C : Addr} {fd : FuncData} {ps : List Str} {sp : Sp} {x : Str} {np cpos pos : Pos} {e : Expr} {es : List Expr} {t : TA}
theorem ps_raise (M : ExMk X.K C f) (G : FnOk X.prog X.w X.K X.mg X.base (CXE X.prog X.w) k f fd ps sp) (hr : Room (k + 1) X.A) (hg : Gl (X.exc E) x) (hm : X.mg x = some (.ref C)) (hb : Binds X.K fd ps []) (ha : PA (X.exc E) (e :: es) t) (hc : X.calm = true := by rfl)
  (hdb : (x == ("__debug__" : Str)) = false := by decide) (he : starEach (e :: es) X.env = (false, eval e X.env) :: starEach es X.env := by rfl) (hpl : (backTo cpos (starEach es X.env)).any (·.1) = false := by rfl) :
  PS (X.exc E) (.Raise (some (.Call (.Name x np) (e :: es) [] cpos)) none pos) (tRaise C sp E t) := by
 refine ⟨?_⟩
 intro pins s σ H D I h
 have cal : wpAny (model X.prog X.w) X.A (eval (.Call (.Name x np) (e :: es) [] cpos) X.env) (fun v s1 => ∃ y oe vs, v = .ref y /\ X.K.In s1.heap /\ s1.heap.get? y = some oe /\ oe.cls = .ref C /\ oe.data = .fields vs /\ vs[1]? = some .none /\ FlyW X E (.ref y) s1) (FlyW X E) s := by
  refine wpAny_Call_Name_kw (qV (X := X.exc E) I hg hm ?_ hdb)
  refine PySem.W.callWith_K (h₀ := X.base) I.ok.mod.kin M.kp (thn (ha cpos pins s σ H _ I h) fun us s1 ⟨vs, H1, I1, r, hz, q⟩ => ⟨I1.kIn, ?_⟩) he hpl
  refine thn (run_exc (X := X.exc E) (Q := fun y H2 => ∃ d, H2 y = some (ExN y C (some d)) /\ E (.ref C) (some d) (upd H2 y (ExO y C (some d)))) M G hr hb passX I1 r (by have := r.length; rw [List.nil_append]; (first|lia|omega)) q) fun v s2 ⟨y, H2, ev, I2, d, hy, qe⟩ => ?_
  ·subst ev
   obtain ⟨o, ws, g, r1, r2, r3, r4, r5⟩ := ExN.get I2.hok hy
   exact ⟨y, o, ws, rfl, I2.kIn, g, r1, r3, r5, y, C, some d, pins, σ, _, rfl, I2.unwish.excFlies hy, zB, ⟨o, ws, g, r3, .inl r5⟩, qe⟩
 show wpAny _ _ (exec (.Raise (some (.Call (.Name x np) (e :: es) [] cpos)) none pos) X.env) _ _ _
 rw [arm_exec_Raise]
 refine wpAny_bind (wpAny_standAt (raise_stmt (K := X.K) M (I.ok.hd hc) ?_))
 exact wpAny_bind (thn cal fun v s1 h1 => wpAny_bind (wpAny_standAt (wpAny_pure h1)))
end
end L2

namespace L2
open PySem PySem.Spec PyProof.Rows
section
variable {X : Cx} {pins : List (Addr × Obj)} {σ : St} {H : Hp} {s : Shared}
theorem name_gone {M : Model} {A : Around} {E : Value -> Shared -> Prop} {i : Nat} {n : Str} {pos : Pos} {Q : Unit -> Shared -> Prop} (I : Inv X pins σ H s) (hN : X.N.Nodup) (hi : X.N[i]? = some n) (hl : X.env.scope.names.lookup n = some .local)
  (h : ∀ s', Inv X pins (σ.set i none) H s' -> Q () s') : wpAny M A (do bindName X.env n .none; unbindBehindTheSuite X.env n pos) Q E s := by
 obtain ⟨m, hn, hlk⟩ := id I.loc
 have hcls : (X.env.scope.kind == .class || (X.env.scope.kind == .module && X.env.locals != X.env.globals)) = false := by rw [I.ok.kind]; rfl
 have hiσ : i < σ.length := by rw [I.len]; exact (List.getElem?_eq_some_iff.mp hi).1
 refine wpAny_nameGoes_keeps hl hn hcls fun h' v hn' hs => h _ ?_
 have neL : ∀ b o, X.s₀.heap.get? b = some o -> b ≠ X.env.locals := fun b o e => Nat.ne_of_lt (Nat.lt_of_lt_of_le (Heap.lt_size e) I.ok.above)
 refine ⟨I.ok, I.os, I.bare, ⟨fun b o e n hb hx => (hs.2 b (neL b o e)).trans (I.base.keep b o e n hb hx), fun b o e n hb hx => ?_, I.base.free, fun b o e hx => ?_, I.base.tups, I.base.frzs, I.base.tbls⟩, ⟨_, hn', fun j y v' e1 e2 e3 => ?_⟩, fun y c e => ?_, I.free, I.freeC, fun p hp => ?_, fun b u e => ?_, by simpa using I.len⟩
 ·obtain ⟨sl, e1⟩ := I.base.slot b o e n hb hx
  exact ⟨sl, (hs.2 b (neL b o e)).trans e1⟩
 ·obtain ⟨o', e1⟩ := I.base.there b o e hx
  exact ⟨o', (hs.2 b (neL b o e)).trans e1⟩
 ·by_cases hj : j = i
  ·subst hj
   rw [List.getElem?_set_self hiσ] at e2
   cases e2
  ·rw [List.getElem?_set_ne (Ne.symm hj)] at e2
   obtain ⟨u', r', q⟩ := hlk j y v' e1 e2 e3
   refine ⟨u', r', ?_⟩
   rcases q with ⟨k, e⟩ | ⟨k, c, e, z⟩
   ·refine .inl ⟨k, ?_⟩
    have : y ≠ n := fun e => hj (nodup_ix hN e1 (e ▸ hi))
    simp [this, e]
   ·exact .inr ⟨k, c, e, z.sameBut hs (I.cne y c e)⟩
 ·obtain ⟨w', z⟩ := I.cell y c e
  exact ⟨w', z.sameBut hs (I.cne y c e)⟩
 ·obtain ⟨e, n, ne, nf, d⟩ := I.pin p hp
  exact ⟨(hs.2 p.1 ne).trans e, n, ne, nf, d⟩
 ·refine (I.hok b u e).stay (fun c w' hc q => (hs.2 c ?_).trans q) (fun _ q => q) fun _ _ q => q
  rintro rfl
  rcases hc with rfl | hc
  ·rw [I.free] at e; cases e
  ·rw [I.free] at hc; cases hc
abbrev Cx.mark (X : Cx) (v : Value) : Cx := { X with A := X.A.mark (some v), calm := false, xe := fun _ _ => False }
theorem Inv.mark (I : Inv X pins σ H s) (v : Value) : Inv (X.mark v) pins σ H s :=
 ⟨⟨I.ok.mod, I.ok.kind, I.ok.glob, I.ok.blt, I.ok.above, I.ok.inj, I.ok.has, I.ok.cab, fun z => (nomatch z), I.ok.frames, I.ok.stk, I.ok.exf, I.ok.bs, I.ok.bsz, I.ok.noex, I.ok.exfs, I.ok.funs, I.ok.frf⟩, I.os, I.bare, I.base, I.loc, I.cell, I.free, I.freeC, I.pin, I.hok, I.len⟩
theorem Inv.unmark {v : Value} (hd : X.calm = true -> X.A.handled = none) (I : Inv (X.mark v) pins σ H s) : Inv X pins σ H s :=
 ⟨⟨I.ok.mod, I.ok.kind, I.ok.glob, I.ok.blt, I.ok.above, I.ok.inj, I.ok.has, I.ok.cab, hd, I.ok.frames, I.ok.stk, I.ok.exf, I.ok.bs, I.ok.bsz, I.ok.noex, I.ok.exfs, I.ok.funs, I.ok.frf⟩, I.os, I.bare, I.base, I.loc, I.cell, I.free, I.freeC, I.pin, I.hok, I.len⟩
abbrev Cx.pinned (X : Cx) (pn : List (Addr × Obj)) : Cx := { X with pn := pn }
theorem Inv.topin (I : Inv X pins σ H s) : Inv (X.pinned (X.pn ++ pins)) [] σ H s :=
 ⟨⟨I.ok.mod, I.ok.kind, I.ok.glob, I.ok.blt, I.ok.above, I.ok.inj, I.ok.has, I.ok.cab, I.ok.hd, I.ok.frames, I.ok.stk, I.ok.exf, I.ok.bs, I.ok.bsz, I.ok.noex, I.ok.exfs, I.ok.funs, I.ok.frf⟩, I.os, I.bare, I.base, I.loc, I.cell, I.free, I.freeC, fun p hp => I.pin p (by rw [List.append_nil] at hp; exact hp), I.hok, I.len⟩
theorem Inv.unpin {pins' : List (Addr × Obj)} (I : Inv (X.pinned (X.pn ++ pins)) pins' σ H s) : Inv X pins σ H s :=
 ⟨⟨I.ok.mod, I.ok.kind, I.ok.glob, I.ok.blt, I.ok.above, I.ok.inj, I.ok.has, I.ok.cab, I.ok.hd, I.ok.frames, I.ok.stk, I.ok.exf, I.ok.bs, I.ok.bsz, I.ok.noex, I.ok.exfs, I.ok.funs, I.ok.frf⟩, I.os, I.bare, I.base, I.loc, I.cell, I.free, I.freeC, fun p hp => I.pin p (List.mem_append_left _ hp), I.hok, I.len⟩
end
structure Mch (K : PySem.W.Frag) (C CE : Addr) : Prop where
 sub : PySem.W.subIn K (.ref C) (.ref CE) = some true
 ty : PySem.W.typeIn K (.ref CE) = some (.type "type")
 cl : (PySem.W.clsIn K CE).isSome = true
 base : PySem.W.subIn K (.ref CE) (.type "BaseException") = some true
theorem exc_matches {M : Model} {A : Around} {E : Value -> Shared -> Prop} {K : PySem.W.Frag} {s : Shared} {x C CE : Addr} {oe : Obj} {Q : Bool -> Shared -> Prop} (KI : K.In s.heap) (m : Mch K C CE) (ge : s.heap.get? x = some oe) (hcl : oe.cls = .ref C) (hq : Q true s) :
  wpAny M A (excMatches (.ref x) (.ref CE)) Q E s := by
 obtain ⟨h, g, d, t, os⟩ := s
 have kc : PySem.W.kitCls K (.ref C) (.ref CE) = some true := by
  unfold PySem.W.kitCls
  simp only [m.cl, m.ty, beq_self_eq_true, Bool.and_self, if_true]
  exact m.sub
 obtain ⟨L1, L2', L3⟩ := PySem.W.kit_cls (M := M) (h := h) KI kc
 have L4 := PySem.W.looks_subIn (M := M) (h := h) KI m.base
 have L5 : PySem.W.Looks M h (typeOf (.ref x)) (.ref C) := hcl ▸ (PySem.W.Looks.ld ge).andThen .now
 have L6 : PySem.W.Looks M h (isInstance (.ref CE) (.type "tuple")) false := L1.andThen (PySem.W.Looks.of_pure tc_notTuple)
 have L7 : PySem.W.Looks M h (isExcClass (.ref CE)) true := L2'.andThen L4
 unfold excMatches
 refine wpAny_bind (L6.at (wpAny_bind (wpAny_pure (wpAny_bind ?_))))
 show wpAny M A (forIn [Value.ref CE] PUnit.unit _) _ E _
 simp only [List.forIn_cons, List.forIn_nil]
 refine wpAny_bind (wpAny_bind (L7.at ?_))
 refine wpAny_pure (wpAny_pure (wpAny_bind (L5.at (wpAny_bind (wpAny_bind (wpAny_bind (L3.at ?_)))))))
 exact wpAny_pure (wpAny_pure (wpAny_pure hq))

def behind (D : Ends) (i : Nat) : Ends := { nx := fun σ H => D.nx (σ.set i none) H, rt := D.rt, bk := fun σ H => D.bk (σ.set i none) H, ct := fun σ H => D.ct (σ.set i none) H }
section
variable {X : Cx}
end
end L2

namespace L2
open PySem PySem.Spec PyProof.Rows
def EqD (K : PySem.W.Frag) (H : Hp) : Nat -> V -> V -> Prop
 | 0, x, y => flatV x = true /\ x = y
 | n + 1, x, y => (flatV x = true /\ x = y) \/ ∃ a b xs ys, x = .ref a /\ y = .ref b /\ ((SqL K H a xs /\ SqL K H b ys) \/ (SqT K H a xs /\ SqT K H b ys)) /\ Paired (EqD K H n) xs ys
theorem EqD.flat {K : PySem.W.Frag} {H : Hp} {x : V} (h : flatV x = true) : ∀ n, EqD K H n x x
 | 0 => ⟨h, rfl⟩
 | _ + 1 => .inl ⟨h, rfl⟩
theorem eqV_same : ∀ {x : V}, flatV x = true -> eqV x x = true
 | .non, _ => rfl
 | .bl b, _ => beq_self_eq_true b
 | .int i, _ => beq_self_eq_true i
 | .str z, _ => beq_self_eq_true z
theorem Paired.get {α β : Type} {F : α -> β -> Prop} : ∀ {xs : List α} {ys : List β}, Paired F xs ys -> ∀ (j : Nat) (x : α) (y : β), xs[j]? = some x -> ys[j]? = some y -> F x y
 | _, _, .nil, j, x, y, h, _ => by simp at h
 | _, _, .cons r t, 0, x, y, h, q => by simp at h q; subst h; subst q; exact r
 | _, _, .cons r t, j + 1, x, y, h, q => Paired.get t j x y (by simpa using h) (by simpa using q)
theorem Paired.len {α β : Type} {F : α -> β -> Prop} : ∀ {xs : List α} {ys : List β}, Paired F xs ys -> xs.length = ys.length
 | _, _, .nil => rfl
 | _, _, .cons _ t => by simp [Paired.len t]
theorem Paired.imp {α β : Type} {F G : α -> β -> Prop} (h : ∀ x y, F x y -> G x y) : ∀ {xs : List α} {ys : List β}, Paired F xs ys -> Paired G xs ys
 | _, _, .nil => .nil
 | _, _, .cons r t => .cons (h _ _ r) (Paired.imp h t)
theorem all_true (n : Nat) : (List.range n).all (fun _ => true) = true := List.all_eq_true.mpr fun _ _ => rfl
section
variable {X : Cx} {pins : List (Addr × Obj)} {σ : St} {H : Hp} {s : Shared}
theorem vals_pair {K : PySem.W.Frag} {xs ys : List V} {us vs : List Value} {R : V -> V -> Prop} (p : Paired R xs ys) (r : Vals xs us) (q : Vals ys vs) (P : Value -> Value -> Prop) (h : ∀ x y u v, R x y -> RelV x u -> RelV y v -> P u v) :
  us.toArray.size = vs.toArray.size /\ ∀ j (h1 : j < us.toArray.size) (h2 : j < vs.toArray.size), P us.toArray[j] vs.toArray[j] := by
 refine ⟨?_, fun j h1 h2 => ?_⟩
 ·have e1 := r.length; have e2 := q.length; have e3 := Paired.len p
  simp only [List.size_toArray]; (first|lia|omega)
 ·have l1 : j < us.length := by simpa using h1
  have l2 : j < vs.length := by simpa using h2
  have e1 := r.length; have e2 := q.length
  have g1 : xs[j]? = some xs[j] := List.getElem?_eq_getElem (by (first|lia|omega))
  have g2 : ys[j]? = some ys[j] := List.getElem?_eq_getElem (by (first|lia|omega))
  simp only [List.getElem_toArray]
  exact h _ _ _ _ (Paired.get p j _ _ g1 g2) (Paired.get r j _ _ g1 (List.getElem?_eq_getElem l1)) (Paired.get q j _ _ g2 (List.getElem?_eq_getElem l2))
theorem eqD_at (I : Inv X pins σ H s) : ∀ (n : Nat) (x y : V) (u v : Value) (A : Around), EqD X.K H n x y -> RelV x u -> RelV y v -> A.units + n <= cLine -> SeqAt.EqAt A s u v true
 | 0, x, y, u, v, A, ⟨f, e⟩, ru, rv, _ => by subst e; rw [<- eqV_same f]; exact eqAt_V ru rv f f
 | n + 1, x, y, u, v, A, .inl ⟨f, e⟩, ru, rv, _ => by subst e; rw [<- eqV_same f]; exact eqAt_V ru rv f f
 | n + 1, x, y, u, v, A, .inr ⟨a, b, xs, ys, ex, ey, hs, p⟩, ru, rv, hu => by
  subst ex ey
  cases ru; cases rv
  by_cases hab : a = b
  ·subst hab; exact SeqAt.EqAt.same _
  refine SeqAt.EqAt.of_refs hab ?_
  rcases hs with ⟨ha, hb⟩ | ⟨ha, hb⟩
  ·obtain ⟨us, r, pa, _⟩ := I.list ha
   obtain ⟨vs, q, pb, _⟩ := I.list hb
   obtain ⟨sz, he⟩ := vals_pair (K := X.K) p r q (fun u v => SeqAt.EqAt A.in1 s u v true) fun x y u v e ru rv => eqD_at I n x y u v A.in1 e ru rv (by show A.units + 1 + n <= _; (first|lia|omega))
   have := SeqAt.RcAt.lists (e := fun _ => true) pa.isList pb.isList sz (by (first|lia|omega)) he
   rwa [all_true] at this
  ·obtain ⟨us, r, pa, _⟩ := I.tuple ha
   obtain ⟨vs, q, pb, _⟩ := I.tuple hb
   obtain ⟨sz, he⟩ := vals_pair (K := X.K) p r q (fun u v => SeqAt.EqAt A.in1 s u v true) fun x y u v e ru rv => eqD_at I n x y u v A.in1 e ru rv (by show A.units + 1 + n <= _; (first|lia|omega))
   have := SeqAt.RcAt.tuples (e := fun _ => true) pa pb (by (first|lia|omega)) he
   rw [all_true, sz, beq_self_eq_true] at this
   exact this
def rEqD (K : PySem.W.Frag) (k : Bool) : R2 := fun x y H Q => ∃ a b xs ys n, x = .ref a /\ y = .ref b /\ ((SqL K H a xs /\ SqL K H b ys) \/ (SqT K H a xs /\ SqT K H b ys)) /\ Paired (EqD K H n) xs ys /\ n <= 100 /\ Q (.bl k) H
theorem op_eqD {k : Nat} (hr : Room k X.A) : OpR X (compareOp .Eq) (rEqD X.K true) := by
 intro pins s σ H x y v u Q I rx ry h
 obtain ⟨a, b, xs, ys, n, rfl, rfl, hs, p, hn, q⟩ := h
 cases rx; cases ry
 have hu := hr.un
 rcases hs with ⟨ha, hb⟩ | ⟨ha, hb⟩
 ·obtain ⟨us, r, pa, _⟩ := I.list ha
  obtain ⟨vs, q', pb, _⟩ := I.list hb
  obtain ⟨sz, he⟩ := vals_pair (K := X.K) p r q' (fun u v => SeqAt.EqAt X.A.in1 s u v true) fun x y u v e ru rv => eqD_at I n x y u v X.A.in1 e ru rv (by show X.A.units + 1 + n <= _; (first|lia|omega))
  have := SeqAt.RcAt.lists (e := fun _ => true) pa.isList pb.isList sz (by (first|lia|omega)) he
  rw [all_true] at this
  exact this _ _ _ _ ⟨.bl true, H, I, rfl, q⟩
 ·obtain ⟨us, r, pa, _⟩ := I.tuple ha
  obtain ⟨vs, q', pb, _⟩ := I.tuple hb
  obtain ⟨sz, he⟩ := vals_pair (K := X.K) p r q' (fun u v => SeqAt.EqAt X.A.in1 s u v true) fun x y u v e ru rv => eqD_at I n x y u v X.A.in1 e ru rv (by show X.A.units + 1 + n <= _; (first|lia|omega))
  have := SeqAt.RcAt.tuples (e := fun _ => true) pa pb (by (first|lia|omega)) he
  rw [all_true, sz, beq_self_eq_true] at this
  exact this _ _ _ _ ⟨.bl true, H, I, rfl, q⟩
def CDivB (i j : Int) : Prop := 0 < j /\ j.natAbs.log2 < 8000
theorem vH : OpR X (binaryOp .FloorDiv) (rI CDivB fun i j => .int (i / j)) := opI fun i j _ _ _ _ _ hc q => by
 rw [<- Int.fdiv_eq_ediv_of_nonneg i (by have := hc.1; (first|lia|omega))] at q
 exact floordiv_int (by have := hc.1; (first|lia|omega)) q (.inl (PyProof.noPylong_of_log2 (by have := hc.2; (first|lia|omega))))
def tCut (t : TS) : TS := fun D σ H => ∃ P : St -> Hp -> Prop, t { D with nx := P } σ H /\ ∀ σ' H', P σ' H' -> D.nx σ' H'
theorem qZ {st : Stmt} {t : TS} (h : PS X st t) : PS X st (tCut t) := by
 refine ⟨?_⟩
 intro pins s σ H D I hw
 obtain ⟨P, h1, h2⟩ := hw
 refine wpAny_mono (h pins s σ H _ I h1) (fun f s' q => ?_) fun _ _ z => z
 cases f with
 | next => obtain ⟨σ1, H1, I1, q⟩ := q; exact ⟨σ1, H1, I1, h2 _ _ q⟩
 | brk => exact q
 | cont => exact q
 | ret u => exact q
structure CalM (P : Program) (w : World) (K : PySem.W.Frag) (mg : Str -> Option Value) (base : Heap) (CX : CXT) (k : Nat) (C : Addr) (m : Str) (ps : List Str) (sp : Sp) : Prop where
 ex : ∃ f fd, FnOk P w K mg base CX k f fd ps sp /\ Cls K C /\ Meth K C m f /\ Binds K fd ps []
end
section
variable {X : Cx} {o e : Expr} {es : List Expr} {m : Str} {apos pos : Pos} {ta : TE} {t : TA} {E : XK} {C : Addr}
theorem pe_methC0 {CX : CXT} {k n : Nat} {ps : List Str} {sp : Sp} {pl : Sem Bool} (he : PE X o ta) (G : CalM X.prog X.w X.K X.mg X.base CX k C m ps sp) (hr : Room n X.A) (hx : Passes CX X E) (hk : k <= n := by first | decide | (first|lia|omega))
  (ht : eval (.Call (.Attribute o m apos) [] [] pos) X.env = (do
   let ov <- eval o X.env
   standAt apos.atName
   let (f, first) <- holding [ov] (getMethod ov m pl)
   callWith pos f first (backTo pos (starEach [] X.env)) (backToKw pos (keywordEach [] X.env))) := by rfl) :
  PE X (.Call (.Attribute o m apos) [] [] pos) (tMeth C m sp [] E ta tNil) := by
 obtain ⟨f, fd, F, c, hm, hb⟩ := G.ex
 exact pe_meth0 he c hm F (hr.mono hk) hb .nil hx ht
theorem pe_fldXK {f : Str} {te : TE} (K : PySem.W.Frag) (hK : X.K = K) (he : PE X e te) (hb : attributeBase e f X.env (eval e X.env) = eval e X.env := by rfl) : PE X (.Attribute e f pos) (tFldX K te f) := by
 subst hK
 exact pe_fldX he hb
structure CalK (P : Program) (w : World) (K : PySem.W.Frag) (mg : Str -> Option Value) (base : Heap) (CX : CXT) (k : Nat) (x : Str) (C : Addr) (ps : List Str) (sp : Sp) : Prop where
 ex : ∃ f fd, Mk K C f /\ FnOk P w K mg base CX k f fd ps sp /\ mg x = some (.ref C) /\ Binds K fd ps []
theorem pe_makeC {x : Str} {p : Pos} {CX : CXT} {k n : Nat} {ps : List Str} {sp : Sp} (G : CalK X.prog X.w X.K X.mg X.base CX k x C ps sp) (hr : Room n X.A) (hg : Gl X x) (ha : PA X (e :: es) t) (hx : Passes CX X E) (hk : k + 1 <= n := by first | decide | (first|lia|omega))
  (hdb : (x == ("__debug__" : Str)) = false := by decide) (he : starEach (e :: es) X.env = (false, eval e X.env) :: starEach es X.env := by rfl) (hpl : (backTo pos (starEach es X.env)).any (·.1) = false := by rfl) :
  PE X (.Call (.Name x p) (e :: es) [] pos) (tMake C sp [] E t) := by
 obtain ⟨f, fd, M, F, hm, hb⟩ := G.ex
 exact pe_make M F (hr.mono hk) hg hm hb .nil hx ha hdb he hpl
structure CalX (P : Program) (w : World) (K : PySem.W.Frag) (mg : Str -> Option Value) (base : Heap) (k : Nat) (x : Str) (C : Addr) (ps : List Str) (sp : Sp) : Prop where
 ex : ∃ f fd, ExMk K C f /\ FnOk P w K mg base (CXE P w) k f fd ps sp /\ mg x = some (.ref C) /\ Binds K fd ps []
theorem jK {x : Str} {np cpos : Pos} {k n : Nat} {ps : List Str} {sp : Sp} (G : CalX X.prog X.w X.K X.mg X.base k x C ps sp) (hr : Room n X.A) (hg : Gl (X.exc E) x) (ha : PA (X.exc E) (e :: es) t) (hc : X.calm = true := by rfl) (hk : k + 1 <= n := by first | decide | (first|lia|omega))
  (hdb : (x == ("__debug__" : Str)) = false := by decide) (he : starEach (e :: es) X.env = (false, eval e X.env) :: starEach es X.env := by rfl) (hpl : (backTo cpos (starEach es X.env)).any (·.1) = false := by rfl) :
  PS (X.exc E) (.Raise (some (.Call (.Name x np) (e :: es) [] cpos)) none pos) (tRaise C sp E t) := by
 obtain ⟨f, fd, M, F, hm, hb⟩ := G.ex
 exact ps_raise M F (hr.mono hk) hg hm hb ha hc hdb he hpl
end
end L2

namespace L2
open PySem
abbrev Hds := List (Int × Int)
inductive Nd where
 | mk (kind : Int) (place : Nat) (own : List Int) (parts : List Nd)
def LookO (CL dx a : Addr) (p : Nat) : HO := .ins CL dx [("numbers", .ref a), ("place", .int p)]
def Tups (H H' : Hp) : Prop := ∀ b xs, H b = some (.tup xs) -> H' b = some (.tup xs)
def Fails (CN lk : Addr) (H : Hp) (E : XK) (p : Nat) (w : Str) : Prop := ∀ d H', Keep lk H H' -> H' d = some (XdO d [("place", .int p), ("word", .str w)]) -> E (.ref CN) (some d) H'
def Looks (CL : Addr) (H : Hp) (lk dx a : Addr) (p : Nat) (ns : List Int) : Prop := H lk = some (LookO CL dx a p) /\ H a = some (.lst (ns.map V.int))
def spInitX (C : Addr) : Sp := fun vs H Q _ => ∃ x y z, vs = [.ref x, y, z] /\ H x = some (ExN x C none) /\
 ∀ d H', d ≠ x -> H d = none -> (∀ b o, b ≠ x -> H b = some o -> H' b = some o) -> H' x = some (ExN x C (some d)) -> H' d = some (XdO d [("place", y), ("word", z)]) -> Q .non H'
theorem raised {C lk : Addr} {H H1 : Hp} {E E' : XK} {p : Nat} {w : Str} (f : Fails C lk H E p w) (k : Keep lk H H1) : ∀ x, H1 x = none ->
  spInitX C [.ref x, .int (p : Int), .str w] (upd H1 x (ExN x C none)) (fun v H2 => v = .non /\ ∃ d, H2 x = some (ExN x C (some d)) /\ E (.ref C) (some d) (upd H2 x (ExO x C (some d)))) E' := by
 intro x hx
 refine ⟨x, _, _, rfl, zB, fun d H' dx hd kp ex ed => ⟨rfl, d, ex, f d _ (fun b o nb e => ?_) ?_⟩⟩
 ·have e1 := k b o nb e
  have nx : b ≠ x := zK e1 hx
  rw [zJ nx]
  exact kp b o nx (by rw [zJ nx]; exact e1)
 ·rw [zJ dx]; exact ed
end L2

namespace L2
open PySem
def Sub (ns : List Int) : Nat -> List Int -> Prop
 | _, [] => True
 | p, z :: zs => ns[p]? = some z /\ Sub ns (p + 1) zs
def flat : Hds -> List Int
 | [] => []
 | h :: r => h.1 :: h.2 :: flat r
theorem divB {j : Int} (h0 : 0 < j) (h1 : j < 2 ^ 256) : CDivB i j := by
 refine ⟨h0, ?_⟩
 have : j.natAbs.log2 < 256 := (Nat.log2_lt (by (first|lia|omega))).mpr (by (first|lia|omega))
 (first|lia|omega)
def CW (n : Nat) (Pv : Nat -> St -> Hp -> Prop) (i m : Nat) (σ : St) (H : Hp) : Prop := i <= n /\ m = n - i /\ Pv i σ H
theorem CW.next {n : Nat} {Pv : Nat -> St -> Hp -> Prop} {i : Nat} {σ : St} {H : Hp} (hi : i < n) (h : Pv (i + 1) σ H) : ∃ m', m' < n - i /\ CW n Pv (i + 1) m' σ H := ⟨n - (i + 1), by (first|lia|omega), by (first|lia|omega), rfl, h⟩
theorem comp_lst {K : PySem.W.Frag} {a p : Addr} {xs : List V} {g : TG} {tt : TT} {te : TE} {R : Hp -> Prop} {σ0 : St} {H0 : Hp} (Pv : Nat -> St -> Hp -> Prop) (h0 : Pv 0 σ0 H0) (hl : ∀ i σ H, i <= xs.length -> Pv i σ H -> SqL K H a xs)
  (hs : ∀ i x σ H, i < xs.length -> xs[i]? = some x -> Pv i σ H -> g x σ H fun σ3 H3 => tt σ3 H3 fun b H4 =>
   if b = true then te σ3 H4 fun v H5 => ∃ ys, H5 p = some (.lst ys) /\ ys.length < sizeLine /\ ∃ m', m' < xs.length - i /\ CW xs.length Pv (i + 1) m' σ3 (upd H5 p (.lst (ys ++ [v])))
   else ∃ m', m' < xs.length - i /\ CW xs.length Pv (i + 1) m' σ3 H4)
  (hd : ∀ σ H, Pv xs.length σ H -> R H) : CompGo (Itl K a) p σ0 H0 g tt te R := by
 refine ⟨CW xs.length Pv, ⟨_, Nat.zero_le _, rfl, h0⟩, fun i m σ' H' w => ?_⟩
 obtain ⟨hi, rfl, hp⟩ := w
 have q := hl i σ' H' hi hp
 by_cases hlt : i < xs.length
 ·refine .inr ⟨⟨xs, xs[i], q, by simp [hlt]⟩, fun x H2 y => ?_⟩
  obtain ⟨e, y⟩ := y
  subst e
  exact hs i x σ' _ hlt (y xs q) hp
 ·have e : i = xs.length := by (first|lia|omega)
  subst e
  exact .inl ⟨⟨xs, q, Nat.le_refl _⟩, hd σ' H' hp⟩
end L2

namespace L2
open PySem PySem.Spec PyProof.Rows PySem.W
theorem ns_ok {K : Frag} {N : Addr} {c : Value} {d : Option Addr} {es : Array DictEntry} {n : Nat} {sl : Array (Option Value)} (h : K.lookup N = some ⟨c, d, .dict es n, sl⟩) (q : (es.toList.all fun e => match e.key with | .str _ _ => true | _ => false) = true) : nsOkIn K N = true := by
 unfold nsOkIn
 rw [h]
 rw [Array.all_toList] at q
 exact q
theorem exc_tail {K : Frag} {CE nsC : Addr} {c : Value} {dd : Option Addr} {cd : ClassData} {sl : Array (Option Value)} (h : K.lookup CE = some ⟨c, dd, .cls cd, sl⟩) (hn : cd.ns = nsC) (ok : nsOkIn K nsC = true) (ni : nsIn K nsC "__init__" = some none) (h' : Heap) (X : K.In h') : OwnTail h' bmValue (.ref CE :: bmValue) := by
 subst hn
 exact .own (X _ _ h) (.of_isNs (isNs_of_in X ok)) (nsMap_none_of_in X ok ni) .base
theorem exc_cd {K : Frag} {C CE N : Addr} {nm q : Str} {bs : List Value} {sn : List Str} {sub : List Value} {ab : Bool} {col : Option Bool} {dd : Option Addr} {k0 k1 k2 k3 k5 : Option Value} {newId : String} (h : K.lookup C = some (excClassObj nm q C N bs (.ref CE :: bmValue) true sn sub ab col dd k0 k1 k2 k3 k5 newId)) :
  ∃ cd, clsIn K C = some cd /\ cd.hasDict = true /\ ∀ self, refuseLoop self "__setattr__" cd.mro = pure () := by
 refine ⟨_, by unfold clsIn; rw [h], rfl, fun self => ?_⟩
 show refuseLoop self "__setattr__" (.ref C :: .ref CE :: bmValue) = _
 rw [refuseLoop_ref, refuseLoop_ref]
 exact F.store_ValueError.passes self
theorem zY {CX : CXT} {P : Program} {w : World} {K : PySem.W.Frag} {mg : Str -> Option Value} {base : Heap} {N : List Str} {qual : Str} {scope : Scope} {f : Addr} {cd : Value} {A : Around} {outer : List Env} {s : Shared} {H : Hp} {E : XK} :
  (cxOf CX P w K mg base N qual scope f cd A outer s H E).K = K := rfl
end L2

namespace L2
open PySem PySem.Spec PyProof.Rows
namespace Rv
theorem owner : Manifest.owners.lookup (String.ofList ['d', 'e', 's', 'r', 'e', 'v', 'e', 'r'].reverse) = some Manifest.sig_reversed := by kernel_rfl
theorem slot_init : Slot "reversed" "__init__" "object.__init__" :=
 .of (owner := "object") (n := "__init__") (by rw [typeLookup_type, builtinLookup_eq_fast]; kernel_rfl) (by decide +kernel) (by decide +kernel) (by decide +kernel)
  (by first | exact .inl (by decide +kernel) | exact .inr (by decide +kernel)) (by rw [isSubtype_type]; kernel_rfl)
theorem called : TypeCalled "reversed" "reversed.__new__" "object.__init__" :=
 ⟨by decide +kernel, by decide +kernel, ⟨_, _, F.mro_reversed⟩, F.made_reversed, by decide +kernel, by rw [isSubtype_type]; kernel_rfl, slot_init⟩
end Rv
end L2

namespace L2
open PySem PySem.Spec PyProof.Rows
section
variable {prog : Program} {w : World} {A : Around} {E : Value -> Shared -> Prop} {s : Shared}
end
end L2

namespace L2
open PySem
mutual
def pre : Nd -> List Nd
 | .mk k p own ps => .mk k p own ps :: preL ps
def preL : List Nd -> List Nd
 | [] => []
 | a :: r => pre a ++ preL r
end
theorem Paired.append {α β : Type} {F : α -> β -> Prop} : ∀ {xs zs : List α} {ys ws : List β}, Paired F xs ys -> Paired F zs ws -> Paired F (xs ++ zs) (ys ++ ws)
 | _, _, _, _, .nil, q => q
 | _, _, _, _, .cons r t, q => .cons r (Paired.append t q)
theorem Same.fresh {H H' : Hp} {p : Addr} {o : HO} (s : Same H H') (h : H p = none) : Same H (upd H' p o) := fun b u e => by rw [zJ (zK e h)]; exact s b u e
section
open PySem.Spec PyProof.Rows
variable {X : Cx} {e : Expr} {st : Option Expr} {te : TE} {ts : TO} {p2 pos : Pos}
end
end L2

namespace L2
open PySem
end L2

namespace L2
open PySem PySem.Spec PyProof.Rows
end L2

namespace L2
open PySem PySem.Spec PyProof.Rows
theorem small_step {a b c : Int} (hc : c = 2 \/ c = 3) (ha : -(2 ^ 62) <= a) (ha' : a < 2 ^ 62) (hb : -(2 ^ 62) <= b) (hb' : b < 2 ^ 62) : Builtin.Range.small a b c = true := by
 unfold Builtin.Range.small Builtin.Range.rangeSize
 rcases hc with e | e <;> subst e <;> simp only [Builtin.Range.rangeFitsLong, Bool.and_eq_true, Bool.or_eq_true, decide_eq_true_eq, beq_iff_eq, show ((2 : Int) > 0) by decide, show ((3 : Int) > 0) by decide, if_true] <;> split <;> (first|lia|omega)
def Itp (lo c : Int) (n : Nat) : It := ⟨fun i _ => i < n, fun i H x H' => H' = H /\ x = .int (lo + i * c), fun i _ => n <= i⟩
theorem turn_step {P : Program} {w : World} {K : PySem.W.Frag} {tg : Expr} (it : Addr) (lo c : Int) (n : Nat) : Turn P w K tg (Itp lo c n) [it] it (fun i h => IsRangeIter h it (lo + (i : Nat) * c) ((n : Int) - (i : Nat)) c) where
 mem := by simp
 obj := fun i h st b hb => by
  have e : b = it := by simpa using hb
  subst e
  exact ⟨_, st, fun v z => by
   have z' : Data.fields _ = Data.cell v := z
   cases z'⟩
 keep := fun i h h' st k => k it (by simp) _ st
 item := by
  intro X hP hw hK hc i pins s σ H E I hf st hg
  subst hP hw hK
  obtain ⟨f0, f1, f2, f3, f4, f5⟩ := hf it (by simp)
  have W := Walks.range (prog := X.prog) (w := X.w) (I.ok.hd hc) it lo c n
  refine W.item i s _ _ hg st fun v h' tk hv st' kk => ?_
  obtain ⟨t, rfl⟩ := hv
  have I1 : Inv X pins σ H { s with heap := h', toks := tk } := I.turned (fun b o hb e => kk b o (by simpa using hb) e) f0 f1 f3 f4 f5
  refine ⟨_, rfl, go_of (s := { s with heap := h', toks := tk }) (n := "range_iterator") st' rfl rfl (by decide) ⟨.int (lo + i * c), H, I1, ⟨t, rfl⟩, ⟨rfl, rfl⟩, st', fun b hb => (hf b hb).1⟩⟩
 done := by
  intro X hP hw hK hc i pins s σ H E I hf st hg
  subst hP hw hK
  obtain ⟨f0, f1, f2, f3, f4, f5⟩ := hf it (by simp)
  exact wpAny_pyNext_range_end (I.ok.hd hc) st (by have : n <= i := hg; (first|lia|omega)) fun h' eb => ⟨rfl, I.turned (t' := s.toks) (fun b o hb e => eb b o hb e) f0 f1 f3 f4 f5⟩
 self := fun _ _ _ _ _ st h => wpAny_pyIter_rangeiter st h
def iStep (ta : TA) : TI := fun σ H R => ta σ H fun vs H1 => ∃ (i j c : Int) (n : Nat), vs = [.int i, .int j, .int c] /\ (-(2 ^ 62) <= i /\ i < 2 ^ 62 /\ -(2 ^ 62) <= j /\ j < 2 ^ 62) /\ (c = 2 \/ c = 3) /\ Builtin.Range.rangeSize i j c = (n : Int) /\ R (Itp i c n) H1
theorem pi_step {X : Cx} {tg a b c : Expr} {ta : TA} {p pos : Pos} (hg : Gl X "range") (hm : X.mg "range" = none) (ha : PA X [a, b, c] ta) (hs : starEach [a, b, c] X.env = (false, eval a X.env) :: starEach [b, c] X.env := by rfl) (hpl : (backTo pos (starEach [b, c] X.env)).any (·.1) = false := by rfl) :
  PI X tg (.Call (.Name "range" p) [a, b, c] [] pos) (iStep ta) := by
 refine ⟨?_⟩
 intro pins s σ H R I h
 refine Call_ (ld_blt I hg hm boot_range (PyProof.Rows.callWith_type1 (thn (ha pos pins s σ H _ I h) fun us s1 ⟨vs, H1, I1, r1, q1⟩ => ?_) hs hpl))
 obtain ⟨i, j, c, n, e, ⟨q1, q2, q3, q4⟩, hc, hn, q⟩ := q1
 subst e
 cases r1 with
 | cons r rr =>
  cases rr with
  | cons r' rr =>
   cases rr with
   | cons r'' rr =>
    cases rr
    obtain ⟨t, rfl⟩ := r
    obtain ⟨t', rfl⟩ := r'
    obtain ⟨t'', rfl⟩ := r''
    refine call_range_3 (by (first|lia|omega)) ?_ (.inl (PyProof.noPylong_small (by (first|lia|omega))))
    refine wpAny_pyIter_range (IsRange.new ..) (small_step hc q1 q2 q3 q4) ?_
    have I2 : Inv X pins σ H1 { s1 with heap := s1.heap.push { cls := .type "range", data := .fields #[.int i t, .int j t', .int c t''] }, toks := s1.toks } := I1.kept fun b o e => Heap.get?_push_of_some _ e
    refine ⟨_, [_], _, _, H1, rfl, I2.kept (t' := s1.toks) fun b o e => Heap.get?_push_of_some _ e, turn_step _ i c n, ?_, fun b hb => ?_, q⟩
    ·have e1 : i + ((0 : Nat) : Int) * c = i := by simp
     show IsRangeIter _ _ (i + ((0 : Nat) : Int) * c) ((n : Int) - ((0 : Nat) : Int)) c
     rw [e1, Int.natCast_zero, Int.sub_zero, <- hn]
     exact Heap.get?_push_size _ rfl
    ·have e := List.mem_singleton.mp hb
     subst e
     exact I2.fpOk (Nat.le_refl _) (I2.hok.fresh (Nat.le_refl _))
theorem comp_step {lo c : Int} {n : Nat} {g : TG} {tt : TT} {te : TE} {R : Hp -> Prop} {p : Addr} {σ0 : St} {H0 : Hp} (Pv : Nat -> St -> Hp -> Prop) (h0 : Pv 0 σ0 H0)
  (hs : ∀ i σ H, i < n -> Pv i σ H -> g (.int (lo + (i : Nat) * c)) σ H fun σ3 H3 => tt σ3 H3 fun b H4 =>
   if b = true then te σ3 H4 fun v H5 => ∃ ys, H5 p = some (.lst ys) /\ ys.length < sizeLine /\ ∃ m', m' < n - i /\ CW n Pv (i + 1) m' σ3 (upd H5 p (.lst (ys ++ [v])))
   else ∃ m', m' < n - i /\ CW n Pv (i + 1) m' σ3 H4)
  (hd : ∀ σ H, Pv n σ H -> R H) : CompGo (Itp lo c n) p σ0 H0 g tt te R := by
 refine ⟨CW n Pv, ⟨_, Nat.zero_le _, rfl, h0⟩, fun i m σ' H' w => ?_⟩
 obtain ⟨hi, rfl, hp⟩ := w
 by_cases hlt : i < n
 ·refine .inr ⟨hlt, fun x H2 y => ?_⟩
  obtain ⟨e, y⟩ := y
  subst e y
  exact hs i σ' _ hlt hp
 ·have e : i = n := by (first|lia|omega)
  subst e
  exact .inl ⟨Nat.le_refl _, hd σ' H' hp⟩
end L2

namespace L2
open PySem PySem.Spec PyProof.Rows
theorem range_all : ∀ (bs : List Bool), (List.range bs.length).all (fun i => bs.getD i true) = bs.all id := by
 intro bs
 rw [Bool.eq_iff_iff, List.all_eq_true, List.all_eq_true]
 constructor
 ·intro h b hb
  obtain ⟨i, hi⟩ := List.mem_iff_getElem?.mp hb
  have hl := (List.getElem?_eq_some_iff.mp hi).1
  have := h i (List.mem_range.mpr hl)
  rw [List.getD_eq_getElem?_getD, hi] at this
  exact this
 ·intro h i hi
  have hl := List.mem_range.mp hi
  have e := List.getElem?_eq_getElem hl
  rw [List.getD_eq_getElem?_getD, e]
  exact h _ (List.getElem_mem hl)
section
variable {X : Cx}
theorem call_all (hc : X.calm = true) : CallR X (.builtin "all") (fun xs H Q => ∃ (p : Addr) (bs : List Bool), xs = [.ref p] /\ SqL X.K H p (bs.map V.bl) /\ Q (.bl (bs.all id)) H) := by
 intro pins s σ H xs us Q I r h
 obtain ⟨p, bs, rfl, hq, q⟩ := h
 obtain ⟨u, rfl, ru⟩ := vals1 r
 cases ru
 obtain ⟨its, rv, pl, hz⟩ := I.list hq
 have hlen := rv.length
 rw [List.length_map] at hlen
 refine call_all_walk (wpAny_pyIter_list pl.isList ?_)
 have hp : p < s.heap.objs.size := by
  obtain ⟨o, ho, _⟩ := pl.isList
  exact Heap.lt_size ho
 refine ⟨s.heap.objs.size, [s.heap.objs.size, p], [s.heap.objs.size], its.toArray.size, _, _, fun i => bs.getD i true, rfl, Walks.list (A := X.A.in1) (I.ok.hd hc) _ p (Nat.ne_of_lt hp) its.toArray, ⟨⟨_, Heap.get?_push_size _ rfl, rfl, rfl⟩, pl.isList.at fun o e => Heap.get?_push_of_some _ e⟩, ?_, fun h' tk hk => ?_⟩
 ·intro i v s1 Q1 E1 hv h1
  have hv' : its[i]? = some v := by simpa using hv
  have hi : i < bs.length := by
   have := (List.getElem?_eq_some_iff.mp hv').1
   (first|lia|omega)
  have eb : (bs.map V.bl)[i]? = some (.bl bs[i]) := by rw [List.getElem?_map, List.getElem?_eq_getElem hi] <;> rfl
  have rel := Paired.get rv i _ _ eb hv'
  obtain rfl : v = Value.bool bs[i] := rel
  have : bs.getD i true = bs[i] := by rw [List.getD_eq_getElem?_getD, List.getElem?_eq_getElem hi] <;> rfl
  have h2 : Q1 (bs.getD i true) s1 := h1
  rw [this] at h2
  exact wpAny_pure h2
 ·have e : (List.range its.toArray.size).all (fun i => bs.getD i true) = bs.all id := by
   rw [List.size_toArray, <- hlen]; exact range_all bs
  rw [e]
  refine ⟨.bl (bs.all id), H, I.kept (t' := tk) fun b o eb => hk b o ?_ (Heap.get?_push_of_some _ eb), rfl, q⟩
  intro z
  have := Heap.lt_size eb
  rw [List.mem_singleton.mp z] at this
  exact Nat.lt_irrefl _ this
theorem vals_ty : ∀ {ns : List String} {us : List Value}, Vals (ns.map V.ty) us -> us = ns.map Value.type
 | [], _, .nil => rfl
 | n :: ns, _, .cons h t => by
  rw [vals_ty t, List.map_cons]
  congr 1
end
end L2

namespace L2
open PySem PySem.Spec PyProof.Rows
section
variable {X : Cx} {pins : List (Addr × Obj)} {σ : St} {H : Hp} {s : Shared} {A : Around} {E : Value -> Shared -> Prop} {Q : Value -> Shared -> Prop} {b : Bool}
theorem isinst_okT {x : V} {u t : Value} {tp : Addr} {dd : Option Addr} {its : List Value} {n : Nat} {sl : Array (Option Value)} (I : Inv X pins σ H s) (rx : RelV x u) (ty : TyOf X.K H x t) (htp : s.heap.get? tp = some ⟨.type "tuple", dd, .seq its.toArray n, sl⟩) (e : PySem.W.kitAny X.K t its = some b) (h : ∀ tk, Q (.bool b) { s with toks := tk }) :
  wpAny (model X.prog X.w) A (call (.builtin "isinstance") [u, .ref tp]) Q E s := by
 cases ty with
 | non => cases (show u = Value.none from rx); exact PySem.W.kia_tup PySem.W.kitx_none I.kIn True.intro htp e (fun z => nomatch z) h
 | bl y => cases (show u = Value.bool y from rx); exact PySem.W.kia_tup PySem.W.kitx_bool I.kIn True.intro htp e (fun z => nomatch z) h
 | int i => obtain ⟨t, q⟩ := (show ∃ t, u = Value.int i t from rx); cases q; exact PySem.W.kia_tup PySem.W.kitx_int I.kIn True.intro htp e (fun z => nomatch z) h
 | str y => obtain ⟨t, q⟩ := (show ∃ t, u = Value.str y t from rx); cases q; exact PySem.W.kia_tup PySem.W.kitx_str I.kIn True.intro htp e (fun z => nomatch z) h
 | flt y => obtain ⟨t, q⟩ := (show ∃ t, u = Value.float y t from rx); cases q; exact PySem.W.kia_tup PySem.W.kitx_float I.kIn True.intro htp e (fun z => nomatch z) h
 | @lst a xs ea =>
  cases (show u = Value.ref a from rx)
  obtain ⟨_, _, n, _, h1⟩ := (show ObjOk X.prog X.w H s.heap a (.lst xs) from I.hok a _ ea)
  exact PySem.W.kia_tup PySem.W.kitx_list I.kIn ⟨_, h1, rfl⟩ htp e (fun z => nomatch z) h
 | @frz a ob xs ea =>
  cases (show u = Value.ref a from rx)
  obtain ⟨_, _, _, n, _, h1⟩ := (show ObjOk X.prog X.w H s.heap a (.frz ob (.lst xs)) from I.hok a _ ea)
  exact PySem.W.kia_tup PySem.W.kitx_list I.kIn ⟨_, h1, rfl⟩ htp e (fun z => nomatch z) h
 | @tup a xs ea =>
  cases (show u = Value.ref a from rx)
  obtain ⟨_, _, _, p⟩ := (show ObjOk X.prog X.w H s.heap a (.tup xs) from I.hok a _ ea)
  obtain ⟨o, h1, h2, _⟩ := p
  exact PySem.W.kia_tup PySem.W.kitx_tuple I.kIn ⟨o, h1, h2⟩ htp e (fun z => nomatch z) h
 | @dK a kvs ea =>
  cases (show u = Value.ref a from rx)
  obtain ⟨_, _, vs, _, p⟩ := (show ObjOk X.prog X.w H s.heap a (.dK kvs) from I.hok a _ ea)
  obtain ⟨o, es, ep, h1, h2, _⟩ := p
  exact PySem.W.kia_tup PySem.W.kitx_dict I.kIn ⟨o, h1, h2.1⟩ htp e (fun z => nomatch z) h
 | @dT a kvs ea =>
  cases (show u = Value.ref a from rx)
  obtain ⟨_, _, xs, _, o, es, ep, h1, h2, _⟩ := (show ObjOk X.prog X.w H s.heap a (.dT kvs) from I.hok a _ ea)
  exact PySem.W.kia_tup PySem.W.kitx_dict I.kIn ⟨o, h1, h2.1⟩ htp e (fun z => nomatch z) h
 | @ins a C dx fs ea cl ha hn htk hm =>
  cases (show u = Value.ref a from rx)
  obtain ⟨mA, O, _⟩ := ins_get I.hok ea
  obtain ⟨od, J, _⟩ := O.look
  exact PySem.W.kia_tup (PySem.W.kitx_own (cl.get _) cl.hd ha hn htk hm) I.kIn J htp e (fun z => nomatch z) h
end
def rIsiU (K : PySem.W.Frag) : List V -> Hp -> VK -> Prop := fun xs H Q => ∃ (v : V) (t : Value) (tp : Addr) (ns : List String) (b : Bool), xs = [v, .ref tp] /\ TyOf K H v t /\ H tp = some (.tup (ns.map V.ty)) /\ PySem.W.kitAny K t (ns.map Value.type) = some b /\ Q (.bl b) H
theorem call_isiU {X : Cx} : CallR X (.builtin "isinstance") (rIsiU X.K) := by
 intro pins s σ H xs us Q I r h
 obtain ⟨v, t, tp, ns, b, rfl, ty, ht, e, q⟩ := h
 obtain ⟨u, w', rfl, ru, rw'⟩ := vals2 r
 cases rw'
 obtain ⟨_, its2, r2, p⟩ := (show ObjOk X.prog X.w H s.heap tp (.tup (ns.map V.ty)) from I.hok tp _ ht)
 obtain ⟨⟨oc, od, oda, osl⟩, h1, h2, n2, h3⟩ := p
 dsimp only at h2 h3
 subst h2 h3
 have hv := vals_ty r2
 subst hv
 exact isinst_okT I ru ty h1 e fun tk => ⟨.bl b, H, I.tok tk, rfl, q⟩
end L2

namespace L2
open PySem PySem.Spec PyProof.Rows
theorem bt_enumerate : bootBuiltins "enumerate" = some (.type "enumerate") := by decide +kernel
theorem Inv.turned2 {X : Cx} {pins : List (Addr × Obj)} {σ : St} {H : Hp} {s : Shared} {h' : Heap} {t' : Nat} {e it : Addr} (I : Inv X pins σ H s) (k : ∀ b o, b ≠ e -> b ≠ it -> s.heap.get? b = some o -> h'.get? b = some o) (f : FpOk X pins H e) (g : FpOk X pins H it) :
  Inv X pins σ H { s with heap := h', toks := t' } := by
 obtain ⟨a0, a1, a2, a3, a4, a5⟩ := f
 obtain ⟨b0, b1, b2, b3, b4, b5⟩ := g
 have ne1 : ∀ b u, H b = some u -> b ≠ e := fun b u q z => by rw [z, a0] at q; cases q
 have ne2 : ∀ b u, H b = some u -> b ≠ it := fun b u q z => by rw [z, b0] at q; cases q
 have out : ∀ {b : Addr}, b ∉ [e, it] -> b ≠ e /\ b ≠ it := fun {b} hc => ⟨fun z => hc (by simp [z]), fun z => hc (by simp [z])⟩
 refine I.step (g' := s.gens) (d' := s.drawn) (ch := [e, it]) (fun b hb => ?_) (fun b o _ _ hc q _ => k b o (out hc).1 (out hc).2 q) (fun b o _ _ hc q _ => ⟨o.slots, k b o (out hc).1 (out hc).2 q⟩) (fun _ _ _ _ n => n)
  (fun b o hc q => ⟨o, k b o (out hc).1 (out hc).2 q⟩) (fun _ _ q => q) (fun _ _ _ q => q) (fun b ps q => ⟨#[], by rw [q]; simp⟩) (fun m hm => ?_) (fun b u q => ?_) I.bare
 ·rcases List.mem_cons.mp hb with z | z
  ·rw [z]; exact ⟨a3, a1, a4, a5⟩
  ·rw [List.mem_singleton.mp z]; exact ⟨b3, b1, b4, b5⟩
 ·obtain ⟨o, es, ep, ho, r⟩ := hm
  exact ⟨o, es, ep, k _ o (Ne.symm a1) (Ne.symm b1) ho, r⟩
 ·refine (I.hok b u q).stay (fun c v hc x => k c v ?_ ?_ x) (fun _ x => x) fun _ _ x => x
  ·rcases hc with z | z
   ·rw [z]; exact ne1 b u q
   ·exact ne1 c _ z
  ·rcases hc with z | z
   ·rw [z]; exact ne2 b u q
   ·exact ne2 c _ z
def Ite (K : PySem.W.Frag) (a : Addr) : It :=
 ⟨fun i H => ∃ xs x, SqL K H a xs /\ xs[i]? = some x, fun i H y H' => ∃ t x, y = .ref t /\ H t = none /\ H' = upd H t (.tup [.int (i : Nat), x]) /\ ∀ xs, SqL K H a xs -> xs[i]? = some x, fun i H => ∃ xs, SqL K H a xs /\ xs.length <= i⟩
theorem turn_enum {P : Program} {w : World} {K : PySem.W.Frag} {elts : List Expr} {x1 : Nat} {pos : Pos} (a e it : Addr) (hne : e ≠ it) :
  Turn P w K (.Tuple elts x1 pos) (Ite K a) [e, it] e (fun i h => (∃ old, IsEnum h e it (i : Nat) old) /\ h.IsListIter it a i) where
 mem := by simp
 obj := fun i h st b hb => by
  obtain ⟨⟨old, he⟩, o, e1, c, d⟩ := st
  rcases List.mem_cons.mp hb with z | z
  ·subst z; exact ⟨_, he, fun v z => by cases z⟩
  ·rw [List.mem_singleton.mp z]; exact ⟨o, e1, fun v z => by rw [d] at z; cases z⟩
 keep := fun i h h' st k => ⟨⟨_, k e (by simp) _ st.1.choose_spec⟩, st.2.at fun o q => k it (by simp) o q⟩
 item := by
  intro X hP hw hK hc i pins s σ H E I hf st hg
  subst hP hw hK
  obtain ⟨xs, x, hq, hx⟩ := hg
  obtain ⟨its, rv, p, hz⟩ := I.list hq
  obtain ⟨u, hu, ru⟩ := rv.get hx
  obtain ⟨⟨old, he⟩, hit⟩ := st
  have fe := hf e (by simp)
  have fi := hf it (by simp)
  refine wpAny_pyNext_enum_item he hit p.isList (x := u) (by simpa using hu) hne fun h' out hit' htup hsz hk => ?_
  have elt : e < s.heap.objs.size := Heap.lt_size he
  have ilt : it < s.heap.objs.size := by
   obtain ⟨o, ho, _⟩ := hit
   exact Heap.lt_size ho
  refine ⟨.ref s.heap.objs.size, rfl, wpAny_letOwnedTupleGo_enum out fun h'' he'' hs'' => ?_⟩
  have fresh := I.hok.fresh (Nat.le_refl s.heap.objs.size)
  have I1 := I.laid (a := s.heap.objs.size) (o := .tup [.int (i : Nat), x]) (h' := s.heap.push { cls := .type "tuple", data := .seq #[.int (i : Nat) s.toks, u] }) (t' := s.toks) (fun b o q => Heap.get?_push_of_some _ q) (Nat.le_refl _)
   ⟨small (show 2 <= 1000 by decide), [.int (i : Nat) s.toks, u], .cons ⟨_, rfl⟩ (.cons ru .nil), IsTup.new _ _⟩
  have fe' : FpOk X pins (upd H s.heap.objs.size (.tup [.int (i : Nat), x])) e := ⟨by rw [zJ (Nat.ne_of_lt elt)]; exact fe.1, fe.2⟩
  have fi' : FpOk X pins (upd H s.heap.objs.size (.tup [.int (i : Nat), x])) it := ⟨by rw [zJ (Nat.ne_of_lt ilt)]; exact fi.1, fi.2⟩
  have I2 := I1.turned2 (h' := h'') (t' := s.toks + 1) (fun b o hbe hbi q => ?_) fe' fi'
  ·refine ⟨.ref s.heap.objs.size, _, I2, rfl, ⟨s.heap.objs.size, x, rfl, fresh, rfl, fun ys hy => by rw [I.list_inj hy hq]; exact hx⟩, ⟨⟨u, he''⟩, hit'.at fun o q => (hs''.2 it (Ne.symm hne)).trans q⟩, fun b hb => ?_⟩
   rcases List.mem_cons.mp hb with z | z
   ·rw [z]; exact fe'.1
   ·rw [List.mem_singleton.mp z]; exact fi'.1
  ·rw [hs''.2 b hbe]
   by_cases hb : b = s.heap.objs.size
   ·subst hb
    rw [htup]
    rw [<- q]
    exact (Heap.get?_push_size _ rfl).symm
   ·refine hk b o hbe hbi ?_
    rcases Heap.get?_push_cases q with ⟨z, _⟩ | z
    ·exact absurd z hb
    ·exact z
 done := by
  intro X hP hw hK hc i pins s σ H E I hf st hg
  subst hP hw hK
  obtain ⟨xs, hq, hx⟩ := hg
  obtain ⟨its, rv, p, hz⟩ := I.list hq
  obtain ⟨⟨old, he⟩, hit⟩ := st
  have hl := rv.length
  obtain ⟨f0, f1, f2, f3, f4, f5⟩ := hf it (by simp)
  exact wpAny_pyNext_enum_end (I.ok.hd hc) he hit p.isList (by simp; (first|lia|omega)) fun h' eb => ⟨rfl, I.turned (t' := s.toks) (fun b o hb q => eb b o hb q) f0 f1 f3 f4 f5⟩
 self := fun _ _ _ _ _ st h => by
  obtain ⟨⟨old, he⟩, _⟩ := st
  exact wpAny_pyIter_enum he h
def iEnum (K : PySem.W.Frag) (ta : TA) : TI := fun σ H R => ta σ H fun vs H1 => ∃ a xs, vs = [.ref a] /\ SqL K H1 a xs /\ R (Ite K a) H1
theorem pi_enum {X : Cx} {elts : List Expr} {x1 : Nat} {tpos : Pos} {l : Expr} {ta : TA} {p pos : Pos} (hg : Gl X "enumerate") (hm : X.mg "enumerate" = none) (ha : PA X [l] ta) (hs : starEach [l] X.env = [(false, eval l X.env)] := by rfl) : PI X (.Tuple elts x1 tpos) (.Call (.Name "enumerate" p) [l] [] pos) (iEnum X.K ta) := by
 refine ⟨?_⟩
 intro pins s σ H R I h
 refine Call_ (ld_blt I hg hm bt_enumerate (PyProof.Rows.callWith_type1 (thn (ha pos pins s σ H _ I h) fun us s1 ⟨vs, H1, I1, r1, q1⟩ => ?_) hs rfl))
 obtain ⟨a, xs, e, hq, q⟩ := q1
 subst e
 obtain ⟨u, rfl, ru⟩ := vals1 r1
 cases ru
 obtain ⟨its, rv, pl, hz⟩ := I1.list hq
 refine call_enumerate_list pl.isList fun h' he hit hsz hk => ?_
 refine wpAny_pyIter_enum (s := { s1 with heap := h' }) he ?_
 have I2 : Inv X pins σ H1 { s1 with heap := h' } := I1.kept (t' := s1.toks) hk
 refine ⟨_, [s1.heap.objs.size + 1, s1.heap.objs.size], _, _, H1, rfl, I2, turn_enum a (s1.heap.objs.size + 1) s1.heap.objs.size (Nat.succ_ne_self _), ⟨⟨_, he⟩, hit⟩, fun b hb => ?_, q⟩
 rcases List.mem_cons.mp hb with z | z
 ·rw [z]; exact I1.fpOk (Nat.le_succ _) (I1.hok.fresh (Nat.le_succ _))
 ·rw [List.mem_singleton.mp z]; exact I1.fpOk (Nat.le_refl _) (I1.hok.fresh (Nat.le_refl _))
theorem for_enum {K : PySem.W.Frag} {a : Addr} {xs : List V} {g : TG} {tb : TS} {D : Ends} {σ : St} {H : Hp} (Pv : Nat -> St -> Hp -> Prop) (h0 : Pv 0 σ H) (hl : ∀ i σ H, i <= xs.length -> Pv i σ H -> SqL K H a xs)
  (hs : ∀ i x σ H t, xs[i]? = some x -> Pv i σ H -> H t = none -> g (.ref t) σ (upd H t (.tup [.int (i : Nat), x])) fun σ2 H2 => tb { D with nx := Pv (i + 1), ct := Pv (i + 1), bk := D.nx } σ2 H2) (hd : ∀ σ H, Pv xs.length σ H -> D.nx σ H) :
  ∃ W : Nat -> Nat -> St -> Hp -> Prop, (∃ m, W 0 m σ H) /\ ∀ i m σ H, W i m σ H ->
   ((Ite K a).stop i H /\ D.nx σ H) \/ ((Ite K a).go i H /\ ∃ N : St -> Hp -> Prop, (∀ σ' H', N σ' H' -> ∃ m', m' < m /\ W (i + 1) m' σ' H') /\ ∀ x H', (Ite K a).yld i H x H' -> g x σ H' fun σ2 H2 => tb { D with nx := N, ct := N, bk := D.nx } σ2 H2) := by
 refine ⟨fun i m σ H => m = xs.length - i /\ i <= xs.length /\ Pv i σ H, ⟨xs.length, by simp, Nat.zero_le _, h0⟩, ?_⟩
 rintro i m σ H ⟨rfl, hi, p⟩
 have q := hl i σ H hi p
 by_cases hlt : i < xs.length
 ·refine .inr ⟨⟨xs, xs[i], q, List.getElem?_eq_getElem hlt⟩, Pv (i + 1), fun σ' H' p' => ⟨xs.length - (i + 1), by (first|lia|omega), rfl, hlt, p'⟩, fun y H' yd => ?_⟩
  obtain ⟨t, x, rfl, ht, rfl, hx⟩ := yd
  exact hs i x σ H t (hx xs q) p ht
 ·have e : i = xs.length := by (first|lia|omega)
  subst e
  exact .inl ⟨⟨xs, q, Nat.le_refl _⟩, hd σ H p⟩
end L2

namespace L2
open PySem PySem.Spec PyProof.Rows

section
variable {κ : Type} [DecidableEq κ]
def putK (kvs : List (κ × V)) (k : κ) (v : V) : List (κ × V) :=
 if (kvs.any fun kv => decide (kv.1 = k)) = true then kvs.map (fun kv => if kv.1 = k then (kv.1, v) else kv) else kvs ++ [(k, v)]
end


section
variable {P : Program} {w : World} {H : Hp} {h : Heap} {a : Addr}
end

section
variable {X : Cx} {pins : List (Addr × Obj)} {σ : St} {H : Hp} {s : Shared} {a : Addr} {y v : V} {u r : Value} {o : Option V} {A : Around} {E : Value -> Shared -> Prop}

theorem Inv.big (I : Inv X pins σ H s) : sysModules < s.heap.objs.size := by
 have h : mainGlobals < s.heap.objs.size := (I.mod.glob.keeps I.bk).lt
 exact Nat.lt_trans (by decide) h

end

section
variable {X : Cx} {pins : List (Addr × Obj)} {σ : St} {H : Hp} {s : Shared} {a : Addr} {kvs : List (Key × V)} {k : Key} {u : Value} {A : Around} {E : Value -> Shared -> Prop}
end


section
variable {X : Cx} {o i e value : Expr} {pos pos' tpos : Pos} {td ty tv : TE}
end


theorem dk_empty {P : Program} {w : World} {H : Hp} (h : Heap) (hb : sysModules < h.objs.size) : ObjOk P w H (h.push { cls := .type "dict", data := .dict #[] }) h.objs.size (.dK []) :=
 ⟨Nat.zero_le _, beq_eq_false_iff_ne.mpr (Ne.symm (Nat.ne_of_lt hb)), [], .nil, Heap.DictOf.new h⟩
def tDNewK : TE := fun _ H Q => ∀ p, H p = none -> Q (.ref p) (upd H p (.dK []))
section
variable {X : Cx} {pos : Pos}
theorem pe_dnewK : PE X (.Dict [] [] pos) tDNewK := ⟨fun pins s σ H Q I h =>
 wpAny_Dict_empty ⟨.ref s.heap.objs.size, _, I.laid (a := s.heap.objs.size) (o := .dK []) (t' := s.toks) (fun _ _ q => Heap.get?_push_of_some _ q) (Nat.le_refl _) (dk_empty s.heap I.big), rfl, h _ (I.hok.fresh (Nat.le_refl _))⟩⟩
end

structure M2 (X : Cx) (o : Expr) (m : Str) (apos : Pos) (e f : Expr) (cpos : Pos) : Prop where
 base : attributeBase o m X.env (eval o X.env) = eval o X.env
 few : ((backTo cpos (starEach [e, f] X.env)).all (fun x => !x.1) && (backToKw cpos (keywordEach [] X.env)).all (fun x => x.1.isSome)
  && decide (([e, f] : List Expr).length + ([] : List Keyword).length + (if ([] : List Keyword).isEmpty then 0 else 1) < 30)) = true
 line : (apos.endLine == cpos.line) = true
 trees : backTo cpos (starEach [e, f] X.env) = [(false, eval e X.env), (false, eval f X.env)]

section
variable {X : Cx} {pins : List (Addr × Obj)} {σ : St} {H : Hp} {s : Shared} {a : Addr} {y d : V} {u r : Value} {o : Option V} {A : Around} {E : Value -> Shared -> Prop}
end

section
variable {X : Cx} {o e f : Expr} {apos cpos : Pos} {td ty tx : TE}
end

section
variable {X : Cx} {pins : List (Addr × Obj)} {σ : St} {H : Hp} {s : Shared} {a : Addr} {kvs : List (Key × V)} {A : Around} {E : Value -> Shared -> Prop}
end


section
variable {X : Cx} {pins : List (Addr × Obj)} {σ : St} {H : Hp} {s : Shared} {a : Addr} {y : V} {u : Value} {A : Around} {E : Value -> Shared -> Prop}
end
end L2
namespace L2
open PySem PySem.Spec PyProof.Rows
section
variable {X : Cx}
end
end L2

namespace L2
open PySem PySem.Spec PyProof.Rows
section
variable {X : Cx}
def CMulB (i j : Int) : Prop := i.natAbs < 2 ^ 2000 /\ j.natAbs < 2 ^ 2000
theorem op_mulB : OpR X (binaryOp .Mult) (rI CMulB fun i j => .int (i * j)) := opI fun i j _ _ _ _ _ hc q => by
 refine mul_int q ?_
 exact IntMulOk.of_le (PyProof.Rows.intBits_le hc.1) (PyProof.Rows.intBits_le hc.2) (by decide)
def CDivZ (i j : Int) : Prop := j ≠ 0 /\ j.natAbs < 2 ^ 2000
theorem op_fdivZ : OpR X (binaryOp .FloorDiv) (rI CDivZ fun i j => .int (i.fdiv j)) := opI fun i j _ _ _ _ _ hc q => by
 have h : j.natAbs.log2 < 2000 := (Nat.log2_lt (by have := hc.1; (first|lia|omega))).mpr hc.2
 exact floordiv_int hc.1 q (.inl (PyProof.noPylong_of_log2 (by (first|lia|omega))))
end
theorem inV_ints (k : Int) : ∀ ns : List Int, inV (.int k) (ns.map V.int) = decide (k ∈ ns)
 | [] => rfl
 | n :: r => by
  have ih := inV_ints k r
  unfold inV at ih ⊢
  rw [List.map_cons, List.any_cons, ih]
  by_cases h : n = k
  ·subst h; simp [eqV]
  ·have h2 : ¬ k = n := fun z => h z.symm
   simp [eqV, h, h2]
theorem vt {a b : Int} (c : decide (V.int a = V.int b) = true) : a = b := by
 have := of_decide_eq_true c
 injection this
theorem vf {a b : Int} (c : ¬ decide (V.int a = V.int b) = true) : a ≠ b := fun e => c (decide_eq_true (by rw [e]))
theorem df {c : Prop} [Decidable c] (h : ¬ decide c = true) : ¬ c := of_decide_eq_false (Bool.eq_false_iff.mpr h)
theorem qX {ns : List Int} {k : Int} (h0 : 0 <= k) (h : k < (ns.length : Int)) : ∃ v : Int, v ∈ ns /\ atI (ns.map V.int) k = some (.int v) := by
 have hk : k.toNat < ns.length := by (first|lia|omega)
 have q : atI (ns.map V.int) ((k.toNat : Nat) : Int) = some (.int ns[k.toNat]) := qW (by rw [List.getElem?_map, List.getElem?_eq_getElem hk] <;> rfl)
 rw [show ((k.toNat : Nat) : Int) = k by (first|lia|omega)] at q
 exact ⟨_, List.getElem_mem hk, q⟩
end L2

namespace L2
open PySem
theorem bt_all : bootBuiltins "all" = some (.builtin "all") := by decide +kernel
theorem sl_listK {X : Cx} (K : PySem.W.Frag) (hK : X.K = K) : SlR X (rSlL K) := hK ▸ jN
theorem call_tuple_ofK {X : Cx} (K : PySem.W.Frag) (hK : X.K = K) : CallR X (.type "tuple") (fun xs H Q => ∃ p ys, xs = [.ref p] /\ ((SqL K H p ys /\ ∀ l, H l = none -> Q (.ref l) (upd H l (.tup ys))) \/ (SqT K H p ys /\ Q (.ref p) H))) := hK ▸ call_tuple_of
theorem wQ {ta tb tc : TE} {σ : St} {H : Hp} {Q : VK} (x y z : Int) (ha : ∀ R : VK, R (.int x) H -> ta σ H R) (hb : ∀ R : VK, R (.int y) H -> tb σ H R) (hc : ∀ R : VK, R (.int z) H -> tc σ H R) (h : ∀ r : Bool, (r = true ↔ x <= y /\ y <= z) -> Q (.bl r) H) :
  tChain (rI0 fun i j => V.bl (decide (i <= j))) (rI0 fun i j => V.bl (decide (i <= j))) ta tb tc σ H Q := by
 refine ha _ (hb _ ⟨x, y, rfl, rfl, _, rfl, ite2 (fun c => ?_) (fun c => ?_)⟩)
 ·exact hc _ ⟨y, z, rfl, rfl, h _ ⟨fun e => ⟨of_decide_eq_true c, of_decide_eq_true e⟩, fun e => decide_eq_true e.2⟩⟩
 ·exact h _ ⟨fun e => (nomatch e), fun e => absurd e.1 (df c)⟩
theorem wP {ta tb tc : TE} {σ : St} {H : Hp} {Q : VK} (x y z : Int) (ha : ∀ R : VK, R (.int x) H -> ta σ H R) (hb : ∀ R : VK, R (.int y) H -> tb σ H R) (hc : ∀ R : VK, R (.int z) H -> tc σ H R) (h : ∀ r : Bool, (r = true ↔ x <= y /\ y < z) -> Q (.bl r) H) :
  tChain (rI0 fun i j => V.bl (decide (i <= j))) (rI0 fun i j => V.bl (decide (i < j))) ta tb tc σ H Q := by
 refine ha _ (hb _ ⟨x, y, rfl, rfl, _, rfl, ite2 (fun c => ?_) (fun c => ?_)⟩)
 ·exact hc _ ⟨y, z, rfl, rfl, h _ ⟨fun e => ⟨of_decide_eq_true c, of_decide_eq_true e⟩, fun e => decide_eq_true e.2⟩⟩
 ·exact h _ ⟨fun e => (nomatch e), fun e => absurd e.1 (df c)⟩
theorem rangeSize_grp {n k : Nat} (hk : k = 2 \/ k = 3) : Builtin.Range.rangeSize 0 (n : Int) (k : Int) = (((n + (k - 1)) / k : Nat) : Int) := by
 unfold Builtin.Range.rangeSize
 rcases hk with rfl | rfl <;> split <;> (first|lia|omega)
def RowOk (op n nf nr : Int) : Prop :=
 op = 0 \/ (op = 1 \/ op = 2) /\ 0 <= n /\ n < 12 \/ (op = 4 \/ op = 5) /\ 0 <= n /\ n < nr \/ op = 6 /\ 0 <= n /\ n < nf \/ op = 10 /\ 8 <= n /\ n <= 19 \/ op = 11 /\ 2 <= n /\ n <= 12 \/ (op = 3 \/ op = 7 \/ op = 8 \/ op = 9) /\ n = 0
def HeadOk (s p b fn nr : Int) : Prop := 0 <= s /\ s < nr /\ 0 <= p /\ p <= 4 /\ (fn = 0 -> p = 0) /\ p <= b /\ b <= 12
def grp (k : Nat) (ns : List Int) : List (List Int) := (List.range ((ns.length + (k - 1)) / k)).map fun i => (ns.drop (i * k)).take k
def TupAt (H : Hp) (v : V) (zs : List Int) : Prop := ∃ t, v = .ref t /\ H t = some (.tup (zs.map V.int))
def GrpAt (H : Hp) (l : Addr) (gs : List (List Int)) : Prop := ∃ rs, H l = some (.lst rs) /\ Paired (TupAt H) rs gs
theorem cut_ints (ns : List Int) (a b : Nat) : cutV (ns.map V.int) (some (a : Int)) (some (b : Int)) = ((ns.drop a).take (b - a)).map V.int := by
 unfold cutV
 rw [HT.sIx_nat, HT.sIx_nat, List.length_map, List.map_take, List.map_drop]
 by_cases h : a <= ns.length
 ·rw [Nat.min_eq_left h]
  by_cases h2 : b <= ns.length
  ·rw [Nat.min_eq_left h2]
  ·rw [Nat.min_eq_right (by (first|lia|omega)), List.take_of_length_le (by simp), List.take_of_length_le (by simp; (first|lia|omega))]
 ·have e1 : ((ns.map V.int).drop (min a ns.length)) = [] := List.drop_of_length_le (by simp; (first|lia|omega))
  have e2 : ((ns.map V.int).drop a) = [] := List.drop_of_length_le (by simp; (first|lia|omega))
  rw [e1, e2, List.take_nil, List.take_nil]
theorem cut_to_end (ns : List Int) (a : Nat) : cutV (ns.map V.int) (some (a : Int)) none = (ns.drop a).map V.int := by
 unfold cutV
 rw [HT.sIx_nat, HT.sIx_none, List.length_map, List.map_drop]
 by_cases h : a <= ns.length
 ·rw [Nat.min_eq_left h, List.take_of_length_le (by simp)]
 ·rw [Nat.min_eq_right (by (first|lia|omega)), List.drop_of_length_le (by simp), List.drop_of_length_le (by simp; (first|lia|omega))]
  simp
theorem grp_len (k : Nat) (ns : List Int) : (grp k ns).length = (ns.length + (k - 1)) / k := by unfold grp; simp
theorem grp_next {k i : Nat} {ns : List Int} (h : i < (ns.length + (k - 1)) / k) : (grp k ns).take (i + 1) = (grp k ns).take i ++ [(ns.drop (i * k)).take k] := by
 have e : (grp k ns)[i]? = some ((ns.drop (i * k)).take k) := by
  unfold grp
  rw [List.getElem?_map, List.getElem?_range h] <;> rfl
 rw [List.take_succ, e] <;> rfl
theorem TupAt.upd {H : Hp} {v : V} {zs : List Int} {p : Addr} {xs : List V} {o : HO} (h : TupAt H v zs) (hp : H p = some (.lst xs)) : TupAt (upd H p o) v zs := by
 obtain ⟨t, rfl, e⟩ := h
 have ne : t ≠ p := fun z => by rw [z, hp] at e; cases e
 exact ⟨t, rfl, by rw [zJ ne]; exact e⟩
theorem TupAt.same {H H' : Hp} {v : V} {zs : List Int} (h : TupAt H v zs) (s : Same H H') : TupAt H' v zs := by
 obtain ⟨t, rfl, e⟩ := h
 exact ⟨t, rfl, s _ _ e⟩
theorem GrpAt.same {H H' : Hp} {l : Addr} {gs : List (List Int)} (h : GrpAt H l gs) (s : Same H H') : GrpAt H' l gs := by
 obtain ⟨rs, e, p⟩ := h
 exact ⟨rs, s _ _ e, p.mono fun _ _ x => x.same s⟩
def headNums (ns : List Int) : List Int := (ns.drop 1).take (3 * (ns.headD 0).toNat)
def rowNums (ns : List Int) : List Int := ns.drop (1 + 3 * (ns.headD 0).toNat)
theorem head_cut {ns ms : List Int} {n : Int} (e : ns = n :: ms) (hn : 0 <= n) : cutV (ns.map V.int) (some 1) (some (1 + 3 * n)) = (headNums ns).map V.int := by
 have h := cut_ints ns 1 (1 + 3 * n.toNat)
 rw [show ((1 + 3 * n.toNat : Nat) : Int) = 1 + 3 * n by (first|lia|omega), show ((1 : Nat) : Int) = 1 from rfl, Nat.add_sub_cancel_left] at h
 rw [h, e] <;> rfl
theorem row_cut {ns ms : List Int} {n : Int} (e : ns = n :: ms) (hn : 0 <= n) : cutV (ns.map V.int) (some (1 + 3 * n)) none = (rowNums ns).map V.int := by
 have h := cut_to_end ns (1 + 3 * n.toNat)
 rw [show ((1 + 3 * n.toNat : Nat) : Int) = 1 + 3 * n by (first|lia|omega)] at h
 rw [h, e] <;> rfl
theorem at_zero {ns ms : List Int} {n : Int} (e : ns = n :: ms) : atI (ns.map V.int) 0 = some (.int n) := by
 have := qW (xs := ns.map V.int) (j := 0) (v := .int n) (by rw [e] <;> rfl)
 exact this
theorem mul3 {n : Int} (h : 0 <= n) (h' : n <= 16) : CMul 3 n := by
 unfold CMul
 have : n.natAbs <= 16 := by (first|lia|omega)
 (first|lia|omega)
def isHead (g : List Int) (i nr : Nat) : Prop := ∃ s p b, g = [s, p, b] /\ HeadOk s p b i nr
def isRow (g : List Int) (nf nr : Nat) : Prop := ∃ op n, g = [op, n] /\ RowOk op n nf nr
structure CodeOk (ns : List Int) : Prop where
 big : ∃ n ms, ns = n :: ms /\ 1 <= n /\ n <= 16 /\ 3 * n + 2 <= ms.length /\ (ms.length - 3 * n.toNat) % 2 = 0
 heads : ∀ i g, (grp 3 (headNums ns))[i]? = some g -> isHead g i ((rowNums ns).length / 2)
 rows : ∀ g ∈ grp 2 (rowNums ns), isRow g (ns.headD 0).toNat ((rowNums ns).length / 2)
theorem Paired.yonder {α β : Type} {F : α -> β -> Prop} : ∀ {xs : List α} {ys : List β}, Paired F xs ys -> ∀ {j : Nat} {x : α}, xs[j]? = some x -> ∃ y, ys[j]? = some y /\ F x y
 | _, _, .nil, j, x, h => by cases h
 | _, _, .cons r t, 0, x, h => by cases h; exact ⟨_, rfl, r⟩
 | _, _, .cons r t, j + 1, x, h => Paired.yonder t (by simpa using h)
theorem grp_get {k i : Nat} {ns g : List Int} (hk : k = 2 \/ k = 3) (hd : ns.length % k = 0) (h : (grp k ns)[i]? = some g) : g.length = k := by
 unfold grp at h
 rw [List.getElem?_map] at h
 by_cases hi : i < (ns.length + (k - 1)) / k
 ·rw [List.getElem?_range hi] at h
  cases h
  rw [List.length_take, List.length_drop]
  rcases hk with rfl | rfl <;> (first|lia|omega)
 ·rw [List.getElem?_eq_none (by simp; (first|lia|omega))] at h
  cases h
theorem len3 {g : List Int} (h : g.length = 3) : ∃ a b c, g = [a, b, c] := match g, h with
 | [a, b, c], _ => ⟨a, b, c, rfl⟩
theorem len2 {g : List Int} (h : g.length = 2) : ∃ a b, g = [a, b] := match g, h with
 | [a, b], _ => ⟨a, b, rfl⟩
theorem all_snoc {bs : List Bool} {b : Bool} : (bs ++ [b]).all id = true ↔ bs.all id = true /\ b = true := by simp
def spIsHead : Sp := fun vs H Q _ => ∃ t s p b fn nr, vs = [.ref t, .int fn, .int nr] /\ H t = some (.tup [.int s, .int p, .int b]) /\ ∀ r, (r = true ↔ HeadOk s p b fn nr) -> Q (.bl r) H
def spIsRow : Sp := fun vs H Q _ => ∃ t op n nf nr, vs = [.ref t, .int nf, .int nr] /\ H t = some (.tup [.int op, .int n]) /\ ∀ r H', Same H H' -> (r = true ↔ RowOk op n nf nr) -> Q (.bl r) H'
def spAlone : Sp := fun vs H Q _ => ∃ op : Int, vs = [.int op] /\ ∀ r H', Same H H' -> (r = true ↔ op = 3 \/ op = 7 \/ op = 8 \/ op = 9) -> Q (.bl r) H'
def spGrouped : Sp := fun vs H Q _ => ∃ (a : Addr) (ns : List Int) (k : Nat), vs = [.ref a, .int k] /\ (k = 2 \/ k = 3) /\ H a = some (.lst (ns.map V.int)) /\ ns.length <= 1000000 /\ ∀ l H', Same H H' -> H l = none -> GrpAt H' l (grp k ns) -> Q (.ref l) H'
def spHeadsIn : Sp := fun vs H Q _ => ∃ (a : Addr) (ns : List Int), vs = [.ref a] /\ H a = some (.lst (ns.map V.int)) /\ ns.length <= 1000000 /\ (∃ n ms, ns = n :: ms /\ 0 <= n /\ n <= 16) /\ ∀ l H', Same H H' -> H l = none -> GrpAt H' l (grp 3 (headNums ns)) -> Q (.ref l) H'
def spRowsIn : Sp := fun vs H Q _ => ∃ (a : Addr) (ns : List Int), vs = [.ref a] /\ H a = some (.lst (ns.map V.int)) /\ ns.length <= 1000000 /\ (∃ n ms, ns = n :: ms /\ 0 <= n /\ n <= 16) /\ ∀ l H', Same H H' -> H l = none -> GrpAt H' l (grp 2 (rowNums ns)) -> Q (.ref l) H'
def spWholes : Sp := fun vs H Q _ => ∃ (a : Addr) (ns : List Int), vs = [.ref a] /\ H a = some (.lst (ns.map V.int)) /\ ns.length <= 1000000 /\ ∀ H', Same H H' -> Q (.bl true) H'
def spIsCode : Sp := fun vs H Q _ => ∃ (a : Addr) (ns : List Int), vs = [.ref a] /\ H a = some (.lst (ns.map V.int)) /\ ns.length <= 1000000 /\ ∀ r H', Same H H' -> (r = true ↔ CodeOk ns) -> Q (.bl r) H'
end L2

namespace L2
open PySem PySem.Spec PyProof.Rows
inductive Tr where
 | mk (kind : Int) (own : List Int) (parts : List Tr)
mutual
def preT : Tr -> List Tr
 | .mk k own ps => .mk k own ps :: preTs ps
def preTs : List Tr -> List Tr
 | [] => []
 | a :: r => preT a ++ preTs r
end
mutual
def nums : Tr -> List Int
 | .mk k own ps => k :: (own ++ numsL ps)
def numsL : List Tr -> List Int
 | [] => []
 | a :: r => nums a ++ numsL r
end
def headN : Tr -> List Int
 | .mk k own _ => k :: own
mutual
theorem nums_pre : ∀ t : Tr, (preT t).flatMap headN = nums t
 | .mk k own ps => by
  rw [preT, List.flatMap_cons, nums_preL ps, nums]; rfl
theorem nums_preL : ∀ ts : List Tr, (preTs ts).flatMap headN = numsL ts
 | [] => by simp [preTs, numsL]
 | a :: r => by rw [preTs, List.flatMap_append, nums_pre a, nums_preL r, numsL]
end
mutual
theorem pre_nums : ∀ t : Tr, (preT t).length <= (nums t).length
 | .mk k own ps => by
  have := pre_numsL ps
  simp [preT, nums]; (first|lia|omega)
theorem pre_numsL : ∀ ts : List Tr, (preTs ts).length <= (numsL ts).length
 | [] => by simp [preTs, numsL]
 | a :: r => by
  have := pre_nums a
  have := pre_numsL r
  simp [preTs, numsL]; (first|lia|omega)
end
mutual
def bare : Nd -> Tr
 | .mk k _ own ps => .mk k own (bareL ps)
def bareL : List Nd -> List Tr
 | [] => []
 | a :: r => bare a :: bareL r
end
section

theorem list_extend_tup (l : Addr) (items : Array Value) (n : Nat) (b : Addr) (items2 : Array Value) (n2 : Nat) (dd : Option Addr) (sl : Array (Option Value)) (hs0 : ¬(!items.isEmpty && Builtin.List.listTooLong (items.size + items2.size)) = true) (hs1 : items.size <= sizeLine) (hs2 : items.size + items2.size <= sizeLine + 1) :
  Meets (Builtin.«list.extend» ⟨[.ref l, .ref b], []⟩) (fun _ R s => s.heap.get? l = some { cls := .type "list", dict := none, data := .seq items n, slots := #[] } /\ s.heap.get? b = some ⟨.type "tuple", dd, .seq items2 n2, sl⟩ /\ R (.ok (.ret Value.none)) { s with heap := s.heap.update l (Obj.mapSeq fun x => x ++ items2), toks := s.toks }) :=
 .of_wp fun _ _ _ _ σs hyp => by
  obtain ⟨σh, σg, σd, σt, σo⟩ := σs
  obtain ⟨atL, atB, fin⟩ := hyp
  have r1 := AutoSeq1.idx_int
  have r2 := AutoSeq1.sub_tuple_tuple
  have r3 := AutoSeq1.sub_list_list
  have r4 := AutoSeq1.sub_tuple_list
  have r5 := AutoSeq1.sub_list_tuple
  have fits : (items ++ items2).size <= sizeLine + 1 := by simpa using hs2
  wp_walk using (wpAny_updateSeq atL rfl (hz := hs1) (_hz' := fits)), AutoSeq1.wpAny_loadPart' atL, AutoSeq1.wpAny_loadPart' atB
  exact ⟨_, rfl, fin⟩
end
section
variable {X : Cx}
def rExtendT : V -> List V -> Hp -> VK -> Prop := fun x vs H Q => ∃ l b xs zs, x = .ref l /\ vs = [.ref b] /\ H l = some (.lst xs) /\ H b = some (.tup zs) /\ xs.length + zs.length <= sizeLine /\ Q .non (upd H l (.lst (xs ++ zs)))
theorem mt_extendT : MtM X "list.extend" rExtendT := by
 intro pins s σ H x vs v us Q I rx rv h
 obtain ⟨l, b, xs, zs, rfl, rfl, hH, hB, hz, q⟩ := h
 cases rx
 obtain ⟨u, rfl, ru⟩ := rv.one
 cases ru
 obtain ⟨z, its, n, r, hl, e⟩ := I.lstM hH
 obtain ⟨_, its2, r2, p⟩ := (show ObjOk X.prog X.w H s.heap b (.tup zs) from I.hok b _ hB)
 obtain ⟨⟨oc, od, oda, osl⟩, h1, h2, n2, h3⟩ := p
 dsimp only at h2 h3
 subst h2 h3
 have hl2 := r2.length
 have hsz : its.toArray.size + its2.toArray.size <= sizeLine := by rw [List.size_toArray, List.size_toArray]; (first|lia|omega)
 have hlong : ¬ (!its.toArray.isEmpty && Builtin.List.listTooLong (its.toArray.size + its2.toArray.size)) = true := by
  rw [notLongL hsz, Bool.and_false]
  exact Bool.false_ne_true
 refine call_meets F.slot_list_extend ⟨_, e, rfl⟩ F.entry_list_extend (F.args_list_extend_2 _ _)
  (list_extend_tup l its.toArray n b its2.toArray n2 od osl hlong (by rw [List.size_toArray]; (first|lia|omega)) (by (first|lia|omega))) ⟨e, h1, ?_⟩
 refine ⟨.non, _, I.lset (its' := its ++ its2) hH e (by simp) (r.append r2) ?_, rfl, q⟩
 rw [List.length_append]
 (first|lia|omega)
end
mutual
def okT : Tr -> Prop
 | .mk k own ps => (k = 3 \/ k = 4 -> own ≠ []) /\ okTs ps
def okTs : List Tr -> Prop
 | [] => True
 | a :: r => okT a /\ okTs r
end
theorem vE {α β : Type} {F : α -> β -> Prop} : ∀ {xs : List α} {ys : List β}, Paired F xs ys -> ∀ n, Paired F (xs.take n) (ys.take n)
 | _, _, .nil, n => by simp; exact .nil
 | _, _, .cons h t, 0 => .nil
 | _, _, .cons h t, n + 1 => .cons h (vE t n)
theorem vF {α β : Type} {F : α -> β -> Prop} : ∀ {xs : List α} {ys : List β}, Paired F xs ys -> ∀ n, Paired F (xs.drop n) (ys.drop n)
 | _, _, .nil, n => by simp; exact .nil
 | _, _, .cons h t, 0 => .cons h t
 | _, _, .cons h t, n + 1 => vF t n
end L2

namespace L2
open PySem PySem.Spec PyProof.Rows
section
variable {X : Cx} {tg : Expr}
def Sq (K : PySem.W.Frag) (H : Hp) (a : Addr) (xs : List V) : Prop := SqL K H a xs \/ SqT K H a xs
def iSeq (K : PySem.W.Frag) (tl : TE) : TI := fun σ H R => tl σ H fun x H1 => ∃ a, x = .ref a /\ ((∃ xs, SqL K H1 a xs) /\ R (Itl K a) H1 \/ (∃ xs, SqT K H1 a xs) /\ R (Itt K a) H1)
theorem pi_seq {l : Expr} {tl : TE} (hl : PE X l tl) : PI X tg l (iSeq X.K tl) := by
 refine ⟨?_⟩
 intro pins s σ H R I h
 refine thn (hl pins s σ H _ I h) fun v s1 hzz => ?_
 obtain ⟨x, H1, I1, r1, q1⟩ := hzz
 obtain ⟨a, e, q⟩ := q1
 subst e
 cases r1
 rcases q with ⟨⟨xs, hq⟩, q⟩ | ⟨⟨xs, hq⟩, q⟩
 ·obtain ⟨its, rv, p, hz⟩ := I1.list hq
  refine wpAny_pyIter_list p.isList ?_
  refine ⟨s1.heap.objs.size, [s1.heap.objs.size], _, _, H1, rfl, I1.kept (t' := s1.toks) fun b o e => Heap.get?_push_of_some _ e, turn_list a _, ⟨_, Heap.get?_push_size _ rfl, rfl, rfl⟩, fun b hb => ?_, q⟩
  have e : b = s1.heap.objs.size := by simpa using hb
  subst e
  exact I1.fpOk (Nat.le_refl _) (I1.hok.fresh (Nat.le_refl _))
 ·obtain ⟨its, rv, p, hz⟩ := I1.tuple hq
  refine wpAny_pyIter_tuple (show s1.heap.IsTuple a its.toArray from p) ?_
  refine ⟨s1.heap.objs.size, [s1.heap.objs.size], _, _, H1, rfl, I1.kept (t' := s1.toks) fun b o e => Heap.get?_push_of_some _ e, turn_tuple a _, ⟨_, Heap.get?_push_size _ rfl, rfl, rfl⟩, fun b hb => ?_, q⟩
  have e : b = s1.heap.objs.size := by simpa using hb
  subst e
  exact I1.fpOk (Nat.le_refl _) (I1.hok.fresh (Nat.le_refl _))
def rExtendU : V -> List V -> Hp -> VK -> Prop := fun x vs H Q => rExtend x vs H Q \/ rExtendT x vs H Q
theorem mt_extendU : MtM X "list.extend" rExtendU := by
 intro pins s σ H x vs v us Q I rx rv h
 rcases h with h | h
 ·exact mt_extend pins s σ H x vs v us Q I rx rv h
 ·exact mt_extendT pins s σ H x vs v us Q I rx rv h
end
abbrev Wk (J : It) (g : TG) (tb : TS) (D : Ends) (σ : St) (H : Hp) : Prop := ∃ W : Nat -> Nat -> St -> Hp -> Prop, (∃ m, W 0 m σ H) /\ ∀ i m σ H, W i m σ H ->
   (J.stop i H /\ D.nx σ H) \/ (J.go i H /\ ∃ N : St -> Hp -> Prop, (∀ σ' H', N σ' H' -> ∃ m', m' < m /\ W (i + 1) m' σ' H') /\ ∀ x H', J.yld i H x H' -> g x σ H' fun σ2 H2 => tb { D with nx := N, ct := N, bk := D.nx } σ2 H2)
theorem Same.seqT {K : PySem.W.Frag} {H H' : Hp} {a : Addr} {xs : List V} (e : Same H H') (h : SqT K H a xs) : SqT K H' a xs := by
 rcases h with (h | ⟨o, h⟩) | h
 ·exact .inl (.inl (e _ _ h))
 ·exact .inl (.inr ⟨o, e _ _ h⟩)
 ·exact .inr h
theorem for_seq {K : PySem.W.Frag} {a : Addr} {xs : List V} {g : TG} {tb : TS} {D : Ends} {σ : St} {H0 H : Hp} (hq : Sq K H0 a xs) (Pv : Nat -> St -> Hp -> Prop) (h0 : Pv 0 σ H) (hl : ∀ i σ H', i <= xs.length -> Pv i σ H' -> Same H0 H')
  (hs : ∀ i x σ H, xs[i]? = some x -> Pv i σ H -> g x σ H fun σ2 H2 => tb { D with nx := Pv (i + 1), ct := Pv (i + 1), bk := D.nx } σ2 H2) (hd : ∀ σ H, Pv xs.length σ H -> D.nx σ H) :
  (∃ xs, SqL K H a xs) /\ Wk (Itl K a) g tb D σ H \/ (∃ xs, SqT K H a xs) /\ Wk (Itt K a) g tb D σ H := by
 rcases hq with hq | hq
 ·exact .inl ⟨⟨xs, (hl 0 _ _ (Nat.zero_le _) h0).seq hq⟩, for_list Pv h0 (fun i σ' H' hi p => (hl i σ' H' hi p).seq hq) hs hd⟩
 ·exact .inr ⟨⟨xs, Same.seqT (hl 0 _ _ (Nat.zero_le _) h0) hq⟩, for_tup Pv h0 (fun i σ' H' hi p => Same.seqT (hl i σ' H' hi p) hq) hs hd⟩
def spHeadsOf : Sp := fun vs H Q _ => ∃ (a : Addr) (ns : List Int), vs = [.ref a] /\ H a = some (.lst (ns.map V.int)) /\ ns.length <= 1000000 /\ CodeOk ns /\ ∀ l H', Same H H' -> H l = none -> GrpAt H' l (grp 3 (headNums ns)) -> Q (.ref l) H'
def spRowsOf : Sp := fun vs H Q _ => ∃ (a : Addr) (ns : List Int), vs = [.ref a] /\ H a = some (.lst (ns.map V.int)) /\ ns.length <= 1000000 /\ CodeOk ns /\ ∀ l H', Same H H' -> H l = none -> GrpAt H' l (grp 2 (rowNums ns)) -> Q (.ref l) H'
def codeL (hs rs : List (List Int)) : List Int := (hs.length : Int) :: (hs.flatten ++ rs.flatten)
theorem fl_take {gs : List (List Int)} {i : Nat} {g : List Int} (h : gs[i]? = some g) : (gs.take (i + 1)).flatten = (gs.take i).flatten ++ g := by
 rw [List.take_succ, h, List.flatten_append]
 simp
theorem xU {k : Nat} : ∀ {gs : List (List Int)}, (∀ g ∈ gs, g.length = k) -> gs.flatten.length = gs.length * k
 | [], _ => by simp
 | g :: gs, h => by
  rw [List.flatten_cons, List.length_append, h g (List.mem_cons_self ..), xU (fun x hx => h x (List.mem_cons_of_mem _ hx)), List.length_cons, Nat.add_mul, Nat.one_mul, Nat.add_comm]
end L2

namespace L2
open PySem PySem.Spec PyProof.Rows
structure RowsAt (H : Hp) (rp : Addr) (rs : List Addr) (rows : List (List Int)) : Prop where
 here : H rp = some (.lst (rs.map V.ref))
 nd : rs.Nodup
 len : rs.length = rows.length
 row : ∀ (n : Nat) (r : Addr) (xs : List Int), rs[n]? = some r -> rows[n]? = some xs -> H r = some (.lst (xs.map V.int))
theorem RowsAt.is {H : Hp} {rp : Addr} {rs : List Addr} {rows : List (List Int)} (h : RowsAt H rp rs rows) {n : Nat} {r : Addr} (e : rs[n]? = some r) : ∃ xs, rows[n]? = some xs /\ H r = some (.lst (xs.map V.int)) := by
 have hn : n < rs.length := (List.getElem?_eq_some_iff.mp e).1
 exact ⟨_, List.getElem?_eq_getElem (by rw [<- h.len]; exact hn), h.row n r _ e (List.getElem?_eq_getElem (by rw [<- h.len]; exact hn))⟩
theorem RowsAt.mem {H : Hp} {rp : Addr} {rs : List Addr} {rows : List (List Int)} (h : RowsAt H rp rs rows) {r : Addr} (e : r ∈ rs) : ∃ xs : List Int, H r = some (.lst (xs.map V.int)) := by
 obtain ⟨n, hn⟩ := List.mem_iff_getElem?.mp e
 obtain ⟨xs, _, q⟩ := h.is hn
 exact ⟨xs, q⟩
theorem RowsAt.out {H : Hp} {rp : Addr} {rs : List Addr} {rows : List (List Int)} (h : RowsAt H rp rs rows) : rp ∉ rs := by
 intro e
 obtain ⟨xs, q⟩ := h.mem e
 rw [h.here] at q
 injection q with q
 injection q with q
 cases rs with
 | nil => cases e
 | cons a t =>
  cases xs with
  | nil => cases q
  | cons x u => rw [List.map_cons, List.map_cons] at q; injection q with q _; cases q
def KeepL (as : List Addr) (H H' : Hp) : Prop := ∀ b o, b ∉ as -> H b = some o -> H' b = some o
theorem KeepL.same {as : List Addr} {H H' : Hp} (h : Same H H') : KeepL as H H' := fun b o _ e => h b o e
theorem KeepL.trans {as : List Addr} {H H1 H2 : Hp} (a : KeepL as H H1) (b : KeepL as H1 H2) : KeepL as H H2 := fun c o n e => b c o n (a c o n e)
theorem KeepL.upd {as : List Addr} {H : Hp} {a : Addr} {o : HO} (h : a ∈ as) : KeepL as H (upd H a o) := fun c u n e => by
 have z : c ≠ a := fun z => n (by rw [z]; exact h)
 rw [zJ z]; exact e
theorem RowsAt.keep {H H' : Hp} {rp : Addr} {rs : List Addr} {rows : List (List Int)} (h : RowsAt H rp rs rows) (k : ∀ b o, b ∈ rp :: rs -> H b = some o -> H' b = some o) : RowsAt H' rp rs rows :=
 ⟨k _ _ (List.mem_cons_self ..) h.here, h.nd, h.len, fun n r xs e q => k _ _ (List.mem_cons_of_mem _ (List.mem_iff_getElem?.mpr ⟨n, e⟩)) (h.row n r xs e q)⟩
theorem RowsAt.same {H H' : Hp} {rp : Addr} {rs : List Addr} {rows : List (List Int)} (h : RowsAt H rp rs rows) (k : Same H H') : RowsAt H' rp rs rows := h.keep fun b o _ e => k b o e
theorem RowsAt.set {H : Hp} {rp r : Addr} {rs : List Addr} {rows : List (List Int)} {n : Nat} (h : RowsAt H rp rs rows) (e : rs[n]? = some r) (ys : List Int) : RowsAt (upd H r (.lst (ys.map V.int))) rp rs (rows.set n ys) := by
 have hm : r ∈ rs := List.mem_iff_getElem?.mpr ⟨n, e⟩
 have hp : rp ≠ r := fun z => h.out (by rw [z]; exact hm)
 refine ⟨by rw [zJ hp]; exact h.here, h.nd, by rw [List.length_set]; exact h.len, fun m q xs em ex => ?_⟩
 by_cases hmn : m = n
 ·subst hmn
  rw [e] at em
  cases em
  have hl : m < rows.length := by rw [<- h.len]; exact (List.getElem?_eq_some_iff.mp e).1
  rw [List.getElem?_set_self hl] at ex
  cases ex
  exact zB
 ·rw [List.getElem?_set_ne (Ne.symm hmn)] at ex
  have hq : q ≠ r := by
   intro z
   subst z
   have h1 := (List.getElem?_eq_some_iff.mp em)
   have h2 := (List.getElem?_eq_some_iff.mp e)
   obtain ⟨l1, g1⟩ := h1
   obtain ⟨l2, g2⟩ := h2
   exact hmn ((List.getElem_inj h.nd).mp (g1.trans g2.symm))
  rw [zJ hq]
  exact h.row m q xs em ex
theorem RowsAt.push {H : Hp} {rp q : Addr} {rs : List Addr} {rows : List (List Int)} (h : RowsAt H rp rs rows) (hq : H q = none) :
  RowsAt (upd (upd H q (.lst [])) rp (.lst ((rs ++ [q]).map V.ref))) rp (rs ++ [q]) (rows ++ [[]]) := by
 have hnr : q ∉ rs := fun e => by
  obtain ⟨xs, z⟩ := h.mem e
  rw [hq] at z; cases z
 have hnp : q ≠ rp := fun e => by
  have := h.here
  rw [<- e, hq] at this; cases this
 refine ⟨zB, ?_, by rw [List.length_append, List.length_append, h.len] <;> rfl, fun n r xs e ex => ?_⟩
 ·rw [List.nodup_append]
  exact ⟨h.nd, List.nodup_cons.mpr ⟨List.not_mem_nil, List.nodup_nil⟩, fun a ha b hb => by rw [List.mem_singleton] at hb; rw [hb]; exact fun z => hnr (z ▸ ha)⟩
 ·by_cases hn : n < rs.length
  ·rw [List.getElem?_append_left hn] at e
   rw [List.getElem?_append_left (by rw [<- h.len]; exact hn)] at ex
   have hm : r ∈ rs := List.mem_iff_getElem?.mpr ⟨n, e⟩
   have z1 : r ≠ rp := fun z => h.out (by rw [<- z]; exact hm)
   have z2 : r ≠ q := fun z => hnr (by rw [<- z]; exact hm)
   rw [zJ z1, zJ z2]
   exact h.row n r xs e ex
  ·have hl : n < (rs ++ [q]).length := (List.getElem?_eq_some_iff.mp e).1
   rw [List.length_append, List.length_singleton] at hl
   have hn' : n = rs.length := by (first|lia|omega)
   subst hn'
   rw [List.getElem?_append_right (Nat.le_refl _), Nat.sub_self] at e
   rw [List.getElem?_append_right (by rw [h.len] <;> exact Nat.le_refl _), h.len, Nat.sub_self] at ex
   cases e; cases ex
   rw [zJ hnp]
   exact zB
theorem kJ {α : Type} {xs : List α} {k : Int} {v : α} (h0 : 0 <= k) (h : xs[k.toNat]? = some v) : atI xs k = some v := by
 have := qW h
 rwa [show ((k.toNat : Nat) : Int) = k by (first|lia|omega)] at this
theorem wA {H : Hp} {r t : Addr} {o : HO} (h : upd H r o t = none) : t ≠ r /\ H t = none := by
 by_cases e : t = r
 ·subst e; rw [zB] at h; cases h
 ·rw [zJ e] at h; exact ⟨e, h⟩
abbrev G100 : Int := 10000000000000000000000000000000000000000000000000000000000000000000000000000000000000000000000000000
def wV (v : Int) : List V := if v ≥ G100 \/ v <= -G100 then [.str "great", .int 0] else [.non, .int v]
def reckV (k a b : Int) : List V :=
 if k = 8 then wV (a + b) else if k = 9 then wV (a - b) else if k = 10 then wV (a * b) else if k = 13 then [.non, .int (if a < b then 1 else 0)] else if k = 14 then [.non, .int (if a = b then 1 else 0)]
 else if b = 0 then [.str "zero", .int 0] else if k = 11 then [.non, .int (a.fdiv b)] else [.non, .int (a.fmod b)]
def rowM (k v0 v1 v2 : Int) (rows : List (List Int)) : List V × List (List Int) :=
 if v0 < 0 \/ v0 ≥ rows.length then ([.str "row", .int 0], rows)
 else if k = 18 then ([.non, .int (rows.getD v0.toNat []).length], rows)
 else if k = 15 then ([.non, .int v1], rows.set v0.toNat (rows.getD v0.toNat [] ++ [v1]))
 else if v1 < 0 \/ v1 ≥ (rows.getD v0.toNat []).length then ([.str "place", .int 0], rows)
 else if k = 17 then ([.non, .int v2], rows.set v0.toNat ((rows.getD v0.toNat []).set v1.toNat v2))
 else ([.non, .int ((rows.getD v0.toNat []).getD v1.toNat 0)], rows)
def worthM (k v0 v1 v2 : Int) (rows : List (List Int)) : List V × List (List Int) :=
 if k = 19 then ([.non, .int rows.length], rows ++ [[]]) else if k ≥ 15 then rowM k v0 v1 v2 rows else (reckV k v0 v1, rows)
def arity (k : Int) : Nat := if k = 19 then 0 else if k = 18 then 1 else if k = 17 then 3 else 2
def spDWithin : Sp := fun vs H Q _ => ∃ v : Int, vs = [.int v] /\ ∀ p H', H p = none -> H' = upd H p (.tup (wV v)) -> Q (.ref p) H'
def spReck : Sp := fun vs H Q _ => ∃ k a b : Int, vs = [.int k, .int a, .int b] /\ a.natAbs < 2 ^ 2000 /\ b.natAbs < 2 ^ 2000 /\ ∀ p H', H p = none -> H' = upd H p (.tup (reckV k a b)) -> Q (.ref p) H'
structure Deed (H H' : Hp) (p rp : Addr) (rs rs' : List Addr) (o : List V × List (List Int)) : Prop where
 new : H p = none
 told : H' p = some (.tup o.1)
 rows : RowsAt H' rp rs' o.2
 keep : KeepL (rp :: rs) H H'
 more : rs' = rs \/ ∃ q, H q = none /\ q ≠ p /\ rs' = rs ++ [q]
def spRow : Sp := fun vs H Q _ => ∃ (k v0 v1 v2 : Int) (vp rp : Addr) (vals : List Int) (rs : List Addr) (rows : List (List Int)), vs = [.int k, .ref vp, .ref rp] /\ H vp = some (.lst (vals.map V.int)) /\
 vals = [v0, v1, v2].take (arity k) /\ 15 <= k /\ k <= 18 /\ vp ∉ rp :: rs /\ RowsAt H rp rs rows /\ (∀ xs ∈ rows, xs.length < sizeLine) /\ ∀ p H', Deed H H' p rp rs rs (rowM k v0 v1 v2 rows) -> Q (.ref p) H'
def spWorth : Sp := fun vs H Q _ => ∃ (k v0 v1 v2 : Int) (vp rp : Addr) (vals : List Int) (rs : List Addr) (rows : List (List Int)), vs = [.int k, .ref vp, .ref rp] /\ H vp = some (.lst (vals.map V.int)) /\
 vals = [v0, v1, v2].take (arity k) /\ 8 <= k /\ k <= 19 /\ vp ∉ rp :: rs /\ RowsAt H rp rs rows /\ (∀ xs ∈ rows, xs.length < sizeLine) /\ rows.length < sizeLine /\ (k <= 14 -> v0.natAbs < 2 ^ 2000 /\ v1.natAbs < 2 ^ 2000) /\
 ∀ p H' rs', Deed H H' p rp rs rs' (worthM k v0 v1 v2 rows) -> Q (.ref p) H'
theorem RowsAt.notin {H : Hp} {rp l : Addr} {rs : List Addr} {rows : List (List Int)} (R : RowsAt H rp rs rows) (h : H l = none) : l ∉ rp :: rs := by
 intro z
 rcases List.mem_cons.mp z with z | z
 ·rw [z, R.here] at h; cases h
 ·obtain ⟨xs, q⟩ := R.mem z
  rw [h] at q; cases q
theorem wU {rows : List (List Int)} {n : Nat} {ys xs : List Int} (h : xs ∈ rows.set n ys) : xs ∈ rows \/ xs = ys := by
 rcases List.mem_or_eq_of_mem_set h with h | h
 ·exact .inl h
 ·exact .inr h
theorem getD_len {rows : List (List Int)} {n N : Nat} (h : ∀ xs ∈ rows, xs.length <= N) : (rows.getD n []).length <= N := by
 rw [List.getD_eq_getElem?_getD]
 cases e : rows[n]? with
 | none => exact Nat.zero_le _
 | some xs => exact h xs (List.mem_iff_getElem?.mpr ⟨n, e⟩)
theorem rowM_len {k v0 v1 v2 : Int} {rows : List (List Int)} {N : Nat} (h : ∀ xs ∈ rows, xs.length <= N) : (rowM k v0 v1 v2 rows).2.length = rows.length /\ ∀ xs ∈ (rowM k v0 v1 v2 rows).2, xs.length <= N + 1 := by
 have old : ∀ xs ∈ rows, xs.length <= N + 1 := fun xs hx => Nat.le_succ_of_le (h xs hx)
 have hg := getD_len (n := v0.toNat) h
 unfold rowM
 split
 ·exact ⟨rfl, old⟩
 split
 ·exact ⟨rfl, old⟩
 split
 ·refine ⟨List.length_set .., fun xs hx => ?_⟩
  rcases wU hx with hx | hx
  ·exact old xs hx
  ·rw [hx, List.length_append, List.length_singleton]; (first|lia|omega)
 split
 ·exact ⟨rfl, old⟩
 split
 ·refine ⟨List.length_set .., fun xs hx => ?_⟩
  rcases wU hx with hx | hx
  ·exact old xs hx
  ·rw [hx, List.length_set]; (first|lia|omega)
 ·exact ⟨rfl, old⟩
theorem worthM_len {k v0 v1 v2 : Int} {rows : List (List Int)} {N : Nat} (h : ∀ xs ∈ rows, xs.length <= N) : rows.length <= (worthM k v0 v1 v2 rows).2.length /\ (worthM k v0 v1 v2 rows).2.length <= rows.length + 1 /\ ∀ xs ∈ (worthM k v0 v1 v2 rows).2, xs.length <= N + 1 := by
 have old : ∀ xs ∈ rows, xs.length <= N + 1 := fun xs hx => Nat.le_succ_of_le (h xs hx)
 unfold worthM
 split
 ·refine ⟨by simp, by simp, fun xs hx => ?_⟩
  rcases List.mem_append.mp hx with hx | hx
  ·exact old xs hx
  ·rw [List.mem_singleton.mp hx]; exact Nat.zero_le _
 split
 ·obtain ⟨e, q⟩ := rowM_len (k := k) (v0 := v0) (v1 := v1) (v2 := v2) h
  exact ⟨by (first|lia|omega), by (first|lia|omega), q⟩
 ·exact ⟨Nat.le_refl _, Nat.le_succ _, old⟩
theorem RowsAt.nott {H : Hp} {rp l : Addr} {rs : List Addr} {rows : List (List Int)} {xs : List V} (R : RowsAt H rp rs rows) (h : H l = some (.tup xs)) : l ∉ rp :: rs := by
 intro z
 rcases List.mem_cons.mp z with z | z
 ·rw [z, R.here] at h; cases h
 ·obtain ⟨xs, q⟩ := R.mem z
  rw [h] at q; cases q
end L2

namespace L2
open PySem
def Pen (K : PySem.W.Frag) (H : Hp) (st : Addr) : Prop := ∃ a ns k c t, H st = some (.lst [.ref a, .int k, .int c, .int t]) /\ Scr K H a ns /\ ns.length <= 63 /\ 0 <= k /\ 0 <= c
structure Penned (K : PySem.W.Frag) (st : Addr) (H H' : Hp) : Prop where
 pen : Pen K H' st
 keep : Keep st H H'
theorem Penned.trans {K : PySem.W.Frag} {st : Addr} {H H1 H2 : Hp} (a : Penned K st H H1) (b : Penned K st H1 H2) : Penned K st H H2 := ⟨b.pen, a.keep.trans b.keep⟩
theorem Pen.ne {K : PySem.W.Frag} {st b : Addr} {H : Hp} (d : Pen K H st) (h : H b = none) : st ≠ b := by
 obtain ⟨a, ns, k, c, t, e, _⟩ := d
 exact zK e h
theorem Pen.same {K : PySem.W.Frag} {st : Addr} {H H' : Hp} (d : Pen K H st) (h : Same H H') : Pen K H' st := by
 obtain ⟨a, ns, k, c, t, e, s, r⟩ := d
 exact ⟨a, ns, k, c, t, h _ _ e, s.keep e (Keep.same h), r⟩
theorem Pen.new {K : PySem.W.Frag} {st p : Addr} {H : Hp} (d : Pen K H st) (h : H p = none) (o : HO) : Penned K st H (upd H p o) := ⟨d.same (zD h o), Keep.new o h⟩
theorem Pen.put {K : PySem.W.Frag} {st p : Addr} {H : Hp} {xs ys : List V} (d : Pen K H st) (hp : H p = some (.lst xs)) (n : p ≠ st) : Pen K (upd H p (.lst ys)) st := by
 obtain ⟨a, ns, k, c, t, e, s, r⟩ := d
 refine ⟨a, ns, k, c, t, (by rw [zJ (Ne.symm n)]; exact e), ?_, r⟩
 rcases s with ⟨o, s⟩ | s
 ·exact .inl ⟨o, by rw [zJ (fun z => by rw [z, hp] at s; cases s)]; exact s⟩
 ·exact .inr s
theorem Penned.lst {K : PySem.W.Frag} {st p : Addr} {H H' : Hp} {o : HO} (h : Penned K st H H') (hp : H p = some o) (n : p ≠ st) : H' p = some o := h.keep _ _ n hp
def spPen (K : PySem.W.Frag) : Sp := fun vs H Q _ => ∃ (a : Addr) (ns : List Int), vs = [.ref a] /\ Scr K H a ns /\ ns.length <= 63 /\ ∀ st H', H st = none -> Same H H' -> Pen K H' st -> Q (.ref st) H'
def spTake4 (K : PySem.W.Frag) : Sp := fun vs H Q _ => ∃ (st : Addr) (many : Int), vs = [.ref st, .int many] /\ 0 < many /\ many < 1073741824 /\ Pen K H st /\ ∀ (r : Int) (H' : Hp), 0 <= r -> r < many -> Penned K st H H' -> Q (.int r) H'
def spInt4 (K : PySem.W.Frag) (B : Int -> Prop) : Sp := fun vs H Q _ => ∃ (st : Addr), vs = [.ref st] /\ Pen K H st /\ ∀ (r : Int) (H' : Hp), B r -> Penned K st H H' -> Q (.int r) H'
end L2
namespace L2
open PySem
def needT : List Int := [2, 2, 2, 2, 2, 2, 2, 2, 2, 3, 1, 0]
def needT2 : List Int := [0, 0, 1, 1, 0, 1, 0, 1, 1, 0, 0, 1]
def Heads3 (hs : List (List Int)) : Prop := ∀ g ∈ hs, g.length = 3
structure OpFit (op n nf : Int) : Prop where
 lo : 0 <= op
 hi : op <= 11
 call : op = 6 -> 0 <= n /\ n < nf
 deed : op = 10 -> 8 <= n /\ n <= 19
theorem RowOk.fit {op n nf nr : Int} (h : RowOk op n nf nr) : OpFit op n nf := by
 unfold RowOk at h
 constructor <;> (first|lia|omega)
def spNeeds : Sp := fun vs H Q _ => ∃ (op n : Int) (hd : Addr) (hs : List (List Int)), vs = [.int op, .int n, .ref hd] /\ GrpAt H hd hs /\ Heads3 hs /\ OpFit op n hs.length /\ ∀ (r : Int) H', Same H H' -> Q (.int r) H'
def spHeight : Sp := fun vs H Q _ => ∃ (op n h : Int) (hd : Addr) (hs : List (List Int)), vs = [.int op, .int n, .ref hd, .int h] /\ GrpAt H hd hs /\ Heads3 hs /\ OpFit op n hs.length /\ ∀ (r : Int) H', Same H H' -> Q (.int r) H'
theorem GrpAt.keep {H H' : Hp} {l st : Addr} {gs : List (List Int)} {xs : List V} (h : GrpAt H l gs) (ne : l ≠ st) (hst : H st = some (.lst xs)) (k : Keep st H H') : GrpAt H' l gs := by
 obtain ⟨rs, e, p⟩ := h
 refine ⟨rs, k _ _ ne e, Paired.imp (fun v g x => ?_) p⟩
 obtain ⟨t, rfl, et⟩ := x
 exact ⟨t, rfl, k _ _ (fun z => by rw [z, hst] at et; cases et) et⟩
theorem Pen.more {K : PySem.W.Frag} {H H' : Hp} {st : Addr} (d : Pen K H st) (g : Same H H') : Penned K st H H' := ⟨d.same g, Keep.same g⟩
theorem inI {k : Int} {ns : List Int} (c : (if false = true then !inV (.int k) (ns.map V.int) else inV (.int k) (ns.map V.int)) = true) : k ∈ ns := by
 have e : inV (.int k) (ns.map V.int) = true := c
 rw [inV_ints] at e
 exact of_decide_eq_true e
theorem inN {k : Int} {ns : List Int} (c : ¬ (if false = true then !inV (.int k) (ns.map V.int) else inV (.int k) (ns.map V.int)) = true) : k ∉ ns := by
 intro h
 refine c ?_
 show inV (.int k) (ns.map V.int) = true
 rw [inV_ints]
 exact decide_eq_true h
theorem mem2 {k a b : Int} : k ∈ [a, b] ↔ k = a \/ k = b := by simp
theorem mem3 {k a b c : Int} : k ∈ [a, b, c] ↔ k = a \/ k = b \/ k = c := by simp
theorem Pen.is {K : PySem.W.Frag} {H : Hp} {st : Addr} (d : Pen K H st) : ∃ xs, H st = some (.lst xs) := by
 obtain ⟨a, ns, k, c, t, e, _⟩ := d
 exact ⟨_, e⟩
end L2
namespace L2
open PySem
theorem Paired.set {α β : Type} {F : α -> β -> Prop} : ∀ {xs : List α} {ys : List β} (i : Nat) {x : α} {y : β}, Paired F xs ys -> F x y -> Paired F (xs.set i x) (ys.set i y)
 | _, _, _, _, _, .nil, _ => .nil
 | _, _, 0, _, _, .cons r t, h => .cons h t
 | _, _, i + 1, _, _, .cons r t, h => .cons r (Paired.set i t h)
theorem GrpAt.put {H : Hp} {l p : Addr} {gs : List (List Int)} {xs ys : List V} (h : GrpAt H l gs) (hp : H p = some (.lst xs)) (ne : l ≠ p) : GrpAt (upd H p (.lst ys)) l gs := by
 obtain ⟨rs, e, pr⟩ := h
 exact ⟨rs, by rw [zJ ne]; exact e, Paired.imp (fun _ _ x => x.upd hp) pr⟩
theorem GrpAt.push {H : Hp} {l : Addr} {gs : List (List Int)} {rs : List V} {v : V} {g : List Int} (e : H l = some (.lst rs)) (pr : Paired (TupAt H) rs gs) (tv : TupAt H v g) : GrpAt (upd H l (.lst (rs ++ [v]))) l (gs ++ [g]) :=
 ⟨_, zB, Paired.append (Paired.imp (fun _ _ x => x.upd e) pr) (.cons (tv.upd e) .nil)⟩
theorem GrpAt.setAt {H : Hp} {l : Addr} {gs : List (List Int)} {rs : List V} {v : V} {g : List Int} (i : Nat) (e : H l = some (.lst rs)) (pr : Paired (TupAt H) rs gs) (tv : TupAt H v g) : GrpAt (upd H l (.lst (rs.set i v))) l (gs.set i g) :=
 ⟨_, zB, Paired.set i (Paired.imp (fun _ _ x => x.upd e) pr) (tv.upd e)⟩
structure CodeParts (hs rs : List (List Int)) : Prop where
 h1 : 1 <= hs.length
 h16 : hs.length <= 16
 r1 : 1 <= rs.length
 r24 : rs.length <= 900
 heads : ∀ i g, hs[i]? = some g -> isHead g i rs.length
 rows : ∀ g ∈ rs, isRow g hs.length rs.length
theorem Penned.putNew {K : PySem.W.Frag} {st p : Addr} {H H' : Hp} {xs ys : List V} (h : Penned K st H H') (nH : H p = none) (hp : H' p = some (.lst xs)) (n : p ≠ st) : Penned K st H (upd H' p (.lst ys)) :=
 ⟨h.pen.put hp n, fun b o nb e => by rw [zJ (zK e nH)]; exact h.keep b o nb e⟩
theorem GrpAt.pen {K : PySem.W.Frag} {H H' : Hp} {l st : Addr} {gs : List (List Int)} (h : GrpAt H l gs) (ne : l ≠ st) (d : Pen K H st) (k : Penned K st H H') : GrpAt H' l gs := by
 obtain ⟨xs, e⟩ := d.is
 exact h.keep ne e k.keep
theorem snoc_get {α : Type} {xs : List α} {x g : α} {j : Nat} (h : (xs ++ [x])[j]? = some g) : xs[j]? = some g \/ j = xs.length /\ g = x := by
 by_cases hj : j < xs.length
 ·rw [List.getElem?_append_left hj] at h
  exact .inl h
 ·rw [List.getElem?_append_right (by (first|lia|omega))] at h
  have : j - xs.length = 0 := by
   have := (List.getElem?_eq_some_iff.mp h).1
   simp at this
   (first|lia|omega)
  rw [this] at h
  cases h
  exact .inr ⟨by (first|lia|omega), rfl⟩
theorem Penned.free {K : PySem.W.Frag} {st b : Addr} {H H' : Hp} (h : Penned K st H H') (e : H' b = none) : H b = none := by
 cases z : H b with
 | none => rfl
 | some o => rw [h.keep b o (Ne.symm (h.pen.ne e)) z] at e; cases e
end L2
namespace L2
open PySem
section
variable {X : Cx}
theorem op_isB : OpR X (compareOp .Is) (fun x y H Q => ∃ a b, x = .bl a /\ y = .bl b /\ Q (.bl (a == b)) H) := by
 intro pins s σ H x y v u Q I rx ry h
 obtain ⟨a, b, rfl, rfl, q⟩ := h
 cases rx; cases ry
 exact wpAny_pure ⟨.bl (a == b), H, I, by cases a <;> cases b <;> rfl, q⟩
theorem op_notB : OpR X (compareOp .IsNot) (fun x y H Q => ∃ a b, x = .bl a /\ y = .bl b /\ Q (.bl (!(a == b))) H) := by
 intro pins s σ H x y v u Q I rx ry h
 obtain ⟨a, b, rfl, rfl, q⟩ := h
 cases rx; cases ry
 exact wpAny_pure ⟨.bl (!(a == b)), H, I, by cases a <;> cases b <;> rfl, q⟩
end
end L2

namespace L2
open PySem
theorem grp_cons {k : Nat} (hk : k = 2 \/ k = 3) {g rest : List Int} (hg : g.length = k) : grp k (g ++ rest) = g :: grp k rest := by
 unfold grp
 have e : ((g ++ rest).length + (k - 1)) / k = (rest.length + (k - 1)) / k + 1 := by
  rw [List.length_append, hg]
  rcases hk with rfl | rfl <;> (first|lia|omega)
 rw [e, List.range_succ_eq_map, List.map_cons, List.map_map, Nat.zero_mul, List.drop_zero]
 congr 1
 ·rw [List.take_append_of_le_length (by (first|lia|omega)), List.take_of_length_le (by (first|lia|omega))]
 ·refine List.map_congr_left fun i _ => ?_
  show ((g ++ rest).drop ((i + 1) * k)).take k = _
  rw [Nat.add_mul, Nat.one_mul, Nat.add_comm, <- List.drop_drop, <- hg, List.drop_left]
theorem qR {k : Nat} (hk : k = 2 \/ k = 3) : ∀ {gs : List (List Int)}, (∀ g ∈ gs, g.length = k) -> grp k gs.flatten = gs
 | [], _ => by
  unfold grp
  rcases hk with rfl | rfl <;> rfl
 | g :: gs, h => by
  rw [List.flatten_cons, grp_cons hk (h g (List.mem_cons_self ..)), qR hk fun x hx => h x (List.mem_cons_of_mem _ hx)]
theorem CodeParts.h3 {hs rs : List (List Int)} (c : CodeParts hs rs) : ∀ g ∈ hs, g.length = 3 := fun g hg => by
 obtain ⟨j, hj⟩ := List.mem_iff_getElem?.mp hg
 obtain ⟨_, _, _, rfl, _⟩ := c.heads j g hj
 rfl
theorem CodeParts.r2 {hs rs : List (List Int)} (c : CodeParts hs rs) : ∀ g ∈ rs, g.length = 2 := fun g hg => by
 obtain ⟨_, _, rfl, _⟩ := c.rows g hg
 rfl
theorem CodeParts.headNums {hs rs : List (List Int)} (c : CodeParts hs rs) : headNums (codeL hs rs) = hs.flatten := by
 show List.take (3 * ((hs.length : Int)).toNat) (hs.flatten ++ rs.flatten) = _
 have := xU c.h3
 rw [Int.toNat_natCast, List.take_append_of_le_length (by (first|lia|omega)), List.take_of_length_le (by (first|lia|omega))]
theorem CodeParts.rowNums {hs rs : List (List Int)} (c : CodeParts hs rs) : rowNums (codeL hs rs) = rs.flatten := by
 show List.drop (1 + 3 * ((hs.length : Int)).toNat) ((hs.length : Int) :: (hs.flatten ++ rs.flatten)) = _
 have := xU c.h3
 rw [Int.toNat_natCast, Nat.add_comm, List.drop_succ_cons, show 3 * hs.length = hs.flatten.length by (first|lia|omega), List.drop_left]
theorem CodeParts.ok {hs rs : List (List Int)} (c : CodeParts hs rs) : CodeOk (codeL hs rs) := by
 have l3 := xU c.h3
 have l2 := xU c.r2
 have a1 := c.h1
 have a2 := c.h16
 have a3 := c.r1
 have nr : (L2.rowNums (codeL hs rs)).length / 2 = rs.length := by rw [c.rowNums, l2]; (first|lia|omega)
 refine ⟨⟨_, _, rfl, by (first|lia|omega), by (first|lia|omega), ?_, ?_⟩, fun i g hg => ?_, fun g hg => ?_⟩
 ·rw [List.length_append, l3, l2]; (first|lia|omega)
 ·rw [List.length_append, l3, l2, Int.toNat_natCast]; (first|lia|omega)
 ·rw [c.headNums, qR (.inr rfl) c.h3] at hg
  rw [nr]
  exact c.heads i g hg
 ·rw [c.rowNums, qR (.inl rfl) c.r2] at hg
  rw [nr]
  exact c.rows g hg
end L2

namespace L2
open PySem PySem.Spec PyProof.Rows
def FlyS (X : Cx) (E : St -> XK) : Value -> Shared -> Prop := fun e s1 => ∃ x C d pins σ H, e = .ref x /\ Inv X pins σ H s1 /\ H x = some (ExO x C d) /\ Tb X pins H x s1.heap /\ E σ (.ref C) d H
abbrev Cx.excS (X : Cx) (E : St -> XK) : Cx := X.wish (FlyS X E)
def tCallS (sp : Sp) (E : St -> XK) (t : TA) : TE := fun σ H Q => t σ H fun vs H1 => sp vs H1 Q (E σ)
section
variable {X : Cx}
theorem cxe_flyS {E : St -> XK} {pins : List (Addr × Obj)} {σ : St} {H : Hp} {s s' : Shared} {e : Value} (I : Inv X pins σ H s) (h : CXE X.prog X.w X.stack H s (E σ) e s') : FlyS X E e s' := by
 obtain ⟨x, C, d, H', rfl, ho, hg, u, hok, hx, ⟨oe, vs, T, oT, ts, ge, hd, h1, hTx, hT, lo, gT, dT, h3⟩, q⟩ := h
 have I' : Inv X pins σ H' s' := I.call' (ch := []) ho u hok hg fun b z => (nomatch z)
 refine ⟨x, C, d, pins, σ, H', rfl, I', hx, ⟨oe, vs, ge, hd, .inr ⟨T, oT, ts, .none, h1, hTx, ⟨hT, Nat.le_trans I.sz lo, Nat.ne_of_gt (Nat.lt_of_lt_of_le I.lt lo), fun p hp z => ?_⟩, gT, dT, h3, .inl rfl⟩⟩, q⟩
 have := Heap.lt_size (I.pin p hp).1
 rw [z] at this
 exact absurd (Nat.lt_of_lt_of_le this lo) (Nat.lt_irrefl _)
theorem kG {x : Str} {p pos : Pos} {e : Expr} {es : List Expr} {t : TA} {k n : Nat} {ps : List Str} {sp : Sp} {E : St -> XK} (C : Cal X.prog X.w X.K X.mg X.base (CXE X.prog X.w) k x ps sp) (hr : Room n X.A) (hg : Gl (X.excS E) x) (ha : PA (X.excS E) (e :: es) t) (hk : k <= n := by first | decide | (first|lia|omega))
  (hdb : (x == ("__debug__" : Str)) = false := by decide) (he : starEach (e :: es) X.env = (false, eval e X.env) :: starEach es X.env := by rfl) (hpl : (backTo pos (starEach es X.env)).any (·.1) = false := by rfl) :
  PE (X.excS E) (.Call (.Name x p) (e :: es) [] pos) (tCallS sp E t) := by
 obtain ⟨f, fd, F, hm, kp, hb⟩ := C.ex
 refine ⟨?_⟩
 intro pins s σ H Q I h
 refine wpAny_Call_Name_kw (qV I hg hm ?_ hdb)
 refine PySem.W.callWith_K (h₀ := X.base) I.ok.mod.kin kp (thn (ha pos pins s σ H _ I h) fun us s1 ⟨vs, H1, I1, r, q⟩ => ⟨I1.kIn, ?_⟩) he hpl
 have hl : us.length = ps.length := by rw [<- r.length]; exact F.len _ _ _ _ q
 have hb' := hb s1 us I1.kIn (by rw [List.append_nil]; exact hl)
 rw [List.append_nil] at hb'
 refine wpAny_call (codeAny_mono (F.run X.A X.stack s1 H1 ⟨us, []⟩ us vs Q (E σ) (hr.mono hk) I1.unwish.env0 hb' r q) fun rr s' hq => ?_)
 cases rr with
 | error e => exact cxe_flyS I1.unwish hq
 | ok fl =>
  cases fl with
  | ret u => exact I1.after hq
  | next => exact False.elim hq
  | brk => exact False.elim hq
  | cont => exact False.elim hq
def tTryS (K : PySem.W.Frag) (N i : Nat) (CE : Addr) (tb : (St -> XK) -> TS) (th : TS) : TS := fun D σ H =>
 tb (fun σ1 cls dx H1 => ∃ C d, cls = .ref C /\ dx = some d /\ Mch K C CE /\ ∀ (x : Addr), H1 x = some (ExO x C (some d)) -> th (behind D i) (σ1.set i (some (.ref x))) H1) D σ H
theorem ps_tryS {body suite : List Stmt} {b0 : Stmt} {x n : Str} {i : Nat} {CE : Addr} {tb : (St -> XK) -> TS} {th : TS} {np hpos pos : Pos} (hN : X.N.Nodup) (hi : X.N[i]? = some n) (hl : X.env.scope.names.lookup n = some .local) (hg : Gl X x) (hm : X.mg x = some (.ref CE))
  (hb : ∀ pn E', PSs ((X.pinned pn).excS E') body (tb E')) (hh : ∀ v, PSs (X.mark v) (b0 :: suite) th)
  (hst : X.stack = X.env :: X.outer := by rfl) (hfr : X.env.frame = some X.env.locals := by rfl) (hdb : (x == ("__debug__" : Str)) = false := by decide) :
  PS X (.Try body [.ExceptHandler (some (.Name x np)) (some n) (b0 :: suite) hpos] [] [] pos) (tTryS X.K X.N.length i CE tb th) := by
 refine ⟨?_⟩
 intro pins s σ H D I h
 refine wpAny_Try_except ?_
 refine wpAny_mono (hb (X.pn ++ pins) _ [] s σ H D (I.topin.wish _) h) (fun f s1 h1 => ?_) fun e s1 h1 => ?_
 ·cases f with
  | next => obtain ⟨σ1, H1, I1, q⟩ := h1; exact wpAny_execs_nil ⟨σ1, H1, I1.unwish.unpin, q⟩
  | brk => obtain ⟨σ1, H1, I1, q⟩ := h1; exact ⟨σ1, H1, I1.unwish.unpin, q⟩
  | cont => obtain ⟨σ1, H1, I1, q⟩ := h1; exact ⟨σ1, H1, I1.unwish.unpin, q⟩
  | ret u => obtain ⟨v, σ1, H1, I1, r, q⟩ := h1; exact ⟨v, σ1, H1, I1.unwish.unpin, r, q⟩
 ·obtain ⟨y, C0, d0, pins1, σ1, H1, rfl, I1, hy, tb1, C, d, ec, ed, mc, q⟩ := h1
  cases ec
  cases ed
  refine fly_note (X := X.pinned (X.pn ++ pins)) I1 hst hfr I1.ok.frames hy tb1 fun s2 I2 t2 => fly_set (to := none) I2 hy t2 fun s3 I3 t3 => ?_
  obtain ⟨oe, vs, ge, hcl, hdi, hda, hz⟩ := ExO.get I3.hok hy
  have J3 : Inv X pins σ1 H1 s3 := I3.unpin
  refine wpAny_handleBy_cons (codeAny_handlers_test ?_) (by intro z; cases z)
  refine qV (X := X.mark (.ref y)) (J3.mark _) hg hm ?_ hdb
  refine exc_matches J3.kIn mc ge hcl ?_
  refine codeAny_handlers_suite_as ?_
  refine fly_set (X := (X.pinned (X.pn ++ pins))) (to := none) I3 hy t3 fun s4 I4 t4 => ?_
  have J4 : Inv X pins σ1 H1 s4 := I4.unpin
  refine wZ (X := X.mark (.ref y)) (J4.mark _) hN hi (.inl hl) (v := .ref y) rfl (fun s5 I5 => ?_) (.inr hl)
  refine wpAny_mono (hh (.ref y) pins s5 _ H1 (behind D i) I5 (q y hy)) (fun f s6 h6 => ?_) fun _ _ z => z.elim
  have go : ∀ {σ6 : St} {H6 : Hp} {P : Flow -> Shared -> Prop}, Inv (X.mark (.ref y)) pins σ6 H6 s6 -> (∀ s7, Inv X pins (σ6.set i none) H6 s7 -> P f s7) -> wpAny (model X.prog X.w) X.A (do bindName X.env n .none; unbindBehindTheSuite X.env n hpos) (fun _ s7 => P f s7) X.xe s6 :=
   fun {σ6 H6 P} I6 k => name_gone (Inv.unmark I.ok.hd I6) hN hi hl k
  cases f with
  | next => obtain ⟨σ6, H6, I6, q6⟩ := h6; exact go (P := SP X pins D) I6 fun s7 I7 => ⟨_, H6, I7, q6⟩
  | brk => obtain ⟨σ6, H6, I6, q6⟩ := h6; exact go (P := SP X pins D) I6 fun s7 I7 => ⟨_, H6, I7, q6⟩
  | cont => obtain ⟨σ6, H6, I6, q6⟩ := h6; exact go (P := SP X pins D) I6 fun s7 I7 => ⟨_, H6, I7, q6⟩
  | ret u => obtain ⟨v, σ6, H6, I6, r, q6⟩ := h6; exact go (P := SP X pins D) I6 fun s7 I7 => ⟨v, _, H6, I7, r, q6⟩
end
end L2

namespace L2
open PySem PySem.W PySem.Spec PySem.Calls PyProof.Rows
section
variable {prog : Program} {w : World} {A : Around} {E : Value -> Shared -> Prop} {K : Frag} {C : Addr} {s : Shared} {x : Addr} {ox : Obj} {od : Option Obj}
theorem exc_class {Q : Option Value -> Shared -> Prop} (X : K.In s.heap) (I : InstAt s.heap x ox C od) (Ec : ExCls K C) (ha : findIn K (.ref C) "__class__" = some (some (.builtin "object.__class__")))
  (hn : specialIn K (.builtin "object.__class__") "__get__" = some (some (.builtin "getset_descriptor.__get__"))) (htk : takesIn K (.builtin "object.__class__") = some true)
  (hq : Q (some (.ref C)) { s with toks := s.toks + 1 }) : wpAny (model prog w) A (getAttr? (.ref x) "__class__") Q E s := by
 have hf : findObj K C od "__class__" = some (.bind (.builtin "getset_descriptor.__get__") (.builtin "object.__class__")) := by
  obtain ⟨cd, hcd, _⟩ := Ec.cd
  simp [findObj, hcd, ha, hn, htk]
 obtain ⟨h, g, d, t, os⟩ := s
 have L0 := I.type (M := model prog w)
 have L1 := looks_findIn (M := model prog w) X Ec.ga
 have L2' := looks_findIn (M := model prog w) X Ec.noHook
 have L3 := looks_find (M := model prog w) X I hf
 have Lb : PySem.W.Looks (model prog w) h (isInstance (.ref x) (.type "BaseException")) true := L0.andThen (looks_mroIn X Ec.base)
 have f3 := F.excAttr_ValueError.ga.bind (.ref x)
 have hk : builtinKind "BaseException.__getattribute__" = some .slot := by decide +kernel
 have hsplit : splitId "BaseException.__getattribute__" = some ("BaseException", "__getattribute__") := by decide +kernel
 unfold getAttr? getAttrBy? getAttrBy
 refine wpAny_bind (wpAny_mkText (wpAny_bind (wpAny_attempt (wpAny_holding (wpAny_bind (L0.at (wpAny_bind (L1.at ?_))))))))
 show wpAny _ _ (getAttrByItsOwn _ _ _ _ _ _) _ _ _
 unfold getAttrByItsOwn
 refine wpAny_bind (L2'.at (wpAny_bind (wpAny_attempt (wpAny_holding ?_))))
 unfold callGetattribute
 have hx0 : (false && onTheHeap (Value.builtin "BaseException.__getattribute__")) = false := rfl
 rw [hx0]
 unfold boundAndCalled
 show wpAny _ _ (bindSpecial _ _ >>= _) _ _ _
 rw [f3]
 refine wpAny_bind (wpAny_pure (wpAny_call (codeAny_call_builtin F.excAttr_ValueError.ga.plain F.entry_bexc_ga (@check_slot (model prog w) _ _ _ "BaseException.__getattribute__" "BaseException" "__getattribute__" (.ref x) [.str "__class__" t] [] _ hk hsplit Lb (F.args_bexc_ga _ _) ?_))))
 refine wpAny_bind (wpAny_pure (wpAny_bind (wpAny_pure (wpAny_bind (L0.at (wpAny_bind (L3.at ?_)))))))
 show wpAny _ _ (Builtin.ObjectAttr.bindTo (Value.builtin "getset_descriptor.__get__") (Value.builtin "object.__class__") (Value.ref x) (Value.ref C)) _ _ _
 show wpAny _ _ (holding [Value.builtin "object.__class__"] (call (Value.builtin "getset_descriptor.__get__") [Value.builtin "object.__class__", Value.ref x, Value.ref C]) >>= ret) _ _ _
 refine wpAny_bind (wpAny_holding (wpAny_call (class_get X I Ec.obj ?_)))
 refine wpAny_pure ?_
 show wpAny _ _ (handedOut (Value.ref C)) _ _ _
 rw [handedOut_of (v := Value.ref C) rfl]
 exact wpAny_pure (wpAny_pure hq)
theorem kitx_exc (Ec : ExCls K C) (ha : findIn K (.ref C) "__class__" = some (some (.builtin "object.__class__")))
  (hn : specialIn K (.builtin "object.__class__") "__get__" = some (some (.builtin "getset_descriptor.__get__"))) (htk : takesIn K (.builtin "object.__class__") = some true) : KitX K (.ref x) (.ref C) (fun h => InstAt h x ox C od) where
 ty := fun _ _ _ I => I.type
 it := fun _ _ X _ => by
  obtain ⟨cdD, hcD, _⟩ := Ec.cd
  unfold clsIn at hcD
  split at hcD
  ·rename_i c' d' cd' sl' ho
   intro A' Q' E' s' k q
   unfold isType loadHead
   exact wpAny_bind (wpAny_loadPart (k _ _ (X _ _ ho)) (wpAny_pure q))
  ·cases hcD
 ne := fun h tp dd its n sl X htp => by
  obtain ⟨cdD, hcD, _⟩ := Ec.cd
  refine Bool.eq_false_iff.mpr fun q => ?_
  have e : C = tp := Value.ref.inj (beq_iff_eq.mp q)
  subst e
  unfold clsIn at hcD
  split at hcD
  ·rename_i c' d' cd' sl' ho
   have z := (X _ _ ho).symm.trans htp
   cases z
  ·cases hcD
 ca := fun X I k => exc_class X I Ec ha hn htk k
end
structure IsCls (K : Frag) (C : Addr) : Prop where
 ha : findIn K (.ref C) "__class__" = some (some (.builtin "object.__class__"))
 hn : specialIn K (.builtin "object.__class__") "__get__" = some (some (.builtin "getset_descriptor.__get__"))
 htk : takesIn K (.builtin "object.__class__") = some true
theorem kit_ref {K : Frag} {C D : Addr} {b : Bool} (h : subIn K (.ref C) (.ref D) = some b) (ty : typeIn K (.ref D) = some (.type "type")) (cl : (clsIn K D).isSome = true) (self : subIn K (.ref C) (.ref C) = some true) : kitOne K (.ref C) (.ref D) = some b := by
 unfold kitOne
 by_cases e : (Value.ref C == Value.ref D) = true
 ·rw [if_pos e]
  have e2 : C = D := Value.ref.inj (beq_iff_eq.mp e)
  subst e2
  rw [self] at h
  exact h
 ·rw [if_neg e]
  unfold kitCls
  simp only [cl, ty, beq_self_eq_true, Bool.and_self, if_true]
  exact h
end L2

namespace L2
open PySem PySem.Spec PyProof.Rows
theorem ObjOk.here {P : Program} {w : World} {H : Hp} {h : Heap} {a : Addr} {o : HO} (x : ObjOk P w H h a o) : ∃ u, h.get? a = some u := by
 cases o with
 | lst xs => obtain ⟨_, _, _, _, e⟩ := x; exact ⟨_, e⟩
 | tup xs => obtain ⟨_, _, _, o, e, _⟩ := x; exact ⟨_, e⟩
 | dK kvs => obtain ⟨_, _, _, _, o, _, _, e, _⟩ := x; exact ⟨_, e⟩
 | dT kvs => obtain ⟨_, _, _, _, o, _, _, e, _⟩ := x; exact ⟨_, e⟩
 | set S n => obtain ⟨o, _, _, _, e, _⟩ := x; exact ⟨_, e⟩
 | ins C dx fs => obtain ⟨_, _, _, e, _⟩ := x; exact ⟨_, e⟩
 | own y => exact x
 | xd fs => obtain ⟨_, ⟨_, _, _, e, _⟩, _⟩ := x; exact ⟨_, e⟩
 | rng lo hi => obtain ⟨_, _, _, e⟩ := x; exact ⟨_, e⟩
 | frz ob u => obtain ⟨e, _⟩ := x; exact ⟨_, e⟩
 | tbl ps => exact ⟨_, x⟩
 | met f y => exact ⟨_, x⟩
 | ext φ => exact x.2.1
section
variable {X : Cx} {pins : List (Addr × Obj)} {σ : St} {H : Hp} {s : Shared} {h' : Heap}
theorem Inv.laidAt {a : Addr} {o : HO} {t' : Nat} (I : Inv X pins σ H s) (k : ∀ b u, s.heap.get? b = some u -> h'.get? b = some u) (hp : s.heap.get? a = none) (new : ObjOk X.prog X.w (upd H a o) h' a o) :
  H a = none /\ Inv X pins σ (upd H a o) { s with heap := h', toks := t' } := by
 have hn : H a = none := by
  cases q : H a with
  | none => rfl
  | some u => obtain ⟨v, e⟩ := ObjOk.here (I.hok a u q); rw [hp] at e; cases e
 refine ⟨hn, I.un ⟨fun b u e _ _ _ => k b u e, fun b u e _ _ _ => ⟨u.slots, k b u e⟩, fun b u e n _ => ?_, fun b u e _ => ⟨u, k b u e⟩, fun b xs e => ?_, fun b u xs e => ?_, fun b ps e => ?_⟩ fun b u e => ?_⟩
 ·rw [zJ (fun z => by rw [z, hp] at e; cases e)]; exact n
 ·rw [zJ (zK e hn)]; exact e
 ·rw [zJ (zK e hn)]; exact e
 ·exact ⟨#[], by rw [zJ (zK e hn), e]; simp⟩
 ·by_cases z : b = a
  ·subst z; rw [zB] at e; cases e; exact new
  ·rw [zJ z] at e
   refine (I.hok b u e).stay (fun c v _ q => k c v q) (fun c q => ?_) fun c xs q => ?_
   ·rw [zJ (zK q hn)]; exact q
   ·rw [zJ (zK q hn)]; exact q
end
structure ExBare (K : PySem.W.Frag) (C : Addr) : Prop where
 cls : ∃ nm q N bs bm hdct sn sub ab col dd k0 k1 k2 k3 k5, K.lookup C = some (excClassObj nm q C N bs bm hdct sn sub ab col dd k0 k1 k2 k3 k5 "ValueError.__new__") /\ bm.contains (.type "BaseException") = true /\ (∀ h, K.In h -> OwnTail h bmValue bm) /\ ∀ h, K.In h -> ∃ mN, h.Ns N mN /\ mN "__init__" = none
def tRaise0 (C : Addr) (E : XK) : TS := fun _ _ H => ∀ x, H x = none -> E (.ref C) none (upd H x (ExO x C none))
section
variable {X : Cx} {E : XK} {C : Addr} {x : Str} {np cpos pos : Pos}
theorem wG (M : ExBare X.K C) (hg : Gl (X.exc E) x) (hm : X.mg x = some (.ref C)) (hc : X.calm = true := by rfl) (hdb : (x == ("__debug__" : Str)) = false := by decide) :
  PS (X.exc E) (.Raise (some (.Call (.Name x np) [] [] cpos)) none pos) (tRaise0 C E) := by
 refine ⟨?_⟩
 intro pins s σ H D I h
 obtain ⟨nm, q, N, bs, bm, hdct, sn, sub, ab, col, dd, k0, k1, k2, k3, k5, hC, hb, T, hN⟩ := M.cls
 obtain ⟨mN, nsN, ni⟩ := hN _ I.kIn
 show wpAny (model X.prog X.w) X.A (exec _ X.env) _ (FlyW X E) s
 refine wpAny_Raise_call_subT F.excBase_ValueError hb (I.ok.hd hc) rfl ni (C := C) (nm := nm) (q := q) (N := N) (bs := bs) (hdct := hdct) (sn := sn) (sub := sub) (ab := ab) (col := col) (dd := dd) (k0 := k0) (k1 := k1) (k2 := k2) (k3 := k3) (k5 := k5) (qV (X := X.exc E) I hg hm ⟨rfl, ?_⟩ hdb)
 refine PySem.evalArgs_none ⟨rfl, Nat.zero_le _, I.kIn _ _ hC, nsN, T _ I.kIn, fun h' e me => ?_⟩
 obtain ⟨t, he, _, _⟩ := me.there
 obtain ⟨hn, I2⟩ := I.unwish.laidAt (t' := s.toks) (a := e) (o := ExO e C none) me.keeps me.new (ExO.ok he rfl rfl rfl (show 6 <= 6 by decide))
 exact ⟨e, C, none, pins, σ, _, rfl, I2, zB, ⟨_, _, he, rfl, .inl rfl⟩, h e hn⟩
end
def tTryO (K : PySem.W.Frag) (N i : Nat) (CE : Addr) (tb : (St -> XK) -> TS) (th : TS) : TS := fun D σ H =>
 tb (fun σ1 cls dx H1 => ∃ C, cls = .ref C /\ Mch K C CE /\ ∀ (x : Addr), H1 x = some (ExO x C dx) -> th (behind D i) (σ1.set i (some (.ref x))) H1) D σ H
section
variable {X : Cx}
theorem ps_tryO {body suite : List Stmt} {b0 : Stmt} {x n : Str} {i : Nat} {CE : Addr} {tb : (St -> XK) -> TS} {th : TS} {np hpos pos : Pos} (hN : X.N.Nodup) (hi : X.N[i]? = some n) (hl : X.env.scope.names.lookup n = some .local) (hg : Gl X x) (hm : X.mg x = some (.ref CE))
  (hb : ∀ pn E', PSs ((X.pinned pn).excS E') body (tb E')) (hh : ∀ v, PSs (X.mark v) (b0 :: suite) th)
  (hst : X.stack = X.env :: X.outer := by rfl) (hfr : X.env.frame = some X.env.locals := by rfl) (hdb : (x == ("__debug__" : Str)) = false := by decide) :
  PS X (.Try body [.ExceptHandler (some (.Name x np)) (some n) (b0 :: suite) hpos] [] [] pos) (tTryO X.K X.N.length i CE tb th) := by
 refine ⟨?_⟩
 intro pins s σ H D I h
 refine wpAny_Try_except ?_
 refine wpAny_mono (hb (X.pn ++ pins) _ [] s σ H D (I.topin.wish _) h) (fun f s1 h1 => ?_) fun e s1 h1 => ?_
 ·cases f with
  | next => obtain ⟨σ1, H1, I1, q⟩ := h1; exact wpAny_execs_nil ⟨σ1, H1, I1.unwish.unpin, q⟩
  | brk => obtain ⟨σ1, H1, I1, q⟩ := h1; exact ⟨σ1, H1, I1.unwish.unpin, q⟩
  | cont => obtain ⟨σ1, H1, I1, q⟩ := h1; exact ⟨σ1, H1, I1.unwish.unpin, q⟩
  | ret u => obtain ⟨v, σ1, H1, I1, r, q⟩ := h1; exact ⟨v, σ1, H1, I1.unwish.unpin, r, q⟩
 ·obtain ⟨y, C0, d0, pins1, σ1, H1, rfl, I1, hy, tb1, C, ec, mc, q⟩ := h1
  cases ec
  refine fly_note (X := X.pinned (X.pn ++ pins)) I1 hst hfr I1.ok.frames hy tb1 fun s2 I2 t2 => fly_set (to := none) I2 hy t2 fun s3 I3 t3 => ?_
  obtain ⟨oe, vs, ge, hcl, hdi, hda, hz⟩ := ExO.get I3.hok hy
  have J3 : Inv X pins σ1 H1 s3 := I3.unpin
  refine wpAny_handleBy_cons (codeAny_handlers_test ?_) (by intro z; cases z)
  refine qV (X := X.mark (.ref y)) (J3.mark _) hg hm ?_ hdb
  refine exc_matches J3.kIn mc ge hcl ?_
  refine codeAny_handlers_suite_as ?_
  refine fly_set (X := (X.pinned (X.pn ++ pins))) (to := none) I3 hy t3 fun s4 I4 t4 => ?_
  have J4 : Inv X pins σ1 H1 s4 := I4.unpin
  refine wZ (X := X.mark (.ref y)) (J4.mark _) hN hi (.inl hl) (v := .ref y) rfl (fun s5 I5 => ?_) (.inr hl)
  refine wpAny_mono (hh (.ref y) pins s5 _ H1 (behind D i) I5 (q y hy)) (fun f s6 h6 => ?_) fun _ _ z => z.elim
  have go : ∀ {σ6 : St} {H6 : Hp} {P : Flow -> Shared -> Prop}, Inv (X.mark (.ref y)) pins σ6 H6 s6 -> (∀ s7, Inv X pins (σ6.set i none) H6 s7 -> P f s7) -> wpAny (model X.prog X.w) X.A (do bindName X.env n .none; unbindBehindTheSuite X.env n hpos) (fun _ s7 => P f s7) X.xe s6 :=
   fun {σ6 H6 P} I6 k => name_gone (Inv.unmark I.ok.hd I6) hN hi hl k
  cases f with
  | next => obtain ⟨σ6, H6, I6, q6⟩ := h6; exact go (P := SP X pins D) I6 fun s7 I7 => ⟨_, H6, I7, q6⟩
  | brk => obtain ⟨σ6, H6, I6, q6⟩ := h6; exact go (P := SP X pins D) I6 fun s7 I7 => ⟨_, H6, I7, q6⟩
  | cont => obtain ⟨σ6, H6, I6, q6⟩ := h6; exact go (P := SP X pins D) I6 fun s7 I7 => ⟨_, H6, I7, q6⟩
  | ret u => obtain ⟨v, σ6, H6, I6, r, q6⟩ := h6; exact go (P := SP X pins D) I6 fun s7 I7 => ⟨v, _, H6, I7, r, q6⟩
end
section
open PySem.W
def ExcAt (K : Frag) (H : Hp) (x C : Addr) : Prop := ∃ dx, H x = some (ExO x C dx) /\ (∀ d, dx = some d -> ∃ fs, H d = some (XdO d fs)) /\ ExCls K C /\ IsCls K C
theorem ExcAt.inst {X : Cx} {pins : List (Addr × Obj)} {σ : St} {H : Hp} {s : Shared} {x C : Addr} (I : Inv X pins σ H s) (h : ExcAt X.K H x C) : ∃ ox od, InstAt s.heap x ox C od /\ ExCls X.K C /\ IsCls X.K C := by
 obtain ⟨dx, hx, hd, Ec, Ic⟩ := h
 obtain ⟨ox, vs, ge, hcl, hdi, hda, _⟩ := ExO.get I.hok hx
 cases dx with
 | none => exact ⟨ox, none, ⟨ge, hcl, by unfold notCls; rw [hda], by rw [hdi]; trivial⟩, Ec, Ic⟩
 | some d =>
  obtain ⟨fs, hf⟩ := hd d rfl
  obtain ⟨mA, n, _, _⟩ := XdO.get I.hok hf
  obtain ⟨od, hod, hl⟩ := lookIn_ns n
  exact ⟨ox, some od, ⟨ge, hcl, by unfold notCls; rw [hda], by rw [hdi]; exact hod⟩, Ec, Ic⟩
def rIsO (K : Frag) : List V -> Hp -> VK -> Prop := fun xs H Q => ∃ x C b, ExcAt K H x C /\
 ((∃ n, xs = [.ref x, .ty n] /\ kitOne K (.ref C) (.type n) = some b) \/ (∃ D, xs = [.ref x, .ref D] /\ kitOne K (.ref C) (.ref D) = some b) \/ ∃ (tp : Addr) (Ds : List Addr), xs = [.ref x, .ref tp] /\ H tp = some (.tup (Ds.map V.ref)) /\ kitAny K (.ref C) (Ds.map Value.ref) = some b) /\ Q (.bl b) H
theorem vals_ref : ∀ {ns : List Addr} {us : List Value}, Vals (ns.map V.ref) us -> us = ns.map Value.ref
 | [], _, .nil => rfl
 | n :: ns, _, .cons h t => by
  rw [vals_ref t, List.map_cons]
  congr 1
theorem call_isO {X : Cx} : CallR X (.builtin "isinstance") (rIsO X.K) := by
 intro pins s σ H xs us Q I r h
 obtain ⟨x, C, b, hx, hxs, q⟩ := h
 obtain ⟨ox, od, J, Ec, Ic⟩ := hx.inst I
 rcases hxs with ⟨n, rfl, e⟩ | ⟨D, rfl, e⟩ | ⟨tp, Ds, rfl, ht, e⟩
 ·obtain ⟨u, w', rfl, ru, rw'⟩ := vals2 r
  cases ru; cases rw'
  exact kia_one (kitx_exc Ec Ic.ha Ic.hn Ic.htk) I.kIn J e (fun z => nomatch z) fun tk => ⟨.bl b, H, I.tok tk, rfl, q⟩
 ·obtain ⟨u, w', rfl, ru, rw'⟩ := vals2 r
  cases ru; cases rw'
  exact kia_one (kitx_exc Ec Ic.ha Ic.hn Ic.htk) I.kIn J e (fun z => nomatch z) fun tk => ⟨.bl b, H, I.tok tk, rfl, q⟩
 ·obtain ⟨u, w', rfl, ru, rw'⟩ := vals2 r
  cases ru; cases rw'
  obtain ⟨_, its2, r2, p⟩ := (show ObjOk X.prog X.w H s.heap tp (.tup (Ds.map V.ref)) from I.hok tp _ ht)
  obtain ⟨⟨oc, od', oda, osl⟩, h1, h2, n2, h3⟩ := p
  dsimp only at h2 h3
  subst h2 h3
  have hv := vals_ref r2
  subst hv
  exact kia_tup (kitx_exc Ec Ic.ha Ic.hn Ic.htk) I.kIn J h1 e (fun z => nomatch z) fun tk => ⟨.bl b, H, I.tok tk, rfl, q⟩
end
end L2

namespace L2
open PySem
def kinds7 : List String := ["int", "bool", "str", "NoneType", "list", "tuple", "dict"]
structure KitO (K : PySem.W.Frag) : Prop where
 ki : ∀ t ∈ kinds7, PySem.W.kitOne K (.type t) (.type "int") = some (t == "int" || t == "bool")
 kb : ∀ t ∈ kinds7, PySem.W.kitOne K (.type t) (.type "bool") = some (t == "bool")
 kl : ∀ t ∈ kinds7, PySem.W.kitOne K (.type t) (.type "list") = some (t == "list")
 ks : ∀ t ∈ kinds7, PySem.W.kitAny K (.type t) (["list", "tuple"].map Value.type) = some (t == "list" || t == "tuple")
def Kn (K : PySem.W.Frag) (H : Hp) (v : V) : Prop := ∃ t ∈ kinds7, TyOf K H v (.type t)
def isWh : V -> Bool
 | .int _ => true
 | _ => false
theorem TyOf.same {K : PySem.W.Frag} {H H' : Hp} {v : V} {t : Value} (h : TyOf K H v t) (g : Same H H') : TyOf K H' v t := by
 cases h with
 | non => exact .non
 | bl x => exact .bl x
 | int i => exact .int i
 | str x => exact .str x
 | flt x => exact .flt x
 | lst e => exact .lst (g _ _ e)
 | frz e => exact .frz (g _ _ e)
 | tup e => exact .tup (g _ _ e)
 | dK e => exact .dK (g _ _ e)
 | dT e => exact .dT (g _ _ e)
 | ins e a b c d m => exact .ins (g _ _ e) a b c d m
theorem Kn.same {K : PySem.W.Frag} {H H' : Hp} {v : V} (h : Kn K H v) (g : Same H H') : Kn K H' v := by
 obtain ⟨t, m, ty⟩ := h
 exact ⟨t, m, ty.same g⟩
theorem TyOf.wh {K : PySem.W.Frag} {H : Hp} {v : V} {t : String} (h : TyOf K H v (.type t)) : isWh v = (t == "int") := by
 cases h <;> rfl
theorem Kn.int {K : PySem.W.Frag} {H : Hp} (i : Int) : Kn K H (.int i) := ⟨"int", by decide, .int i⟩
theorem Kn.lst {K : PySem.W.Frag} {H : Hp} {a : Addr} {xs : List V} (e : H a = some (.lst xs)) : Kn K H (.ref a) := ⟨"list", by decide, .lst e⟩
theorem Kn.tup {K : PySem.W.Frag} {H : Hp} {a : Addr} {xs : List V} (e : H a = some (.tup xs)) : Kn K H (.ref a) := ⟨"tuple", by decide, .tup e⟩
inductive Thing (K : PySem.W.Frag) (H : Hp) : V -> Option (List V) -> Prop where
 | no {v : V} {t : String} (m : t ∈ kinds7) (n : t ≠ "list") (ty : TyOf K H v (.type t)) : Thing K H v none
 | yes {a : Addr} {xs : List V} (e : H a = some (.lst xs)) (k : ∀ x ∈ xs, Kn K H x) (l : xs.length <= 1000000) : Thing K H (.ref a) (some xs)
theorem Thing.same {K : PySem.W.Frag} {H H' : Hp} {v : V} {o : Option (List V)} (h : Thing K H v o) (g : Same H H') : Thing K H' v o := by
 cases h with
 | no m n ty => exact .no m n (ty.same g)
 | yes e k l => exact .yes (g _ _ e) (fun x m => (k x m).same g) l
theorem Thing.ints {K : PySem.W.Frag} {H : Hp} {a : Addr} {ns : List Int} (e : H a = some (.lst (ns.map V.int))) (l : ns.length <= 1000000) : Thing K H (.ref a) (some (ns.map V.int)) := .yes e (fun x m => by
 obtain ⟨n, _, rfl⟩ := List.mem_map.mp m
 exact Kn.int n) (by rw [List.length_map]; exact l)
def codeV (o : Option (List V)) : Prop := ∃ ns : List Int, o = some (ns.map V.int) /\ CodeOk ns
theorem all_wh : ∀ {xs : List V}, xs.all isWh = true -> ∃ ns : List Int, xs = ns.map V.int
 | [], _ => ⟨[], rfl⟩
 | x :: r, h => by
  rw [List.all_cons, Bool.and_eq_true] at h
  obtain ⟨ns, e⟩ := all_wh h.2
  cases x with
  | int i => exact ⟨i :: ns, by rw [e] <;> rfl⟩
  | _ => cases h.1
theorem ints_wh (ns : List Int) : (ns.map V.int).all isWh = true := by
 rw [List.all_eq_true]
 intro x m
 obtain ⟨n, _, rfl⟩ := List.mem_map.mp m
 rfl
theorem ints_inj : ∀ {ns ms : List Int}, ns.map V.int = ms.map V.int -> ns = ms
 | [], [], _ => rfl
 | [], _ :: _, e => by cases e
 | _ :: _, [], e => by cases e
 | a :: r, b :: t, e => by
  rw [List.map_cons, List.map_cons] at e
  injection e with e1 e2
  injection e1 with e1
  rw [e1, ints_inj e2]
theorem xV {ns : List Int} : codeV (some (ns.map V.int)) ↔ CodeOk ns := by
 constructor
 ·rintro ⟨ms, e, h⟩
  injection e with e
  have : ns = ms := ints_inj e
  rw [this]; exact h
 ·exact fun h => ⟨ns, rfl, h⟩
theorem codeV_odd {xs : List V} (h : xs.all isWh = false) : ¬ codeV (some xs) := by
 rintro ⟨ns, e, _⟩
 injection e with e
 rw [e, ints_wh] at h
 cases h
theorem codeV_none : ¬ codeV none := fun ⟨_, e, _⟩ => by cases e
def wholesV : Option (List V) -> Bool
 | none => false
 | some xs => xs.all isWh
def spWholeX (K : PySem.W.Frag) : Sp := fun vs H Q _ => ∃ v, vs = [v] /\ Kn K H v /\ Q (.bl (isWh v)) H
def spWholesX (K : PySem.W.Frag) : Sp := fun vs H Q _ => ∃ v o, vs = [v] /\ Thing K H v o /\ ∀ H', Same H H' -> Q (.bl (wholesV o)) H'
def spIsCodeO (K : PySem.W.Frag) : Sp := fun vs H Q _ => ∃ v o, vs = [v] /\ Thing K H v o /\ (∀ ns : List Int, o ≠ some (ns.map V.int)) /\ ∀ H', Same H H' -> Q (.bl false) H'
def spIsCodeX (K : PySem.W.Frag) : Sp := fun vs H Q _ => ∃ v o, vs = [v] /\ Thing K H v o /\ ∀ r H', Same H H' -> (r = true ↔ codeV o) -> Q (.bl r) H'
def SqH (H : Hp) (a : Addr) (ys : List V) : Prop := H a = some (.lst ys) \/ H a = some (.tup ys)
theorem SqH.same {H H' : Hp} {a : Addr} {ys : List V} (h : SqH H a ys) (g : Same H H') : SqH H' a ys := h.imp (g _ _) (g _ _)
theorem SqH.sq {K : PySem.W.Frag} {H : Hp} {a : Addr} {ys : List V} (h : SqH H a ys) : Sq K H a ys := h.imp SqL.of SqT.of
theorem SqH.ty {K : PySem.W.Frag} {H : Hp} {a : Addr} {ys : List V} (h : SqH H a ys) : ∃ t, t ∈ kinds7 /\ (t == "list" || t == "tuple") = true /\ TyOf K H (.ref a) (.type t) := by
 rcases h with h | h
 ·exact ⟨"list", by decide, by decide, .lst h⟩
 ·exact ⟨"tuple", by decide, by decide, .tup h⟩
inductive Part (K : PySem.W.Frag) (H : Hp) (k : Nat) : V -> Option (List V) -> Prop where
 | no {v : V} {t : String} (m : t ∈ kinds7) (n : (t == "list" || t == "tuple") = false) (ty : TyOf K H v (.type t)) : Part K H k v none
 | bad {a : Addr} {ys : List V} (h : SqH H a ys) (n : ys.length ≠ k) : Part K H k (.ref a) none
 | ok {a : Addr} {ys : List V} (h : SqH H a ys) (n : ys.length = k) (kn : ∀ y ∈ ys, Kn K H y) : Part K H k (.ref a) (some ys)
theorem Part.same {K : PySem.W.Frag} {H H' : Hp} {k : Nat} {v : V} {o : Option (List V)} (h : Part K H k v o) (g : Same H H') : Part K H' k v o := by
 cases h with
 | no m n ty => exact .no m n (ty.same g)
 | bad h n => exact .bad (h.same g) n
 | ok h n kn => exact .ok (h.same g) n fun y m => (kn y m).same g
def joinV : List (Option (List V)) -> Option (List V)
 | [] => some []
 | none :: _ => none
 | some ys :: r => (joinV r).map (ys ++ ·)
theorem joinV_snoc {ys : List V} : ∀ {os : List (Option (List V))} {zs : List V}, joinV os = some zs -> joinV (os ++ [some ys]) = some (zs ++ ys)
 | [], zs, h => by
  cases h
  show (joinV []).map (ys ++ ·) = _
  show some (ys ++ []) = some ([] ++ ys)
  rw [List.append_nil, List.nil_append]
 | none :: _, zs, h => by cases h
 | some xs :: r, zs, h => by
  have h : (joinV r).map (xs ++ ·) = some zs := h
  cases e : joinV r with
  | none => rw [e] at h; cases h
  | some ws =>
   rw [e] at h
   cases h
   show (joinV (r ++ [some ys])).map (xs ++ ·) = some (xs ++ ws ++ ys)
   rw [joinV_snoc e]
   show some (xs ++ (ws ++ ys)) = _
   rw [List.append_assoc]
theorem joinV_none : ∀ {os : List (Option (List V))}, none ∈ os -> joinV os = none
 | none :: _, _ => rfl
 | some xs :: r, m => by
  have : none ∈ r := by
   rcases List.mem_cons.mp m with z | z
   ·cases z
   ·exact z
  show (joinV r).map (xs ++ ·) = none
  rw [joinV_none this] <;> rfl
theorem joinV_len {k : Nat} : ∀ {os : List (Option (List V))} {zs : List V}, (∀ ys, some ys ∈ os -> ys.length = k) -> joinV os = some zs -> zs.length = os.length * k
 | [], zs, _, h => by
  cases h
  exact (Nat.zero_mul _).symm
 | none :: _, zs, _, h => by cases h
 | some xs :: r, zs, hl, h => by
  have h : (joinV r).map (xs ++ ·) = some zs := h
  cases e : joinV r with
  | none => rw [e] at h; cases h
  | some ws =>
   rw [e] at h
   cases h
   have := joinV_len (fun ys m => hl ys (List.mem_cons_of_mem _ m)) e
   rw [List.length_append, List.length_cons, Nat.succ_mul, this, hl xs (List.mem_cons_self ..)]
   (first|lia|omega)
theorem joinV_mem : ∀ {os : List (Option (List V))} {zs : List V} {P : V -> Prop}, (∀ ys, some ys ∈ os -> ∀ y ∈ ys, P y) -> joinV os = some zs -> ∀ z ∈ zs, P z
 | [], zs, P, _, h, z, m => by
  cases h
  cases m
 | none :: _, zs, P, _, h, z, m => by cases h
 | some xs :: r, zs, P, hp, h, z, m => by
  have h : (joinV r).map (xs ++ ·) = some zs := h
  cases e : joinV r with
  | none => rw [e] at h; cases h
  | some ws =>
   rw [e] at h
   cases h
   rcases List.mem_append.mp m with q | q
   ·exact hp xs (List.mem_cons_self ..) z q
   ·exact joinV_mem (fun ys n => hp ys (List.mem_cons_of_mem _ n)) e z q
inductive Things (K : PySem.W.Frag) (H : Hp) (k : Nat) : V -> Option (List V) -> Prop where
 | no {v : V} {t : String} (m : t ∈ kinds7) (n : (t == "list" || t == "tuple") = false) (ty : TyOf K H v (.type t)) : Things K H k v none
 | seq {a : Addr} {xs : List V} {os : List (Option (List V))} (h : SqH H a xs) (p : Paired (Part K H k) xs os) (l : xs.length <= 1000) : Things K H k (.ref a) (joinV os)
theorem Things.same {K : PySem.W.Frag} {H H' : Hp} {k : Nat} {v : V} {o : Option (List V)} (h : Things K H k v o) (g : Same H H') : Things K H' k v o := by
 cases h with
 | no m n ty => exact .no m n (ty.same g)
 | seq h p l => exact .seq (h.same g) (Paired.imp (fun _ _ z => z.same g) p) l
theorem wS {α β : Type} {F : α -> β -> Prop} : ∀ {xs : List α} {ys : List β}, Paired F xs ys -> ∀ {y : β}, y ∈ ys -> ∃ x ∈ xs, F x y
 | _, _, .cons h t, y, m => by
  rcases List.mem_cons.mp m with z | z
  ·exact ⟨_, List.mem_cons_self .., by rw [z]; exact h⟩
  ·obtain ⟨x, n, q⟩ := wS t z
   exact ⟨x, List.mem_cons_of_mem _ n, q⟩
theorem Things.len {K : PySem.W.Frag} {H : Hp} {k : Nat} {v : V} {zs : List V} (h : Things K H k v (some zs)) (k3 : k <= 3) : (∃ n, zs.length = n * k) /\ zs.length <= 3000 /\ ∀ z ∈ zs, Kn K H z := by
 generalize ho : some zs = o at h
 cases h with
 | no m n ty => cases ho
 | @seq a xs os h p l =>
  have e := joinV_len (k := k) (fun ys m => by
   obtain ⟨x, _, q⟩ := wS p m
   cases q with
   | ok h n kn => exact n) ho.symm
  have lo := Paired.len p
  refine ⟨⟨_, e⟩, ?_, joinV_mem (fun ys m y hy => ?_) ho.symm⟩
  ·rw [e]
   exact Nat.le_trans (Nat.mul_le_mul (show os.length <= 1000 by (first|lia|omega)) k3) (by decide)
  ·obtain ⟨x, _, q⟩ := wS p m
   cases q with
   | ok h n kn => exact kn y hy
def spHeadsOfX (K : PySem.W.Frag) (CC : Addr) : Sp := fun vs H Q E => ∃ v o, vs = [v] /\ Thing K H v o /\ (∀ ns : List Int, o = some (ns.map V.int) -> CodeOk ns -> ∀ l H', Same H H' -> H l = none -> GrpAt H' l (grp 3 (headNums ns)) -> Q (.ref l) H') /\ (¬ codeV o -> ∀ H', Same H H' -> E (.ref CC) none H')
def spRowsOfX (K : PySem.W.Frag) (CC : Addr) : Sp := fun vs H Q E => ∃ v o, vs = [v] /\ Thing K H v o /\ (∀ ns : List Int, o = some (ns.map V.int) -> CodeOk ns -> ∀ l H', Same H H' -> H l = none -> GrpAt H' l (grp 2 (rowNums ns)) -> Q (.ref l) H') /\ (¬ codeV o -> ∀ H', Same H H' -> E (.ref CC) none H')
def spJoinedX (K : PySem.W.Frag) (CC : Addr) : Sp := fun vs H Q E => ∃ (v : V) (k : Nat) (o : Option (List V)), vs = [v, .int k] /\ k <= 3 /\ Things K H k v o /\ (∀ zs, o = some zs -> ∀ l H', Same H H' -> H l = none -> H' l = some (.lst zs) -> Q (.ref l) H') /\ (o = none -> ∀ H', Same H H' -> E (.ref CC) none H')
def toldV (zs ws : List V) : List V := .int ((zs.length : Int) / 3) :: (zs ++ ws)
def spCodeOfY (K : PySem.W.Frag) (CC : Addr) : Sp := fun vs H Q E => ∃ (v1 v2 : V) (o1 o2 : Option (List V)), vs = [v1, v2] /\ Things K H 3 v1 o1 /\ Things K H 2 v2 o2 /\ (∀ zs ws, o1 = some zs -> o2 = some ws -> codeV (some (toldV zs ws)) -> ∀ l H', Same H H' -> H l = none -> H' l = some (.lst (toldV zs ws)) -> Q (.ref l) H') /\
 ((∀ zs ws, o1 = some zs -> o2 = some ws -> ¬ codeV (some (toldV zs ws))) -> ∀ H', Same H H' -> E (.ref CC) none H')
theorem kit_no4 {K : PySem.W.Frag} {t a b c d : Value} (ha : PySem.W.kitOne K t a = some false) (hb : PySem.W.kitOne K t b = some false) (hc : PySem.W.kitOne K t c = some false) (hd : PySem.W.kitOne K t d = some false) : PySem.W.kitAny K t [a, b, c, d] = some false := by
 unfold PySem.W.kitAny
 rw [ha]
 show PySem.W.kitAny K t [b, c, d] = _
 unfold PySem.W.kitAny
 rw [hb]
 show PySem.W.kitAny K t [c, d] = _
 unfold PySem.W.kitAny
 rw [hc]
 show PySem.W.kitAny K t [d] = _
 unfold PySem.W.kitAny
 rw [hd] <;> rfl
def TpE (σ : St) (H : Hp) (te : TE) (P : List Int -> Prop) : Prop := ∀ H1, Same H H1 -> ∀ Q : VK, (∀ t ns H', Same H1 H' -> H' t = some (.tup (ns.map V.int)) -> P ns -> Q (.ref t) H') -> te σ H1 Q
def InE (σ : St) (te : TE) (n : Int) : Prop := ∀ H1 (Q : VK), Q (.int n) H1 -> te σ H1 Q
section
variable {σ : St} {H : Hp} {P : List Int -> Prop}
theorem InE.c {n : Int} : InE σ (tC (.int n)) n := fun H1 Q q => q
theorem InE.v {i : Nat} {n : Int} (e : σ[i]? = some (some (.int n))) : InE σ (tVar i) n := fun H1 Q q => ⟨_, e, q⟩
theorem InE.neg {te : TE} {n : Int} (h : InE σ te n) : InE σ (tUn (rU fun i => .int (-i)) te) (-n) := fun H1 Q q => h H1 _ ⟨n, rfl, q⟩
theorem InE.sub {a b : TE} {n m : Int} (h : InE σ a n) (g : InE σ b m) : InE σ (tOp (rI0 fun i j => .int (i - j)) a b) (n - m) := fun H1 Q q => h H1 _ (g H1 _ ⟨n, m, rfl, rfl, q⟩)
theorem InE.pow {n m : Int} (c : CPow n m) : InE σ (tOp (rI CPow fun i j => .int (i ^ j.toNat)) (tC (.int n)) (tC (.int m))) (n ^ m.toNat) := fun H1 Q q => ⟨n, m, rfl, rfl, c, q⟩
theorem TpE.two {a b : TE} {n m : Int} (ha : InE σ a n) (hb : InE σ b m) (p : P [n, m]) : TpE σ H (tTup (tCons a (tCons b tNil))) P := fun H1 s1 Q q =>
 ha H1 _ (hb H1 _ ⟨small (show 2 <= 1000 by decide), fun t ht => q t [n, m] _ (zD ht _) zB p⟩)
theorem TpE.three {a b c : TE} {n m k : Int} (ha : InE σ a n) (hb : InE σ b m) (hc : InE σ c k) (p : P [n, m, k]) : TpE σ H (tTup (tCons a (tCons b (tCons c tNil)))) P := fun H1 s1 Q q =>
 ha H1 _ (hb H1 _ (hc H1 _ ⟨small (show 3 <= 1000 by decide), fun t ht => q t [n, m, k] _ (zD ht _) zB p⟩))
theorem TpE.consts {ns : List Int} (p : P ns) (l : ns.length <= 1000) : TpE σ H (tTup (fun _ H Q => Q (ns.map V.int) H)) P := fun H1 s1 Q q => ⟨small (show (ns.map V.int).length <= 1000 by rw [List.length_map]; exact l), fun t ht => q t ns _ (zD ht _) zB p⟩
def TpsE (σ : St) (H : Hp) (ta : TA) (P : List Int -> Prop) (m : Nat) : Prop := ∀ H1, Same H H1 -> ∀ Q : List V -> Hp -> Prop, (∀ vs gs H', Same H1 H' -> Paired (TupAt H') vs gs -> (∀ g ∈ gs, P g) -> gs.length = m -> Q vs H') -> ta σ H1 Q
theorem TpsE.nil : TpsE σ H tNil P 0 := fun H1 s1 Q q => q [] [] H1 (fun _ _ e => e) .nil (fun g m => (nomatch m)) rfl
theorem TupAt.mono {H H' : Hp} {v : V} {zs : List Int} (h : TupAt H v zs) (s : Same H H') : TupAt H' v zs := by
 obtain ⟨t, e, z⟩ := h
 exact ⟨t, e, s _ _ z⟩
theorem TpsE.cons {te : TE} {ta : TA} {m : Nat} (h : TpE σ H te P) (hr : TpsE σ H ta P m) : TpsE σ H (tCons te ta) P (m + 1) := fun H1 s1 Q q =>
 h H1 s1 _ fun t ns H2 s2 e p => hr H2 (s1.trans s2) _ fun vs gs H3 s3 pv pg l => q _ (ns :: gs) H3 (s2.trans s3) (.cons ⟨t, rfl, s3 _ _ e⟩ pv) (fun g m => by
  rcases List.mem_cons.mp m with z | z
  ·rw [z]; exact p
  ·exact pg g z) (by rw [List.length_cons, l])
def LsT (H : Hp) (l : Addr) (P : List Int -> Prop) (m : Nat) : Prop := ∃ vs gs, H l = some (.lst vs) /\ Paired (TupAt H) vs gs /\ (∀ g ∈ gs, P g) /\ gs.length = m
theorem LsT.same {H H' : Hp} {l : Addr} {m : Nat} (h : LsT H l P m) (s : Same H H') : LsT H' l P m := by
 obtain ⟨vs, gs, e, p, g, n⟩ := h
 exact ⟨vs, gs, s _ _ e, Paired.imp (fun _ _ z => z.mono s) p, g, n⟩
theorem LsT.cat {H H1 : Hp} {p q r : Addr} {m n : Nat} {vs us : List V} (h : LsT H p P m) (g : LsT H q P n) (e1 : H p = some (.lst vs)) (e2 : H q = some (.lst us)) (s : Same H H1) (e : H1 r = some (.lst (vs ++ us))) : LsT H1 r P (m + n) := by
 obtain ⟨vs', ts, e1', pp, hg, l⟩ := h
 obtain ⟨us', ts', e2', pp', hg', l'⟩ := g
 rw [e1] at e1'
 rw [e2] at e2'
 cases e1'
 cases e2'
 refine ⟨_, ts ++ ts', e, Paired.append (Paired.imp (fun _ _ z => z.mono s) pp) (Paired.imp (fun _ _ z => z.mono s) pp'), fun t m => ?_, by rw [List.length_append, l, l']⟩
 rcases List.mem_append.mp m with z | z
 ·exact hg t z
 ·exact hg' t z
theorem LsT.go {ta : TA} {m : Nat} (h : TpsE σ H ta P m) (m1 : m <= 1000) {Q : VK} (q : ∀ p H', Same H H' -> H p = none -> LsT H' p P m -> Q (.ref p) H') : tLst ta σ H Q := by
 refine h H (fun _ _ e => e) _ fun vs gs H1 s1 pp pg l => ⟨small (show vs.length <= 1000 by rw [Paired.len pp, l]; exact m1), fun p hp => ?_⟩
 have s2 := zD hp (.lst vs)
 exact q p _ (s1.trans s2) (s1.free hp) ⟨vs, gs, zB, Paired.imp (fun _ _ z => z.mono s2) pp, pg, l⟩
end
end L2

namespace L2
open PySem PySem.Spec PyProof.Rows
section
variable {X : Cx}
end
end L2

namespace L2
open PySem PySem.Spec PyProof.Rows PySem.W
abbrev bmExc : List Value := [.type "Exception", .type "BaseException", .type "object"]
theorem exc_cdE {K : Frag} {C N : Addr} {nm q : Str} {bs : List Value} {sn : List Str} {sub : List Value} {ab : Bool} {col : Option Bool} {dd : Option Addr} {k0 k1 k2 k3 k5 : Option Value} {newId : String} (h : K.lookup C = some (excClassObj nm q C N bs bmExc true sn sub ab col dd k0 k1 k2 k3 k5 newId)) :
  ∃ cd, clsIn K C = some cd /\ cd.hasDict = true /\ ∀ self, refuseLoop self "__setattr__" cd.mro = pure () := by
 refine ⟨_, by unfold clsIn; rw [h], rfl, fun self => ?_⟩
 show refuseLoop self "__setattr__" (.ref C :: bmExc) = _
 rw [refuseLoop_ref]
 exact F.store_Exception.passes self
theorem ExMk.under {K : Frag} {C f N : Addr} {nm q : Str} {bs : List Value} {sn : List Str} {sub : List Value} {ab : Bool} {col : Option Bool} {dd : Option Addr} {k0 k1 k2 k3 k5 : Option Value} (h : K.lookup C = some (excClassObj nm q C N bs bmExc true sn sub ab col dd k0 k1 k2 k3 k5 "Exception.__new__"))
  (i : findIn K (.ref C) "__init__" = some (some (.ref f))) (fn : typeIn K (.ref f) = some (.type "function")) (kp : keepIn K (.ref C) = true) (ec : ExCls K C) : ExMk K C f :=
 ⟨⟨_, _, _, bmExc, F.excBase_Exception, by decide, _, _, _, _, _, _, _, _, _, _, _, _, _, _, _, _, h, fun _ _ => .base⟩, i, fn, kp, ec⟩
section
variable {X : Cx} {pos : Pos} {e : Expr}
theorem pe_fldK {f : Str} {te : TE} (K : PySem.W.Frag) (hK : X.K = K) (he : PE X e te) (hb : attributeBase e f X.env (eval e X.env) = eval e X.env := by rfl) : PE X (.Attribute e f pos) (tFld K te f) := by
 subst hK
 exact yP he hb
end
end L2

namespace L2
open PySem
theorem kit_any1 {K : PySem.W.Frag} {t c : Value} {r : List Value} (h : PySem.W.kitOne K t c = some true) : PySem.W.kitAny K t (c :: r) = some true := by
 unfold PySem.W.kitAny
 rw [h]
theorem kit_any2 {K : PySem.W.Frag} {t c c2 : Value} {r : List Value} (h : PySem.W.kitOne K t c = some false) (h2 : PySem.W.kitOne K t c2 = some true) : PySem.W.kitAny K t (c :: c2 :: r) = some true := by
 unfold PySem.W.kitAny
 rw [h]
 exact kit_any1 h2
end L2

namespace L2
open PySem PySem.Spec PyProof.Rows
section
variable {pg : Program} {wd : World} {B : Around} {xs : Value -> Shared -> Prop}
end
section
variable {X : Cx} {pos : Pos}
end
end L2

namespace L2
open PySem
abbrev Prs := List (Int × Int)
def jmp (rs : Prs) (i : Nat) : Prop := ∃ n, rs[i]? = some (4, n)
instance (rs : Prs) (i : Nat) : Decidable (jmp rs i) :=
 match h : rs[i]? with
 | none => isFalse fun ⟨n, e⟩ => by rw [h] at e; cases e
 | some (op, n) => if e : op = 4 then isTrue ⟨n, by rw [h, e]⟩ else isFalse fun ⟨m, z⟩ => by rw [h] at z; cases z; exact e rfl
def stp (rs : Prs) (i : Nat) : Nat := match rs[i]? with
 | some (op, n) => if op = 4 then n.toNat else i
 | none => i
def its (rs : Prs) : Nat -> Nat -> Nat
 | 0, i => i
 | k + 1, i => stp rs (its rs k i)
end L2
namespace L2
open PySem
end L2

namespace L2
open PySem
inductive Out where
 | go (pc : Nat) (held : List Int) (br : Int)
 | bad (w : Str) (n : Int)
 | done (v : Int)
def pop (held : List Int) (f : List Int -> Int -> Out) : Out := match held.getLast? with
 | none => .bad "stray" 0
 | some v => f held.dropLast v
structure Ads where
 (m dm hd sp rw r0 r1 bd d dd bx hl : Addr)
theorem GrpAt.putI {H : Hp} {l p : Addr} {gs : List (List Int)} {C dx : Addr} {fs : List (Str × V)} {o : HO} (h : GrpAt H l gs) (hp : H p = some (.ins C dx fs)) : GrpAt (upd H p o) l gs := by
 obtain ⟨rs, e, pr⟩ := h
 have go : ∀ b u, H b = some u -> (∀ C dx fs, u ≠ .ins C dx fs) -> upd H p o b = some u := fun b u z n => by
  rw [zJ (fun y => by rw [y, hp] at z; cases z; exact n _ _ _ rfl)]
  exact z
 exact ⟨rs, go _ _ e (fun _ _ _ z => nomatch z), Paired.imp (fun _ _ ⟨t, et, q⟩ => ⟨t, et, go _ _ q (fun _ _ _ z => nomatch z)⟩) pr⟩
section
variable {CM CD : Addr} {H0 H : Hp} {A : Ads} {rs : Prs} {pc : Nat} {held : List Int} {br : Int}
end
def FaultS (CF : Addr) (H : Hp) (E : XK) (w : Str) (n : Int) : Prop := ∀ d H', Same H H' -> H' d = some (XdO d [("word", .str w), ("number", .int n)]) -> E (.ref CF) (some d) H'
def spInitF (C : Addr) : Sp := fun vs H Q _ => ∃ x y z, vs = [.ref x, y, z] /\ H x = some (ExN x C none) /\
 ∀ d H', d ≠ x -> H d = none -> (∀ b o, b ≠ x -> H b = some o -> H' b = some o) -> H' x = some (ExN x C (some d)) -> H' d = some (XdO d [("word", y), ("number", z)]) -> Q .non H'
theorem raisedF {C : Addr} {H : Hp} {E E' : XK} {w : Str} {n : Int} (f : FaultS C H E w n) : ∀ x, H x = none ->
  spInitF C [.ref x, .str w, .int n] (upd H x (ExN x C none)) (fun v H2 => v = .non /\ ∃ d, H2 x = some (ExN x C (some d)) /\ E (.ref C) (some d) (upd H2 x (ExO x C (some d)))) E' := by
 intro x hx
 refine ⟨x, _, _, rfl, zB, fun d H' dx hd kp ex ed => ⟨rfl, d, ex, f d _ (fun b o e => ?_) ?_⟩⟩
 ·have nx : b ≠ x := zK e hx
  rw [zJ nx]
  exact kp b o nx (by rw [zJ nx]; exact e)
 ·rw [zJ dx]; exact ed
def spTakeLast (CF : Addr) : Sp := fun vs H Q E => ∃ (l : Addr) (zs : List Int), vs = [.ref l] /\ H l = some (.lst (zs.map V.int)) /\ (zs = [] -> FaultS CF H E "stray" 0) /\ ∀ y, zs.getLast? = some y -> Q (.int y) (upd H l (.lst (zs.dropLast.map V.int)))
def spInitD (CD : Addr) : Sp := fun vs H Q _ => ∃ (x dx bx : Addr) (pc : Int), vs = [.ref x, .int pc, .ref bx] /\ H x = some (.ins CD dx []) /\ ∀ hl H', H hl = none -> (∀ b o, b ≠ x -> H b = some o -> H' b = some o) -> H' x = some (.ins CD dx [("at", .int pc), ("boxes", .ref bx), ("held", .ref hl)]) -> H' hl = some (.lst []) -> Q .non H'
def spSkipped : Sp := fun vs H Q _ => ∃ v n : Int, vs = [.int v, .int n] /\ Q (.int (if 0 <= v /\ v < n then v else n - 1)) H
section
variable {rs : Prs} {f pc a : Nat} {held h : List Int} {br b v n : Int} {w : Str} {r : Int × Int}
end
section
variable {rs : Prs} {f pc a : Nat} {held h : List Int} {br b v n : Int} {w : Str} {r : Int × Int}
end
end L2

namespace L2
open PySem
inductive Ro where
 | m | bd | hd | sp | rw
 | row (i : Nat)
 | d (i : Nat)
 | bx (i : Nat)
 | hl (i : Nat)
structure Fr where
 pc : Nat
 bx : List Int
 hl : List Int
structure MS where
 rows : List (List Int)
 frs : List Fr
 br : Int
 va : Int
structure Pl where
 ad : Ro -> Addr
 dd : Nat -> Addr
 dm : Addr
 uh : List V
 us : List V
def MS.ok (s : MS) : Ro -> Prop
 | .row i => i < s.rows.length
 | .d i => i < s.frs.length
 | .bx i => i < s.frs.length
 | .hl i => i < s.frs.length
 | _ => True
def MS.f (s : MS) (i : Nat) : Fr := s.frs.getD i ⟨0, [], []⟩
def MS.k (s : MS) : Nat := s.frs.length - 1
def MS.cur (s : MS) : Fr := s.f s.k
def MS.top (s : MS) (f : Fr) : MS := { s with frs := s.frs.set s.k f }
def MS.held (s : MS) (ys : List Int) : MS := s.top ⟨s.cur.pc, s.cur.bx, ys⟩
def MS.goto (s : MS) (pc : Nat) : MS := s.top ⟨pc, s.cur.bx, s.cur.hl⟩
def MS.boxes (s : MS) (zs : List Int) : MS := s.top ⟨s.cur.pc, zs, s.cur.hl⟩
def MG (CM : Addr) (A : Pl) (br va : Int) : HO := .ins CM A.dm [("heads", .ref (A.ad .hd)), ("steps", .ref (A.ad .sp)), ("rows", .ref (A.ad .rw)), ("breaths", .int br), ("being_done", .ref (A.ad .bd)), ("value", .int va)]
def DG (CD : Addr) (A : Pl) (i : Nat) (pc : Int) : HO := .ins CD (A.dd i) [("at", .int pc), ("boxes", .ref (A.ad (.bx i))), ("held", .ref (A.ad (.hl i)))]
def bdL (A : Pl) (n : Nat) : List V := (List.range n).map fun i => V.ref (A.ad (.d i))
def rwL (A : Pl) (n : Nat) : List Addr := (List.range n).map fun i => A.ad (.row i)
def cont (CM CD : Addr) (A : Pl) (s : MS) : Ro -> HO
 | .m => MG CM A s.br s.va
 | .bd => .lst (bdL A s.frs.length)
 | .hd => .lst A.uh
 | .sp => .lst A.us
 | .rw => .lst ((rwL A s.rows.length).map V.ref)
 | .row i => .lst ((s.rows.getD i []).map V.int)
 | .d i => DG CD A i (s.f i).pc
 | .bx i => .lst ((s.f i).bx.map V.int)
 | .hl i => .lst ((s.f i).hl.map V.int)
theorem cont_tup {CM CD : Addr} {A : Pl} {s : MS} {r : Ro} {xs : List V} : cont CM CD A s r ≠ .tup xs := by
 intro h
 cases r <;> cases h
structure RunG (CM CD : Addr) (H0 H : Hp) (A : Pl) (hs rs : List (List Int)) (s : MS) : Prop where
 same : Same H0 H
 inj : ∀ r q, s.ok r -> s.ok q -> A.ad r = A.ad q -> r = q
 at_ : ∀ r, s.ok r -> H (A.ad r) = some (cont CM CD A s r)
 new : ∀ r, s.ok r -> H0 (A.ad r) = none
 th : Paired (TupAt H) A.uh hs
 ts : Paired (TupAt H) A.us rs
section
variable {CM CD : Addr} {H0 H : Hp} {A : Pl} {hs rs : List (List Int)} {s : MS}
theorem RunG.more {H' : Hp} (R : RunG CM CD H0 H A hs rs s) (g : Same H H') : RunG CM CD H0 H' A hs rs s :=
 ⟨R.same.trans g, R.inj, fun r h => g _ _ (R.at_ r h), R.new, Paired.imp (fun _ _ ⟨t, e, q⟩ => ⟨t, e, g _ _ q⟩) R.th, Paired.imp (fun _ _ ⟨t, e, q⟩ => ⟨t, e, g _ _ q⟩) R.ts⟩
theorem RunG.putK {H1 : Hp} {s' : MS} (R : RunG CM CD H0 H A hs rs s) (r : Ro) (hr : s.ok r) (kp : ∀ b o, b ≠ A.ad r -> H b = some o -> H1 b = some o) (e : H1 (A.ad r) = some (cont CM CD A s' r)) (ok : ∀ q, s'.ok q -> s.ok q) (hc : ∀ q, s'.ok q -> q ≠ r -> cont CM CD A s' q = cont CM CD A s q) : RunG CM CD H0 H1 A hs rs s' := by
 have tk : ∀ t xs, H t = some (.tup xs) -> H1 t = some (.tup xs) := fun t xs q => kp t _ (fun z => by rw [z, R.at_ r hr] at q; exact cont_tup (Option.some.inj q)) q
 refine ⟨fun b o q => kp b o (fun z => by rw [z, R.new r hr] at q; cases q) (R.same b o q), fun a b ha hb => R.inj a b (ok a ha) (ok b hb), fun q hq => ?_, fun q hq => R.new q (ok q hq), Paired.imp (fun _ _ ⟨t, e, q⟩ => ⟨t, e, tk _ _ q⟩) R.th, Paired.imp (fun _ _ ⟨t, e, q⟩ => ⟨t, e, tk _ _ q⟩) R.ts⟩
 by_cases h : q = r
 ·rw [h]; exact e
 ·rw [hc q hq h]
  exact kp _ _ (fun z => h (R.inj q r (ok q hq) hr z)) (R.at_ q (ok q hq))
theorem RunG.put {s' : MS} (R : RunG CM CD H0 H A hs rs s) (r : Ro) (hr : s.ok r) (ok : ∀ q, s'.ok q -> s.ok q) (hc : ∀ q, s'.ok q -> q ≠ r -> cont CM CD A s' q = cont CM CD A s q) : RunG CM CD H0 (upd H (A.ad r) (cont CM CD A s' r)) A hs rs s' :=
 R.putK r hr (fun b o n q => by rw [zJ n]; exact q) zB ok hc
end
theorem wR (s : MS) (f : Fr) : (s.top f).frs.length = s.frs.length := List.length_set ..
theorem top_k (s : MS) (f : Fr) : (s.top f).k = s.k := by unfold MS.k; rw [wR]
theorem top_f {s : MS} (h : 0 < s.frs.length) (f : Fr) : (s.top f).f s.k = f := by
 unfold MS.f MS.top MS.k
 rw [List.getD_eq_getElem?_getD, List.getElem?_set_self (by (first|lia|omega))] <;> rfl
theorem top_ne {s : MS} (f : Fr) {i : Nat} (h : i ≠ s.k) : (s.top f).f i = s.f i := by
 unfold MS.f MS.top
 rw [List.getD_eq_getElem?_getD, List.getElem?_set_ne (Ne.symm h), <- List.getD_eq_getElem?_getD]
theorem top_cur {s : MS} (h : 0 < s.frs.length) (f : Fr) : (s.top f).cur = f := by
 unfold MS.cur
 rw [top_k, top_f h]
theorem top_ok {s : MS} (f : Fr) (q : Ro) : (s.top f).ok q -> s.ok q := by
 intro h
 cases q <;> first | trivial | (unfold MS.ok at *; rw [wR] at h; exact h) | exact h
section
variable {CM CD : Addr} {H0 H H1 : Hp} {A : Pl} {hs rs : List (List Int)} {s : MS}
theorem cont_top (f : Fr) (q : Ro) (h1 : q ≠ .d s.k \/ f.pc = s.cur.pc) (h2 : q ≠ .bx s.k \/ f.bx = s.cur.bx) (h3 : q ≠ .hl s.k \/ f.hl = s.cur.hl) (h0 : 0 < s.frs.length) : cont CM CD A (s.top f) q = cont CM CD A s q := by
 cases q with
 | m => rfl
 | bd => show HO.lst (bdL A (s.top f).frs.length) = _; rw [wR] <;> rfl
 | hd => rfl
 | sp => rfl
 | rw => rfl
 | row i => rfl
 | d i =>
  by_cases hi : i = s.k
  ·subst hi
   rcases h1 with h | h
   ·exact absurd rfl h
   ·show DG CD A s.k ((s.top f).f s.k).pc = DG CD A s.k s.cur.pc
    rw [top_f h0, h]
  ·show DG CD A i ((s.top f).f i).pc = DG CD A i (s.f i).pc
   rw [top_ne f hi]
 | bx i =>
  by_cases hi : i = s.k
  ·subst hi
   rcases h2 with h | h
   ·exact absurd rfl h
   ·show HO.lst (((s.top f).f s.k).bx.map V.int) = HO.lst (s.cur.bx.map V.int)
    rw [top_f h0, h]
  ·show HO.lst (((s.top f).f i).bx.map V.int) = HO.lst ((s.f i).bx.map V.int)
   rw [top_ne f hi]
 | hl i =>
  by_cases hi : i = s.k
  ·subst hi
   rcases h3 with h | h
   ·exact absurd rfl h
   ·show HO.lst (((s.top f).f s.k).hl.map V.int) = HO.lst (s.cur.hl.map V.int)
    rw [top_f h0, h]
  ·show HO.lst (((s.top f).f i).hl.map V.int) = HO.lst ((s.f i).hl.map V.int)
   rw [top_ne f hi]
theorem RunG.okk (h0 : 0 < s.frs.length) : s.k < s.frs.length := by unfold MS.k; (first|lia|omega)
theorem RunG.putHeld (R : RunG CM CD H0 H A hs rs s) (h0 : 0 < s.frs.length) (ys : List Int) (kp : ∀ b o, b ≠ A.ad (.hl s.k) -> H b = some o -> H1 b = some o) (e : H1 (A.ad (.hl s.k)) = some (.lst (ys.map V.int))) : RunG CM CD H0 H1 A hs rs (s.held ys) := by
 refine R.putK (.hl s.k) (RunG.okk h0) kp ?_ (top_ok _) fun q _ n => cont_top _ q (.inr rfl) (.inr rfl) (.inl n) h0
 show _ = some (HO.lst (((s.top _).f s.k).hl.map V.int))
 rw [top_f h0]
 exact e
theorem RunG.setHeld (R : RunG CM CD H0 H A hs rs s) (h0 : 0 < s.frs.length) (ys : List Int) : RunG CM CD H0 (upd H (A.ad (.hl s.k)) (.lst (ys.map V.int))) A hs rs (s.held ys) :=
 R.putHeld h0 ys (fun b o n q => by rw [zJ n]; exact q) zB
theorem RunG.setPc (R : RunG CM CD H0 H A hs rs s) (h0 : 0 < s.frs.length) (pc : Nat) : RunG CM CD H0 (upd H (A.ad (.d s.k)) (DG CD A s.k pc)) A hs rs (s.goto pc) := by
 have e : cont CM CD A (s.goto pc) (.d s.k) = DG CD A s.k pc := by
  show DG CD A s.k ((s.top _).f s.k).pc = _
  rw [top_f h0]
 rw [<- e]
 exact R.put (.d s.k) (RunG.okk h0) (top_ok _) fun q _ n => cont_top _ q (.inl n) (.inr rfl) (.inr rfl) h0
theorem RunG.setBox (R : RunG CM CD H0 H A hs rs s) (h0 : 0 < s.frs.length) (zs : List Int) : RunG CM CD H0 (upd H (A.ad (.bx s.k)) (.lst (zs.map V.int))) A hs rs (s.boxes zs) := by
 have e : cont CM CD A (s.boxes zs) (.bx s.k) = .lst (zs.map V.int) := by
  show HO.lst (((s.top _).f s.k).bx.map V.int) = _
  rw [top_f h0]
 rw [<- e]
 exact R.put (.bx s.k) (RunG.okk h0) (top_ok _) fun q _ n => cont_top _ q (.inr rfl) (.inl n) (.inr rfl) h0
theorem RunG.setBr (R : RunG CM CD H0 H A hs rs s) (br : Int) : RunG CM CD H0 (upd H (A.ad .m) (MG CM A br s.va)) A hs rs { s with br := br } :=
 R.put (s' := { s with br := br }) .m trivial (fun q h => h) fun q _ n => by cases q <;> first | exact absurd rfl n | rfl
theorem RunG.setVa (R : RunG CM CD H0 H A hs rs s) (va : Int) : RunG CM CD H0 (upd H (A.ad .m) (MG CM A s.br va)) A hs rs { s with va := va } :=
 R.put (s' := { s with va := va }) .m trivial (fun q h => h) fun q _ n => by cases q <;> first | exact absurd rfl n | rfl
theorem RunG.leave (R : RunG CM CD H0 H A hs rs s) : RunG CM CD H0 (upd H (A.ad .bd) (.lst (bdL A s.frs.dropLast.length))) A hs rs { s with frs := s.frs.dropLast } := by
 have gf : ∀ i, i < s.frs.dropLast.length -> MS.f { s with frs := s.frs.dropLast } i = s.f i := fun i hi => by
  show s.frs.dropLast.getD i _ = s.frs.getD i _
  rw [List.length_dropLast] at hi
  rw [List.getD_eq_getElem?_getD, List.getD_eq_getElem?_getD, List.dropLast_eq_take, List.getElem?_take, if_pos hi]
 have ll : s.frs.dropLast.length <= s.frs.length := by rw [List.length_dropLast]; (first|lia|omega)
 refine R.put (s' := { s with frs := s.frs.dropLast }) .bd trivial (fun q h => ?_) fun q h n => ?_
 ·cases q <;> first | exact h | exact Nat.lt_of_lt_of_le h ll
 ·cases q with
  | m => rfl
  | bd => exact absurd rfl n
  | hd => rfl
  | sp => rfl
  | rw => rfl
  | row i => rfl
  | d i => show DG CD A i (MS.f { s with frs := s.frs.dropLast } i).pc = _; rw [gf i h] <;> rfl
  | bx i => show HO.lst ((MS.f { s with frs := s.frs.dropLast } i).bx.map V.int) = _; rw [gf i h] <;> rfl
  | hl i => show HO.lst ((MS.f { s with frs := s.frs.dropLast } i).hl.map V.int) = _; rw [gf i h] <;> rfl
end
def Pl.enter (A : Pl) (n : Nat) (x dx bx hl : Addr) : Pl :=
 { A with
  ad := fun r => match r with
   | .d i => if i = n then x else A.ad (.d i)
   | .bx i => if i = n then bx else A.ad (.bx i)
   | .hl i => if i = n then hl else A.ad (.hl i)
   | r => A.ad r
  dd := fun i => if i = n then dx else A.dd i }
section
variable {CM CD : Addr} {H0 H H1 : Hp} {A : Pl} {hs rs : List (List Int)} {s : MS} {x dx bx hl : Addr} {pc : Nat} {zs : List Int}
theorem snoc_f {fs : List Fr} {f g : Fr} {i : Nat} (h : i < fs.length) : (fs ++ [f]).getD i g = fs.getD i g := by
 rw [List.getD_eq_getElem?_getD, List.getD_eq_getElem?_getD, List.getElem?_append_left h]
theorem snoc_l {fs : List Fr} {f g : Fr} : (fs ++ [f]).getD fs.length g = f := by
 rw [List.getD_eq_getElem?_getD, List.getElem?_append_right (Nat.le_refl _), Nat.sub_self] <;> rfl
theorem enter_cls {r : Ro} (h : MS.ok { s with frs := s.frs ++ [⟨pc, zs, []⟩] } r) :
  (s.ok r /\ (A.enter s.frs.length x dx bx hl).ad r = A.ad r /\ (r ≠ .bd -> cont CM CD (A.enter s.frs.length x dx bx hl) { s with frs := s.frs ++ [⟨pc, zs, []⟩] } r = cont CM CD A s r)) \/
  (r = .d s.frs.length) \/ (r = .bx s.frs.length) \/ (r = .hl s.frs.length) := by
 have ll : (s.frs ++ [(⟨pc, zs, []⟩ : Fr)]).length = s.frs.length + 1 := by simp
 cases r with
 | m => exact .inl ⟨trivial, rfl, fun _ => rfl⟩
 | bd => exact .inl ⟨trivial, rfl, fun z => absurd rfl z⟩
 | hd => exact .inl ⟨trivial, rfl, fun _ => rfl⟩
 | sp => exact .inl ⟨trivial, rfl, fun _ => rfl⟩
 | rw => exact .inl ⟨trivial, rfl, fun _ => rfl⟩
 | row i => exact .inl ⟨h, rfl, fun _ => rfl⟩
 | d i =>
  have h' : i < s.frs.length + 1 := ll ▸ h
  by_cases e : i = s.frs.length
  ·exact .inr (.inl (by rw [e]))
  ·have hi : i < s.frs.length := by (first|lia|omega)
   refine .inl ⟨hi, if_neg e, fun _ => ?_⟩
   show HO.ins CD (if i = s.frs.length then dx else A.dd i) [("at", .int ((s.frs ++ [_]).getD i _).pc), ("boxes", .ref (if i = s.frs.length then bx else A.ad (.bx i))), ("held", .ref (if i = s.frs.length then hl else A.ad (.hl i)))] = _
   rw [if_neg e, if_neg e, if_neg e, snoc_f hi] <;> rfl
 | bx i =>
  have h' : i < s.frs.length + 1 := ll ▸ h
  by_cases e : i = s.frs.length
  ·exact .inr (.inr (.inl (by rw [e])))
  ·have hi : i < s.frs.length := by (first|lia|omega)
   refine .inl ⟨hi, if_neg e, fun _ => ?_⟩
   show HO.lst (((s.frs ++ [_]).getD i _).bx.map V.int) = _
   rw [snoc_f hi] <;> rfl
 | hl i =>
  have h' : i < s.frs.length + 1 := ll ▸ h
  by_cases e : i = s.frs.length
  ·exact .inr (.inr (.inr (by rw [e])))
  ·have hi : i < s.frs.length := by (first|lia|omega)
   refine .inl ⟨hi, if_neg e, fun _ => ?_⟩
   show HO.lst (((s.frs ++ [_]).getD i _).hl.map V.int) = _
   rw [snoc_f hi] <;> rfl
theorem RunG.enter (R : RunG CM CD H0 H A hs rs s) (hx : H x = none) (hb : H bx = none) (hh : H hl = none) (n1 : x ≠ bx) (n2 : x ≠ hl) (n3 : bx ≠ hl) (kp : ∀ b o, b ≠ A.ad .bd -> H b = some o -> H1 b = some o)
  (e0 : H1 (A.ad .bd) = some (.lst (bdL A s.frs.length ++ [.ref x]))) (e1 : H1 x = some (.ins CD dx [("at", .int pc), ("boxes", .ref bx), ("held", .ref hl)])) (e2 : H1 bx = some (.lst (zs.map V.int))) (e3 : H1 hl = some (.lst [])) :
  RunG CM CD H0 H1 (A.enter s.frs.length x dx bx hl) hs rs { s with frs := s.frs ++ [⟨pc, zs, []⟩] } := by
 have ax : (A.enter s.frs.length x dx bx hl).ad (.d s.frs.length) = x := if_pos rfl
 have ab : (A.enter s.frs.length x dx bx hl).ad (.bx s.frs.length) = bx := if_pos rfl
 have ah : (A.enter s.frs.length x dx bx hl).ad (.hl s.frs.length) = hl := if_pos rfl
 have tk : ∀ t xs, H t = some (.tup xs) -> H1 t = some (.tup xs) := fun t xs q => kp t _ (fun z => by rw [z, R.at_ .bd trivial] at q; exact cont_tup (Option.some.inj q)) q
 have old : ∀ r, s.ok r -> ∀ a, H a = none -> A.ad r ≠ a := fun r h a ha z => by have := R.at_ r h; rw [z, ha] at this; cases this
 refine ⟨fun b o q => kp b o (fun z => by rw [z, R.new .bd trivial] at q; cases q) (R.same b o q), fun r q hr hq e => ?_, fun r hr => ?_, fun r hr => ?_, Paired.imp (fun _ _ ⟨t, e, q⟩ => ⟨t, e, tk _ _ q⟩) R.th, Paired.imp (fun _ _ ⟨t, e, q⟩ => ⟨t, e, tk _ _ q⟩) R.ts⟩
 ·rcases enter_cls (CM := CM) (CD := CD) (A := A) (x := x) (dx := dx) (bx := bx) (hl := hl) hr with ⟨o1, a1, _⟩ | rfl | rfl | rfl <;> rcases enter_cls (CM := CM) (CD := CD) (A := A) (x := x) (dx := dx) (bx := bx) (hl := hl) hq with ⟨o2, a2, _⟩ | rfl | rfl | rfl
  ·rw [a1, a2] at e; exact R.inj r q o1 o2 e
  ·rw [a1, ax] at e; exact absurd e (old r o1 x hx)
  ·rw [a1, ab] at e; exact absurd e (old r o1 bx hb)
  ·rw [a1, ah] at e; exact absurd e (old r o1 hl hh)
  ·rw [a2, ax] at e; exact absurd e.symm (old q o2 x hx)
  ·rfl
  ·rw [ax, ab] at e; exact absurd e n1
  ·rw [ax, ah] at e; exact absurd e n2
  ·rw [a2, ab] at e; exact absurd e.symm (old q o2 bx hb)
  ·rw [ax, ab] at e; exact absurd e.symm n1
  ·rfl
  ·rw [ab, ah] at e; exact absurd e n3
  ·rw [a2, ah] at e; exact absurd e.symm (old q o2 hl hh)
  ·rw [ah, ax] at e; exact absurd e.symm n2
  ·rw [ab, ah] at e; exact absurd e.symm n3
  ·rfl
 ·rcases enter_cls (CM := CM) (CD := CD) (A := A) (x := x) (dx := dx) (bx := bx) (hl := hl) hr with ⟨o1, a1, c1⟩ | rfl | rfl | rfl
  ·by_cases hb' : r = .bd
   ·subst hb'
    rw [a1, e0]
    show _ = some (HO.lst (bdL _ (s.frs ++ [_]).length))
    congr 2
    unfold bdL
    rw [List.length_append, List.length_singleton, List.range_succ, List.map_append]
    congr 1
    ·refine List.map_congr_left fun i hi => ?_
     have := List.mem_range.mp hi
     show _ = V.ref (if i = s.frs.length then x else A.ad (.d i))
     rw [if_neg (by (first|lia|omega))]
    ·show _ = [V.ref (if s.frs.length = s.frs.length then x else _)]
     rw [if_pos rfl]
   ·rw [a1, c1 hb']
    exact kp _ _ (fun z => hb' (R.inj _ _ o1 trivial z)) (R.at_ r o1)
  ·rw [ax, e1]
   show _ = some (HO.ins CD (if s.frs.length = s.frs.length then dx else _) [("at", .int ((s.frs ++ [_]).getD s.frs.length _).pc), ("boxes", .ref (if s.frs.length = s.frs.length then bx else _)), ("held", .ref (if s.frs.length = s.frs.length then hl else _))])
   rw [if_pos rfl, if_pos rfl, if_pos rfl, snoc_l]
  ·rw [ab, e2]
   show _ = some (HO.lst (((s.frs ++ [_]).getD s.frs.length _).bx.map V.int))
   rw [snoc_l]
  ·rw [ah, e3]
   show _ = some (HO.lst (((s.frs ++ [_]).getD s.frs.length _).hl.map V.int))
   rw [snoc_l] <;> rfl
 ·rcases enter_cls (CM := CM) (CD := CD) (A := A) (x := x) (dx := dx) (bx := bx) (hl := hl) hr with ⟨o1, a1, _⟩ | rfl | rfl | rfl
  ·rw [a1]; exact R.new r o1
  ·rw [ax]; exact R.same.free hx
  ·rw [ab]; exact R.same.free hb
  ·rw [ah]; exact R.same.free hh
end
section
variable {CM CD : Addr} {H0 H H1 : Hp} {A : Pl} {hs rs : List (List Int)} {s : MS}
theorem rwL_get (A : Pl) {n i : Nat} (h : i < n) : (rwL A n)[i]? = some (A.ad (.row i)) := by
 unfold rwL
 rw [List.getElem?_map, List.getElem?_range h] <;> rfl
theorem rwL_len (A : Pl) (n : Nat) : (rwL A n).length = n := by unfold rwL; rw [List.length_map, List.length_range]
theorem RunG.rowsAt (R : RunG CM CD H0 H A hs rs s) : RowsAt H (A.ad .rw) (rwL A s.rows.length) s.rows := by
 refine ⟨R.at_ .rw trivial, ?_, rwL_len .., fun n r xs e q => ?_⟩
 ·unfold rwL List.Nodup
  rw [List.pairwise_map]
  exact List.Pairwise.imp_of_mem (fun ha hb h z => h (by have e := R.inj (.row _) (.row _) (List.mem_range.mp ha) (List.mem_range.mp hb) z; injection e)) List.nodup_range
 ·have hn : n < s.rows.length := (List.getElem?_eq_some_iff.mp q).1
  rw [rwL_get A hn] at e
  cases e
  have := R.at_ (.row n) hn
  rw [this]
  show some (HO.lst ((s.rows.getD n []).map V.int)) = _
  rw [List.getD_eq_getElem?_getD, q] <;> rfl
theorem RunG.notrow (R : RunG CM CD H0 H A hs rs s) {r : Ro} (hr : s.ok r) (n1 : r ≠ .rw) (n2 : ∀ i, r ≠ .row i) : A.ad r ∉ A.ad .rw :: rwL A s.rows.length := by
 intro z
 rcases List.mem_cons.mp z with z | z
 ·exact n1 (R.inj _ _ hr trivial z)
 ·unfold rwL at z
  obtain ⟨i, hi, e⟩ := List.mem_map.mp z
  exact n2 i (R.inj _ _ hr (List.mem_range.mp hi) e.symm)
theorem RunG.rowsSame {rows' : List (List Int)} (R : RunG CM CD H0 H A hs rs s) (kp : KeepL (A.ad .rw :: rwL A s.rows.length) H H1) (W : RowsAt H1 (A.ad .rw) (rwL A s.rows.length) rows') : RunG CM CD H0 H1 A hs rs { s with rows := rows' } := by
 have ll : rows'.length = s.rows.length := by rw [<- W.len, rwL_len]
 have inn : ∀ b, b ∈ A.ad .rw :: rwL A s.rows.length -> H0 b = none := fun b hb => by
  rcases List.mem_cons.mp hb with z | z
  ·rw [z]; exact R.new .rw trivial
  ·unfold rwL at z
   obtain ⟨i, hi, e⟩ := List.mem_map.mp z
   rw [<- e]; exact R.new (.row i) (List.mem_range.mp hi)
 have ok : ∀ r, MS.ok { s with rows := rows' } r -> s.ok r := fun r h => by
  cases r <;> first | exact h | (have h' : _ < rows'.length := h; rw [ll] at h'; exact h')
 have tk : ∀ t xs, H t = some (.tup xs) -> H1 t = some (.tup xs) := fun t xs q => kp t _ (R.rowsAt.nott q) q
 refine ⟨fun b o q => kp b o (fun z => by rw [inn b z] at q; cases q) (R.same b o q), fun a b ha hb => R.inj a b (ok a ha) (ok b hb), fun r hr => ?_, fun r hr => R.new r (ok r hr), Paired.imp (fun _ _ ⟨t, e, q⟩ => ⟨t, e, tk _ _ q⟩) R.th, Paired.imp (fun _ _ ⟨t, e, q⟩ => ⟨t, e, tk _ _ q⟩) R.ts⟩
 have go : ∀ r, s.ok r -> r ≠ .rw -> (∀ i, r ≠ .row i) -> H1 (A.ad r) = some (cont CM CD A s r) := fun r h n1 n2 => kp _ _ (R.notrow h n1 n2) (R.at_ r h)
 cases r with
 | m => exact go .m trivial (by intro h; cases h) (by intro i h; cases h)
 | bd => exact go .bd trivial (by intro h; cases h) (by intro i h; cases h)
 | hd => exact go .hd trivial (by intro h; cases h) (by intro i h; cases h)
 | sp => exact go .sp trivial (by intro h; cases h) (by intro i h; cases h)
 | rw =>
  show _ = some (HO.lst ((rwL A rows'.length).map V.ref))
  rw [ll]
  exact W.here
 | row i =>
  have hi : i < rows'.length := hr
  show _ = some (HO.lst ((rows'.getD i []).map V.int))
  rw [List.getD_eq_getElem?_getD, List.getElem?_eq_getElem hi]
  exact W.row i _ _ (rwL_get A (by (first|lia|omega))) (List.getElem?_eq_getElem hi)
 | d i => exact go (.d i) hr (by intro h; cases h) (by intro i h; cases h)
 | bx i => exact go (.bx i) hr (by intro h; cases h) (by intro i h; cases h)
 | hl i => exact go (.hl i) hr (by intro h; cases h) (by intro i h; cases h)
def Pl.more (A : Pl) (n : Nat) (q : Addr) : Pl :=
 { A with ad := fun r => match r with
   | .row i => if i = n then q else A.ad (.row i)
   | r => A.ad r }
theorem rwL_more (A : Pl) (n : Nat) (q : Addr) : rwL (A.more n q) (n + 1) = rwL A n ++ [q] := by
 unfold rwL
 rw [List.range_succ, List.map_append]
 congr 1
 ·refine List.map_congr_left fun i hi => ?_
  have := List.mem_range.mp hi
  show (if i = n then q else A.ad (.row i)) = _
  rw [if_neg (by (first|lia|omega))]
 ·show [if n = n then q else _] = _
  rw [if_pos rfl]
theorem RunG.rowsMore {rows' : List (List Int)} {q : Addr} (R : RunG CM CD H0 H A hs rs s) (hq : H q = none) (kp : KeepL (A.ad .rw :: rwL A s.rows.length) H H1) (W : RowsAt H1 (A.ad .rw) (rwL A s.rows.length ++ [q]) rows') : RunG CM CD H0 H1 (A.more s.rows.length q) hs rs { s with rows := rows' } := by
 have ll : rows'.length = s.rows.length + 1 := by rw [<- W.len, List.length_append, rwL_len] <;> rfl
 have inn : ∀ b, b ∈ A.ad .rw :: rwL A s.rows.length -> H0 b = none := fun b hb => by
  rcases List.mem_cons.mp hb with z | z
  ·rw [z]; exact R.new .rw trivial
  ·unfold rwL at z
   obtain ⟨i, hi, e⟩ := List.mem_map.mp z
   rw [<- e]; exact R.new (.row i) (List.mem_range.mp hi)
 have cls : ∀ r, MS.ok { s with rows := rows' } r -> (s.ok r /\ (A.more s.rows.length q).ad r = A.ad r) \/ (r = .row s.rows.length /\ (A.more s.rows.length q).ad r = q) := fun r h => by
  cases r with
  | row i =>
   have h' : i < rows'.length := h
   by_cases e : i = s.rows.length
   ·exact .inr ⟨by rw [e], if_pos e⟩
   ·exact .inl ⟨show i < s.rows.length by (first|lia|omega), if_neg e⟩
  | _ => exact .inl ⟨h, rfl⟩
 have tk : ∀ t xs, H t = some (.tup xs) -> H1 t = some (.tup xs) := fun t xs q => kp t _ (R.rowsAt.nott q) q
 have old : ∀ r, s.ok r -> A.ad r ≠ q := fun r h z => by have := R.at_ r h; rw [z, hq] at this; cases this
 refine ⟨fun b o q => kp b o (fun z => by rw [inn b z] at q; cases q) (R.same b o q), fun a b ha hb e => ?_, fun r hr => ?_, fun r hr => ?_, Paired.imp (fun _ _ ⟨t, e, q⟩ => ⟨t, e, tk _ _ q⟩) R.th, Paired.imp (fun _ _ ⟨t, e, q⟩ => ⟨t, e, tk _ _ q⟩) R.ts⟩
 ·rcases cls a ha with ⟨o1, a1⟩ | ⟨o1, a1⟩ <;> rcases cls b hb with ⟨o2, a2⟩ | ⟨o2, a2⟩
  ·rw [a1, a2] at e; exact R.inj a b o1 o2 e
  ·rw [a1, a2] at e; exact absurd e (old a o1)
  ·rw [a1, a2] at e; exact absurd e.symm (old b o2)
  ·rw [o1, o2]
 ·have go : ∀ r, s.ok r -> r ≠ .rw -> (∀ i, r ≠ .row i) -> H1 (A.ad r) = some (cont CM CD A s r) := fun r h n1 n2 => kp _ _ (R.notrow h n1 n2) (R.at_ r h)
  cases r with
  | m => exact go .m trivial (by intro h; cases h) (by intro i h; cases h)
  | bd => exact go .bd trivial (by intro h; cases h) (by intro i h; cases h)
  | hd => exact go .hd trivial (by intro h; cases h) (by intro i h; cases h)
  | sp => exact go .sp trivial (by intro h; cases h) (by intro i h; cases h)
  | rw =>
   show _ = some (HO.lst ((rwL (A.more s.rows.length q) rows'.length).map V.ref))
   rw [ll, rwL_more]
   exact W.here
  | row i =>
   have hi : i < rows'.length := hr
   show _ = some (HO.lst ((rows'.getD i []).map V.int))
   rw [List.getD_eq_getElem?_getD, List.getElem?_eq_getElem hi]
   refine W.row i _ _ ?_ (List.getElem?_eq_getElem hi)
   rw [<- rwL_more, rwL_get _ (by (first|lia|omega))]
  | d i => exact go (.d i) hr (by intro h; cases h) (by intro i h; cases h)
  | bx i => exact go (.bx i) hr (by intro h; cases h) (by intro i h; cases h)
  | hl i => exact go (.hl i) hr (by intro h; cases h) (by intro i h; cases h)
 ·rcases cls r hr with ⟨o1, a1⟩ | ⟨o1, a1⟩
  ·rw [a1]; exact R.new r o1
  ·rw [a1]; exact R.same.free hq
end
inductive OG where
 | go (s : MS)
 | bad (w : Str) (n : Int) (rows : List (List Int))
def popG (s : MS) (k : MS -> Int -> OG) : OG := match s.cur.hl.getLast? with
 | none => .bad "stray" 0 s.rows
 | some v => k (s.held s.cur.hl.dropLast) v
def enterG (s : MS) (pc : Int) (zs : List Int) : OG :=
 if s.frs.length = 16 then .bad "deep" 0 s.rows else if s.br <= 0 then .bad "breath" 0 s.rows else .go { s with br := s.br - 1, frs := s.frs ++ [⟨pc.toNat, zs, []⟩] }
def callG (hs : List (List Int)) (n : Int) (s : MS) : OG := match hs[n.toNat]? with
 | some [st, p, b] => if s.cur.hl.length < p.toNat then .bad "stray" 0 s.rows else enterG (s.held (s.cur.hl.take (s.cur.hl.length - p.toNat))) st (s.cur.hl.drop (s.cur.hl.length - p.toNat) ++ List.replicate (b - p).toNat 0)
 | _ => .bad "stray" 0 s.rows
def backG (s : MS) : OG := popG s fun s v =>
 .go (if s.frs.dropLast.length = 0 then { s with va := v, frs := s.frs.dropLast } else MS.held { s with va := v, frs := s.frs.dropLast } ((MS.cur { s with va := v, frs := s.frs.dropLast }).hl ++ [v]))
def deedG (n : Int) (s : MS) : OG :=
 if s.cur.hl.length < arity n then .bad "stray" 0 s.rows else
  match s.cur.hl.drop (s.cur.hl.length - arity n), worthM n ((s.cur.hl.drop (s.cur.hl.length - arity n)).getD 0 0) ((s.cur.hl.drop (s.cur.hl.length - arity n)).getD 1 0) ((s.cur.hl.drop (s.cur.hl.length - arity n)).getD 2 0) s.rows with
  | _, ([.non, .int v], rows) => .go (MS.held { s with rows := rows } (s.cur.hl.take (s.cur.hl.length - arity n) ++ [v]))
  | _, ([.str w, _], rows) => .bad w 0 rows
  | _, (_, rows) => .bad "stray" 0 rows
def setG (n : Int) (s : MS) : OG := if s.cur.bx.length <= n.toNat then .bad "stray" 0 s.rows else popG s fun s v => .go ((s.boxes (s.cur.bx.set n.toNat v)).held (s.cur.hl ++ [v]))
def stepG (hs : List (List Int)) (op n : Int) (s : MS) : OG :=
 if op = 0 then .go (s.held (s.cur.hl ++ [n]))
 else if op = 1 then (if s.cur.bx.length <= n.toNat then .bad "stray" 0 s.rows else .go (s.held (s.cur.hl ++ [s.cur.bx.getD n.toNat 0])))
 else if op = 10 then deedG n s
 else if op = 2 then setG n s
 else if op = 3 then popG s fun s _ => .go s
 else if op = 4 then .go (s.goto n.toNat)
 else if op = 5 then popG s fun s v => .go (if v = 0 then s.goto n.toNat else s)
 else if op = 9 then (if s.br <= 0 then .bad "breath" 0 s.rows else .go { s with br := s.br - 1 })
 else if op = 6 then callG hs n s
 else if op = 7 then backG s
 else if op = 8 then popG s fun s v => .bad "told" v s.rows
 else popG s fun s v => .go (s.goto (s.cur.pc + (if 0 <= v /\ v < n then v else n - 1).toNat))
def runG (hs rs : List (List Int)) : Nat -> MS -> OG
 | fuel, s => if s.frs.length = 0 then .go s else match rs[s.cur.pc]? with
  | some [op, n] => (match fuel with
   | 0 => .bad "rows" 0 s.rows
   | fuel + 1 => match stepG hs op n (s.goto (s.cur.pc + 1)) with
    | .go s' => runG hs rs fuel s'
    | .bad w k rows => .bad w k rows)
  | _ => .bad "stray" 0 s.rows
def begG (hs rs : List (List Int)) (most : Nat) (br : Int) (given : List Int) : OG := match hs with
 | [st, _, b] :: _ => (match enterG ⟨[given, []], [], br, 0⟩ st (List.replicate b.toNat 0) with
  | .go s => runG hs rs most s
  | .bad w k rows => .bad w k rows)
 | _ => .bad "stray" 0 []
def outG : OG -> Str × Int × List (List Int)
 | .go s => ("done", s.va, s.rows)
 | .bad w k rows => (w, k, rows)
section
variable {hs rs : List (List Int)} {s s' : MS} {fuel : Nat} {op n k : Int} {w : Str} {rows : List (List Int)}
theorem runG_fin (h : s.frs.length = 0) : runG hs rs fuel s = .go s := by
 unfold runG
 rw [if_pos h]
theorem runG_none (h : ¬ s.frs.length = 0) (e : rs[s.cur.pc]? = none) : runG hs rs fuel s = .bad "stray" 0 s.rows := by
 unfold runG
 rw [if_neg h, e]
theorem runG_zero (h : ¬ s.frs.length = 0) (e : rs[s.cur.pc]? = some [op, n]) : runG hs rs 0 s = .bad "rows" 0 s.rows := by
 unfold runG
 rw [if_neg h, e]
theorem runG_go (h : ¬ s.frs.length = 0) (e : rs[s.cur.pc]? = some [op, n]) (q : stepG hs op n (s.goto (s.cur.pc + 1)) = .go s') : runG hs rs (fuel + 1) s = runG hs rs fuel s' := by
 conv => lhs; unfold runG
 rw [if_neg h, e]
 dsimp only
 rw [q]
theorem runG_bad (h : ¬ s.frs.length = 0) (e : rs[s.cur.pc]? = some [op, n]) (q : stepG hs op n (s.goto (s.cur.pc + 1)) = .bad w k rows) : runG hs rs (fuel + 1) s = .bad w k rows := by
 unfold runG
 rw [if_neg h, e]
 dsimp only
 rw [q]
end
def FaultG (CM CD CF : Addr) (H0 : Hp) (x : Addr) (hs rs : List (List Int)) (E : XK) (w : Str) (n : Int) (rows : List (List Int)) : Prop :=
 ∀ d H' A s, A.ad .m = x -> RunG CM CD H0 H' A hs rs s -> s.rows = rows -> H' d = some (XdO d [("word", .str w), ("number", .int n)]) -> E (.ref CF) (some d) H'
theorem FaultG.at {CM CD CF : Addr} {H0 H : Hp} {x : Addr} {hs rs : List (List Int)} {E : XK} {w : Str} {n : Int} {rows : List (List Int)} {A : Pl} {s : MS} (f : FaultG CM CD CF H0 x hs rs E w n rows) (R : RunG CM CD H0 H A hs rs s) (hm : A.ad .m = x) (hr : s.rows = rows) : FaultS CF H E w n :=
 fun d _ g e => f d _ A s hm (R.more g) hr e
structure Like (A A' : Pl) : Prop where
 m : A'.ad .m = A.ad .m
 bd : A'.ad .bd = A.ad .bd
 sp : A'.ad .sp = A.ad .sp
theorem Like.refl (A : Pl) : Like A A := ⟨rfl, rfl, rfl⟩
theorem Like.trans {A B C : Pl} (a : Like A B) (b : Like B C) : Like A C := ⟨b.m.trans a.m, b.bd.trans a.bd, b.sp.trans a.sp⟩
theorem Like.enter (A : Pl) (n : Nat) (x dx bx hl : Addr) : Like A (A.enter n x dx bx hl) := ⟨rfl, rfl, rfl⟩
theorem Like.more (A : Pl) (n : Nat) (q : Addr) : Like A (A.more n q) := ⟨rfl, rfl, rfl⟩
def EndsG (CM CD CF : Addr) (H0 : Hp) (A : Pl) (hs rs : List (List Int)) (Q : VK) (E : XK) : OG -> Prop
 | .go s' => ∀ A' H', Like A A' -> RunG CM CD H0 H' A' hs rs s' -> Q .non H'
 | .bad w n rows => FaultG CM CD CF H0 (A.ad .m) hs rs E w n rows
def Vb (v : Int) : Prop := v.natAbs < 2 ^ 2000
def spTakeOff (CF : Addr) : Sp := fun vs H Q E => ∃ (l : Addr) (zs : List Int) (many : Nat), vs = [.ref l, .int many] /\ H l = some (.lst (zs.map V.int)) /\ many <= 100 /\
 (zs.length < many -> ∀ H1, (∀ b o, b ≠ l -> H b = some o -> H1 b = some o) -> H1 l = some (.lst []) -> FaultS CF H1 E "stray" 0) /\
 (many <= zs.length -> ∀ p H1, H p = none -> p ≠ l -> (∀ b o, b ≠ l -> H b = some o -> H1 b = some o) -> H1 l = some (.lst ((zs.take (zs.length - many)).map V.int)) -> H1 p = some (.lst ((zs.drop (zs.length - many)).map V.int)) -> Q (.ref p) H1)
def spBreatheG (CM CF : Addr) : Sp := fun vs H Q E => ∃ (A : Pl) (br va : Int), vs = [.ref (A.ad .m)] /\ H (A.ad .m) = some (MG CM A br va) /\ (br <= 0 -> FaultS CF H E "breath" 0) /\ (0 < br -> Q .non (upd H (A.ad .m) (MG CM A (br - 1) va)))
def spWantBox (CD CF : Addr) : Sp := fun vs H Q E => ∃ (d dd bx : Addr) (x y : V) (zs : List Int) (n : Int), vs = [.ref d, .int n] /\ H d = some (.ins CD dd [("at", x), ("boxes", .ref bx), ("held", y)]) /\ H bx = some (.lst (zs.map V.int)) /\ ((zs.length : Int) <= n -> FaultS CF H E "stray" 0) /\ (n < (zs.length : Int) -> Q .non H)
def spSetG (CM CD CF : Addr) : Sp := fun vs H Q E => ∃ (A : Pl) (H0 : Hp) (hs rs : List (List Int)) (s : MS) (n : Int), vs = [.ref (A.ad (.d s.k)), .int n] /\ RunG CM CD H0 H A hs rs s /\ 0 < s.frs.length /\ 0 <= n /\ s.cur.hl.length <= 20000 /\ EndsG CM CD CF H0 A hs rs Q E (setG n s)
structure RwB (s : MS) : Prop where
 nr : s.rows.length <= 20000
 rl : ∀ xs ∈ s.rows, xs.length <= 20000
 hl : s.cur.hl.length <= 20000
 hv : ∀ v ∈ s.cur.hl, Vb v
def spDeedG (CM CD CF : Addr) : Sp := fun vs H Q E => ∃ (A : Pl) (H0 : Hp) (hs rs : List (List Int)) (s : MS) (n : Int), vs = [.ref (A.ad .m), .ref (A.ad (.hl s.k)), .int n] /\ RunG CM CD H0 H A hs rs s /\ 0 < s.frs.length /\ 8 <= n /\ n <= 19 /\ RwB s /\ EndsG CM CD CF H0 A hs rs Q E (deedG n s)
def spCallG (CM CD CF : Addr) : Sp := fun vs H Q E => ∃ (A : Pl) (H0 : Hp) (hs rs : List (List Int)) (s : MS) (n st p b : Int) (l : Addr), vs = [.ref (A.ad .m), .ref l, .int n] /\ RunG CM CD H0 H A hs rs s /\ hs[n.toNat]? = some [st, p, b] /\ 0 <= n /\ 0 <= st /\ 0 <= p /\ p <= b /\ b <= 12 /\ s.frs.length <= 16 /\
 ((0 < s.frs.length /\ l = A.ad (.hl s.k) /\ s.cur.hl.length <= 20000 /\ EndsG CM CD CF H0 A hs rs Q E (callG hs n s)) \/ (p = 0 /\ H l = some (.lst []) /\ (∀ r, s.ok r -> A.ad r ≠ l) /\ EndsG CM CD CF H0 A hs rs Q E (enterG s st (List.replicate b.toNat 0))))
def spBackG (CM CD CF : Addr) : Sp := fun vs H Q E => ∃ (A : Pl) (H0 : Hp) (hs rs : List (List Int)) (s : MS), vs = [.ref (A.ad .m), .ref (A.ad (.hl s.k))] /\ RunG CM CD H0 H A hs rs s /\ 0 < s.frs.length /\ (∀ f ∈ s.frs, f.hl.length <= 20000) /\ EndsG CM CD CF H0 A hs rs Q E (backG s)
def spRowG (CM CD CF : Addr) : Sp := fun vs H Q E => ∃ (A : Pl) (H0 : Hp) (hs rs : List (List Int)) (s : MS) (op n : Int), vs = [.ref (A.ad .m), .ref (A.ad (.d s.k)), .int op, .int n] /\ RunG CM CD H0 H A hs rs s /\ 0 < s.frs.length /\ s.frs.length <= 16 /\ CodeParts hs rs /\ RowOk op n hs.length rs.length /\ RwB s /\ (∀ f ∈ s.frs, f.hl.length <= 20000) /\ EndsG CM CD CF H0 A hs rs Q E (stepG hs op n s)
theorem wH {s : MS} {k : MS -> Int -> OG} (h : s.cur.hl = []) : popG s k = .bad "stray" 0 s.rows := by
 unfold popG
 rw [h] <;> rfl
theorem qG {s : MS} {k : MS -> Int -> OG} {y : Int} (h : s.cur.hl.getLast? = some y) : popG s k = k (s.held s.cur.hl.dropLast) y := by
 unfold popG
 rw [h]
theorem held_k (s : MS) (ys : List Int) : (s.held ys).k = s.k := top_k ..
theorem wN {s : MS} (h : 0 < s.frs.length) (ys : List Int) : (s.held ys).cur = ⟨s.cur.pc, s.cur.bx, ys⟩ := top_cur h _
theorem wM (s : MS) (ys : List Int) : (s.held ys).frs.length = s.frs.length := wR ..
theorem boxes_k (s : MS) (ys : List Int) : (s.boxes ys).k = s.k := top_k ..
theorem boxes_cur {s : MS} (h : 0 < s.frs.length) (ys : List Int) : (s.boxes ys).cur = ⟨s.cur.pc, ys, s.cur.hl⟩ := top_cur h _
theorem boxes_len (s : MS) (ys : List Int) : (s.boxes ys).frs.length = s.frs.length := wR ..
theorem goto_k (s : MS) (n : Nat) : (s.goto n).k = s.k := top_k ..
theorem goto_len (s : MS) (n : Nat) : (s.goto n).frs.length = s.frs.length := wR ..
section
variable {CM CD : Addr} {H0 H : Hp} {A : Pl} {hs rs : List (List Int)} {s : MS}
theorem RunG.kd (R : RunG CM CD H0 H A hs rs s) (h0 : 0 < s.frs.length) : H (A.ad (.d s.k)) = some (DG CD A s.k s.cur.pc) := R.at_ (.d s.k) (RunG.okk h0)
theorem RunG.kb (R : RunG CM CD H0 H A hs rs s) (h0 : 0 < s.frs.length) : H (A.ad (.bx s.k)) = some (.lst (s.cur.bx.map V.int)) := R.at_ (.bx s.k) (RunG.okk h0)
theorem RunG.kh (R : RunG CM CD H0 H A hs rs s) (h0 : 0 < s.frs.length) : H (A.ad (.hl s.k)) = some (.lst (s.cur.hl.map V.int)) := R.at_ (.hl s.k) (RunG.okk h0)
theorem RunG.km (R : RunG CM CD H0 H A hs rs s) : H (A.ad .m) = some (MG CM A s.br s.va) := R.at_ .m trivial
theorem RunG.kbd (R : RunG CM CD H0 H A hs rs s) : H (A.ad .bd) = some (.lst (bdL A s.frs.length)) := R.at_ .bd trivial
end
theorem wV_two (v : Int) : (∃ i, wV v = [.non, .int i]) \/ ∃ z, wV v = [.str z, .int 0] := by
 unfold wV
 split
 ·exact .inr ⟨_, rfl⟩
 ·exact .inl ⟨_, rfl⟩
theorem reckV_two (k a b : Int) : (∃ i, reckV k a b = [.non, .int i]) \/ ∃ z, reckV k a b = [.str z, .int 0] := by
 unfold reckV
 repeat' split
 all_goals first | exact wV_two _ | exact .inl ⟨_, rfl⟩ | exact .inr ⟨_, rfl⟩
theorem rowM_two (k v0 v1 v2 : Int) (rows : List (List Int)) : (∃ i, (rowM k v0 v1 v2 rows).1 = [.non, .int i]) \/ ∃ z, (rowM k v0 v1 v2 rows).1 = [.str z, .int 0] := by
 unfold rowM
 repeat' split
 all_goals first | exact .inl ⟨_, rfl⟩ | exact .inr ⟨_, rfl⟩
theorem worthM_two (k v0 v1 v2 : Int) (rows : List (List Int)) : (∃ i, (worthM k v0 v1 v2 rows).1 = [.non, .int i]) \/ ∃ z, (worthM k v0 v1 v2 rows).1 = [.str z, .int 0] := by
 unfold worthM
 split
 ·exact .inl ⟨_, rfl⟩
 split
 ·exact rowM_two ..
 ·exact reckV_two ..
theorem three_of : ∀ {vs : List Int} {n : Nat}, vs.length = n -> n <= 3 -> vs = [vs.getD 0 0, vs.getD 1 0, vs.getD 2 0].take n
 | [], _, rfl, _ => rfl
 | [_], _, rfl, _ => rfl
 | [_, _], _, rfl, _ => rfl
 | [_, _, _], _, rfl, _ => rfl
 | _ :: _ :: _ :: _ :: _, _, rfl, h => absurd h (by simp)
theorem arity_le (k : Int) : arity k <= 3 := by unfold arity; split; decide; split; decide; split <;> decide
theorem arity_two {k : Int} (h : k <= 14) : arity k = 2 := by unfold arity; rw [if_neg (by (first|lia|omega)), if_neg (by (first|lia|omega)), if_neg (by (first|lia|omega))]
theorem held_rows {s : MS} (h : 0 < s.frs.length) (ys zs : List Int) (r : List (List Int)) : MS.held { s.held ys with rows := r } zs = MS.held { s with rows := r } zs := by
 have c : MS.cur { s.held ys with rows := r } = ⟨s.cur.pc, s.cur.bx, ys⟩ := wN h ys
 have k : MS.k { s.held ys with rows := r } = s.k := held_k s ys
 show MS.top _ ⟨(MS.cur { s.held ys with rows := r }).pc, (MS.cur { s.held ys with rows := r }).bx, zs⟩ = _
 rw [c]
 show ({ s.held ys with rows := r, frs := (s.frs.set s.k _).set (MS.k { s.held ys with rows := r }) _ } : MS) = _
 rw [k, List.set_set] <;> rfl
theorem RunG.deed {CM CD : Addr} {H0 H H1 : Hp} {A : Pl} {hs rs : List (List Int)} {s : MS} {p : Addr} {rs' : List Addr} {o : List V × List (List Int)} (R : RunG CM CD H0 H A hs rs s) (D : Deed H H1 p (A.ad .rw) (rwL A s.rows.length) rs' o) :
  ∃ A', Like A A' /\ (∀ i, A'.ad (.hl i) = A.ad (.hl i)) /\ RunG CM CD H0 H1 A' hs rs { s with rows := o.2 } := by
 rcases D.more with e | ⟨q, hq, _, e⟩
 ·exact ⟨A, Like.refl A, fun _ => rfl, R.rowsSame D.keep (e ▸ D.rows)⟩
 ·exact ⟨A.more s.rows.length q, Like.more .., fun _ => rfl, R.rowsMore hq D.keep (e ▸ D.rows)⟩
theorem wY (A : Pl) (n : Nat) : (bdL A n).length = n := by unfold bdL; rw [List.length_map, List.length_range]
theorem bdL_drop (A : Pl) (n : Nat) : (bdL A n).dropLast = bdL A (n - 1) := by
 cases n with
 | zero => rfl
 | succ n =>
  unfold bdL
  rw [List.range_succ, List.map_append, show [n].map (fun i => V.ref (A.ad (.d i))) = [V.ref (A.ad (.d n))] from rfl, List.dropLast_concat] <;> rfl
theorem bdL_get (A : Pl) {n : Nat} (h : 0 < n) : (bdL A n)[n - 1]? = some (.ref (A.ad (.d (n - 1)))) := by
 unfold bdL
 rw [List.getElem?_map, List.getElem?_range (by (first|lia|omega))] <;> rfl
theorem bdL_last (A : Pl) {n : Nat} (h : 0 < n) : atI (bdL A n) (-1) = some (.ref (A.ad (.d (n - 1)))) := by
 have ix : ixN (bdL A n).length (-1) = some (n - 1) := by
  unfold ixN
  rw [wY, if_neg (by decide), if_pos (by (first|lia|omega))]
  congr 1
  (first|lia|omega)
 unfold atI
 rw [ix]
 exact bdL_get A h
theorem held_drop (s : MS) (ys : List Int) : (s.held ys).frs.dropLast = s.frs.dropLast := by
 show (s.frs.set s.k _).dropLast = _
 rw [List.dropLast_eq_take, List.dropLast_eq_take, List.length_set, List.take_set_of_le (by unfold MS.k; (first|lia|omega))]
theorem mem_drop {fs : List Fr} {f : Fr} (h : f ∈ fs.dropLast) : f ∈ fs := by
 rw [List.dropLast_eq_take] at h
 exact List.mem_of_mem_take h
theorem cur_mem {s : MS} (h : 0 < s.frs.length) : s.cur ∈ s.frs := by
 unfold MS.cur MS.f
 have hk : s.k < s.frs.length := by unfold MS.k; (first|lia|omega)
 rw [List.getD_eq_getElem?_getD, List.getElem?_eq_getElem hk]
 exact List.getElem_mem hk
theorem EndsG.mono {CM CD CF : Addr} {H0 : Hp} {A : Pl} {hs rs : List (List Int)} {Q Q1 : VK} {E : XK} {o : OG} (h : EndsG CM CD CF H0 A hs rs Q E o) (g : ∀ H, Q .non H -> Q1 .non H) : EndsG CM CD CF H0 A hs rs Q1 E o := by
 cases o with
 | go s => exact fun A' H' l r => g _ (h A' H' l r)
 | bad w n rows => exact h
end L2

namespace L2
open PySem
theorem Vb.small {v : Int} (h : v.natAbs <= 100000) : Vb v := Nat.lt_of_le_of_lt h (show 100000 < 2 ^ 2000 by decide +kernel)
theorem g100_lt : G100.natAbs < 2 ^ 2000 := by decide +kernel
theorem Vb.g100 {v : Int} (h : ¬ (v ≥ G100 \/ v <= -G100)) : Vb v := Nat.lt_trans (show v.natAbs < G100.natAbs by (first|lia|omega)) g100_lt
theorem wV_vb {v i : Int} (e : wV v = [.non, .int i]) : Vb i := by
 unfold wV at e
 split at e
 ·cases e
 ·cases e; exact Vb.g100 (by assumption)
theorem fmod_le {a b : Int} (h0 : ¬ b = 0) : (a.fmod b).natAbs <= b.natAbs := by
 rcases Int.lt_or_gt_of_ne h0 with h | h
 ·have h1 := Int.emod_nonneg a h0
  have h2 := Int.emod_lt_of_neg a h
  rw [Int.fmod_eq_emod]
  split
  ·(first|lia|omega)
  ·(first|lia|omega)
 ·have h1 := Int.fmod_nonneg_of_pos a h
  have h2 := Int.fmod_lt_of_pos a h
  (first|lia|omega)
theorem reckV_vb {k a b i : Int} (ha : Vb a) (hb : Vb b) (e : reckV k a b = [.non, .int i]) : Vb i := by
 unfold reckV at e
 split at e
 ·exact wV_vb e
 split at e
 ·exact wV_vb e
 split at e
 ·exact wV_vb e
 split at e
 ·cases e; exact Vb.small (by split <;> decide)
 split at e
 ·cases e; exact Vb.small (by split <;> decide)
 split at e
 ·cases e
 rename_i b0
 split at e
 ·cases e
  exact Nat.lt_of_le_of_lt (Int.natAbs_fdiv_le_natAbs a b) ha
 ·cases e
  exact Nat.lt_of_le_of_lt (fmod_le b0) hb
theorem rowM_vb {k v0 v1 v2 : Int} {rows : List (List Int)} (h0 : ∀ xs ∈ rows, xs.length <= 60000 /\ ∀ v ∈ xs, Vb v) (h1 : Vb v1) (h2 : Vb v2) : (∀ i, (rowM k v0 v1 v2 rows).1 = [.non, .int i] -> Vb i) /\ ∀ xs ∈ (rowM k v0 v1 v2 rows).2, ∀ v ∈ xs, Vb v := by
 have g : (rows.getD v0.toNat []).length <= 60000 /\ ∀ v ∈ rows.getD v0.toNat [], Vb v := by
  rw [List.getD_eq_getElem?_getD]
  cases e : rows[v0.toNat]? with
  | none => exact ⟨Nat.zero_le _, fun v hv => by cases hv⟩
  | some xs => exact h0 xs (List.mem_iff_getElem?.mpr ⟨_, e⟩)
 have old : ∀ xs ∈ rows, ∀ v ∈ xs, Vb v := fun xs hx => (h0 xs hx).2
 unfold rowM
 split
 ·exact ⟨fun i e => (by cases e), old⟩
 split
 ·refine ⟨fun i e => ?_, old⟩
  cases e
  exact Vb.small (by (first|lia|omega))
 split
 ·refine ⟨fun i e => by cases e; exact h1, fun xs hx v hv => ?_⟩
  rcases wU hx with hx | rfl
  ·exact old xs hx v hv
  ·rcases List.mem_append.mp hv with hv | hv
   ·exact g.2 v hv
   ·rw [List.mem_singleton.mp hv]; exact h1
 split
 ·exact ⟨fun i e => (by cases e), old⟩
 split
 ·refine ⟨fun i e => by cases e; exact h2, fun xs hx v hv => ?_⟩
  rcases wU hx with hx | rfl
  ·exact old xs hx v hv
  ·rcases List.mem_or_eq_of_mem_set hv with hv | hv
   ·exact g.2 v hv
   ·rw [hv]; exact h2
 ·refine ⟨fun i e => ?_, old⟩
  cases e
  rw [List.getD_eq_getElem?_getD]
  cases e : (rows.getD v0.toNat [])[v1.toNat]? with
  | none => exact Vb.small (by decide)
  | some v => exact g.2 v (List.mem_iff_getElem?.mpr ⟨_, e⟩)
theorem worthM_vb {k v0 v1 v2 : Int} {rows : List (List Int)} (h0 : ∀ xs ∈ rows, xs.length <= 60000 /\ ∀ v ∈ xs, Vb v) (hr : rows.length <= 60000) (hv : Vb v0) (h1 : Vb v1) (h2 : Vb v2) : (∀ i, (worthM k v0 v1 v2 rows).1 = [.non, .int i] -> Vb i) /\ ∀ xs ∈ (worthM k v0 v1 v2 rows).2, ∀ v ∈ xs, Vb v := by
 have old : ∀ xs ∈ rows, ∀ v ∈ xs, Vb v := fun xs hx => (h0 xs hx).2
 unfold worthM
 split
 ·refine ⟨fun i e => ?_, fun xs hx v hv => ?_⟩
  ·cases e
   exact Vb.small (by (first|lia|omega))
  ·rcases List.mem_append.mp hx with hx | hx
   ·exact old xs hx v hv
   ·rw [List.mem_singleton.mp hx] at hv; cases hv
 split
 ·exact rowM_vb h0 h1 h2
 ·exact ⟨fun i e => reckV_vb hv h1 e, old⟩
structure BdG (j : Nat) (s : MS) : Prop where
 hl : ∀ f ∈ s.frs, f.hl.length <= j /\ ∀ v ∈ f.hl, Vb v
 bx : ∀ f ∈ s.frs, ∀ v ∈ f.bx, Vb v
 nf : s.frs.length <= 16
 nr : s.rows.length <= j
 rl : ∀ xs ∈ s.rows, xs.length <= j /\ ∀ v ∈ xs, Vb v
theorem BdG.mono {j j' : Nat} {s : MS} (h : BdG j s) (l : j <= j') : BdG j' s :=
 ⟨fun f hf => ⟨Nat.le_trans (h.hl f hf).1 l, (h.hl f hf).2⟩, h.bx, h.nf, Nat.le_trans h.nr l, fun xs hx => ⟨Nat.le_trans (h.rl xs hx).1 l, (h.rl xs hx).2⟩⟩
theorem BdG.top {j : Nat} {s : MS} {f : Fr} (h : BdG j s) (h1 : f.hl.length <= j) (h2 : ∀ v ∈ f.hl, Vb v) (h3 : ∀ v ∈ f.bx, Vb v) : BdG j (s.top f) := by
 have m : ∀ g ∈ (s.top f).frs, g ∈ s.frs \/ g = f := fun g hg => List.mem_or_eq_of_mem_set hg
 refine ⟨fun g hg => ?_, fun g hg => ?_, by rw [wR]; exact h.nf, h.nr, h.rl⟩
 ·rcases m g hg with hg | rfl
  ·exact h.hl g hg
  ·exact ⟨h1, h2⟩
 ·rcases m g hg with hg | rfl
  ·exact h.bx g hg
  ·exact h3
theorem BdG.rows {j : Nat} {s : MS} {r : List (List Int)} (h : BdG j s) (h1 : r.length <= j) (h2 : ∀ xs ∈ r, xs.length <= j /\ ∀ v ∈ xs, Vb v) : BdG j { s with rows := r } := ⟨h.hl, h.bx, h.nf, h1, h2⟩
section
variable {j : Nat} {s s' : MS} {n : Int} {hs : List (List Int)}
theorem BdG.curH (h : BdG j s) (h0 : 0 < s.frs.length) : s.cur.hl.length <= j /\ ∀ v ∈ s.cur.hl, Vb v := h.hl _ (cur_mem h0)
theorem BdG.curB (h : BdG j s) (h0 : 0 < s.frs.length) : ∀ v ∈ s.cur.bx, Vb v := h.bx _ (cur_mem h0)
theorem BdG.held (h : BdG j s) (h0 : 0 < s.frs.length) {ys : List Int} (h1 : ys.length <= j) (h2 : ∀ v ∈ ys, Vb v) : BdG j (s.held ys) := h.top h1 h2 (h.curB h0)
theorem BdG.goto (h : BdG j s) (h0 : 0 < s.frs.length) (pc : Nat) : BdG j (s.goto pc) := h.top (h.curH h0).1 (h.curH h0).2 (h.curB h0)
theorem BdG.boxes (h : BdG j s) (h0 : 0 < s.frs.length) {zs : List Int} (h2 : ∀ v ∈ zs, Vb v) : BdG j (s.boxes zs) := h.top (h.curH h0).1 (h.curH h0).2 h2
theorem BdG.pop (h : BdG j s) (h0 : 0 < s.frs.length) : BdG j (s.held s.cur.hl.dropLast) :=
 h.held h0 (by rw [List.length_dropLast]; have := (h.curH h0).1; (first|lia|omega)) fun v hv => (h.curH h0).2 v (by rw [List.dropLast_eq_take] at hv; exact List.mem_of_mem_take hv)
theorem last_mem {xs : List Int} {y : Int} (h : xs.getLast? = some y) : y ∈ xs := List.mem_of_getLast? h
theorem popG_bd {k : MS -> Int -> OG} (h : BdG j s) (h0 : 0 < s.frs.length) (e : popG s k = .go s') (hk : ∀ y, Vb y -> BdG j (s.held s.cur.hl.dropLast) -> 0 < (s.held s.cur.hl.dropLast).frs.length -> k (s.held s.cur.hl.dropLast) y = .go s' -> BdG (j + 1) s') : BdG (j + 1) s' := by
 unfold popG at e
 split at e
 ·cases e
 ·rename_i y ey
  exact hk y ((h.curH h0).2 y (last_mem ey)) (h.pop h0) (by rw [wM]; exact h0) e
theorem snoc_vb {ys : List Int} {v : Int} (h : ∀ v ∈ ys, Vb v) (hv : Vb v) : ∀ u ∈ ys ++ [v], Vb u := fun u hu => by
 rcases List.mem_append.mp hu with hu | hu
 ·exact h u hu
 ·rw [List.mem_singleton.mp hu]; exact hv
theorem BdG.snoc (h : BdG j s) (h0 : 0 < s.frs.length) {v : Int} (hv : Vb v) : BdG (j + 1) (s.held (s.cur.hl ++ [v])) :=
 (h.mono (Nat.le_succ j)).held h0 (by rw [List.length_append]; have := (h.curH h0).1; simp; (first|lia|omega)) (snoc_vb (h.curH h0).2 hv)
theorem setG_bd (h : BdG j s) (h0 : 0 < s.frs.length) (e : setG n s = .go s') : BdG (j + 1) s' := by
 unfold setG at e
 split at e
 ·cases e
 refine popG_bd h h0 e fun y hy h1 h1' e => ?_
 cases e
 have h2 := h1.boxes h1' (zs := (s.held s.cur.hl.dropLast).cur.bx.set n.toNat y) fun v hv => by
  rcases List.mem_or_eq_of_mem_set hv with hv | hv
  ·exact h1.curB h1' v hv
  ·rw [hv]; exact hy
 have h3 := h2.snoc (by rw [boxes_len]; exact h1') hy
 rw [boxes_cur h1'] at h3
 exact h3
theorem enterG_bd {st : Int} {zs : List Int} (h : BdG j s) (hz : ∀ v ∈ zs, Vb v) (e : enterG s st zs = .go s') : BdG j s' := by
 unfold enterG at e
 split at e
 ·cases e
 split at e
 ·cases e
 cases e
 have nf := h.nf
 refine ⟨fun f hf => ?_, fun f hf => ?_, by simp; (first|lia|omega), h.nr, h.rl⟩
 ·rcases List.mem_append.mp hf with hf | hf
  ·exact h.hl f hf
  ·rw [List.mem_singleton.mp hf]; exact ⟨Nat.zero_le _, fun v hv => by cases hv⟩
 ·rcases List.mem_append.mp hf with hf | hf
  ·exact h.bx f hf
  ·rw [List.mem_singleton.mp hf]; exact hz
theorem callG_bd (h : BdG j s) (h0 : 0 < s.frs.length) (e : callG hs n s = .go s') : BdG (j + 1) s' := by
 unfold callG at e
 split at e
 ·rename_i st p b _
  split at e
  ·cases e
  have hc := h.curH h0
  refine (enterG_bd (h.held h0 (ys := s.cur.hl.take (s.cur.hl.length - p.toNat)) ?_ ?_) ?_ e).mono (Nat.le_succ j)
  ·rw [List.length_take]; (first|lia|omega)
  ·exact fun v hv => hc.2 v (List.mem_of_mem_take hv)
  ·intro v hv
   rcases List.mem_append.mp hv with hv | hv
   ·exact hc.2 v (List.mem_of_mem_drop hv)
   ·rw [(List.mem_replicate.mp hv).2]; exact Vb.small (by decide)
 ·cases e
theorem backG_bd (h : BdG j s) (h0 : 0 < s.frs.length) (e : backG s = .go s') : BdG (j + 1) s' := by
 unfold backG at e
 refine popG_bd h h0 e fun y hy h1 h1' e => ?_
 have h2 : BdG j { s.held s.cur.hl.dropLast with va := y, frs := (s.held s.cur.hl.dropLast).frs.dropLast } :=
  ⟨fun f hf => h1.hl f (mem_drop hf), fun f hf => h1.bx f (mem_drop hf), by have := h1.nf; show (List.dropLast _).length <= 16; rw [List.length_dropLast]; (first|lia|omega), h1.nr, h1.rl⟩
 split at e
 ·cases e
  exact h2.mono (Nat.le_succ j)
 ·rename_i z
  cases e
  exact h2.snoc (Nat.pos_of_ne_zero z) hy
theorem deedG_bd (h : BdG j s) (h0 : 0 < s.frs.length) (hj : j <= 20000) (e : deedG n s = .go s') : BdG (j + 1) s' := by
 unfold deedG at e
 split at e
 ·cases e
 have hc := h.curH h0
 have gv : ∀ i, Vb ((s.cur.hl.drop (s.cur.hl.length - arity n)).getD i 0) := fun i => by
  rw [List.getD_eq_getElem?_getD]
  cases q : (s.cur.hl.drop (s.cur.hl.length - arity n))[i]? with
  | none => exact Vb.small (by decide)
  | some v => exact hc.2 v (List.mem_of_mem_drop (List.mem_iff_getElem?.mpr ⟨_, q⟩))
 have hw := worthM_vb (k := n) (fun xs hx => ⟨Nat.le_trans (h.rl xs hx).1 (Nat.le_trans hj (by decide)), (h.rl xs hx).2⟩) (Nat.le_trans h.nr (Nat.le_trans hj (by decide))) (gv 0) (gv 1) (gv 2)
 have hl := worthM_len (k := n) (v0 := (s.cur.hl.drop (s.cur.hl.length - arity n)).getD 0 0) (v1 := (s.cur.hl.drop (s.cur.hl.length - arity n)).getD 1 0) (v2 := (s.cur.hl.drop (s.cur.hl.length - arity n)).getD 2 0) (fun xs hx => (h.rl xs hx).1)
 split at e
 ·rename_i v rows q
  cases e
  rw [q] at hw hl
  have nr := h.nr
  have h1 : BdG (j + 1) { s with rows := rows } := (h.mono (Nat.le_succ j)).rows (by have := hl.2.1; dsimp only at this; (first|lia|omega)) fun xs hx => ⟨hl.2.2 xs hx, hw.2 xs hx⟩
  refine h1.held h0 ?_ (snoc_vb (fun u hu => hc.2 u (List.mem_of_mem_take hu)) (hw.1 v rfl))
  rw [List.length_append, List.length_take, List.length_singleton]
  (first|lia|omega)
 ·cases e
 ·cases e
theorem stepG_bd {op : Int} (h : BdG j s) (h0 : 0 < s.frs.length) (hj : j <= 20000) (hn : Vb n) (e : stepG hs op n s = .go s') : BdG (j + 1) s' := by
 have up := h.mono (Nat.le_succ j)
 unfold stepG at e
 by_cases c : op = 0
 ·rw [if_pos c] at e; cases e; exact h.snoc h0 hn
 rw [if_neg c] at e
 by_cases c : op = 1
 ·rw [if_pos c] at e
  by_cases d : s.cur.bx.length <= n.toNat
  ·rw [if_pos d] at e; cases e
  ·rw [if_neg d] at e; cases e
   refine h.snoc h0 ?_
   rw [List.getD_eq_getElem?_getD]
   cases q : s.cur.bx[n.toNat]? with
   | none => exact Vb.small (by decide)
   | some v => exact h.curB h0 v (List.mem_iff_getElem?.mpr ⟨_, q⟩)
 rw [if_neg c] at e
 by_cases c : op = 10
 ·rw [if_pos c] at e; exact deedG_bd h h0 hj e
 rw [if_neg c] at e
 by_cases c : op = 2
 ·rw [if_pos c] at e; exact setG_bd h h0 e
 rw [if_neg c] at e
 by_cases c : op = 3
 ·rw [if_pos c] at e
  refine popG_bd h h0 e fun y _ h1 _ e => ?_
  cases e; exact h1.mono (Nat.le_succ j)
 rw [if_neg c] at e
 by_cases c : op = 4
 ·rw [if_pos c] at e; cases e; exact up.goto h0 _
 rw [if_neg c] at e
 by_cases c : op = 5
 ·rw [if_pos c] at e
  refine popG_bd h h0 e fun y _ h1 h1' e => ?_
  cases e
  split
  ·exact (h1.goto h1' _).mono (Nat.le_succ j)
  ·exact h1.mono (Nat.le_succ j)
 rw [if_neg c] at e
 by_cases c : op = 9
 ·rw [if_pos c] at e
  by_cases d : s.br <= 0
  ·rw [if_pos d] at e; cases e
  ·rw [if_neg d] at e; cases e; exact ⟨up.hl, up.bx, up.nf, up.nr, up.rl⟩
 rw [if_neg c] at e
 by_cases c : op = 6
 ·rw [if_pos c] at e; exact callG_bd h h0 e
 rw [if_neg c] at e
 by_cases c : op = 7
 ·rw [if_pos c] at e; exact backG_bd h h0 e
 rw [if_neg c] at e
 by_cases c : op = 8
 ·rw [if_pos c] at e; exact popG_bd h h0 e fun y _ h1 _ e => by cases e
 rw [if_neg c] at e
 refine popG_bd h h0 e fun y _ h1 h1' e => ?_
 cases e
 exact (h1.goto h1' _).mono (Nat.le_succ j)
end
def spRowsG (CM CD CF : Addr) : Sp := fun vs H Q E => ∃ (A : Pl) (H0 : Hp) (hs rs : List (List Int)) (s : MS) (most j : Nat), vs = [.ref (A.ad .m), .int (most : Int)] /\ RunG CM CD H0 H A hs rs s /\ CodeParts hs rs /\ (∀ g ∈ rs, ∀ x ∈ g, Vb x) /\ BdG j s /\ j + most <= 15000 /\ EndsG CM CD CF H0 A hs rs Q E (runG hs rs most s)
def spInitMG (CM CD : Addr) : Sp := fun vs H Q _ => ∃ (x dx co gv : Addr) (br : Int) (hs rs : List (List Int)) (gs : List Int) (H0 : Hp), vs = [.ref x, .ref co, .ref gv, .int br] /\ H x = some (.ins CM dx []) /\ H0 x = none /\ Same H0 H /\ H co = some (.lst ((codeL hs rs).map V.int)) /\ CodeParts hs rs /\ H gv = some (.lst (gs.map V.int)) /\
 ∀ A H', A.ad .m = x -> RunG CM CD H0 H' A hs rs ⟨[gs, []], [], br, 0⟩ -> Q .non H'
def plac (x dx hd sp rw r0 r1 bd : Addr) (uh us : List V) : Pl := ⟨fun r => match r with
 | .m => x | .bd => bd | .hd => hd | .sp => sp | .rw => rw | .row 0 => r0 | .row _ => r1 | _ => x, fun _ => dx, dx, uh, us⟩
theorem ok7 {gs : List Int} {br : Int} {r : Ro} (h : MS.ok ⟨[gs, []], [], br, 0⟩ r) : r = .m \/ r = .hd \/ r = .sp \/ r = .row 0 \/ r = .row 1 \/ r = .rw \/ r = .bd := by
 cases r with
 | row i =>
  have h' : i < 2 := h
  match i, h' with
  | 0, _ => exact .inr (.inr (.inr (.inl rfl)))
  | 1, _ => exact .inr (.inr (.inr (.inr (.inl rfl))))
 | d i => exact absurd h (Nat.not_lt_zero i)
 | bx i => exact absurd h (Nat.not_lt_zero i)
 | hl i => exact absurd h (Nat.not_lt_zero i)
 | m => exact .inl rfl
 | bd => exact .inr (.inr (.inr (.inr (.inr (.inr rfl)))))
 | hd => exact .inr (.inl rfl)
 | sp => exact .inr (.inr (.inl rfl))
 | rw => exact .inr (.inr (.inr (.inr (.inr (.inl rfl)))))
theorem inj7 {x dx hd sp rw r0 r1 bd : Addr} {uh us : List V} {gs : List Int} {br : Int} (n1 : x ≠ hd) (n2 : x ≠ sp /\ hd ≠ sp) (n3 : x ≠ r0 /\ hd ≠ r0 /\ sp ≠ r0) (n4 : x ≠ r1 /\ hd ≠ r1 /\ sp ≠ r1 /\ r0 ≠ r1) (n5 : x ≠ rw /\ hd ≠ rw /\ sp ≠ rw /\ r0 ≠ rw /\ r1 ≠ rw) (n6 : x ≠ bd /\ hd ≠ bd /\ sp ≠ bd /\ r0 ≠ bd /\ r1 ≠ bd /\ rw ≠ bd) :
  ∀ r q, MS.ok ⟨[gs, []], [], br, 0⟩ r -> MS.ok ⟨[gs, []], [], br, 0⟩ q -> (plac x dx hd sp rw r0 r1 bd uh us).ad r = (plac x dx hd sp rw r0 r1 bd uh us).ad q -> r = q := by
 obtain ⟨n21, n22⟩ := n2
 obtain ⟨n31, n32, n33⟩ := n3
 obtain ⟨n41, n42, n43, n44⟩ := n4
 obtain ⟨n51, n52, n53, n54, n55⟩ := n5
 obtain ⟨n61, n62, n63, n64, n65, n66⟩ := n6
 intro r q hr hq e
 rcases ok7 hr with rfl | rfl | rfl | rfl | rfl | rfl | rfl <;> rcases ok7 hq with rfl | rfl | rfl | rfl | rfl | rfl | rfl <;> first | rfl | exact absurd e (by assumption) | exact absurd (Eq.symm e) (by assumption)
def OG.rows : OG -> List (List Int)
 | .go s => s.rows
 | .bad _ _ r => r
theorem worthM_ge (k v0 v1 v2 : Int) (rows : List (List Int)) : rows.length <= (worthM k v0 v1 v2 rows).2.length := by
 unfold worthM
 split
 ·simp
 split
 ·unfold rowM
  repeat' split
  all_goals simp
 ·exact Nat.le_refl _
theorem popG_ge {s : MS} {k : MS -> Int -> OG} (h : ∀ y, s.rows.length <= (k (s.held s.cur.hl.dropLast) y).rows.length) : s.rows.length <= (popG s k).rows.length := by
 unfold popG
 split
 ·exact Nat.le_refl _
 ·exact h _
theorem enterG_ge {s : MS} {st : Int} {zs : List Int} : s.rows.length <= (enterG s st zs).rows.length := by
 unfold enterG
 split
 ·exact Nat.le_refl _
 split
 ·exact Nat.le_refl _
 ·exact Nat.le_refl _
theorem deedG_ge {n : Int} {s : MS} : s.rows.length <= (deedG n s).rows.length := by
 unfold deedG
 split
 ·exact Nat.le_refl _
 have h := worthM_ge n ((s.cur.hl.drop (s.cur.hl.length - arity n)).getD 0 0) ((s.cur.hl.drop (s.cur.hl.length - arity n)).getD 1 0) ((s.cur.hl.drop (s.cur.hl.length - arity n)).getD 2 0) s.rows
 split
 ·rename_i q; rw [q] at h; exact h
 ·rename_i q; rw [q] at h; exact h
 ·rename_i q; rw [q] at h; exact h
theorem stepG_ge {hs : List (List Int)} {op n : Int} {s : MS} : s.rows.length <= (stepG hs op n s).rows.length := by
 have r := Nat.le_refl s.rows.length
 unfold stepG
 by_cases c : op = 0
 ·rw [if_pos c]; exact r
 rw [if_neg c]
 by_cases c : op = 1
 ·rw [if_pos c]
  by_cases d : s.cur.bx.length <= n.toNat
  ·rw [if_pos d]; exact r
  ·rw [if_neg d]; exact r
 rw [if_neg c]
 by_cases c : op = 10
 ·rw [if_pos c]; exact deedG_ge
 rw [if_neg c]
 by_cases c : op = 2
 ·rw [if_pos c]
  unfold setG
  by_cases d : s.cur.bx.length <= n.toNat
  ·rw [if_pos d]; exact r
  ·rw [if_neg d]; exact popG_ge fun _ => r
 rw [if_neg c]
 by_cases c : op = 3
 ·rw [if_pos c]; exact popG_ge fun _ => r
 rw [if_neg c]
 by_cases c : op = 4
 ·rw [if_pos c]; exact r
 rw [if_neg c]
 by_cases c : op = 5
 ·rw [if_pos c]
  refine popG_ge fun y => ?_
  show _ <= (MS.rows (if y = 0 then _ else _)).length
  split
  ·exact r
  ·exact r
 rw [if_neg c]
 by_cases c : op = 9
 ·rw [if_pos c]
  by_cases d : s.br <= 0
  ·rw [if_pos d]; exact r
  ·rw [if_neg d]; exact r
 rw [if_neg c]
 by_cases c : op = 6
 ·rw [if_pos c]
  unfold callG
  split
  ·rename_i st p b _
   by_cases d : s.cur.hl.length < p.toNat
   ·rw [if_pos d]; exact r
   ·rw [if_neg d]; exact Nat.le_trans r (enterG_ge (s := s.held _))
  ·exact r
 rw [if_neg c]
 by_cases c : op = 7
 ·rw [if_pos c]
  unfold backG
  refine popG_ge fun y => ?_
  show _ <= (MS.rows (if _ then _ else _)).length
  split
  ·exact r
  ·exact r
 rw [if_neg c]
 by_cases c : op = 8
 ·rw [if_pos c]; exact popG_ge fun _ => r
 rw [if_neg c]
 exact popG_ge fun _ => r
theorem runG_ge {hs rs : List (List Int)} : ∀ (fuel : Nat) (s : MS), s.rows.length <= (runG hs rs fuel s).rows.length
 | 0, s => by
  unfold runG
  split
  ·exact Nat.le_refl _
  split
  ·exact Nat.le_refl _
  ·exact Nat.le_refl _
 | fuel + 1, s => by
  unfold runG
  split
  ·exact Nat.le_refl _
  split
  ·rename_i op n _
   dsimp only
   have h := stepG_ge (hs := hs) (op := op) (n := n) (s := s.goto (s.cur.pc + 1))
   split
   ·rename_i s' q
    rw [q] at h
    exact Nat.le_trans h (runG_ge fuel s')
   ·rename_i q
    rw [q] at h
    exact h
  ·exact Nat.le_refl _
def spGoG (CM CD : Addr) : Sp := fun vs H Q _ => ∃ (co gv : Addr) (br : Int) (most : Nat) (hs rs : List (List Int)) (gs : List Int), vs = [.ref co, .ref gv, .int br, .int (most : Int)] /\ H co = some (.lst ((codeL hs rs).map V.int)) /\ CodeParts hs rs /\ (∀ g ∈ rs, ∀ x ∈ g, Vb x) /\ H gv = some (.lst (gs.map V.int)) /\ (∀ v ∈ gs, Vb v) /\ gs.length <= 4000 /\ most <= 10000 /\
 ∀ t r1 H', Same H H' -> H t = none -> H r1 = none -> H' t = some (.tup [.str (outG (begG hs rs most br gs)).1, .int (outG (begG hs rs most br gs)).2.1, .ref r1]) -> H' r1 = some (.lst (((outG (begG hs rs most br gs)).2.2.getD 1 []).map V.int)) -> Q (.ref t) H'
theorem BdG.beg {gs : List Int} {br : Int} (h : ∀ v ∈ gs, Vb v) (l : gs.length <= 4000) : BdG 4000 ⟨[gs, []], [], br, 0⟩ :=
 ⟨fun f hf => (by cases hf), fun f hf => (by cases hf), Nat.zero_le _, show 2 <= 4000 by decide, fun xs hx => by
  rcases List.mem_cons.mp hx with rfl | hx
  ·exact ⟨l, h⟩
  ·rw [List.mem_singleton.mp hx]; exact ⟨Nat.zero_le _, fun v hv => by cases hv⟩⟩
end L2

namespace HT
open PySem PySem.Spec PyProof.Rows
section
variable {prog : Program} {w : World} {A : Around} {E : Value -> Shared -> Prop} {s : Shared}
end
end HT
namespace L2
open PySem PySem.Spec PyProof.Rows
section
variable {X : Cx}
end
theorem cutV_take {xs : List V} (n : Nat) : cutV xs none (some (n : Int)) = xs.take n := by
 unfold cutV
 rw [HT.sIx_none, HT.sIx_nat, List.drop_zero, Nat.sub_zero]
 by_cases h : n <= xs.length
 ·rw [Nat.min_eq_left h]
 ·rw [Nat.min_eq_right (by (first|lia|omega)), List.take_length, List.take_of_length_le (by (first|lia|omega))]
theorem cutV_drop {xs : List V} (n : Nat) : cutV xs (some (n : Int)) none = xs.drop n := by
 unfold cutV
 rw [HT.sIx_none, HT.sIx_nat]
 by_cases h : n <= xs.length
 ·rw [Nat.min_eq_left h, List.take_of_length_le (by rw [List.length_drop]; (first|lia|omega))]
 ·rw [Nat.min_eq_right (by (first|lia|omega)), Nat.sub_self, List.take_zero, List.drop_eq_nil_of_le (by (first|lia|omega))]
end L2

namespace L2
open PySem PySem.W PySem.W.X
theorem walkX_of {q : Program} {loose : List Str} {XP : (Str -> Option Value) -> Heap -> Prop} {as : List Addr} {K : Params -> Frag} {n t : Nat} {r : RowW} {d : DefRec} {kwd : List (Str × Expr)} {run : Value -> List Value -> Sem Value} (e : ∀ P, as = (K P).map (·.1))
  (h : WalkO q loose XP (fun w h => (K w.params).In h) r d kwd run) : WalkX q loose XP (obsZ as) (valZ K n t) r d kwd run := by
 intro w s₀ s₁ mg mb G y a o pm cd doc dV kV h1 h2 h3 h4 h5 h6 args vals as' L h7 h8 h9 h10 h11
 have Y : (K w.params).In s₁.heap := InK.keeps (K := K) w s₀.heap s₁.heap (z_facts e y).2.1 L.keeps
 exact h w s₀ s₁ mg mb G Y a o pm cd doc dV kV h1 h2 h3 h4 h5 h6 args vals as' h7 h8 h9 h10 h11
end L2










namespace OcL
open PySem L2
def top (i : Nat) : Stmt := PySem.Challenge.pw_ownchain_k24_what_is_no_code.main.body.getD i (.Pass ⟨0, 0, 0, 0⟩)
abbrev jV : Stmt := top 20
theorem sc_parts_of : FnScope ["kind"] ["kind"] (defScope jV) := ⟨rfl, rfl, rfl, by decide +kernel, rfl, by decide +kernel, by decide +kernel⟩
abbrev jW : Stmt := top 27
theorem sc_is_whole : FnScope ["thing"] ["thing"] (defScope jW) := ⟨rfl, rfl, rfl, by decide +kernel, rfl, by decide +kernel, by decide +kernel⟩
abbrev kZ : Stmt := top 43
theorem qJ : FnScope ["head", "function", "many_rows", "start", "params", "boxes", "most_params"] ["head", "function", "many_rows"] (defScope kZ) := ⟨rfl, rfl, rfl, by decide +kernel, rfl, by decide +kernel, by decide +kernel⟩
abbrev xG : Stmt := top 44
theorem sc_stands_alone : FnScope ["op"] ["op"] (defScope xG) := ⟨rfl, rfl, rfl, by decide +kernel, rfl, by decide +kernel, by decide +kernel⟩
abbrev wD : Stmt := top 45
theorem sc_is_row : FnScope ["row", "many_functions", "many_rows", "op", "number"] ["row", "many_functions", "many_rows"] (defScope wD) := ⟨rfl, rfl, rfl, by decide +kernel, rfl, by decide +kernel, by decide +kernel⟩
abbrev jZ : Stmt := top 46
theorem sc_grouped : FnScope ["numbers", "size"] ["numbers", "size"] (defScope jZ) := ⟨rfl, rfl, rfl, by decide +kernel, rfl, by decide +kernel, by decide +kernel⟩
abbrev jY : Stmt := top 47
theorem sc_heads_in : FnScope ["numbers"] ["numbers"] (defScope jY) := ⟨rfl, rfl, rfl, by decide +kernel, rfl, by decide +kernel, by decide +kernel⟩
abbrev kY : Stmt := top 48
theorem sc_rows_in : FnScope ["numbers"] ["numbers"] (defScope kY) := ⟨rfl, rfl, rfl, by decide +kernel, rfl, by decide +kernel, by decide +kernel⟩
abbrev yO : Stmt := top 49
theorem vB : FnScope ["thing"] ["thing"] (defScope yO) := ⟨rfl, rfl, rfl, by decide +kernel, rfl, by decide +kernel, by decide +kernel⟩
abbrev xL : Stmt := top 50
theorem xE : FnScope ["thing", "many_numbers", "many_rows", "function", "head"] ["thing"] (defScope xL) := ⟨rfl, rfl, rfl, by decide +kernel, rfl, by decide +kernel, by decide +kernel⟩
abbrev jX : Stmt := top 51
theorem sc_heads_of : FnScope ["code"] ["code"] (defScope jX) := ⟨rfl, rfl, rfl, by decide +kernel, rfl, by decide +kernel, by decide +kernel⟩
abbrev kX : Stmt := top 52
theorem sc_rows_of : FnScope ["code"] ["code"] (defScope kX) := ⟨rfl, rfl, rfl, by decide +kernel, rfl, by decide +kernel, by decide +kernel⟩
abbrev wC : Stmt := top 53
theorem sc_joined : FnScope ["things", "size", "numbers", "thing"] ["things", "size"] (defScope wC) := ⟨rfl, rfl, rfl, by decide +kernel, rfl, by decide +kernel, by decide +kernel⟩
abbrev qF : Stmt := top 54
theorem sc_code_of : FnScope ["heads", "rows", "numbers", "code"] ["heads", "rows"] (defScope qF) := ⟨rfl, rfl, rfl, by decide +kernel, rfl, by decide +kernel, by decide +kernel⟩
abbrev wB : Stmt := top 57
theorem sc_within : FnScope ["value"] ["value"] (defScope wB) := ⟨rfl, rfl, rfl, by decide +kernel, rfl, by decide +kernel, by decide +kernel⟩
abbrev jU : Stmt := top 58
theorem sc_reckoned : FnScope ["kind", "first", "second"] ["kind", "first", "second"] (defScope jU) := ⟨rfl, rfl, rfl, by decide +kernel, rfl, by decide +kernel, by decide +kernel⟩
abbrev xM : Stmt := top 59
theorem jO : FnScope ["kind", "values", "rows", "number", "row", "place"] ["kind", "values", "rows"] (defScope xM) := ⟨rfl, rfl, rfl, by decide +kernel, rfl, by decide +kernel, by decide +kernel⟩
abbrev s_worth : Stmt := top 60
theorem sc_worth : FnScope ["kind", "values", "rows"] ["kind", "values", "rows"] (defScope s_worth) := ⟨rfl, rfl, rfl, by decide +kernel, rfl, by decide +kernel, by decide +kernel⟩
abbrev yX : Stmt := inClass (top 64) 0
theorem sc_Fault___init__ : FnScope ["self", "word", "number"] ["self", "word", "number"] (defScope yX) := ⟨rfl, rfl, rfl, by decide +kernel, rfl, by decide +kernel, by decide +kernel⟩
abbrev yY : Stmt := inClass (top 66) 0
theorem sc_Doing___init__ : FnScope ["self", "start", "boxes"] ["self", "start", "boxes"] (defScope yY) := ⟨rfl, rfl, rfl, by decide +kernel, rfl, by decide +kernel, by decide +kernel⟩
abbrev yR : Stmt := inClass (top 67) 0
theorem kK : FnScope ["self", "code", "given", "breaths"] ["self", "code", "given", "breaths"] (defScope yR) := ⟨rfl, rfl, rfl, by decide +kernel, rfl, by decide +kernel, by decide +kernel⟩
abbrev yU : Stmt := inClass (top 67) 1
theorem sc_Machine_breathe : FnScope ["self"] ["self"] (defScope yU) := ⟨rfl, rfl, rfl, by decide +kernel, rfl, by decide +kernel, by decide +kernel⟩
abbrev jF : Stmt := top 68
theorem sc_take_last : FnScope ["held"] ["held"] (defScope jF) := ⟨rfl, rfl, rfl, by decide +kernel, rfl, by decide +kernel, by decide +kernel⟩
abbrev jT : Stmt := top 69
theorem vA : FnScope ["held", "many", "taken", "value"] ["held", "many"] (defScope jT) := ⟨rfl, rfl, rfl, by decide +kernel, rfl, by decide +kernel, by decide +kernel⟩
abbrev jS : Stmt := top 70
theorem sc_want_box : FnScope ["doing", "box"] ["doing", "box"] (defScope jS) := ⟨rfl, rfl, rfl, by decide +kernel, rfl, by decide +kernel, by decide +kernel⟩
abbrev wE : Stmt := top 71
theorem sc_do_set : FnScope ["doing", "box", "value"] ["doing", "box"] (defScope wE) := ⟨rfl, rfl, rfl, by decide +kernel, rfl, by decide +kernel, by decide +kernel⟩
abbrev qB : Stmt := top 72
theorem sc_do_deed : FnScope ["machine", "held", "kind", "fault", "value"] ["machine", "held", "kind"] (defScope qB) := ⟨rfl, rfl, rfl, by decide +kernel, rfl, by decide +kernel, by decide +kernel⟩
abbrev qD : Stmt := top 73
theorem qK : FnScope ["machine", "held", "function", "start", "params", "boxes", "values"] ["machine", "held", "function"] (defScope qD) := ⟨rfl, rfl, rfl, by decide +kernel, rfl, by decide +kernel, by decide +kernel⟩
abbrev qE : Stmt := top 74
theorem sc_do_back : FnScope ["machine", "held"] ["machine", "held"] (defScope qE) := ⟨rfl, rfl, rfl, by decide +kernel, rfl, by decide +kernel, by decide +kernel⟩
abbrev kW : Stmt := top 75
theorem sc_skipped : FnScope ["value", "many"] ["value", "many"] (defScope kW) := ⟨rfl, rfl, rfl, by decide +kernel, rfl, by decide +kernel, by decide +kernel⟩
abbrev wF : Stmt := top 76
theorem sc_do_row : FnScope ["machine", "doing", "op", "number"] ["machine", "doing", "op", "number"] (defScope wF) := ⟨rfl, rfl, rfl, by decide +kernel, rfl, by decide +kernel, by decide +kernel⟩
abbrev qA : Stmt := top 77
theorem jD : FnScope ["machine", "most", "steps", "being_done", "done", "doing", "at"] ["machine", "most"] (defScope qA) := ⟨rfl, rfl, rfl, by decide +kernel, rfl, by decide +kernel, by decide +kernel⟩
abbrev s_go : Stmt := top 78
theorem sc_go : FnScope ["code", "given", "breaths", "most", "machine", "e"] ["code", "given", "breaths", "most"] (defScope s_go) := ⟨rfl, rfl, rfl, by decide +kernel, rfl, by decide +kernel, by decide +kernel⟩
abbrev kB : Stmt := top 80
theorem sc__law_pen : FnScope ["_law_script"] ["_law_script"] (defScope kB) := ⟨rfl, rfl, rfl, by decide +kernel, rfl, by decide +kernel, by decide +kernel⟩
abbrev xY : Stmt := top 81
theorem sc__law_mixed : FnScope ["_law_cell", "_law_turn", "_law_number_here"] ["_law_cell", "_law_turn"] (defScope xY) := ⟨rfl, rfl, rfl, by decide +kernel, rfl, by decide +kernel, by decide +kernel⟩
abbrev jH : Stmt := top 82
theorem kP : FnScope ["_law_pen_here", "_law_many", "_law_cell", "_law_found"] ["_law_pen_here", "_law_many"] (defScope jH) := ⟨rfl, rfl, rfl, by decide +kernel, rfl, by decide +kernel, by decide +kernel⟩
abbrev xO : Stmt := top 83
theorem sc__law_number : FnScope ["_law_pen_here"] ["_law_pen_here"] (defScope xO) := ⟨rfl, rfl, rfl, by decide +kernel, rfl, by decide +kernel, by decide +kernel⟩
abbrev xX : Stmt := top 84
theorem sc__law_needs : FnScope ["_law_op", "_law_number_here", "_law_heads"] ["_law_op", "_law_number_here", "_law_heads"] (defScope xX) := ⟨rfl, rfl, rfl, by decide +kernel, rfl, by decide +kernel, by decide +kernel⟩
abbrev kA : Stmt := top 85
theorem xC : FnScope ["_law_pen_here", "_law_height_here", "_law_many", "_law_heads", "_law_op", "_law_number_here"] ["_law_pen_here", "_law_height_here", "_law_many", "_law_heads"] (defScope kA) := ⟨rfl, rfl, rfl, by decide +kernel, rfl, by decide +kernel, by decide +kernel⟩
abbrev xP : Stmt := top 86
theorem vC : FnScope ["_law_op", "_law_number_here", "_law_heads", "_law_height_here", "_law_left"] ["_law_op", "_law_number_here", "_law_heads", "_law_height_here"] (defScope xP) := ⟨rfl, rfl, rfl, by decide +kernel, rfl, by decide +kernel, by decide +kernel⟩
abbrev jJ : Stmt := top 87
theorem yL : FnScope ["_law_pen_here", "_law_many", "_law_heads", "_law_k", "_law_params", "_law_rows", "_law_flat_here", "_law_height_here", "_law_start"] ["_law_pen_here"] (defScope jJ) := ⟨rfl, rfl, rfl, by decide +kernel, rfl, by decide +kernel, by decide +kernel⟩
abbrev jG : Stmt := top 88
theorem sc__law_word : FnScope ["_law_caught", "_law_others"] ["_law_caught"] (defScope jG) := ⟨rfl, rfl, rfl, by decide +kernel, rfl, by decide +kernel, by decide +kernel⟩
abbrev xH : Stmt := top 89
theorem jC : FnScope ["_law_pen_here", "_law_many", "_law_count", "_law_some"] ["_law_pen_here", "_law_many", "_law_count"] (defScope xH) := ⟨rfl, rfl, rfl, by decide +kernel, rfl, by decide +kernel, by decide +kernel⟩
abbrev xB : Stmt := top 90
theorem yW : FnScope ["_law_pen_here", "_law_head", "_law_at", "_law_many", "_law_start", "_law_params", "_law_boxes", "_law_some"] ["_law_pen_here", "_law_head", "_law_at", "_law_many"] (defScope xB) := ⟨rfl, rfl, rfl, by decide +kernel, rfl, by decide +kernel, by decide +kernel⟩
abbrev jI : Stmt := top 91
theorem kQ : FnScope ["_law_heads", "_law_rows", "_law_found", "_law_one"] ["_law_heads", "_law_rows"] (defScope jI) := ⟨rfl, rfl, rfl, by decide +kernel, rfl, by decide +kernel, by decide +kernel⟩
abbrev xS : Stmt := top 92
theorem jP : FnScope ["_law_pen_here", "_law_heads", "_law_rows", "_law_at", "_law_to", "_law_way", "_law_more"] ["_law_pen_here", "_law_heads", "_law_rows"] (defScope xS) := ⟨rfl, rfl, rfl, by decide +kernel, rfl, by decide +kernel, by decide +kernel⟩
abbrev kD : Stmt := top 93
theorem xR : FnScope ["_law_pen_here", "_law_numbers", "_law_at", "_law_lower", "_law_upper", "_law_some"] ["_law_pen_here", "_law_numbers"] (defScope kD) := ⟨rfl, rfl, rfl, by decide +kernel, rfl, by decide +kernel, by decide +kernel⟩
abbrev xW : Stmt := top 94
theorem kF : FnScope ["_law_way", "_law_one", "_law_other", "_law_caught", "error"] ["_law_way", "_law_one", "_law_other"] (defScope xW) := ⟨rfl, rfl, rfl, by decide +kernel, rfl, by decide +kernel, by decide +kernel⟩
abbrev xA : Stmt := top 95
theorem sc__law_refused : FnScope ["_law_thing"] ["_law_thing"] (defScope xA) := ⟨rfl, rfl, rfl, by decide +kernel, rfl, by decide +kernel, by decide +kernel⟩
abbrev s_law : Stmt := top 96
theorem kH : FnScope ["_law_script", "_law_pen_here", "_law_heads", "_law_rows", "_law_numbers", "_law_turn", "_law_bad_heads", "_law_bad_rows", "_law_one", "_law_other"] ["_law_script"] (defScope s_law) := ⟨rfl, rfl, rfl, by decide +kernel, rfl, by decide +kernel, by decide +kernel⟩
structure Txt (K : PySem.W.Frag) (mg : Str -> Option Value) : Prop where
 n_len : mg "len" = none
 n_range : mg "range" = none
 n_all : mg "all" = none
 n_max : mg "max" = none
 n_enumerate : mg "enumerate" = none
 n_isinstance : mg "isinstance" = none
 n_int : mg "int" = none
 n_bool : mg "bool" = none
 n_tuple : mg "tuple" = none
 n_list : mg "list" = none
 m_ADD : GInt mg "ADD" 8
 m_NEW : GInt mg "NEW" 19
 m_MOST_FUNCTIONS : GInt mg "MOST_FUNCTIONS" 16
 m_MOST_PARAMS : GInt mg "MOST_PARAMS" 4
 m_MOST_BOXES : GInt mg "MOST_BOXES" 12
 m_MOST_MANY : GInt mg "MOST_MANY" 12
 m_LEAST_PICK : GInt mg "LEAST_PICK" 2
 m_OP_PUSH : GInt mg "OP_PUSH" 0
 m_OP_GET : GInt mg "OP_GET" 1
 m_OP_SET : GInt mg "OP_SET" 2
 m_OP_DROP : GInt mg "OP_DROP" 3
 m_OP_JUMP : GInt mg "OP_JUMP" 4
 m_OP_UNLESS : GInt mg "OP_UNLESS" 5
 m_OP_CALL : GInt mg "OP_CALL" 6
 m_OP_BACK : GInt mg "OP_BACK" 7
 m_OP_FAIL : GInt mg "OP_FAIL" 8
 m_OP_BREATH : GInt mg "OP_BREATH" 9
 m_OP_DO : GInt mg "OP_DO" 10
 m_OP_PICK : GInt mg "OP_PICK" 11
 m_HEAD_SIZE : GInt mg "HEAD_SIZE" 3
 m_ROW_SIZE : GInt mg "ROW_SIZE" 2
 kint : PySem.W.kitOne K (.type "int") (.type "int") = some true
 kbool : PySem.W.kitOne K (.type "int") (.type "bool") = some false
 klist : PySem.W.kitOne K (.type "list") (.type "list") = some true
 kal : PySem.W.kitAny K (.type "list") [.type "list", .type "tuple"] = some true
 kat : PySem.W.kitAny K (.type "tuple") [.type "list", .type "tuple"] = some true
 ktup : PySem.W.kitOne K (.type "tuple") (.type "tuple") = some true
structure TxtM (K : PySem.W.Frag) (mg : Str -> Option Value) (CM CD CF : Addr) : Prop extends Txt K mg where
 n_min : mg "min" = none
 m_MOST_DONE_AT_ONCE : GInt mg "MOST_DONE_AT_ONCE" 16
 m_ANSWER : GInt mg "ANSWER" 1
 m_Fault : mg "Fault" = some (.ref CF)
 mach : Cls K CM
 mheads : NoAttr K CM "heads"
 msteps : NoAttr K CM "steps"
 mrows : NoAttr K CM "rows"
 mbreaths : NoAttr K CM "breaths"
 mdone : NoAttr K CM "being_done"
 mvalue : NoAttr K CM "value"
 doing : Cls K CD
 dat : NoAttr K CD "at"
 dboxes : NoAttr K CD "boxes"
 dheld : NoAttr K CD "held"
 exc : ExCls K CF
 xword : NoAttr K CF "word"
 xnumber : NoAttr K CF "number"
 mch : Mch K CF CF
structure TxtD (K : PySem.W.Frag) (mg : Str -> Option Value) : Prop where
 n_len : mg "len" = none
 n_abs : mg "abs" = none
 n_range : mg "range" = none
 n_isinstance : mg "isinstance" = none
 n_int : mg "int" = none
 n_bool : mg "bool" = none
 n_str : mg "str" = none
 n_tuple : mg "tuple" = none
 n_list : mg "list" = none
 m_ADD : GInt mg "ADD" 8
 m_SUB : GInt mg "SUB" 9
 m_MUL : GInt mg "MUL" 10
 m_QUO : GInt mg "QUO" 11
 m_LESS : GInt mg "LESS" 13
 m_SAME : GInt mg "SAME" 14
 m_PUSH : GInt mg "PUSH" 15
 m_PUT : GInt mg "PUT" 17
 m_SIZE : GInt mg "SIZE" 18
 m_NEW : GInt mg "NEW" 19
 m_GREAT : GInt mg "GREAT" 10000000000000000000000000000000000000000000000000000000000000000000000000000000000000000000000000000
 kstr : PySem.W.kitOne K (.type "str") (.type "str") = some true
 kistr : PySem.W.kitOne K (.type "int") (.type "str") = some false
 kbool : PySem.W.kitOne K (.type "int") (.type "bool") = some false
 ktup : PySem.W.kitOne K (.type "tuple") (.type "tuple") = some true
structure TxtG (K : PySem.W.Frag) (mg : Str -> Option Value) (CM CD CF aP : Addr) : Prop extends TxtM K mg CM CD CF where
 d : TxtD K mg
 m_FAIL : GInt mg "FAIL" 7
 m_PARTS : mg "PARTS" = some (.ref aP)
 parts : ∀ H, SqT K H aP ([1, 2, 2, 2, 2, 2, 2, 2, 2, 2, 3, 1, 0].map V.int)

section
variable {P : Program} {w : World} {K : PySem.W.Frag} {mg : Str -> Option Value} {base : Heap} {f : Addr} {fd : FuncData}
set_option maxHeartbeats 4000000

theorem ok_is_head (T : Txt K mg) (F : Fun K "is_head" "is_head" kZ f fd) : FnOk P w K mg base (CXE P w) 1 f fd ["head", "function", "many_rows"] spIsHead := by
 refine F.okN qJ (fun vs H Q E h => ?_) (fun cdv A outer s H vs Q E hr h => ?_)
 ·obtain ⟨t, s, p, b, fn, nr, rfl, _⟩ := h
  rfl
 obtain ⟨t, s, p, b, fn, nr, rfl, ht, q⟩ := h
 refine ⟨_, (zE (jQ (pv 0) (qP rfl (yK (yH (i := 3) qJ.nd rfl (Or.inl rfl)) (yK (yH (i := 4) qJ.nd rfl (Or.inl rfl)) (yK (yH (i := 5) qJ.nd rfl (Or.inl rfl)) jR)))))
   (zE (zW (PW.pt (qL (zI kO (pv 3) zF (nomark _)) (jE (zI op_ge (pv 3) (pv 2) (nomark _))))) (zG (zL jL)) zN)
   (zE (zT (i := 6) qJ.nd rfl (Or.inl rfl) (pe_ifExp (zI yJ (pv 1) zF (nomark _)) zF (zO rfl T.m_MOST_PARAMS)))
   (zG (zL (vD (qQ qU qU zF (pv 4) (pv 6)) (pe_one (qQ qU qU (pv 4) (pv 5) (zO rfl T.m_MOST_BOXES))))))))), ?_⟩
 try dsimp only [Cx.nox, Cx.exc, Cx.wish, zY]
 refine ⟨_, rfl, t, _, rfl, SqT.of ht, rfl, _, _, rfl, _, _, rfl, _, _, rfl, rfl, ?_⟩
 have no : ∀ {z : Prop}, z -> (z -> ¬ HeadOk s p b fn nr) -> Q (.bl false) H := fun c g => q false ⟨fun e => (nomatch e), fun e => absurd e (g c)⟩
 refine ⟨_, rfl, _, _, rfl, rfl, _, rfl, ite2 (fun c => ?_) (fun c => ?_)⟩
 ·exact iteT (no (of_decide_eq_true c) fun c e => by obtain ⟨e, _⟩ := e; (first|lia|omega))
 have c1 := df c
 refine ⟨_, rfl, _, rfl, _, _, rfl, rfl, _, rfl, ite2 (fun c => ?_) (fun c => ?_)⟩
 ·exact no (of_decide_eq_true c) fun c e => by obtain ⟨_, e, _⟩ := e; (first|lia|omega)
 have c2 := df c
 refine ⟨_, rfl, rfl, _, rfl, ite2 (fun c3 => ?_) (fun c3 => ?_)⟩
 ·have e := vt c3
  dsimp only [tC, gName, tRet, tAndV]
  refine wQ 0 p 0 (fun R h => h) (fun R h => ⟨_, rfl, h⟩) (fun R h => ⟨_, rfl, h⟩) fun r z => ⟨_, rfl, ite2 (fun c => ?_) (fun c => ?_)⟩
  ·have c' := z.mp c
   exact wQ p b 12 (fun R h => ⟨_, rfl, h⟩) (fun R h => ⟨_, rfl, h⟩) (fun R h => h) fun r z => q r (z.trans (by unfold HeadOk; (first|lia|omega)))
  ·exact no (fun y => c (z.mpr y)) fun c y => c (by unfold HeadOk at y; (first|lia|omega))
 ·have e := vf c3
  dsimp only [tC, gName, tRet, tAndV]
  refine wQ 0 p 4 (fun R h => h) (fun R h => ⟨_, rfl, h⟩) (fun R h => ⟨_, rfl, h⟩) fun r z => ⟨_, rfl, ite2 (fun c => ?_) (fun c => ?_)⟩
  ·have c' := z.mp c
   exact wQ p b 12 (fun R h => ⟨_, rfl, h⟩) (fun R h => ⟨_, rfl, h⟩) (fun R h => h) fun r z => q r (z.trans (by unfold HeadOk; (first|lia|omega)))
  ·exact no (fun y => c (z.mpr y)) fun c y => c (by unfold HeadOk at y; (first|lia|omega))
theorem ok_alone (T : Txt K mg) (F : Fun K "stands_alone" "stands_alone" xG f fd) : FnOk P w K mg base (CXE P w) 1 f fd ["op"] spAlone := by
 refine F.okN sc_stands_alone (fun vs H Q E h => ?_) (fun cdv A outer s H vs Q E hr h => ?_)
 ·obtain ⟨op, rfl, _⟩ := h
  rfl
 obtain ⟨op, rfl, q⟩ := h
 refine ⟨_, (zG (zL (kU wJ (pv 0) (zM (zA (zO rfl T.m_OP_DROP) (zA (zO rfl T.m_OP_BACK) (zA (zO rfl T.m_OP_FAIL) (zA (zO rfl T.m_OP_BREATH) zC))))) rfl))), ?_⟩
 try dsimp only [Cx.nox, Cx.exc, Cx.wish, zY]
 refine ⟨_, rfl, small (show 4 <= 1000 by decide), fun u hu => ⟨u, _, rfl, .inr (SqT.of zB), rfl, rfl, q _ _ (zD hu _) ?_⟩⟩
 have ei : (if false = true then !inV (.int op) ([3, 7, 8, 9].map V.int) else inV (.int op) ([3, 7, 8, 9].map V.int)) = decide (op ∈ [(3 : Int), 7, 8, 9]) := inV_ints op [3, 7, 8, 9]
 have em : op ∈ [(3 : Int), 7, 8, 9] ↔ op = 3 \/ op = 7 \/ op = 8 \/ op = 9 := by simp
 rw [<- em]
 exact ⟨fun c => of_decide_eq_true (ei ▸ c), fun c => ei.trans (decide_eq_true c)⟩
theorem ok_is_row (T : Txt K mg) (F : Fun K "is_row" "is_row" wD f fd) (Cstands_alone : Cal P w K mg base (CXE P w) 1 "stands_alone" ["op"] spAlone) : FnOk P w K mg base (CXE P w) 2 f fd ["row", "many_functions", "many_rows"] spIsRow := by
 refine F.okN sc_is_row (fun vs H Q E h => ?_) (fun cdv A outer s H vs Q E hr h => ?_)
 ·obtain ⟨t, op, n, nf, nr, rfl, _⟩ := h
  rfl
 obtain ⟨t, op, n, nf, nr, rfl, ht, q⟩ := h
 refine ⟨_, (zE (jQ (pv 0) (qP rfl (yK (yH (i := 3) sc_is_row.nd rfl (Or.inl rfl)) (yK (yH (i := 4) sc_is_row.nd rfl (Or.inl rfl)) jR))))
   (zE (zW (zI yJ (pv 3) (zO rfl T.m_OP_PUSH) (nomark _)) (zG (zL jL)) zN)
   (zE (zW (PW.pt (qL (zI yJ (pv 3) (zO rfl T.m_OP_GET) (nomark _)) (jE (zI yJ (pv 3) (zO rfl T.m_OP_SET) (nomark _))))) (zG (zL (qQ qU kO zF (pv 4) (zO rfl T.m_MOST_BOXES)))) zN)
   (zE (zW (PW.pt (qL (zI yJ (pv 3) (zO rfl T.m_OP_JUMP) (nomark _)) (jE (zI yJ (pv 3) (zO rfl T.m_OP_UNLESS) (nomark _))))) (zG (zL (qQ qU kO zF (pv 4) (pv 2)))) zN)
   (zE (zW (zI yJ (pv 3) (zO rfl T.m_OP_CALL) (nomark _)) (zG (zL (qQ qU kO zF (pv 4) (pv 1)))) zN)
   (zE (zW (zI yJ (pv 3) (zO rfl T.m_OP_DO) (nomark _)) (zG (zL (qQ qU qU (zO rfl T.m_ADD) (pv 4) (zO rfl T.m_NEW)))) zN)
   (zE (zW (zI yJ (pv 3) (zO rfl T.m_OP_PICK) (nomark _)) (zG (zL (qQ qU qU (zO rfl T.m_LEAST_PICK) (pv 4) (zO rfl T.m_MOST_MANY)))) zN)
   (zG (zL (vD (zH Cstands_alone hr rfl (zA (pv 3) zC) passN) (pe_one (kU yJ (pv 4) zF (nomark _))))))))))))), ?_⟩
 try dsimp only [Cx.nox, Cx.exc, Cx.wish, zY]
 refine ⟨_, rfl, t, _, rfl, SqT.of ht, rfl, _, _, rfl, _, _, rfl, rfl, ?_⟩
 have go : ∀ (r : Bool), (r = true ↔ RowOk op n nf nr) -> Q (.bl r) H := fun r e => q r H (Same.refl H) e
 refine ⟨_, rfl, rfl, _, rfl, ite2 (fun c => ?_) (fun c => ?_)⟩
 ·have e := vt c
  exact go true ⟨fun _ => .inl e, fun _ => rfl⟩
 have n0 := vf c
 refine ⟨_, rfl, rfl, _, rfl, ite2 (fun c => iteT ?_) (fun c => ?_)⟩
 ·have e := vt c
  exact wP 0 n 12 (fun R h => h) (fun R h => ⟨_, rfl, h⟩) (fun R h => h) fun r z => go r (z.trans (by unfold RowOk; (first|lia|omega)))
 have n1 := vf c
 refine ⟨_, rfl, rfl, _, rfl, ite2 (fun c => ?_) (fun c => ?_)⟩
 ·have e := vt c
  exact wP 0 n 12 (fun R h => h) (fun R h => ⟨_, rfl, h⟩) (fun R h => h) fun r z => go r (z.trans (by unfold RowOk; (first|lia|omega)))
 have n2 := vf c
 refine ⟨_, rfl, rfl, _, rfl, ite2 (fun c => iteT ?_) (fun c => ?_)⟩
 ·have e := vt c
  exact wP 0 n nr (fun R h => h) (fun R h => ⟨_, rfl, h⟩) (fun R h => ⟨_, rfl, h⟩) fun r z => go r (z.trans (by unfold RowOk; (first|lia|omega)))
 have n4 := vf c
 refine ⟨_, rfl, rfl, _, rfl, ite2 (fun c => ?_) (fun c => ?_)⟩
 ·have e := vt c
  exact wP 0 n nr (fun R h => h) (fun R h => ⟨_, rfl, h⟩) (fun R h => ⟨_, rfl, h⟩) fun r z => go r (z.trans (by unfold RowOk; (first|lia|omega)))
 have n5 := vf c
 refine ⟨_, rfl, rfl, _, rfl, ite2 (fun c => ?_) (fun c => ?_)⟩
 ·have e := vt c
  exact wP 0 n nf (fun R h => h) (fun R h => ⟨_, rfl, h⟩) (fun R h => ⟨_, rfl, h⟩) fun r z => go r (z.trans (by unfold RowOk; (first|lia|omega)))
 have n6 := vf c
 refine ⟨_, rfl, rfl, _, rfl, ite2 (fun c => ?_) (fun c => ?_)⟩
 ·have e := vt c
  exact wQ 8 n 19 (fun R h => h) (fun R h => ⟨_, rfl, h⟩) (fun R h => h) fun r z => go r (z.trans (by unfold RowOk; (first|lia|omega)))
 have n10 := vf c
 refine ⟨_, rfl, rfl, _, rfl, ite2 (fun c => ?_) (fun c => ?_)⟩
 ·have e := vt c
  exact wQ 2 n 12 (fun R h => h) (fun R h => ⟨_, rfl, h⟩) (fun R h => h) fun r z => go r (z.trans (by unfold RowOk; (first|lia|omega)))
 have n11 := vf c
 refine ⟨_, rfl, op, rfl, fun r H' g z => ⟨_, rfl, ?_⟩⟩
 cases r with
 | true =>
  have m := z.mp rfl
  refine iteT ⟨_, rfl, rfl, q _ _ g ?_⟩
  rw [dec_int, beq_iff_eq]
  unfold RowOk
  (first|lia|omega)
 | false =>
  have m : ¬ (op = 3 \/ op = 7 \/ op = 8 \/ op = 9) := fun y => nomatch z.mpr y
  refine iteF (q _ _ g ⟨fun e => (nomatch e), fun e => absurd e ?_⟩)
  unfold RowOk
  (first|lia|omega)
theorem ok_grouped (T : Txt K mg) (F : Fun K "grouped" "grouped" jZ f fd) : FnOk P w K mg base (CXE P w) 1 f fd ["numbers", "size"] spGrouped := by
 refine F.okN sc_grouped (fun vs H Q E h => ?_) (fun cdv A outer s H vs Q E hr h => ?_)
 ·obtain ⟨a, ns, k, rfl, _⟩ := h
  rfl
 obtain ⟨a, ns, k, rfl, hk, ha, hl, q⟩ := h
 refine ⟨_, (zG (zL (pe_comp (own := ["at"]) (ys := ["numbers", "size"]) rfl (pi_step rfl T.n_range (zA zF (zA (zU zQ rfl T.n_len yS (zA (pv 0) zC)) (zA (pv 1) zC)))) (qH (sc := defScope jZ) rfl (by decide +kernel)) (.cons (j := 0) rfl (.cons (j := 1) rfl .nil)) (fun _ _ _ _ _ => (yH (i := 0) (show List.Nodup [("at" : Str), ("numbers" : Str), ("size" : Str)] from (by decide +kernel)) rfl (Or.inl rfl))) (fun _ _ _ _ _ => pts_nil) (fun _ _ _ _ _ => (jA (call_tuple_ofK K rfl) rfl T.n_tuple bt_tuple (zA (xT (sl_listK K rfl) (pv 1) (xZ (pv 0)) (xZ (zR xF (pv 0) (pv 2)))) zC)))))), ?_⟩
 try dsimp only [Cx.nox, Cx.exc, Cx.wish, zY]
 have hz : (ns.map V.int).length = ns.length := List.length_map ..
 refine ⟨_, rfl, a, _, rfl, .inl (SqL.of ha), _, rfl, _, _, _, (ns.length + (k - 1)) / k, rfl, ⟨by (first|lia|omega), by (first|lia|omega), by (first|lia|omega), by (first|lia|omega)⟩, by (first|lia|omega), by rw [hz]; exact rangeSize_grp hk, fun p hp => ?_⟩
 have hap : a ≠ p := fun z => by rw [z, hp] at ha; cases ha
 refine comp_step (fun i σ' H' => ∃ ys, H' p = some (.lst ys) /\ i <= (ns.length + (k - 1)) / k /\ Same H H' /\ Paired (TupAt H') ys ((grp k ns).take i) /\ ∃ x, σ' = [x, some (.ref a), some (.int k)]) ⟨[], zB, Nat.zero_le _, zD hp _, .nil, _, rfl⟩ ?_ ?_
 ·rintro i σ' H' hi ⟨ys, hy, _, sm, pr, x, rfl⟩
  have ea : (0 : Int) + (i : Int) * (k : Int) = ((i * k : Nat) : Int) := by rw [Int.zero_add, Int.natCast_mul]
  have eb : (0 : Int) + (i : Int) * (k : Int) + (k : Int) = ((i * k + k : Nat) : Int) := by rw [ea, Int.natCast_add]
  have ec := cut_ints ns (i * k) (i * k + k)
  rw [<- ea, <- eb, Nat.add_sub_cancel_left] at ec
  dsimp only [gName, tYes]
  refine iteT ⟨_, rfl, _, rfl, _, rfl, _, rfl, _, rfl, _, _, rfl, rfl, _, rfl, a, _, rfl, SqL.of (sm _ _ ha), fun l hl1 => ?_⟩
  rw [ec]
  refine ⟨l, _, rfl, .inl ⟨SqL.of zB, fun l2 hl2 => ?_⟩⟩
  have s1 : Same H' (upd (upd H' l (.lst (((ns.drop (i * k)).take k).map V.int))) l2 (.tup (((ns.drop (i * k)).take k).map V.int))) := (zD hl1 _).trans (zD hl2 _)
  have hy' := s1 _ _ hy
  have yl : ys.length <= 1000000 := by
   have e1 := Paired.len pr
   have e2 := List.length_take_le i (grp k ns)
   have e3 : (ns.length + (k - 1)) / k <= 1000000 := by rcases hk with rfl | rfl <;> (first|lia|omega)
   (first|lia|omega)
  refine ⟨ys, hy', Nat.lt_of_le_of_lt yl (by decide), CW.next hi ⟨_, zB, hi, ?_, ?_, _, rfl⟩⟩
  ·exact (sm.trans s1).fresh hp
  ·rw [grp_next hi]
   refine Paired.append (Paired.imp (fun _ _ x => (x.same s1).upd hy') pr) (.cons ?_ .nil)
   exact TupAt.upd ⟨l2, rfl, zB⟩ hy'
 ·rintro σ' H' ⟨ys, hy, _, sm, pr, _⟩
  have ht : (grp k ns).take ((ns.length + (k - 1)) / k) = grp k ns := List.take_of_length_le (by unfold grp; simp)
  rw [ht] at pr
  exact q p H' sm hp ⟨ys, hy, pr⟩
theorem ok_heads_in (T : Txt K mg) (F : Fun K "heads_in" "heads_in" jY f fd) (Cgrouped : Cal P w K mg base (CXE P w) 1 "grouped" ["numbers", "size"] spGrouped) : FnOk P w K mg base (CXE P w) 2 f fd ["numbers"] spHeadsIn := by
 refine F.okN sc_heads_in (fun vs H Q E h => ?_) (fun cdv A outer s H vs Q E hr h => ?_)
 ·obtain ⟨a, ns, rfl, _⟩ := h
  rfl
 obtain ⟨a, ns, rfl, ha, hl, ⟨n, ms, e, hn, hn'⟩, q⟩ := h
 refine ⟨_, (zG (zL (zH Cgrouped hr rfl (zA (xT jN (pv 0) (xZ zF) (xZ (zR xF zF (zR vG (zO rfl T.m_HEAD_SIZE) (zX zP (pv 0) zF (fun _ _ => rfl)))))) (zA (zO rfl T.m_HEAD_SIZE) zC)) passN))), ?_⟩
 try dsimp only [Cx.nox, Cx.exc, Cx.wish, zY]
 refine ⟨_, rfl, _, rfl, _, rfl, a, _, _, _, rfl, rfl, SqL.of ha, at_zero e, _, _, rfl, rfl, mul3 hn hn', _, _, rfl, rfl, _, rfl, a, _, rfl, SqL.of ha, fun l hl1 => ?_⟩
 rw [head_cut e hn]
 have hh : (headNums ns).length <= ns.length := by unfold headNums; simp; (first|lia|omega)
 exact ⟨l, headNums ns, 3, rfl, .inr rfl, zB, by (first|lia|omega), fun r H' g1 g2 g3 => q r H' ((zD hl1 _).trans g1) ((zD hl1 _).free g2) g3⟩
theorem ok_rows_in (T : Txt K mg) (F : Fun K "rows_in" "rows_in" kY f fd) (Cgrouped : Cal P w K mg base (CXE P w) 1 "grouped" ["numbers", "size"] spGrouped) : FnOk P w K mg base (CXE P w) 2 f fd ["numbers"] spRowsIn := by
 refine F.okN sc_rows_in (fun vs H Q E h => ?_) (fun cdv A outer s H vs Q E hr h => ?_)
 ·obtain ⟨a, ns, rfl, _⟩ := h
  rfl
 obtain ⟨a, ns, rfl, ha, hl, ⟨n, ms, e, hn, hn'⟩, q⟩ := h
 refine ⟨_, (zG (zL (zH Cgrouped hr rfl (zA (xT jN (pv 0) (xZ (zR xF zF (zR vG (zO rfl T.m_HEAD_SIZE) (zX zP (pv 0) zF (fun _ _ => rfl))))) kS) (zA (zO rfl T.m_ROW_SIZE) zC)) passN))), ?_⟩
 try dsimp only [Cx.nox, Cx.exc, Cx.wish, zY]
 refine ⟨_, rfl, _, rfl, a, _, _, _, rfl, rfl, SqL.of ha, at_zero e, _, _, rfl, rfl, mul3 hn hn', _, _, rfl, rfl, _, rfl, a, _, rfl, SqL.of ha, fun l hl1 => ?_⟩
 rw [row_cut e hn]
 have hh : (rowNums ns).length <= ns.length := by unfold rowNums; simp
 exact ⟨l, rowNums ns, 2, rfl, .inl rfl, zB, by (first|lia|omega), fun r H' g1 g2 g3 => q r H' ((zD hl1 _).trans g1) ((zD hl1 _).free g2) g3⟩
theorem ok_wholeX (T : Txt K mg) (TK : KitO K) (F : Fun K "is_whole" "is_whole" jW f fd) : FnOk P w K mg base (CXE P w) 1 f fd ["thing"] (spWholeX K) := by
 refine F.okN sc_is_whole (fun vs H Q E h => ?_) (fun cdv A outer s H vs Q E hr h => ?_)
 ·obtain ⟨v, rfl, _⟩ := h
  rfl
 obtain ⟨v, rfl, ⟨t, m, ty⟩, q⟩ := h
 refine ⟨_, (zG (zL (vD (zU call_isi rfl T.n_isinstance yV (zA (pv 0) (zA (qT (v := .ty "int") rfl T.n_int bt_int rfl) zC))) (pe_one (pe_not (zU call_isi rfl T.n_isinstance yV (zA (pv 0) (zA (qT (v := .ty "bool") rfl T.n_bool bt_bool rfl) zC)))))))), ?_⟩
 try dsimp only [Cx.nox, Cx.exc, Cx.wish, zY]
 rw [ty.wh] at q
 refine ⟨_, rfl, .inl ⟨_, _, _, _, rfl, ty, TK.ki t m, _, rfl, ?_⟩⟩
 by_cases c : (t == "int" || t == "bool") = true
 ·rw [if_pos c]
  refine ⟨_, rfl, .inl ⟨_, _, _, _, rfl, ty, TK.kb t m, _, rfl, ?_⟩⟩
  have e : (!(t == "bool")) = (t == "int") := by
   unfold kinds7 at m
   simp only [List.mem_cons, List.not_mem_nil, or_false] at m
   rcases m with rfl | rfl | rfl | rfl | rfl | rfl | rfl
   ·rfl
   ·rfl
   all_goals exact absurd c (by decide)
  rw [e]
  exact q
 ·rw [if_neg c]
  have c1 : (t == "int" || t == "bool") = false := Bool.eq_false_iff.mpr c
  have c2 : (t == "int") = false := by
   rw [Bool.or_eq_false_iff] at c1
   exact c1.1
  rw [c2] at q
  exact q
theorem ok_wholesX (T : Txt K mg) (TK : KitO K) (F : Fun K "is_list_of_wholes" "is_list_of_wholes" yO f fd) (Cis_whole : Cal P w K mg base (CXE P w) 1 "is_whole" ["thing"] (spWholeX K)) : FnOk P w K mg base (CXE P w) 2 f fd ["thing"] (spWholesX K) := by
 refine F.okN vB (fun vs H Q E h => ?_) (fun cdv A outer s H vs Q E hr h => ?_)
 ·obtain ⟨v, o, rfl, _⟩ := h
  rfl
 obtain ⟨v, o, rfl, th, q⟩ := h
 refine ⟨_, (zG (zL (vD (zU call_isi rfl T.n_isinstance yV (zA (pv 0) (zA (qT (v := .ty "list") rfl T.n_list bt_list rfl) zC))) (pe_one (zU (call_all rfl) rfl T.n_all bt_all (zA (pe_comp (own := ["number"]) (ys := []) rfl (pi_list (pv 0)) (qH (sc := defScope yO) rfl (by decide +kernel)) .nil (fun _ _ _ _ _ => (yH (i := 0) (show List.Nodup [("number" : Str)] from (by decide +kernel)) rfl (Or.inl rfl))) (fun _ _ _ _ _ => pts_nil) (fun _ _ _ _ _ => (zH Cis_whole hr rfl (zA (pv 0) zC) passN))) zC)))))), ?_⟩
 try dsimp only [Cx.nox, Cx.exc, Cx.wish, zY]
 cases th with
 | @no _ t m n ty =>
  refine ⟨_, rfl, .inl ⟨_, _, _, _, rfl, ty, TK.kl t m, _, rfl, ?_⟩⟩
  have e : (t == "list") = false := beq_eq_false_iff_ne.mpr n
  rw [e, if_neg (by decide)]
  exact q H fun _ _ e => e
 | @yes a xs ha k hl =>
  refine ⟨_, rfl, .inl ⟨_, _, _, true, rfl, .lst ha, T.klist, _, rfl, iteT ?_⟩⟩
  refine ⟨_, rfl, a, rfl, ⟨_, SqL.of ha⟩, fun p hp => ?_⟩
  refine comp_lst (xs := xs) (fun i σ' H' => H' = upd H p (.lst (((xs.take i).map isWh).map V.bl)) /\ ∃ x, σ' = [x]) ⟨rfl, _, rfl⟩ ?_ ?_ ?_
  ·rintro i σ' H' _ ⟨rfl, _⟩
   exact SqL.of (zD hp _ _ _ ha)
  ·rintro i x σ' H' hi hx ⟨rfl, y, rfl⟩
   dsimp only [gName, tYes]
   refine iteT ⟨_, rfl, x, rfl, (k x (List.mem_of_getElem? hx)).same (zD hp _), _, zB, ?_, CW.next hi ⟨?_, _, rfl⟩⟩
   ·rw [List.length_map, List.length_map, List.length_take]
    exact Nat.lt_of_le_of_lt (Nat.min_le_left ..) (Nat.lt_of_lt_of_le hi (Nat.le_trans hl (by decide)))
   ·have e : xs.take (i + 1) = xs.take i ++ [x] := by rw [List.take_succ, hx] <;> rfl
    rw [e, List.map_append, List.map_append, upd_upd] <;> rfl
  ·rintro σ' H' ⟨rfl, _⟩
   refine ⟨p, _, rfl, SqL.of zB, ?_⟩
   have e : ((xs.take xs.length).map isWh).all id = xs.all isWh := by
    rw [List.take_length, List.all_map] <;> rfl
   rw [e]
   exact q _ (zD hp _)
theorem ok_is_code (T : Txt K mg) (F : Fun K "is_code" "is_code" xL f fd) (Cis_list_of_wholes : Cal P w K mg base (CXE P w) 2 "is_list_of_wholes" ["thing"] spWholes) (Cheads_in : Cal P w K mg base (CXE P w) 2 "heads_in" ["numbers"] spHeadsIn) (Crows_in : Cal P w K mg base (CXE P w) 2 "rows_in" ["numbers"] spRowsIn)
  (Cis_head : Cal P w K mg base (CXE P w) 1 "is_head" ["head", "function", "many_rows"] spIsHead) (Cis_row : Cal P w K mg base (CXE P w) 2 "is_row" ["row", "many_functions", "many_rows"] spIsRow) : FnOk P w K mg base (CXE P w) 3 f fd ["thing"] spIsCode := by
 refine F.okN xE (fun vs H Q E h => ?_) (fun cdv A outer s H vs Q E hr h => ?_)
 ·obtain ⟨a, ns, rfl, _⟩ := h
  rfl
 obtain ⟨a, ns, rfl, ha, hl, q⟩ := h
 refine ⟨_, (zE (zW (PW.pt (qL (kI (qM (zH Cis_list_of_wholes hr rfl (zA (pv 0) zC) passN))) (jE (zI yJ (zU zQ rfl T.n_len yS (zA (pv 0) zC)) zF (nomark _))))) (zG (zL jL)) zN)
   (zE (zW (PW.pt (qL (zI kO (zX zP (pv 0) zF (fun _ _ => rfl)) zF (nomark _)) (jE (zI op_gt (zX zP (pv 0) zF (fun _ _ => rfl)) (zO rfl T.m_MOST_FUNCTIONS) (nomark _))))) (zG (zL jL)) zN)
   (zE (zT (i := 1) xE.nd rfl (Or.inl rfl) (zR xQ (zR xQ (zU zQ rfl T.n_len yS (zA (pv 0) zC)) zF) (zR vG (zO rfl T.m_HEAD_SIZE) (zX zP (pv 0) zF (fun _ _ => rfl)))))
   (zE (zW (PW.pt (qL (zI kO (pv 1) (zO rfl T.m_ROW_SIZE) (nomark _)) (jE (zI op_ne (zR wT (pv 1) (zO rfl T.m_ROW_SIZE)) zF (nomark _))))) (zG (zL jL)) zN)
   (zE (zT (i := 2) xE.nd rfl (Or.inr rfl) (zR vH (pv 1) (zO rfl T.m_ROW_SIZE)))
   (zE (qO PassesOwn.never rfl (pi_enum rfl T.n_enumerate (zA (zH Cheads_in hr rfl (zA (pv 0) zC) passN) zC)) (qP rfl (yK (yH (i := 3) xE.nd rfl (Or.inl rfl)) (yK (yH (i := 4) xE.nd rfl (Or.inl rfl)) jR))) (zG (zW (kI (qM (zH Cis_head hr rfl (zA (pv 4) (zA (pv 3) (zA (pv 2) zC))) passN))) (zG (zL jL)) zN)))
   (zG (zL (zU (call_all rfl) rfl T.n_all bt_all (zA (pe_comp (own := ["row"]) (ys := ["many_rows", "thing"]) rfl (pi_list (zH Crows_in hr rfl (zA (pv 0) zC) passN)) (qH (sc := defScope xL) rfl (by decide +kernel)) (.cons (j := 2) rfl (.cons (j := 0) rfl .nil)) (fun _ _ _ _ _ => (yH (i := 0) (show List.Nodup [("row" : Str), ("many_rows" : Str), ("thing" : Str)] from (by decide +kernel)) rfl (Or.inl rfl))) (fun _ _ _ _ _ => pts_nil) (fun _ _ _ _ _ => (zH Cis_row hr rfl (zA (pv 0) (zA (zX (ix_listK K rfl) (pv 2) zF (fun _ _ => rfl)) (zA (pv 1) zC))) passN))) zC)))))))))), ?_⟩
 try dsimp only [Cx.nox, Cx.exc, Cx.wish, zY]
 refine ⟨_, rfl, a, ns, rfl, ha, hl, fun H1 g1 => ⟨_, rfl, iteF ?_⟩⟩
 have bad : ∀ H', Same H H' -> ¬ CodeOk ns -> Q (.bl false) H' := fun H' g c => q false H' g ⟨fun e => (nomatch e), fun e => absurd e c⟩
 have ha1 := g1 _ _ ha
 refine ⟨_, rfl, a, _, rfl, .inl (SqL.of ha1), rfl, _, rfl, ite2 (fun c => ?_) (fun c => ?_)⟩
 ·have e0 := vt c
  refine bad H1 g1 fun z => ?_
  obtain ⟨n, ms, e, _⟩ := z.big
  rw [e] at e0
  rw [List.length_map, List.length_cons] at e0
  (first|lia|omega)
 have e0 := vf c
 obtain ⟨n, ms, e⟩ : ∃ n ms, ns = n :: ms := by
  cases ns with
  | nil => exact absurd rfl e0
  | cons n ms => exact ⟨n, ms, rfl⟩
 have a0 := at_zero e
 refine ⟨_, rfl, a, _, _, _, rfl, rfl, SqL.of ha1, a0, _, _, rfl, rfl, _, rfl, ite2 (fun c => iteT ?_) (fun c => ?_)⟩
 ·have c' := of_decide_eq_true c
  refine bad H1 g1 fun z => ?_
  obtain ⟨n', ms', e', h1, _⟩ := z.big
  rw [e] at e'
  injection e' with e' _
  (first|lia|omega)
 have n1 := df c
 refine ⟨_, rfl, a, _, _, _, rfl, rfl, SqL.of ha1, a0, _, _, rfl, rfl, _, rfl, ite2 (fun c => ?_) (fun c => ?_)⟩
 ·have c' := of_decide_eq_true c
  refine bad H1 g1 fun z => ?_
  obtain ⟨n', ms', e', _, h1, _⟩ := z.big
  rw [e] at e'
  injection e' with e' _
  (first|lia|omega)
 have n16 := df c
 have hlen : ((ns.map V.int).length : Int) = ms.length + 1 := by rw [e, List.length_map, List.length_cons] <;> rfl
 refine ⟨_, rfl, a, _, rfl, .inl (SqL.of ha1), _, _, rfl, rfl, _, rfl, a, _, _, _, rfl, rfl, SqL.of ha1, a0, _, _, rfl, rfl, mul3 (by (first|lia|omega)) (by (first|lia|omega)), _, _, rfl, rfl, ?_⟩
 refine ⟨_, rfl, _, _, rfl, rfl, _, rfl, ite2 (fun c => iteT ?_) (fun c => ?_)⟩
 ·have c' := of_decide_eq_true c
  refine bad H1 g1 fun z => ?_
  obtain ⟨n', ms', e', _, _, h1, _⟩ := z.big
  rw [e] at e'
  injection e' with e' e''
  subst e' e''
  (first|lia|omega)
 have n2 := df c
 refine ⟨_, rfl, _, _, rfl, rfl, (by decide : (0 : Int) < 2), rfl, _, rfl, ite2 (fun c => ?_) (fun c => ?_)⟩
 ·have c' : (((ns.map V.int).length : Int) - 1 - 3 * n) % 2 ≠ 0 := fun z => by
   have y : decide (V.int ((((ns.map V.int).length : Int) - 1 - 3 * n) % 2) = V.int 0) = true := decide_eq_true (by rw [z])
   have c2 : (!decide (V.int ((((ns.map V.int).length : Int) - 1 - 3 * n) % 2) = V.int 0)) = true := c
   rw [y] at c2
   exact nomatch c2
  refine bad H1 g1 fun z => ?_
  obtain ⟨n', ms', e', _, _, _, h1⟩ := z.big
  rw [e] at e'
  injection e' with e' e''
  subst e' e''
  (first|lia|omega)
 have even : (((ns.map V.int).length : Int) - 1 - 3 * n) % 2 = 0 := Decidable.byContradiction fun z => c (by
  have : decide (V.int ((((ns.map V.int).length : Int) - 1 - 3 * n) % 2) = V.int 0) = false := decide_eq_false fun y => by injection y with y; exact z y
  show (!decide (V.int ((((ns.map V.int).length : Int) - 1 - 3 * n) % 2) = V.int 0)) = true
  rw [this] <;> rfl)
 have hR : (rowNums ns).length = ms.length - 3 * n.toNat := by
  rw [e]
  show (List.drop (1 + 3 * n.toNat) (n :: ms)).length = _
  rw [List.length_drop, List.length_cons]
  (first|lia|omega)
 have hHd : (headNums ns).length = 3 * n.toNat := by
  rw [e]
  show (List.take (3 * n.toNat) ms).length = _
  rw [List.length_take]
  (first|lia|omega)
 have hN : (ns.headD 0).toNat = n.toNat := by rw [e] <;> rfl
 have big : ∃ n ms, ns = n :: ms /\ 1 <= n /\ n <= 16 /\ 3 * n + 2 <= ms.length /\ (ms.length - 3 * n.toNat) % 2 = 0 := ⟨n, ms, e, by (first|lia|omega), by (first|lia|omega), by (first|lia|omega), by (first|lia|omega)⟩
 obtain ⟨mr, emr⟩ : ∃ mr : Nat, (((ns.map V.int).length : Int) - 1 - 3 * n) / 2 = (mr : Int) /\ mr = (rowNums ns).length / 2 := ⟨(rowNums ns).length / 2, by (first|lia|omega), rfl⟩
 have hm : Same H H1 /\ (∃ n ms, ns = n :: ms /\ 0 <= n /\ n <= 16) := ⟨g1, n, ms, e, by (first|lia|omega), by (first|lia|omega)⟩
 refine ⟨_, rfl, _, _, rfl, rfl, ⟨by decide, by decide⟩, ?_⟩
 refine ⟨_, rfl, a, ns, rfl, ha1, hl, hm.2, fun l H2 g2 hl2 at2 => ?_⟩
 obtain ⟨rs, er, pr⟩ := at2
 obtain ⟨em1, em2⟩ := emr
 have g12 := g1.trans g2
 have ltH : ∀ j g, (grp 3 (headNums ns))[j]? = some g -> j < rs.length := fun j g hg => by
  rw [Paired.len pr]
  exact (List.getElem?_eq_some_iff.mp hg).1
 refine ⟨l, rs, rfl, SqL.of er, for_enum (xs := rs) (fun i σ' H' => ∃ v3 v4, σ' = [some (.ref a), some (.int (((ns.map V.int).length : Int) - 1 - 3 * n)), some (.int (mr : Int)), v3, v4] /\ Same H2 H' /\ ∀ j g, j < i -> (grp 3 (headNums ns))[j]? = some g -> isHead g j mr) ⟨_, _, by rw [<- em1]; rfl, Same.refl _, fun j g z => absurd z (Nat.not_lt_zero j)⟩ ?_ ?_ ?_⟩
 ·rintro i σ' H' _ ⟨v3, v4, rfl, g, _⟩
  exact SqL.of (g _ _ er)
 ·rintro i x σ' H' t hx ⟨v3, v4, rfl, g3, hb⟩ ht
  obtain ⟨gx, hg, th, rfl, eth⟩ := Paired.yonder pr hx
  obtain ⟨s0, p0, b0, rfl⟩ := len3 (grp_get (.inr rfl) (by rw [hHd]; (first|lia|omega)) hg)
  have g4 := g3.trans (zD ht (.tup [.int (i : Nat), .ref th]))
  refine ⟨t, _, rfl, SqT.of zB, rfl, _, _, rfl, _, _, rfl, rfl, ?_⟩
  refine ⟨_, rfl, _, rfl, _, rfl, th, s0, p0, b0, i, mr, rfl, g4 _ _ eth, fun r z => ⟨_, rfl, ?_⟩⟩
  cases r with
  | false =>
   refine iteT (bad _ (g12.trans g4) fun y => ?_)
   obtain ⟨s1, p1, b1, e1, ok⟩ := y.heads i _ hg
   cases e1
   rw [<- em2] at ok
   exact nomatch z.mpr ok
  | true =>
   refine iteF ⟨_, _, rfl, g4, fun j g hj hg' => ?_⟩
   by_cases hji : j < i
   ·exact hb j g hji hg'
   ·have : j = i := by (first|lia|omega)
    subst this
    rw [hg] at hg'
    cases hg'
    exact ⟨s0, p0, b0, rfl, z.mp rfl⟩
 ·rintro σ' H' ⟨v3, v4, rfl, g3, hb⟩
  have ha3 := g3 _ _ (g12 _ _ ha)
  refine ⟨_, rfl, a, ns, rfl, ha3, hl, hm.2, fun l3 H3 g4 hl3 at3 => ?_⟩
  obtain ⟨rs2, er2, pr2⟩ := at3
  have ltR : ∀ j g, (grp 2 (rowNums ns))[j]? = some g -> j < rs2.length := fun j g hg => by
   rw [Paired.len pr2]
   exact (List.getElem?_eq_some_iff.mp hg).1
  have rl : rs2.length <= 1000000 := by
   rw [Paired.len pr2, grp_len, hR]
   rw [e, List.length_cons] at hl
   (first|lia|omega)
  refine ⟨l3, rfl, ⟨_, SqL.of er2⟩, fun p hp => ?_⟩
  refine comp_lst (xs := rs2) (fun i σ' H' => ∃ bs : List Bool, H' p = some (.lst (bs.map V.bl)) /\ bs.length = i /\ Same H3 H' /\ (bs.all id = true ↔ ∀ j g, j < i -> (grp 2 (rowNums ns))[j]? = some g -> isRow g n.toNat mr) /\ ∃ x, σ' = [x, some (.int (mr : Int)), some (.ref a)]) ⟨[], zB, rfl, zD hp _, ⟨fun _ j g z => absurd z (Nat.not_lt_zero j), fun _ => rfl⟩, _, rfl⟩ ?_ ?_ ?_
  ·rintro i σ' H' _ ⟨bs, _, _, g, _⟩
   exact SqL.of (g _ _ er2)
  ·rintro i x σ' H' hi hx ⟨bs, eb, lb, g5, ib, y, rfl⟩
   obtain ⟨gx, hg, th, rfl, eth⟩ := Paired.yonder pr2 hx
   obtain ⟨op, nu, rfl⟩ := len2 (grp_get (.inl rfl) (by rw [hR]; (first|lia|omega)) hg)
   dsimp only [gName, tYes]
   refine iteT ⟨_, rfl, _, rfl, a, _, _, _, rfl, rfl, SqL.of (g5 _ _ (g4 _ _ ha3)), a0, _, rfl, th, op, nu, n, mr, rfl, g5 _ _ eth, fun r H5 g6 z => ?_⟩
   refine ⟨_, g6 _ _ eb, ?_, CW.next hi ⟨bs ++ [r], ?_, ?_, (g5.trans g6).fresh hp, ?_, _, rfl⟩⟩
   ·rw [List.length_map, lb]
    exact Nat.lt_of_lt_of_le hi (Nat.le_trans rl (by decide))
   ·rw [List.map_append]; exact zB
   ·rw [List.length_append, lb] <;> rfl
   ·have hnn : ((n.toNat : Nat) : Int) = n := by (first|lia|omega)
    rw [all_snoc, ib, z]
    constructor
    ·rintro ⟨h1, h2⟩ j g hj hg'
     by_cases hji : j < i
     ·exact h1 j g hji hg'
     ·have : j = i := by (first|lia|omega)
      subst this
      rw [hg] at hg'
      cases hg'
      exact ⟨op, nu, rfl, by rw [hnn]; exact h2⟩
    ·intro h
     refine ⟨fun j g hj hg' => h j g (by (first|lia|omega)) hg', ?_⟩
     obtain ⟨o1, n1', e1, ok⟩ := h i _ (Nat.lt_succ_self i) hg
     cases e1
     rw [hnn] at ok
     exact ok
  ·rintro σ' H' ⟨bs, eb, lb, g5, ib, _⟩
   refine ⟨p, bs, rfl, SqL.of eb, q _ _ (g12.trans (g3.trans (g4.trans g5))) (ib.trans ⟨fun h => ⟨big, fun j g hg => ?_, fun g hg => ?_⟩, fun z j g hj hg => ?_⟩)⟩
   ·rw [<- em2]
    exact hb j g (ltH j g hg) hg
   ·obtain ⟨j, hj⟩ := List.mem_iff_getElem?.mp hg
    rw [hN, <- em2]
    exact h j g (ltR j g hj) hj
   ·have := z.rows g (List.mem_iff_getElem?.mpr ⟨j, hg⟩)
    rw [hN, <- em2] at this
    exact this

theorem FnOk.ex {k : Nat} {ps : List Str} {sp : Nat -> Sp} {sp' : Sp} (F : ∀ d, FnOk P w K mg base (CXE P w) k f fd ps (sp d)) (h : ∀ vs H Q E, sp' vs H Q E -> ∃ d, sp d vs H Q E) : FnOk P w K mg base (CXE P w) k f fd ps sp' :=
 ⟨fun vs H Q E q => let ⟨d, z⟩ := h vs H Q E q; (F d).len vs H Q E z, fun A outer s H args us vs Q E hr he hb hv hs => let ⟨d, z⟩ := h vs H Q E hs; (F d).run A outer s H args us vs Q E hr he hb hv z⟩
theorem Cal.imp {x : Str} {k : Nat} {ps : List Str} {sp sp' : Sp} (C : Cal P w K mg base (CXE P w) k x ps sp) (h : ∀ vs H Q E, sp' vs H Q E -> sp vs H Q E) : Cal P w K mg base (CXE P w) k x ps sp' := by
 obtain ⟨f, fd, F, m, kk, b⟩ := C.ex
 exact ⟨⟨f, fd, F.imp h, m, kk, b⟩⟩
theorem ok_is_codeO (T : Txt K mg) (F : Fun K "is_code" "is_code" xL f fd) (Cis_list_of_wholes : Cal P w K mg base (CXE P w) 2 "is_list_of_wholes" ["thing"] (spWholesX K)) (Cheads_in : Cal P w K mg base (CXE P w) 2 "heads_in" ["numbers"] spHeadsIn) (Crows_in : Cal P w K mg base (CXE P w) 2 "rows_in" ["numbers"] spRowsIn)
  (Cis_head : Cal P w K mg base (CXE P w) 1 "is_head" ["head", "function", "many_rows"] spIsHead) (Cis_row : Cal P w K mg base (CXE P w) 2 "is_row" ["row", "many_functions", "many_rows"] spIsRow) : FnOk P w K mg base (CXE P w) 3 f fd ["thing"] (spIsCodeO K) := by
 refine F.okN xE (fun vs H Q E h => ?_) (fun cdv A outer s H vs Q E hr h => ?_)
 ·obtain ⟨v, o, rfl, _⟩ := h
  rfl
 obtain ⟨v, o, rfl, th, no, q⟩ := h
 refine ⟨_, (zE (zW (PW.pt (qL (kI (qM (zH Cis_list_of_wholes hr rfl (zA (pv 0) zC) passN))) (jE (zI yJ (zU zQ rfl T.n_len yS (zA (pv 0) zC)) zF (nomark _))))) (zG (zL jL)) zN)
   (zE (zW (PW.pt (qL (zI kO (zX zP (pv 0) zF (fun _ _ => rfl)) zF (nomark _)) (jE (zI op_gt (zX zP (pv 0) zF (fun _ _ => rfl)) (zO rfl T.m_MOST_FUNCTIONS) (nomark _))))) (zG (zL jL)) zN)
   (zE (zT (i := 1) xE.nd rfl (Or.inl rfl) (zR xQ (zR xQ (zU zQ rfl T.n_len yS (zA (pv 0) zC)) zF) (zR vG (zO rfl T.m_HEAD_SIZE) (zX zP (pv 0) zF (fun _ _ => rfl)))))
   (zE (zW (PW.pt (qL (zI kO (pv 1) (zO rfl T.m_ROW_SIZE) (nomark _)) (jE (zI op_ne (zR wT (pv 1) (zO rfl T.m_ROW_SIZE)) zF (nomark _))))) (zG (zL jL)) zN)
   (zE (zT (i := 2) xE.nd rfl (Or.inr rfl) (zR vH (pv 1) (zO rfl T.m_ROW_SIZE)))
   (zE (qO PassesOwn.never rfl (pi_enum rfl T.n_enumerate (zA (zH Cheads_in hr rfl (zA (pv 0) zC) passN) zC)) (qP rfl (yK (yH (i := 3) xE.nd rfl (Or.inl rfl)) (yK (yH (i := 4) xE.nd rfl (Or.inl rfl)) jR))) (zG (zW (kI (qM (zH Cis_head hr rfl (zA (pv 4) (zA (pv 3) (zA (pv 2) zC))) passN))) (zG (zL jL)) zN)))
   (zG (zL (zU (call_all rfl) rfl T.n_all bt_all (zA (pe_comp (own := ["row"]) (ys := ["many_rows", "thing"]) rfl (pi_list (zH Crows_in hr rfl (zA (pv 0) zC) passN)) (qH (sc := defScope xL) rfl (by decide +kernel)) (.cons (j := 2) rfl (.cons (j := 0) rfl .nil)) (fun _ _ _ _ _ => (yH (i := 0) (show List.Nodup [("row" : Str), ("many_rows" : Str), ("thing" : Str)] from (by decide +kernel)) rfl (Or.inl rfl))) (fun _ _ _ _ _ => pts_nil) (fun _ _ _ _ _ => (zH Cis_row hr rfl (zA (pv 0) (zA (zX (ix_listK K rfl) (pv 2) zF (fun _ _ => rfl)) (zA (pv 1) zC))) passN))) zC)))))))))), ?_⟩
 try dsimp only [Cx.nox, Cx.exc, Cx.wish, zY]
 refine ⟨_, rfl, v, o, rfl, th, fun H1 g1 => ⟨_, rfl, ?_⟩⟩
 have e : wholesV o = false := by
  cases o with
  | none => rfl
  | some xs =>
   cases c : xs.all isWh with
   | false => exact c
   | true =>
    obtain ⟨ns, rfl⟩ := all_wh c
    exact absurd rfl (no ns)
 rw [e]
 exact iteT (q H1 g1)
theorem ok_is_codeX (T : Txt K mg) (F : Fun K "is_code" "is_code" xL f fd) (Cis_list_of_wholes : Cal P w K mg base (CXE P w) 2 "is_list_of_wholes" ["thing"] (spWholesX K)) (Cheads_in : Cal P w K mg base (CXE P w) 2 "heads_in" ["numbers"] spHeadsIn) (Crows_in : Cal P w K mg base (CXE P w) 2 "rows_in" ["numbers"] spRowsIn)
  (Cis_head : Cal P w K mg base (CXE P w) 1 "is_head" ["head", "function", "many_rows"] spIsHead) (Cis_row : Cal P w K mg base (CXE P w) 2 "is_row" ["row", "many_functions", "many_rows"] spIsRow) : FnOk P w K mg base (CXE P w) 3 f fd ["thing"] (spIsCodeX K) := by
 have h0 := ok_is_code T F (Cal.imp Cis_list_of_wholes (sp' := spWholes) fun vs H Q E ⟨a, ns, e, ha, hl, q⟩ => ⟨.ref a, _, e, Thing.ints ha hl, fun H' g => by rw [show wholesV (some (ns.map V.int)) = true from ints_wh ns]; exact q H' g⟩) Cheads_in Crows_in Cis_head Cis_row
 have h1 := ok_is_codeO T F Cis_list_of_wholes Cheads_in Crows_in Cis_head Cis_row
 refine FnOk.ex (sp := fun d => match d with | 0 => spIsCode | _ => spIsCodeO K) (fun d => ?_) (fun vs H Q E h => ?_)
 ·cases d with
  | zero => exact h0
  | succ d => exact h1
 ·obtain ⟨v, o, rfl, th, q⟩ := h
  by_cases c : ∃ ns : List Int, o = some (ns.map V.int)
  ·obtain ⟨ns, rfl⟩ := c
   cases th with
   | yes e k l => exact ⟨0, _, ns, rfl, e, by rw [List.length_map] at l; exact l, fun r H' g z => q r H' g (z.trans xV.symm)⟩
  ·exact ⟨1, v, o, rfl, th, fun ns e => c ⟨ns, e⟩, fun H' g => q false H' g ⟨fun e => (nomatch e), fun ⟨ns, e, _⟩ => absurd ⟨ns, e⟩ c⟩⟩

end
section
variable {P : Program} {w : World} {K : PySem.W.Frag} {mg : Str -> Option Value} {base : Heap} {f : Addr} {fd : FuncData}
set_option maxHeartbeats 4000000

structure TxtC (K : PySem.W.Frag) (mg : Str -> Option Value) (CC : Addr) : Prop where
 bare_NoCode : ExBare K CC
 m_NoCode : mg "NoCode" = some (.ref CC)
variable {CC : Addr}
theorem ok_heads_ofX (T : Txt K mg) (TE : TxtC K mg CC) (F : Fun K "heads_of" "heads_of" jX f fd) (Cis_code : Cal P w K mg base (CXE P w) 3 "is_code" ["thing"] (spIsCodeX K)) (Cheads_in : Cal P w K mg base (CXE P w) 2 "heads_in" ["numbers"] spHeadsIn) : FnOk P w K mg base (CXE P w) 4 f fd ["code"] (spHeadsOfX K CC) := by
 refine F.okX sc_heads_of (fun vs H Q E h => ?_) (fun cdv A outer s H vs Q E hr h => ?_)
 ·obtain ⟨v, o, rfl, _⟩ := h
  rfl
 obtain ⟨v, o, rfl, th, q, qe⟩ := h
 refine ⟨_, (zE (zW (kI (qM (zH Cis_code hr rfl (zA (pv 0) zC) passX))) (zG (wG TE.bare_NoCode rfl TE.m_NoCode)) zN)
   (zG (zL (zH Cheads_in hr rfl (zA (pv 0) zC) passX)))), ?_⟩
 try dsimp only [Cx.nox, Cx.exc, Cx.wish, zY]
 refine ⟨_, rfl, v, o, rfl, th, fun r H1 g1 z => ⟨_, rfl, ?_⟩⟩
 by_cases c : codeV o
 ·rw [z.mpr c]
  obtain ⟨ns, rfl, hk⟩ := c
  obtain ⟨n, ms, e, h1, h2, _⟩ := hk.big
  cases th with
  | yes ea k l =>
   exact iteF ⟨_, rfl, _, ns, rfl, g1 _ _ ea, by rw [List.length_map] at l; exact l, ⟨n, ms, e, by (first|lia|omega), by (first|lia|omega)⟩, fun l H2 g2 hl2 at2 => q ns rfl hk l H2 (g1.trans g2) (g1.free hl2) at2⟩
 ·rw [Bool.eq_false_iff.mpr fun y => c (z.mp y)]
  exact iteT fun x hx => qe c _ (g1.trans (zD hx _))
theorem ok_rows_ofX (T : Txt K mg) (TE : TxtC K mg CC) (F : Fun K "rows_of" "rows_of" kX f fd) (Cis_code : Cal P w K mg base (CXE P w) 3 "is_code" ["thing"] (spIsCodeX K)) (Crows_in : Cal P w K mg base (CXE P w) 2 "rows_in" ["numbers"] spRowsIn) : FnOk P w K mg base (CXE P w) 4 f fd ["code"] (spRowsOfX K CC) := by
 refine F.okX sc_rows_of (fun vs H Q E h => ?_) (fun cdv A outer s H vs Q E hr h => ?_)
 ·obtain ⟨v, o, rfl, _⟩ := h
  rfl
 obtain ⟨v, o, rfl, th, q, qe⟩ := h
 refine ⟨_, (zE (zW (kI (qM (zH Cis_code hr rfl (zA (pv 0) zC) passX))) (zG (wG TE.bare_NoCode rfl TE.m_NoCode)) zN)
   (zG (zL (zH Crows_in hr rfl (zA (pv 0) zC) passX)))), ?_⟩
 try dsimp only [Cx.nox, Cx.exc, Cx.wish, zY]
 refine ⟨_, rfl, v, o, rfl, th, fun r H1 g1 z => ⟨_, rfl, ?_⟩⟩
 by_cases c : codeV o
 ·rw [z.mpr c]
  obtain ⟨ns, rfl, hk⟩ := c
  obtain ⟨n, ms, e, h1, h2, _⟩ := hk.big
  cases th with
  | yes ea k l =>
   exact iteF ⟨_, rfl, _, ns, rfl, g1 _ _ ea, by rw [List.length_map] at l; exact l, ⟨n, ms, e, by (first|lia|omega), by (first|lia|omega)⟩, fun l H2 g2 hl2 at2 => q ns rfl hk l H2 (g1.trans g2) (g1.free hl2) at2⟩
 ·rw [Bool.eq_false_iff.mpr fun y => c (z.mp y)]
  exact iteT fun x hx => qe c _ (g1.trans (zD hx _))
theorem ok_joinedX (T : Txt K mg) (TK : KitO K) (TE : TxtC K mg CC) (F : Fun K "joined" "joined" wC f fd) : FnOk P w K mg base (CXE P w) 1 f fd ["things", "size"] (spJoinedX K CC) := by
 refine F.okX sc_joined (fun vs H Q E h => ?_) (fun cdv A outer s H vs Q E hr h => ?_)
 ·obtain ⟨v, k, o, rfl, _⟩ := h
  rfl
 obtain ⟨v, k, o, rfl, k3, th, q, qe⟩ := h
 refine ⟨_, (zE (zW (kI (qM (zU call_isiU rfl T.n_isinstance yV (zA (pv 0) (zA (zM (zA (qT (v := .ty "list") rfl T.n_list bt_list rfl) (zA (qT (v := .ty "tuple") rfl T.n_tuple bt_tuple rfl) zC))) zC))))) (zG (wG TE.bare_NoCode rfl TE.m_NoCode)) zN)
   (zE (zT (i := 2) sc_joined.nd rfl (Or.inl rfl) (zV zC))
   (zE (qO (own_fly rfl rfl) rfl (pi_seq (pv 0)) (yH (i := 3) sc_joined.nd rfl (Or.inl rfl)) (zE (zW (PW.pt (qL (kI (qM (zU call_isiU rfl T.n_isinstance yV (zA (pv 3) (zA (zM (zA (qT (v := .ty "list") rfl T.n_list bt_list rfl) (zA (qT (v := .ty "tuple") rfl T.n_tuple bt_tuple rfl) zC))) zC))))) (jE (zI op_ne (zU zQ rfl T.n_len yS (zA (pv 3) zC)) (pv 1) (nomark _))))) (zG (wG TE.bare_NoCode rfl TE.m_NoCode)) zN)
   (zG (yI (wI PySem.F.plainAttrs_list PySem.F.slot_list_extend PySem.F.type_list_extend mt_extendU (pv 2) (zA (pv 3) zC))))))
   (zG (zL (pv 2)))))), ?_⟩
 try dsimp only [Cx.nox, Cx.exc, Cx.wish, zY]
 refine ⟨_, rfl, small (show 2 <= 1000 by decide), fun tp htp => ?_⟩
 have g1 := zD htp (.tup (["list", "tuple"].map V.ty))
 cases th with
 | no m n ty =>
  refine ⟨_, _, tp, ["list", "tuple"], _, rfl, ty.same g1, zB, TK.ks _ m, _, rfl, ?_⟩
  rw [n]
  exact iteT fun x hx => qe rfl _ (g1.trans (zD hx _))
 | @seq a xs os hq pr lx =>
  obtain ⟨t, m, tt, ty⟩ := SqH.ty (K := K) (hq.same g1)
  refine ⟨_, _, tp, ["list", "tuple"], _, rfl, ty, zB, TK.ks _ m, _, rfl, ?_⟩
  rw [tt]
  refine iteF ?_
  refine ⟨small (show 0 <= 1000 by decide), fun l hl1 => ?_⟩
  have s1 : Same H (upd (upd H tp (.tup (["list", "tuple"].map V.ty))) l (.lst [])) := g1.trans (zD hl1 _)
  have hl0 : H l = none := g1.free hl1
  have lo := Paired.len pr
  refine ⟨_, rfl, a, rfl, for_seq (xs := xs) hq.sq (fun i σ' H' => ∃ v3 zs, σ' = [some (.ref a), some (.int (k : Nat)), some (.ref l), v3] /\ H' l = some (.lst zs) /\ joinV (os.take i) = some zs /\ Same H H') ⟨_, [], rfl, zB, rfl, s1⟩ ?_ ?_ ?_⟩
  ·rintro i σ' H' _ ⟨v3, zs, rfl, el, _, sm⟩
   exact sm
  ·rintro i x σ' H' hx ⟨v3, zs, rfl, el, ej, sm⟩
   obtain ⟨o1, ho1, pa⟩ := Paired.yonder pr hx
   refine ⟨_, rfl, small (show 2 <= 1000 by decide), fun tp2 htp2 => ?_⟩
   have g2 := zD htp2 (.tup (["list", "tuple"].map V.ty))
   have s2 := sm.trans g2
   have dead : o1 = none -> joinV os = none := fun e => joinV_none (List.mem_of_getElem? (by rw [ho1, e]))
   cases pa with
   | no m n ty =>
    refine ⟨_, _, tp2, ["list", "tuple"], _, rfl, ty.same s2, zB, TK.ks _ m, _, rfl, ?_⟩
    rw [n]
    exact iteT fun x hx => qe (dead rfl) _ (s2.trans (zD hx _))
   | @bad b ys hb n =>
    obtain ⟨t2, m2, tt2, ty2⟩ := SqH.ty (K := K) (hb.same s2)
    refine ⟨_, _, tp2, ["list", "tuple"], _, rfl, ty2, zB, TK.ks _ m2, _, rfl, ?_⟩
    rw [tt2]
    refine iteF ⟨_, rfl, b, _, rfl, (hb.same s2).sq, _, rfl, rfl, _, rfl, ?_⟩
    rw [show decide (V.int (ys.length : Int) = V.int (k : Int)) = false from decide_eq_false fun e => n (by injection e with e; (first|lia|omega))]
    exact iteT fun x hx => qe (dead rfl) _ (s2.trans (zD hx _))
   | @ok b ys hb n kn =>
    obtain ⟨t2, m2, tt2, ty2⟩ := SqH.ty (K := K) (hb.same s2)
    refine ⟨_, _, tp2, ["list", "tuple"], _, rfl, ty2, zB, TK.ks _ m2, _, rfl, ?_⟩
    rw [tt2]
    refine iteF ⟨_, rfl, b, _, rfl, (hb.same s2).sq, _, rfl, rfl, _, rfl, ?_⟩
    rw [show decide (V.int (ys.length : Int) = V.int (k : Int)) = true from decide_eq_true (by rw [n])]
    refine iteF ?_
    have hl' := g2 _ _ el
    have lz : zs.length <= 3000 := by
     have := joinV_len (k := k) (fun ys m => by
      obtain ⟨x, _, q⟩ := wS pr (List.mem_of_mem_take m)
      cases q with
      | ok h n kn => exact n) ej
     rw [this]
     have : (os.take i).length <= 1000 := by rw [List.length_take]; (first|lia|omega)
     exact Nat.le_trans (Nat.mul_le_mul this k3) (by decide)
    have hb' : zs.length + ys.length <= sizeLine := Nat.le_trans (show _ <= 3003 by (first|lia|omega)) (by decide)
    have en : joinV (os.take (i + 1)) = some (zs ++ ys) := by
     rw [List.take_succ, ho1]
     exact joinV_snoc ej
    refine ⟨_, rfl, .inl ⟨rfl, _, SqL.of hl'⟩, _, rfl, ?_⟩
    rcases hb.same s2 with ht | ht
    ·exact .inl ⟨l, b, _, _, rfl, rfl, hl', ht, hb', _, _, rfl, zB, en, s2.fresh hl0⟩
    ·exact .inr ⟨l, b, _, _, rfl, rfl, hl', ht, hb', _, _, rfl, zB, en, s2.fresh hl0⟩
  ·rintro σ' H' ⟨v3, zs, rfl, el, ej, sm⟩
   rw [lo, List.take_length] at ej
   exact ⟨_, rfl, q zs ej l H' sm hl0 el⟩
theorem ok_code_ofY (T : Txt K mg) (TE : TxtC K mg CC) (F : Fun K "code_of" "code_of" qF f fd) (Cjoined : Cal P w K mg base (CXE P w) 1 "joined" ["things", "size"] (spJoinedX K CC)) (Cis_code : Cal P w K mg base (CXE P w) 3 "is_code" ["thing"] (spIsCodeX K)) : FnOk P w K mg base (CXE P w) 4 f fd ["heads", "rows"] (spCodeOfY K CC) := by
 refine F.okX sc_code_of (fun vs H Q E h => ?_) (fun cdv A outer s H vs Q E hr h => ?_)
 ·obtain ⟨v1, v2, o1, o2, rfl, _⟩ := h
  rfl
 obtain ⟨v1, v2, o1, o2, rfl, t1, t2, q, qe⟩ := h
 refine ⟨_, (zE (zT (i := 2) sc_code_of.nd rfl (Or.inl rfl) (zH Cjoined hr rfl (zA (pv 0) (zA (zO rfl T.m_HEAD_SIZE) zC)) passX))
   (zE (zT (i := 3) sc_code_of.nd rfl (Or.inl rfl) (zR yT (zR yT (zV (zA (zR vH (zU zQ rfl T.n_len yS (zA (pv 2) zC)) (zO rfl T.m_HEAD_SIZE)) zC)) (pv 2)) (zH Cjoined hr rfl (zA (pv 1) (zA (zO rfl T.m_ROW_SIZE) zC)) passX)))
   (zE (zW (kI (qM (zH Cis_code hr rfl (zA (pv 3) zC) passX))) (zG (wG TE.bare_NoCode rfl TE.m_NoCode)) zN)
   (zG (zL (pv 3)))))), ?_⟩
 try dsimp only [Cx.nox, Cx.exc, Cx.wish, zY]
 refine ⟨_, rfl, v1, 3, o1, rfl, by decide, t1, fun zs e1 l H1 g1 hl1 el => ?_, fun e1 H1 g1 => qe (fun zs ws e _ => by rw [e1] at e; cases e) H1 g1⟩
 subst e1
 obtain ⟨_, lz, kz⟩ := t1.len (by decide)
 refine ⟨_, rfl, l, _, rfl, .inl (SqL.of el), _, _, rfl, rfl, ⟨by decide, by decide⟩, small (show 1 <= 1000 by decide), fun o ho => ?_⟩
 have g2 : Same H1 (upd H1 o (.lst [V.int ((zs.length : Int) / 3)])) := zD ho _
 refine ⟨_, rfl, o, l, _, _, rfl, rfl, zB, g2 _ _ el, Nat.le_trans (show _ <= 3001 by simp only [List.length_cons, List.length_nil]; (first|lia|omega)) (by decide), fun p2 ho2 => ?_⟩
 have g3 := g2.trans (zD ho2 (.lst ([V.int ((zs.length : Int) / 3)] ++ zs)))
 have g13 := g1.trans g3
 refine ⟨_, rfl, v2, 2, o2, rfl, by decide, t2.same g13, fun ws e2 l2 H2 g4 hl2 el2 => ?_, fun e2 H2 g4 => qe (fun zs ws _ e => by rw [e2] at e; cases e) H2 (g13.trans g4)⟩
 subst e2
 obtain ⟨_, lw, kw⟩ := t2.len (by decide)
 refine ⟨p2, l2, _, _, rfl, rfl, g4 _ _ zB, el2, Nat.le_trans (show _ <= 6001 by rw [List.length_append]; simp only [List.length_cons, List.length_nil]; (first|lia|omega)) (by decide), fun o3 ho3 => ?_⟩
 have ec : [V.int ((zs.length : Int) / 3)] ++ zs ++ ws = toldV zs ws := by
  unfold toldV
  rw [List.append_assoc] <;> rfl
 rw [ec]
 have g14 := g13.trans g4
 have g5 := g14.trans (zD ho3 (.lst (toldV zs ws)))
 have th : Thing K (upd H2 o3 (.lst (toldV zs ws))) (.ref o3) (some (toldV zs ws)) := by
  refine .yes zB (fun x m => ?_) ?_
  ·rcases List.mem_cons.mp m with rfl | m
   ·exact Kn.int _
   rcases List.mem_append.mp m with m | m
   ·exact (kz x m).same g5
   ·exact (kw x m).same g5
  ·unfold toldV
   rw [List.length_cons, List.length_append]
   (first|lia|omega)
 refine ⟨_, rfl, .ref o3, _, rfl, th, fun r H5 g6 z => ⟨_, rfl, ?_⟩⟩
 by_cases hk : codeV (some (toldV zs ws))
 ·rw [z.mpr hk]
  exact iteF ⟨_, rfl, q zs ws rfl rfl hk o3 H5 (g5.trans g6) (g14.free ho3) (g6 _ _ zB)⟩
 ·rw [Bool.eq_false_iff.mpr fun y => hk (z.mp y)]
  exact iteT fun x hx => qe (fun zs' ws' e e' => by cases e; cases e'; exact hk) _ ((g5.trans g6).trans (zD hx _))

end
section
variable {P : Program} {w : World} {K : PySem.W.Frag} {mg : Str -> Option Value} {base : Heap} {f : Addr} {fd : FuncData}
set_option maxHeartbeats 4000000

theorem ok_within (T : TxtD K mg) (F : Fun K "within" "within" wB f fd) : FnOk P w K mg base (CXE P w) 1 f fd ["value"] spDWithin := by
 refine F.okN sc_within (fun vs H Q E h => ?_) (fun cdv A outer s H vs Q E hr h => ?_)
 ·obtain ⟨v, rfl, _⟩ := h
  rfl
 obtain ⟨v, rfl, q⟩ := h
 refine ⟨_, (zE (zW (PW.pt (qL (zI op_ge (pv 0) (zO rfl T.m_GREAT) (nomark _)) (jE (zI qU (pv 0) (qS jM (zO rfl T.m_GREAT)) (nomark _))))) (zG (zL (zM (zS (.str (.int .nil)))))) zN)
   (zG (zL (zM (zA xI (zA (pv 0) zC)))))), ?_⟩
 try dsimp only [Cx.nox, Cx.exc, Cx.wish, zY]
 refine ⟨_, rfl, _, _, rfl, rfl, _, rfl, ?_⟩
 have hit : v ≥ G100 \/ v <= -G100 -> wV v = [.str "great", .int 0] := fun c => if_pos c
 refine ite2 (fun c => ?_) (fun c => ?_)
 ·refine ⟨small (show 2 <= 1000 by decide), fun t ht => q _ _ ht ?_⟩
  rw [hit (.inl (of_decide_eq_true c))]
 refine ⟨_, rfl, _, rfl, _, _, rfl, rfl, _, rfl, ?_⟩
 refine ite2 (fun c2 => ?_) (fun c2 => ?_)
 ·refine ⟨small (show 2 <= 1000 by decide), fun t ht => q _ _ ht ?_⟩
  rw [hit (.inr (of_decide_eq_true c2))]
 ·refine ⟨_, rfl, small (show 2 <= 1000 by decide), fun t ht => q _ _ ht ?_⟩
  have c1' := of_decide_eq_false (Bool.eq_false_iff.mpr c)
  have c2' := of_decide_eq_false (Bool.eq_false_iff.mpr c2)
  have : wV v = [.non, .int v] := if_neg fun z => by rcases z with z | z; exact c1' z; exact c2' z
  rw [this]
theorem ok_reckoned (T : TxtD K mg) (F : Fun K "reckoned" "reckoned" jU f fd) (Cwithin : Cal P w K mg base (CXE P w) 1 "within" ["value"] spDWithin) : FnOk P w K mg base (CXE P w) 2 f fd ["kind", "first", "second"] spReck := by
 refine F.okN sc_reckoned (fun vs H Q E h => ?_) (fun cdv A outer s H vs Q E hr h => ?_)
 ·obtain ⟨k, a, b, rfl, _⟩ := h
  rfl
 obtain ⟨k, a, b, rfl, ha, hb, q⟩ := h
 refine ⟨_, (zE (zW (zI yJ (pv 0) (zO rfl T.m_ADD) (nomark _)) (zG (zL (zH Cwithin hr rfl (zA (zR xF (pv 1) (pv 2)) zC) passN))) zN)
   (zE (zW (zI yJ (pv 0) (zO rfl T.m_SUB) (nomark _)) (zG (zL (zH Cwithin hr rfl (zA (zR xQ (pv 1) (pv 2)) zC) passN))) zN)
   (zE (zW (zI yJ (pv 0) (zO rfl T.m_MUL) (nomark _)) (zG (zL (zH Cwithin hr rfl (zA (zR op_mulB (pv 1) (pv 2)) zC) passN))) zN)
   (zE (zW (zI yJ (pv 0) (zO rfl T.m_LESS) (nomark _)) (zG (zL (zM (zA xI (zA (pe_ifExp (zI kO (pv 1) (pv 2) (nomark _)) zF zF) zC))))) zN)
   (zE (zW (zI yJ (pv 0) (zO rfl T.m_SAME) (nomark _)) (zG (zL (zM (zA xI (zA (pe_ifExp (zI yJ (pv 1) (pv 2) (nomark _)) zF zF) zC))))) zN)
   (zE (zW (zI yJ (pv 2) zF (nomark _)) (zG (zL (zM (zS (.str (.int .nil)))))) zN)
   (zE (zW (zI yJ (pv 0) (zO rfl T.m_QUO) (nomark _)) (zG (zL (zM (zA xI (zA (zR op_fdivZ (pv 1) (pv 2)) zC))))) zN)
   (zG (zL (zM (zA xI (zA (zR op_modN (pv 1) (pv 2)) zC)))))))))))), ?_⟩
 try dsimp only [Cx.nox, Cx.exc, Cx.wish, zY]
 refine ⟨_, rfl, rfl, _, rfl, ?_⟩
 refine ite2 (fun c8 => ?_) (fun c8 => ?_)
 ·have e := vt c8
  subst e
  exact ⟨_, rfl, _, rfl, _, _, rfl, rfl, _, rfl, fun p H' hp e => q p H' hp e⟩
 have e8 := vf c8
 refine ⟨_, rfl, rfl, _, rfl, ?_⟩
 refine ite2 (fun c9 => ?_) (fun c9 => ?_)
 ·have e := vt c9
  subst e
  exact ⟨_, rfl, _, rfl, _, _, rfl, rfl, _, rfl, fun p H' hp e => q p H' hp e⟩
 have e9 := vf c9
 refine ⟨_, rfl, rfl, _, rfl, ?_⟩
 refine ite2 (fun c10 => ?_) (fun c10 => ?_)
 ·have e := vt c10
  subst e
  exact ⟨_, rfl, _, rfl, _, _, rfl, rfl, ⟨ha, hb⟩, _, rfl, fun p H' hp e => q p H' hp e⟩
 have e10 := vf c10
 refine ⟨_, rfl, rfl, _, rfl, ?_⟩
 refine ite2 (fun c13 => ?_) (fun c13 => ?_)
 ·have e := vt c13
  subst e
  refine ⟨_, rfl, _, rfl, _, _, rfl, rfl, _, rfl, ?_⟩
  refine ite2 (fun cl => ?_) (fun cl => ?_)
  ·refine ⟨small (show 2 <= 1000 by decide), fun t ht => q _ _ ht ?_⟩
   have : reckV 13 a b = [.non, .int (if a < b then 1 else 0)] := rfl
   rw [this, if_pos (of_decide_eq_true cl)]
  ·refine ⟨small (show 2 <= 1000 by decide), fun t ht => q _ _ ht ?_⟩
   have : reckV 13 a b = [.non, .int (if a < b then 1 else 0)] := rfl
   rw [this, if_neg (of_decide_eq_false (Bool.eq_false_iff.mpr cl))]
 have e13 := vf c13
 refine ⟨_, rfl, rfl, _, rfl, ?_⟩
 refine ite2 (fun c14 => ?_) (fun c14 => ?_)
 ·have e := vt c14
  subst e
  refine ⟨_, rfl, _, rfl, rfl, _, rfl, ?_⟩
  refine ite2 (fun cl => ?_) (fun cl => ?_)
  ·refine ⟨small (show 2 <= 1000 by decide), fun t ht => q _ _ ht ?_⟩
   have : reckV 14 a b = [.non, .int (if a = b then 1 else 0)] := rfl
   rw [this, if_pos (vt cl)]
  ·refine ⟨small (show 2 <= 1000 by decide), fun t ht => q _ _ ht ?_⟩
   have : reckV 14 a b = [.non, .int (if a = b then 1 else 0)] := rfl
   rw [this, if_neg (vf cl)]
 have e14 := vf c14
 have rest : reckV k a b = if b = 0 then [.str "zero", .int 0] else if k = 11 then [.non, .int (a.fdiv b)] else [.non, .int (a.fmod b)] := by
  unfold reckV
  rw [if_neg e8, if_neg e9, if_neg e10, if_neg e13, if_neg e14]
 refine ⟨_, rfl, rfl, _, rfl, ?_⟩
 refine ite2 (fun c0 => ?_) (fun c0 => ?_)
 ·refine ⟨small (show 2 <= 1000 by decide), fun t ht => q _ _ ht ?_⟩
  rw [rest, if_pos (vt c0)]
 have e0 := vf c0
 rw [if_neg e0] at rest
 refine ⟨_, rfl, rfl, _, rfl, ?_⟩
 refine ite2 (fun c11 => ?_) (fun c11 => ?_)
 ·refine ⟨_, rfl, _, rfl, _, _, rfl, rfl, ⟨e0, hb⟩, small (show 2 <= 1000 by decide), fun t ht => q _ _ ht ?_⟩
  rw [rest, if_pos (vt c11)]
 ·refine ⟨_, rfl, _, rfl, _, _, rfl, rfl, e0, small (show 2 <= 1000 by decide), fun t ht => q _ _ ht ?_⟩
  rw [rest, if_neg (vf c11)]
theorem ok_drow (T : TxtD K mg) (F : Fun K "done_to_row" "done_to_row" xM f fd) : FnOk P w K mg base (CXE P w) 1 f fd ["kind", "values", "rows"] spRow := by
 refine F.okN jO (fun vs H Q E h => ?_) (fun cdv A outer s H vs Q E hr h => ?_)
 ·obtain ⟨k, v0, v1, v2, vp, rp, vals, rs, rows, rfl, _⟩ := h
  rfl
 obtain ⟨k, v0, v1, v2, vp, rp, vals, rs, rows, rfl, hv, ev, hk0, hk1, hout, hR, hlen, q⟩ := h
 refine ⟨_, (zE (zT (i := 3) jO.nd rfl (Or.inl rfl) (zX zP (pv 1) zF (fun _ _ => rfl)))
   (zE (zW (PW.pt (qL (zI kO (pv 3) zF (nomark _)) (jE (zI op_ge (pv 3) (zU zQ rfl T.n_len yS (zA (pv 2) zC)) (nomark _))))) (zG (zL (zM (zS (.str (.int .nil)))))) zN)
   (zE (zT (i := 4) jO.nd rfl (Or.inl rfl) (zX zP (pv 2) (pv 3) (fun _ _ => rfl)))
   (zE (zW (zI yJ (pv 0) (zO rfl T.m_SIZE) (nomark _)) (zG (zL (zM (zA xI (zA (zU zQ rfl T.n_len yS (zA (pv 4) zC)) zC))))) zN)
   (zE (zW (zI yJ (pv 0) (zO rfl T.m_PUSH) (nomark _)) (zE (yI (wI PySem.F.plainAttrs_list PySem.F.slot_list_append PySem.F.type_list_append yZ (pv 4) (zA (zX zP (pv 1) zF (fun _ _ => rfl)) zC)))
   (zG (zL (zM (zA xI (zA (zX zP (pv 1) zF (fun _ _ => rfl)) zC)))))) zN)
   (zE (zT (i := 5) jO.nd rfl (Or.inl rfl) (zX zP (pv 1) zF (fun _ _ => rfl)))
   (zE (zW (PW.pt (qL (zI kO (pv 5) zF (nomark _)) (jE (zI op_ge (pv 5) (zU zQ rfl T.n_len yS (zA (pv 4) zC)) (nomark _))))) (zG (zL (zM (zS (.str (.int .nil)))))) zN)
   (zE (zW (zI yJ (pv 0) (zO rfl T.m_PUT) (nomark _)) (zG (jQ (zX zP (pv 1) zF (fun _ _ => rfl)) (pg_sub (pv 4) (pv 5) qI))) zN)
   (zG (zL (zM (zA xI (zA (zX zP (pv 4) (pv 5) (fun _ _ => rfl)) zC))))))))))))), ?_⟩
 try dsimp only [Cx.nox, Cx.exc, Cx.wish, zY]
 have ar : (arity k = 1 /\ k = 18) \/ (arity k = 2 /\ k ≠ 17 /\ k ≠ 18) \/ (arity k = 3 /\ k = 17) := by
  unfold arity
  by_cases h18 : k = 18
  ·subst h18; exact .inl ⟨rfl, rfl⟩
  ·by_cases h17 : k = 17
   ·subst h17; exact .inr (.inr ⟨rfl, rfl⟩)
   ·rw [if_neg (show ¬ k = 19 by (first|lia|omega)), if_neg h18, if_neg h17]; exact .inr (.inl ⟨rfl, h17, h18⟩)
 have a0 : atI (vals.map V.int) 0 = some (.int v0) := by
  rcases ar with ⟨e, _⟩ | ⟨e, _⟩ | ⟨e, _⟩ <;> rw [ev, e] <;> rfl
 have a1 : k ≠ 18 -> atI (vals.map V.int) 1 = some (.int v1) := fun n => by
  rcases ar with ⟨e, z⟩ | ⟨e, _⟩ | ⟨e, _⟩
  ·exact absurd z n
  ·rw [ev, e] <;> rfl
  ·rw [ev, e] <;> rfl
 have a2 : k = 17 -> atI (vals.map V.int) 2 = some (.int v2) := fun n => by
  rcases ar with ⟨e, z⟩ | ⟨e, z, _⟩ | ⟨e, _⟩
  ·(first|lia|omega)
  ·(first|lia|omega)
  ·rw [ev, e] <;> rfl
 refine ⟨_, rfl, vp, _, _, _, rfl, rfl, SqL.of hv, a0, ?_⟩
 refine ⟨_, rfl, _, _, rfl, rfl, _, rfl, ?_⟩
 have stay : ∀ (out : List V) (p : Addr), H p = none -> Deed H (upd H p (.tup out)) p rp rs rs (out, rows) := fun out p hp =>
  ⟨hp, zB, hR.same (zD hp _), KeepL.same (zD hp _), .inl rfl⟩
 have bad : v0 < 0 \/ v0 ≥ rows.length -> rowM k v0 v1 v2 rows = ([.str "row", .int 0], rows) := fun z => if_pos z
 have hrl : ((rs.map V.ref).length : Int) = rows.length := by rw [List.length_map, hR.len]
 refine ite2 (fun c => ?_) (fun c => ?_)
 ·exact ⟨small (show 2 <= 1000 by decide), fun t ht => q _ _ (by rw [bad (.inl (of_decide_eq_true c))]; exact stay _ _ ht)⟩
 refine ⟨_, rfl, _, rfl, rp, _, rfl, .inl (SqL.of hR.here), _, _, rfl, rfl, _, rfl, ?_⟩
 refine ite2 (fun c2 => ?_) (fun c2 => ?_)
 ·exact ⟨small (show 2 <= 1000 by decide), fun t ht => q _ _ (by rw [bad (.inr (by have := of_decide_eq_true c2; rw [hrl] at this; exact this))]; exact stay _ _ ht)⟩
 have n0 : 0 <= v0 := by have := df c; (first|lia|omega)
 have n1 : v0 < rows.length := by have := df c2; rw [hrl] at this; (first|lia|omega)
 have good : rowM k v0 v1 v2 rows = (if k = 18 then ([.non, .int (rows.getD v0.toNat []).length], rows)
  else if k = 15 then ([.non, .int v1], rows.set v0.toNat (rows.getD v0.toNat [] ++ [v1]))
  else if v1 < 0 \/ v1 ≥ (rows.getD v0.toNat []).length then ([.str "place", .int 0], rows)
  else if k = 17 then ([.non, .int v2], rows.set v0.toNat ((rows.getD v0.toNat []).set v1.toNat v2))
  else ([.non, .int ((rows.getD v0.toNat []).getD v1.toNat 0)], rows)) := if_neg (by (first|lia|omega))
 have hn : v0.toNat < rs.length := by rw [hR.len]; (first|lia|omega)
 have er : rs[v0.toNat]? = some rs[v0.toNat] := List.getElem?_eq_getElem hn
 generalize rs[v0.toNat] = r at er
 obtain ⟨xs, ex, hr1⟩ := hR.is er
 have gx : rows.getD v0.toNat [] = xs := by rw [List.getD_eq_getElem?_getD, ex] <;> rfl
 rw [gx] at good
 have hxs : xs.length < sizeLine := hlen xs (List.mem_iff_getElem?.mpr ⟨_, ex⟩)
 have hrm : r ∈ rs := List.mem_iff_getElem?.mpr ⟨_, er⟩
 have hvr : vp ≠ r := fun z => hout (by rw [z]; exact List.mem_cons_of_mem _ hrm)
 have hxl : ((xs.map V.int).length : Int) = xs.length := by rw [List.length_map]
 refine ⟨_, rfl, _, rfl, rp, _, _, _, rfl, rfl, SqL.of hR.here, kJ n0 (by rw [List.getElem?_map, er] <;> rfl), ?_⟩
 refine ⟨_, rfl, rfl, _, rfl, ?_⟩
 refine ite2 (fun c18 => ?_) (fun c18 => ?_)
 ·refine ⟨_, rfl, r, _, rfl, .inl (SqL.of hr1), small (show 2 <= 1000 by decide), fun t ht => q _ _ ?_⟩
  rw [good, if_pos (vt c18), hxl]
  exact stay _ _ ht
 have e18 := vf c18
 rw [if_neg e18] at good
 refine ⟨_, rfl, rfl, _, rfl, ?_⟩
 refine ite2 (fun c15 => ?_) (fun c15 => ?_)
 ·refine ⟨_, rfl, .inl ⟨rfl, _, SqL.of hr1⟩, _, rfl, vp, _, _, _, rfl, rfl, SqL.of hv, a1 e18, r, _, _, rfl, rfl, hr1, (by rw [List.length_map]; exact hxs), ?_⟩
  have e1 : xs.map V.int ++ [V.int v1] = (xs ++ [v1]).map V.int := by rw [List.map_append] <;> rfl
  have hR1 := hR.set er (xs ++ [v1])
  rw [<- e1] at hR1
  have hv1 : upd H r (.lst (xs.map V.int ++ [V.int v1])) vp = some (.lst (vals.map V.int)) := by rw [zJ hvr]; exact hv
  refine ⟨_, rfl, vp, _, _, _, rfl, rfl, SqL.of hv1, a1 e18, small (show 2 <= 1000 by decide), fun t ht => q _ _ ?_⟩
  rw [good, if_pos (vt c15)]
  exact ⟨(wA ht).2, zB, hR1.same (zD ht _), (KeepL.upd (List.mem_cons_of_mem _ hrm)).trans (KeepL.same (zD ht _)), .inl rfl⟩
 have e15 := vf c15
 rw [if_neg e15] at good
 refine ⟨_, rfl, vp, _, _, _, rfl, rfl, SqL.of hv, a1 e18, ?_⟩
 refine ⟨_, rfl, _, _, rfl, rfl, _, rfl, ?_⟩
 refine ite2 (fun c => ?_) (fun c => ?_)
 ·refine ⟨small (show 2 <= 1000 by decide), fun t ht => q _ _ ?_⟩
  rw [good, if_pos (.inl (of_decide_eq_true c))]
  exact stay _ _ ht
 refine ⟨_, rfl, _, rfl, r, _, rfl, .inl (SqL.of hr1), _, _, rfl, rfl, _, rfl, ?_⟩
 refine ite2 (fun c2 => ?_) (fun c2 => ?_)
 ·refine ⟨small (show 2 <= 1000 by decide), fun t ht => q _ _ ?_⟩
  rw [good, if_pos (.inr (by have := of_decide_eq_true c2; rw [hxl] at this; exact this))]
  exact stay _ _ ht
 have p0 : 0 <= v1 := by have := df c; (first|lia|omega)
 have p1 : v1 < xs.length := by have := df c2; rw [hxl] at this; (first|lia|omega)
 rw [if_neg (by (first|lia|omega))] at good
 refine ⟨_, rfl, rfl, _, rfl, ?_⟩
 refine ite2 (fun c17 => ?_) (fun c17 => ?_)
 ·have ei : ixN (xs.map V.int).length v1 = some v1.toNat := by
   unfold ixN
   rw [if_pos p0, if_pos (by rw [hxl]; exact p1)]
  have e1 : (xs.map V.int).set v1.toNat (.int v2) = (xs.set v1.toNat v2).map V.int := by rw [List.map_set]
  have hR1 := hR.set er (xs.set v1.toNat v2)
  rw [<- e1] at hR1
  have hr2 : upd H r (.lst ((xs.map V.int).set v1.toNat (.int v2))) r = some (.lst ((xs.map V.int).set v1.toNat (.int v2))) := zB
  refine ⟨_, rfl, vp, _, _, _, rfl, rfl, SqL.of hv, a2 (vt c17), _, rfl, _, rfl, r, _, _, _, rfl, rfl, hr1, ei, ?_⟩
  refine ⟨_, rfl, _, rfl, r, _, _, _, rfl, rfl, SqL.of hr2, kJ p0 (List.getElem?_set_self (by rw [List.length_map]; (first|lia|omega))), small (show 2 <= 1000 by decide), fun t ht => q _ _ ?_⟩
  rw [good, if_pos (vt c17)]
  exact ⟨(wA ht).2, zB, hR1.same (zD ht _), (KeepL.upd (List.mem_cons_of_mem _ hrm)).trans (KeepL.same (zD ht _)), .inl rfl⟩
 ·have ev1 : xs[v1.toNat]? = some xs[v1.toNat] := List.getElem?_eq_getElem (by (first|lia|omega))
  have gd : xs.getD v1.toNat 0 = xs[v1.toNat] := by rw [List.getD_eq_getElem?_getD, ev1] <;> rfl
  refine ⟨_, rfl, _, rfl, r, _, _, _, rfl, rfl, SqL.of hr1, kJ p0 (by rw [List.getElem?_map, ev1] <;> rfl), small (show 2 <= 1000 by decide), fun t ht => q _ _ ?_⟩
  rw [good, if_neg (vf c17), gd]
  exact stay _ _ ht
theorem ok_worth (T : TxtD K mg) (F : Fun K "worth" "worth" s_worth f fd) (Cdone_to_row : Cal P w K mg base (CXE P w) 1 "done_to_row" ["kind", "values", "rows"] spRow) (Creckoned : Cal P w K mg base (CXE P w) 2 "reckoned" ["kind", "first", "second"] spReck) :
  FnOk P w K mg base (CXE P w) 3 f fd ["kind", "values", "rows"] spWorth := by
 refine F.okN sc_worth (fun vs H Q E h => ?_) (fun cdv A outer s H vs Q E hr h => ?_)
 ·obtain ⟨k, v0, v1, v2, vp, rp, vals, rs, rows, rfl, _⟩ := h
  rfl
 obtain ⟨k, v0, v1, v2, vp, rp, vals, rs, rows, rfl, hv, ev, hk0, hk1, hout, hR, hlen, hmany, hb, q⟩ := h
 refine ⟨_, (zE (zW (zI yJ (pv 0) (zO rfl T.m_NEW) (nomark _)) (zE (yI (wI PySem.F.plainAttrs_list PySem.F.slot_list_append PySem.F.type_list_append yZ (pv 2) (zA (zV zC) zC)))
   (zG (zL (zM (zA xI (zA (zR xQ (zU zQ rfl T.n_len yS (zA (pv 2) zC)) zF) zC)))))) zN)
   (zE (zW (zI op_ge (pv 0) (zO rfl T.m_PUSH) (nomark _)) (zG (zL (zH Cdone_to_row hr rfl (zA (pv 0) (zA (pv 1) (zA (pv 2) zC))) passN))) zN)
   (zG (zL (zH Creckoned hr rfl (zA (pv 0) (zA (zX zP (pv 1) zF (fun _ _ => rfl)) (zA (zX zP (pv 1) zF (fun _ _ => rfl)) zC))) passN))))), ?_⟩
 try dsimp only [Cx.nox, Cx.exc, Cx.wish, zY]
 refine ⟨_, rfl, rfl, _, rfl, ?_⟩
 refine ite2 (fun c19 => ?_) (fun c19 => ?_)
 ·have e := vt c19
  subst e
  refine ⟨_, rfl, .inl ⟨rfl, _, SqL.of hR.here⟩, small (Nat.zero_le _), fun l hl => ?_⟩
  have hlp : rp ≠ l := fun z => by rw [<- z, hR.here] at hl; cases hl
  have h1 : upd H l (.lst []) rp = some (.lst (rs.map V.ref)) := by rw [zJ hlp]; exact hR.here
  have e1 : (rs ++ [l]).map V.ref = rs.map V.ref ++ [V.ref l] := by rw [List.map_append] <;> rfl
  have hR1 := hR.push hl
  rw [e1] at hR1
  refine ⟨rp, rs.map V.ref, .ref l, rfl, rfl, h1, (by rw [List.length_map, hR.len]; exact hmany), ?_⟩
  refine ⟨_, rfl, rp, _, rfl, .inl (SqL.of zB), _, _, rfl, rfl, small (show 2 <= 1000 by decide), fun t ht => q t _ (rs ++ [l]) ?_⟩
  have en : V.int ((((rs.map V.ref ++ [V.ref l]).length : Nat) : Int) - 1) = V.int rows.length := by rw [List.length_append, List.length_map, hR.len, List.length_singleton]; congr 1; (first|lia|omega)
  show Deed H (upd _ t (HO.tup [V.non, V.int ((((rs.map V.ref ++ [V.ref l]).length : Nat) : Int) - 1)])) t rp rs (rs ++ [l]) (worthM 19 v0 v1 v2 rows)
  rw [en]
  have m19 : worthM 19 v0 v1 v2 rows = ([.non, .int rows.length], rows ++ [[]]) := rfl
  rw [m19]
  refine ⟨(wA (wA ht).2).2, zB, hR1.same (zD ht _), ?_, .inr ⟨l, hl, Ne.symm (wA (wA ht).2).1, rfl⟩⟩
  exact ((KeepL.same (zD hl _)).trans (KeepL.upd (List.mem_cons_self ..))).trans (KeepL.same (zD ht _))
 have e19 := vf c19
 refine ⟨_, rfl, _, _, rfl, rfl, _, rfl, ?_⟩
 refine ite2 (fun c15 => ?_) (fun c15 => ?_)
 ·have c15' := of_decide_eq_true c15
  refine ⟨_, rfl, _, rfl, _, rfl, k, v0, v1, v2, vp, rp, vals, rs, rows, rfl, hv, ev, c15', by (first|lia|omega), hout, hR, hlen, fun p H' d => q p H' rs ?_⟩
  have : worthM k v0 v1 v2 rows = rowM k v0 v1 v2 rows := by unfold worthM; rw [if_neg e19, if_pos c15']
  rw [this]
  exact d
 ·have c15' := df c15
  have ar : arity k = 2 := by
   unfold arity
   rw [if_neg e19, if_neg (show ¬ k = 18 by (first|lia|omega)), if_neg (show ¬ k = 17 by (first|lia|omega))]
  rw [ar] at ev
  have a0 : atI (vals.map V.int) 0 = some (.int v0) := by rw [ev] <;> rfl
  have a1 : atI (vals.map V.int) 1 = some (.int v1) := by rw [ev] <;> rfl
  obtain ⟨b0, b1⟩ := hb (by (first|lia|omega))
  refine ⟨_, rfl, _, rfl, vp, _, _, _, rfl, rfl, SqL.of hv, a0, _, rfl, vp, _, _, _, rfl, rfl, SqL.of hv, a1, k, v0, v1, rfl, b0, b1, fun p H' hp e => q p H' rs ?_⟩
  have : worthM k v0 v1 v2 rows = (reckV k v0 v1, rows) := by unfold worthM; rw [if_neg e19, if_neg c15']
  rw [this, e]
  exact ⟨hp, zB, hR.same (zD hp _), KeepL.same (zD hp _), .inl rfl⟩

end
section
variable {P : Program} {w : World} {K : PySem.W.Frag} {mg : Str -> Option Value} {base : Heap} {f : Addr} {fd : FuncData} {CM CD CF aP : Addr}
set_option maxHeartbeats 4000000

theorem iteN {c : Bool} {A B : Prop} (e : c = false) (h : B) : if c = true then A else B := by
 rw [e]; exact iteF h
theorem iteY {c : Bool} {A B : Prop} (e : c = true) (h : A) : if c = true then A else B := by
 rw [e]; exact iteT h
theorem ok_initF (T : TxtG K mg CM CD CF aP) (F : Fun K "__init__" "Fault.__init__" yX f fd) : FnOk P w K mg base (CXE P w) 1 f fd ["self", "word", "number"] (spInitF CF) := by
 refine F.okN sc_Fault___init__ (fun vs H Q E h => ?_) (fun cdv A outer s H vs Q E hr h => ?_)
 ·obtain ⟨x, y, z, rfl, _⟩ := h
  rfl
 obtain ⟨x, y, z, rfl, hx, q⟩ := h
 refine ⟨_, (zE (ps_fldX (pv 0) (pv 1))
   (zG (ps_fldX (pv 0) (pv 2)))), ?_⟩
 try dsimp only [Cx.nox, Cx.exc, Cx.wish, zY]
 refine ⟨_, rfl, _, rfl, x, CF, none, rfl, hx, T.exc, T.xword, .inl ⟨rfl, fun d hd => ?_⟩⟩
 have nd : d ≠ x := fun e => by rw [e, hx] at hd; cases hd
 refine ⟨_, rfl, _, rfl, x, CF, some d, rfl, zB, T.exc, T.xnumber, .inr ⟨d, [("word", y)], rfl, by rw [zJ nd]; exact zB, (show 1 < 1000 by decide), ?_⟩⟩
 refine q d _ nd hd (fun b o nb e => ?_) ?_ zB
 ·rw [zJ (zK e hd), zJ nb, zJ (zK e hd)]; exact e
 ·rw [zJ (Ne.symm nd)]; exact zB
theorem ok_initD (T : TxtG K mg CM CD CF aP) (F : Fun K "__init__" "Doing.__init__" yY f fd) : FnOk P w K mg base (CXE P w) 1 f fd ["self", "start", "boxes"] (spInitD CD) := by
 refine F.okN sc_Doing___init__ (fun vs H Q E h => ?_) (fun cdv A outer s H vs Q E hr h => ?_)
 ·obtain ⟨x, dx, bx, pc, rfl, _⟩ := h
  rfl
 obtain ⟨x, dx, bx, pc, rfl, hx, q⟩ := h
 refine ⟨_, (zE (xJ (pv 0) (pv 1) rfl)
   (zE (xJ (pv 0) (pv 2) rfl)
   (zG (xJ (pv 0) (zV zC) rfl)))), ?_⟩
 try dsimp only [Cx.nox, Cx.exc, Cx.wish, zY]
 refine ⟨_, rfl, _, rfl, x, CD, dx, _, rfl, hx, T.doing, T.dat, (show 0 < 1000 by decide), ?_⟩
 refine ⟨_, rfl, _, rfl, x, CD, dx, _, rfl, zB, T.doing, T.dboxes, (show 1 < 1000 by decide), ?_⟩
 refine ⟨small (show 0 <= 1000 by decide), fun hl hhl => ?_⟩
 have nx : hl ≠ x := fun z => by rw [z, zB] at hhl; cases hhl
 rw [zJ nx, zJ nx] at hhl
 refine ⟨_, rfl, x, CD, dx, [("at", .int pc), ("boxes", .ref bx)], rfl, by rw [zJ (Ne.symm nx)]; exact zB, T.doing, T.dheld, (show 2 < 1000 by decide), ?_⟩
 refine q hl _ hhl (fun b o nb e => ?_) zB ?_
 ·rw [zJ nb, zJ (zK e hhl), zJ nb, zJ nb]; exact e
 ·rw [zJ nx]; exact zB
theorem ok_breatheG (T : TxtG K mg CM CD CF aP) (F : Fun K "breathe" "Machine.breathe" yU f fd) (CFault : CalX P w K mg base 1 "Fault" CF ["self", "word", "number"] (spInitF CF)) : FnOk P w K mg base (CXE P w) 3 f fd ["self"] (spBreatheG CM CF) := by
 refine F.okX sc_Machine_breathe (fun vs H Q E h => ?_) (fun cdv A outer s H vs Q E hr h => ?_)
 ·obtain ⟨A, br, va, rfl, _⟩ := h
  rfl
 obtain ⟨A, br, va, rfl, hm, t2, t1⟩ := h
 refine ⟨_, (zE (zW (zI qU (yP (pv 0) rfl) zF (nomark _)) (zG (jK CFault hr rfl (zS (.str (.int .nil))))) zN)
   (zG (ps_fldaug (pv 0) zF in_sub))), ?_⟩
 try dsimp only [Cx.nox, Cx.exc, Cx.wish, zY]
 refine ⟨_, rfl, A.ad .m, CM, A.dm, _, _, rfl, hm, T.mach, T.mbreaths, rfl, _, _, rfl, rfl, _, rfl, ite2 (fun c => ?_) (fun c => ?_)⟩
 ·have c' := of_decide_eq_true c
  exact ⟨small (show 2 <= 1000 by decide), raisedF (t2 c')⟩
 ·have c' := df c
  refine ⟨_, rfl, A.ad .m, CM, A.dm, _, _, rfl, hm, T.mach, T.mbreaths, rfl, _, _, rfl, rfl, A.dm, _, hm, (show 6 < 1000 by decide), ?_⟩
  exact t1 (by (first|lia|omega))
theorem ok_last (T : TxtG K mg CM CD CF aP) (F : Fun K "take_last" "take_last" jF f fd) (CFault : CalX P w K mg base 1 "Fault" CF ["self", "word", "number"] (spInitF CF)) : FnOk P w K mg base (CXE P w) 3 f fd ["held"] (spTakeLast CF) := by
 refine F.okX sc_take_last (fun vs H Q E h => ?_) (fun cdv A outer s H vs Q E hr h => ?_)
 ·obtain ⟨l, zs, rfl, _⟩ := h
  rfl
 obtain ⟨l, zs, rfl, hl, t2, t1⟩ := h
 refine ⟨_, (zE (zW (kI (pt_truth (pv 0) (fun _ => rfl))) (zG (jK CFault hr rfl (zS (.str (.int .nil))))) zN)
   (zG (zL (pe_bm0 PySem.F.plainAttrs_list PySem.F.slot_list_pop PySem.F.type_list_pop mt_pop (pv 0))))), ?_⟩
 try dsimp only [Cx.nox, Cx.exc, Cx.wish, zY]
 refine ⟨_, rfl, !(zs.map V.int).isEmpty, .inl ⟨_, SqL.of hl, rfl⟩, ?_⟩
 cases zs with
 | nil => exact iteT ⟨small (show 2 <= 1000 by decide), raisedF (t2 rfl)⟩
 | cons z r =>
  obtain ⟨y, ey⟩ : ∃ y, (z :: r).getLast? = some y := ⟨_, List.getLast?_eq_some_getLast (List.cons_ne_nil z r)⟩
  have hy : ((z :: r).map V.int)[((z :: r).map V.int).length - 1]? = some (.int y) := by
   rw [<- List.getLast?_eq_getElem?, List.getLast?_map, ey] <;> rfl
  have q := t1 y ey
  rw [List.map_dropLast] at q
  exact iteF ⟨_, rfl, .inl ⟨rfl, _, SqL.of hl⟩, l, _, _, rfl, rfl, hl, hy, q⟩
theorem take_last_of {zs : List Int} {i : Nat} (h : i < zs.length) : ∃ y, (zs.take (zs.length - i)).getLast? = some y /\ (zs.take (zs.length - i)).dropLast = zs.take (zs.length - (i + 1)) /\ (zs.drop (zs.length - i)).reverse ++ [y] = (zs.drop (zs.length - (i + 1))).reverse := by
 have hk : zs.length - (i + 1) < zs.length := by (first|lia|omega)
 have e1 : zs.length - i = zs.length - (i + 1) + 1 := by (first|lia|omega)
 refine ⟨zs[zs.length - (i + 1)], ?_, ?_, ?_⟩
 ·rw [List.getLast?_eq_getElem?, List.length_take, Nat.min_eq_left (by (first|lia|omega)), List.getElem?_take, if_pos (by (first|lia|omega)), show zs.length - i - 1 = zs.length - (i + 1) by (first|lia|omega), List.getElem?_eq_getElem hk]
 ·rw [List.dropLast_eq_take, List.length_take, Nat.min_eq_left (by (first|lia|omega)), List.take_take, show min (zs.length - i - 1) (zs.length - i) = zs.length - (i + 1) by (first|lia|omega)]
 ·rw [List.drop_eq_getElem_cons hk, List.reverse_cons, e1]
theorem ok_offG (T : TxtG K mg CM CD CF aP) (F : Fun K "take_off" "take_off" jT f fd) (Ctake_last : Cal P w K mg base (CXE P w) 3 "take_last" ["held"] (spTakeLast CF)) : FnOk P w K mg base (CXE P w) 4 f fd ["held", "many"] (spTakeOff CF) := by
 refine F.okX vA (fun vs H Q E h => ?_) (fun cdv A outer s H vs Q E hr h => ?_)
 ·obtain ⟨l, zs, many, rfl, _⟩ := h
  rfl
 obtain ⟨l, zs, many, rfl, hl, hm, t2, t1⟩ := h
 refine ⟨_, (zE (zT (i := 2) vA.nd rfl (Or.inl rfl) (zV zC))
   (zE (qO (own_fly rfl rfl) rfl (kE rfl T.n_range (zA (pv 1) zC)) (yH (i := 3) vA.nd rfl (Or.inl rfl)) (zG (yI (wI PySem.F.plainAttrs_list PySem.F.slot_list_append PySem.F.type_list_append yZ (pv 2) (zA (zH Ctake_last hr rfl (zA (pv 0) zC) passX) zC)))))
   (zE (yI (pe_bm0 PySem.F.plainAttrs_list PySem.F.slot_list_reverse PySem.F.type_list_reverse mt_reverse (pv 2)))
   (zG (zL (pv 2)))))), ?_⟩
 try dsimp only [Cx.nox, Cx.exc, Cx.wish, zY]
 refine ⟨small (show 0 <= 1000 by decide), fun tk htk => ?_⟩
 have ntl : tk ≠ l := Ne.symm (zK hl htk)
 refine ⟨_, rfl, _, rfl, by (first|lia|omega), by (first|lia|omega), wO (lo := 0) (n := many) (fun i σ' H' => (∃ v3, σ' = [some (.ref l), some (.int (many : Int)), some (.ref tk), v3]) /\ i <= zs.length /\ (∀ b o, b ≠ l -> H b = some o -> H' b = some o) /\ H' l = some (.lst ((zs.take (zs.length - i)).map V.int)) /\ H' tk = some (.lst ((zs.drop (zs.length - i)).reverse.map V.int))) ⟨⟨_, rfl⟩, Nat.zero_le _, fun b o n e => zD htk _ _ _ e, ?_, ?_⟩ ?_ ?_⟩
 ·rw [Nat.sub_zero, List.take_of_length_le (Nat.le_refl _)]
  exact zD htk _ _ _ hl
 ·rw [Nat.sub_zero, List.drop_of_length_le (Nat.le_refl _)]
  exact zB
 ·rintro i σ' H' hi ⟨⟨v3, rfl⟩, li, kp, el, et⟩
  refine ⟨_, rfl, .inl ⟨rfl, _, SqL.of et⟩, ?_⟩
  refine ⟨_, rfl, l, _, rfl, el, fun e => ?_, fun y ey => ?_⟩
  ·have z : (zs.take (zs.length - i)).length = 0 := by rw [e] <;> rfl
   rw [List.length_take, Nat.min_eq_left (by (first|lia|omega))] at z
   exact t2 (by (first|lia|omega)) H' kp (by rw [el, e] <;> rfl)
  ·have hz : i < zs.length := by
    by_cases c : i < zs.length
    ·exact c
    ·rw [show zs.length - i = 0 by (first|lia|omega), List.take_zero] at ey
     cases ey
   obtain ⟨y', e1, e2, e3⟩ := take_last_of hz
   rw [ey] at e1
   cases e1
   rw [e2]
   have et2 : upd H' l (.lst ((zs.take (zs.length - (i + 1))).map V.int)) tk = some (.lst ((zs.drop (zs.length - i)).reverse.map V.int)) := by rw [zJ ntl]; exact et
   refine ⟨tk, _, _, rfl, rfl, et2, ?_, ⟨_, rfl⟩, by (first|lia|omega), fun b o n e => ?_, ?_, ?_⟩
   ·rw [List.length_map, List.length_reverse, List.length_drop]
    exact small1000 (by (first|lia|omega))
   ·have nt : b ≠ tk := zK e htk
    rw [zJ nt, zJ n]; exact kp b o n e
   ·rw [zJ (Ne.symm ntl)]; exact zB
   ·rw [<- e3, List.map_append]; exact zB
 ·rintro σ' H' ⟨⟨v3, rfl⟩, li, kp, el, et⟩
  refine ⟨_, rfl, .inl ⟨rfl, _, SqL.of et⟩, tk, _, rfl, rfl, et, ?_⟩
  refine ⟨_, rfl, t1 li tk _ htk ntl (fun b o n e => ?_) ?_ ?_⟩
  ·rw [zJ (zK e htk)]; exact kp b o n e
  ·rw [zJ (Ne.symm ntl)]; exact el
  ·rw [zB, List.map_reverse, List.reverse_reverse]
theorem ok_want (T : TxtG K mg CM CD CF aP) (F : Fun K "want_box" "want_box" jS f fd) (CFault : CalX P w K mg base 1 "Fault" CF ["self", "word", "number"] (spInitF CF)) : FnOk P w K mg base (CXE P w) 4 f fd ["doing", "box"] (spWantBox CD CF) := by
 refine F.okX sc_want_box (fun vs H Q E h => ?_) (fun cdv A outer s H vs Q E hr h => ?_)
 ·obtain ⟨d, dd, bx, x, y, zs, n, rfl, _⟩ := h
  rfl
 obtain ⟨d, dd, bx, x, y, zs, n, rfl, hd, hb, t2, t1⟩ := h
 refine ⟨_, (zG (zW (zI op_ge (pv 1) (zU zQ rfl T.n_len yS (zA (yP (pv 0) rfl) zC)) (nomark _)) (zG (jK CFault hr rfl (zS (.str (.int .nil))))) zN)), ?_⟩
 try dsimp only [Cx.nox, Cx.exc, Cx.wish, zY]
 refine ⟨_, rfl, _, rfl, d, CD, dd, _, _, rfl, hd, T.doing, T.dboxes, rfl, bx, _, rfl, .inl (SqL.of hb), _, _, rfl, rfl, _, rfl, ite2 (fun c => ?_) (fun c => ?_)⟩
 ·have c' := of_decide_eq_true c
  rw [List.length_map] at c'
  exact ⟨small (show 2 <= 1000 by decide), raisedF (t2 c')⟩
 ·have c' := df c
  rw [List.length_map] at c'
  exact t1 (by (first|lia|omega))
theorem ok_skipped (T : TxtG K mg CM CD CF aP) (F : Fun K "skipped" "skipped" kW f fd) : FnOk P w K mg base (CXE P w) 1 f fd ["value", "many"] spSkipped := by
 refine F.okN sc_skipped (fun vs H Q E h => ?_) (fun cdv A outer s H vs Q E hr h => ?_)
 ·obtain ⟨v, n, rfl, _⟩ := h
  rfl
 obtain ⟨v, n, rfl, q⟩ := h
 refine ⟨_, (zG (zL (pe_ifExp (pt_chain qU kO zF (pv 0) (pv 1)) (pv 0) (zR xQ (pv 1) zF)))), ?_⟩
 try dsimp only [Cx.nox, Cx.exc, Cx.wish, zY]
 refine wP 0 v n (fun R h => h) (fun R h => ⟨_, rfl, h⟩) (fun R h => ⟨_, rfl, h⟩) fun r z => ⟨_, rfl, ?_⟩
 cases r with
 | true =>
  rw [if_pos (z.mp rfl)] at q
  exact iteT ⟨_, rfl, q⟩
 | false =>
  rw [if_neg (fun y => nomatch z.mpr y)] at q
  exact iteF ⟨_, rfl, _, _, rfl, rfl, q⟩
theorem arity_parts : ∀ k : Fin 12, ([1, 2, 2, 2, 2, 2, 2, 2, 2, 2, 3, 1, 0] : List Int)[k.1 + 1]? = some ((arity ((k.1 : Int) + 8) : Nat) : Int) := by decide
def spParts : Sp := fun vs H Q _ => ∃ k : Int, vs = [.int k] /\ 8 <= k /\ k <= 19 /\ Q (.int (arity k : Nat)) H
theorem ok_parts (T : TxtG K mg CM CD CF aP) (F : Fun K "parts_of" "parts_of" jV f fd) : FnOk P w K mg base (CXE P w) 1 f fd ["kind"] spParts := by
 refine F.okN sc_parts_of (fun vs H Q E h => ?_) (fun cdv A outer s H vs Q E hr h => ?_)
 ·obtain ⟨k, rfl, _⟩ := h
  rfl
 obtain ⟨k, rfl, k8, k19, q⟩ := h
 refine ⟨_, (zG (zL (zX ix_tup (pe_gref rfl T.m_PARTS) (zR xQ (pv 0) (zO rfl T.m_FAIL)) (fun _ _ => rfl)))), ?_⟩
 try dsimp only [Cx.nox, Cx.exc, Cx.wish, zY]
 have e := arity_parts ⟨(k - 8).toNat, by (first|lia|omega)⟩
 have e2 : atI (([1, 2, 2, 2, 2, 2, 2, 2, 2, 2, 3, 1, 0] : List Int).map V.int) (k - 7) = some (.int (arity k : Nat)) := by
  have := qW (xs := ([1, 2, 2, 2, 2, 2, 2, 2, 2, 2, 3, 1, 0] : List Int).map V.int) (j := (k - 8).toNat + 1) (v := .int (arity k : Nat)) (by rw [List.getElem?_map, e]; show some (V.int ((arity (((k - 8).toNat : Int) + 8) : Nat) : Int)) = _; rw [show (((k - 8).toNat : Int) + 8) = k by (first|lia|omega)])
  rwa [show (((k - 8).toNat + 1 : Nat) : Int) = k - 7 by (first|lia|omega)] at this
 refine ⟨_, rfl, _, _, rfl, rfl, aP, _, _, _, rfl, rfl, T.parts _, e2, q⟩
theorem big1000 {n : Nat} (h : n <= 20000) : n + 1 <= sizeLine := by rw [sizeLine_eq]; (first|lia|omega)
theorem ok_setG (T : TxtG K mg CM CD CF aP) (F : Fun K "do_set" "do_set" wE f fd) (Ctake_last : Cal P w K mg base (CXE P w) 3 "take_last" ["held"] (spTakeLast CF)) (Cwant_box : Cal P w K mg base (CXE P w) 4 "want_box" ["doing", "box"] (spWantBox CD CF)) : FnOk P w K mg base (CXE P w) 5 f fd ["doing", "box"] (spSetG CM CD CF) := by
 refine F.okX sc_do_set (fun vs H Q E h => ?_) (fun cdv Ar outer s0 H vs Q E hr h => ?_)
 ·obtain ⟨A, H0, hs, rs, s, n, rfl, _⟩ := h
  rfl
 obtain ⟨A, H0, hs, rs, s, n, rfl, R, h0, n0, hz, q⟩ := h
 refine ⟨_, (zE (yI (zH Cwant_box hr rfl (zA (pv 0) (zA (pv 1) zC)) passX))
   (zE (zT (i := 2) sc_do_set.nd rfl (Or.inl rfl) (zH Ctake_last hr rfl (zA (yP (pv 0) rfl) zC) passX))
   (zE (jQ (pv 2) (pg_sub (yP (pv 0) rfl) (pv 1) qI))
   (zG (yI (wI PySem.F.plainAttrs_list PySem.F.slot_list_append PySem.F.type_list_append yZ (yP (pv 0) rfl) (zA (pv 2) zC))))))), ?_⟩
 try dsimp only [Cx.nox, Cx.exc, Cx.wish, zY]
 have kd := R.at_ (.d s.k) (RunG.okk h0)
 have kb := R.at_ (.bx s.k) (RunG.okk h0)
 have kh := R.at_ (.hl s.k) (RunG.okk h0)
 refine ⟨_, rfl, _, rfl, A.ad (.d s.k), A.dd s.k, A.ad (.bx s.k), _, _, s.cur.bx, n, rfl, kd, kb, fun c => ?_, fun c => ?_⟩
 ·have e : setG n s = .bad "stray" 0 s.rows := if_pos (by (first|lia|omega))
  rw [e] at q
  exact FaultG.at q R rfl rfl
 have e1 : setG n s = popG s fun s v => .go ((s.boxes (s.cur.bx.set n.toNat v)).held (s.cur.hl ++ [v])) := if_neg (by (first|lia|omega))
 rw [e1] at q
 refine ⟨_, rfl, A.ad (.d s.k), CD, A.dd s.k, _, _, rfl, kd, T.doing, T.dheld, rfl, A.ad (.hl s.k), s.cur.hl, rfl, kh, fun e => ?_, fun y ey => ?_⟩
 ·rw [wH e] at q
  exact FaultG.at q R rfl rfl
 rw [qG ey] at q
 have R1 := R.setHeld h0 s.cur.hl.dropLast
 have h1 : 0 < (s.held s.cur.hl.dropLast).frs.length := by rw [wM]; exact h0
 have c1 := wN h0 s.cur.hl.dropLast
 have k1 := held_k s s.cur.hl.dropLast
 have q1 : EndsG CM CD CF H0 A hs rs Q E (.go (((s.held s.cur.hl.dropLast).boxes ((s.held s.cur.hl.dropLast).cur.bx.set n.toNat y)).held ((s.held s.cur.hl.dropLast).cur.hl ++ [y]))) := q
 generalize s.held s.cur.hl.dropLast = s1 at *
 generalize upd H (A.ad (.hl s.k)) (.lst (s.cur.hl.dropLast.map V.int)) = H1 at *
 have kd1 := R1.kd h1
 have kb1 := R1.kb h1
 rw [k1] at kd1 kb1
 have ix : ixN (s1.cur.bx.map V.int).length n = some n.toNat := by
  unfold ixN
  rw [List.length_map, c1, if_pos n0, if_pos c]
 refine ⟨_, rfl, _, rfl, A.ad (.d s.k), CD, A.dd s.k, _, _, rfl, kd1, T.doing, T.dboxes, rfl, _, rfl, A.ad (.bx s.k), _, _, _, rfl, rfl, kb1, ix, ?_⟩
 have R2 := R1.setBox h1 (s1.cur.bx.set n.toNat y)
 rw [k1, List.map_set] at R2
 have h2 : 0 < (s1.boxes (s1.cur.bx.set n.toNat y)).frs.length := by rw [boxes_len]; exact h1
 have kd2 := R2.kd h2
 have kh2 := R2.kh h2
 rw [boxes_k, k1] at kd2 kh2
 have l2 : (s1.boxes (s1.cur.bx.set n.toNat y)).cur.hl = s1.cur.hl := by rw [boxes_cur h1]
 rw [l2] at kh2
 have R3 := R2.setHeld h2 (s1.cur.hl ++ [y])
 rw [boxes_k, k1, List.map_append] at R3
 refine ⟨_, rfl, A.ad (.d s.k), CD, A.dd s.k, _, _, rfl, kd2, T.doing, T.dheld, rfl, .inl ⟨rfl, _, SqL.of kh2⟩, _, rfl, A.ad (.hl s.k), _, _, rfl, rfl, kh2, ?_, q1 A _ (Like.refl A) R3⟩
 rw [List.length_map, c1, List.length_dropLast]
 exact big1000 (by (first|lia|omega))
theorem ok_deedG (T : TxtG K mg CM CD CF aP) (F : Fun K "do_deed" "do_deed" qB f fd) (CFault : CalX P w K mg base 1 "Fault" CF ["self", "word", "number"] (spInitF CF)) (Ctake_off : Cal P w K mg base (CXE P w) 4 "take_off" ["held", "many"] (spTakeOff CF)) (Cparts_of : Cal P w K mg base (CXE P w) 1 "parts_of" ["kind"] spParts) (Cworth : Cal P w K mg base (CXE P w) 3 "worth" ["kind", "values", "rows"] spWorth) : FnOk P w K mg base (CXE P w) 5 f fd ["machine", "held", "kind"] (spDeedG CM CD CF) := by
 refine F.okX sc_do_deed (fun vs H Q E h => ?_) (fun cdv Ar outer s0 H vs Q E hr h => ?_)
 ·obtain ⟨A, H0, hs, rs, s, n, rfl, _⟩ := h
  rfl
 obtain ⟨A, H0, hs, rs, s, n, rfl, R, h0, n8, n19, B, q⟩ := h
 refine ⟨_, (zE (jQ (zH Cworth hr rfl (zA (pv 2) (zA (zH Ctake_off hr rfl (zA (pv 1) (zA (zH Cparts_of hr rfl (zA (pv 2) zC) passX) zC)) passX) (zA (yP (pv 0) rfl) zC))) passX) (qP rfl (yK (yH (i := 3) sc_do_deed.nd rfl (Or.inl rfl)) (yK (yH (i := 4) sc_do_deed.nd rfl (Or.inl rfl)) jR))))
   (zE (zW (zI op_notN (pv 3) xI (nomark _)) (zG (jK CFault hr rfl (zA (pv 3) (zA zF zC)))) zN)
   (zG (yI (wI PySem.F.plainAttrs_list PySem.F.slot_list_append PySem.F.type_list_append yZ (pv 1) (zA (pv 4) zC)))))), ?_⟩
 try dsimp only [Cx.nox, Cx.exc, Cx.wish, zY]
 have kh := R.kh h0
 have al := arity_le n
 refine ⟨_, rfl, _, rfl, _, rfl, n, rfl, n8, n19, A.ad (.hl s.k), s.cur.hl, arity n, rfl, kh, by (first|lia|omega), fun c H1 kp el => ?_, fun c p H1 hp npl kp el ep => ?_⟩
 ·have e : deedG n s = .bad "stray" 0 s.rows := if_pos c
  rw [e] at q
  exact FaultG.at q (R.putHeld h0 [] kp el) rfl rfl
 have R1 := R.putHeld h0 _ kp el
 have lv : (s.cur.hl.drop (s.cur.hl.length - arity n)).length = arity n := by rw [List.length_drop]; (first|lia|omega)
 have vb : ∀ v ∈ s.cur.hl.drop (s.cur.hl.length - arity n), v.natAbs < 2 ^ 2000 := fun v hv => B.hv v (List.mem_of_mem_drop hv)
 have q0 := q
 unfold deedG at q0
 rw [if_neg (by (first|lia|omega))] at q0
 have l1 := wN h0 (s.cur.hl.take (s.cur.hl.length - arity n))
 have hr0 : 0 < (s.held (s.cur.hl.take (s.cur.hl.length - arity n))).frs.length := by rw [wM]; exact h0
 obtain ⟨vals, hvals⟩ : ∃ vals, vals = s.cur.hl.drop (s.cur.hl.length - arity n) := ⟨_, rfl⟩
 rw [<- hvals] at lv vb ep q0
 have e3 := three_of lv al
 refine ⟨_, rfl, A.ad .m, CM, A.dm, _, _, rfl, R1.km, T.mach, T.mrows, rfl, n, vals.getD 0 0, vals.getD 1 0, vals.getD 2 0, p, A.ad .rw, vals, rwL A s.rows.length, s.rows, rfl, ep, e3, n8, n19, R.rowsAt.notin hp, R1.rowsAt, fun xs hx => Nat.lt_of_le_of_lt (B.rl xs hx) (by decide), Nat.lt_of_le_of_lt B.nr (by decide), fun k14 => ?_, fun p2 H2 rs' D => ?_⟩
 ·have a2 := arity_two k14
  rw [a2] at lv
  match vals, lv with
  | [a, b], _ => exact ⟨vb a (by simp), vb b (by simp)⟩
 obtain ⟨A2, lk, hh, R2⟩ := R1.deed D
 have tw := worthM_two n (vals.getD 0 0) (vals.getD 1 0) (vals.getD 2 0) s.rows
 have told := D.told
 obtain ⟨o, ho⟩ : ∃ o, o = worthM n (vals.getD 0 0) (vals.getD 1 0) (vals.getD 2 0) s.rows := ⟨_, rfl⟩
 rw [<- ho] at tw told q0 R2
 obtain ⟨o1, o2⟩ := o
 rcases tw with ⟨i, e⟩ | ⟨z, e⟩
 ·cases e
  have q1 : EndsG CM CD CF H0 A hs rs Q E (.go (MS.held { s with rows := o2 } (s.cur.hl.take (s.cur.hl.length - arity n) ++ [i]))) := q0
  refine ⟨p2, _, rfl, SqT.of told, rfl, _, _, rfl, _, _, rfl, rfl, ?_⟩
  refine ⟨_, rfl, rfl, _, rfl, iteNS rfl ?_⟩
  have kh2 := R2.kh hr0
  rw [show MS.k { s.held (s.cur.hl.take (s.cur.hl.length - arity n)) with rows := o2 } = s.k from held_k .., hh, show (MS.cur { s.held (s.cur.hl.take (s.cur.hl.length - arity n)) with rows := o2 }) = _ from l1] at kh2
  have R3 := R2.setHeld hr0 (s.cur.hl.take (s.cur.hl.length - arity n) ++ [i])
  rw [held_rows h0, show MS.k { s.held (s.cur.hl.take (s.cur.hl.length - arity n)) with rows := o2 } = s.k from held_k .., hh, List.map_append] at R3
  refine ⟨_, rfl, .inl ⟨rfl, _, SqL.of kh2⟩, _, rfl, A.ad (.hl s.k), _, _, rfl, rfl, kh2, ?_, q1 A2 _ lk R3⟩
  have := B.hl
  rw [List.length_map, List.length_take]
  exact big1000 (by (first|lia|omega))
 ·cases e
  have q1 : FaultG CM CD CF H0 (A.ad .m) hs rs E z 0 o2 := q0
  refine ⟨p2, _, rfl, SqT.of told, rfl, _, _, rfl, _, _, rfl, rfl, ?_⟩
  refine ⟨_, rfl, rfl, _, rfl, iteY (by rw [decide_eq_false (by intro h; cases h)]; rfl) ?_⟩
  exact ⟨_, rfl, small (show 2 <= 1000 by decide), raisedF (FaultG.at q1 R2 lk.m rfl)⟩

end
section
variable {P : Program} {w : World} {K : PySem.W.Frag} {mg : Str -> Option Value} {base : Heap} {f : Addr} {fd : FuncData} {CM CD CF aP : Addr}
set_option maxHeartbeats 4000000

theorem ok_backG (T : TxtG K mg CM CD CF aP) (F : Fun K "do_back" "do_back" qE f fd) (Ctake_last : Cal P w K mg base (CXE P w) 3 "take_last" ["held"] (spTakeLast CF)) : FnOk P w K mg base (CXE P w) 4 f fd ["machine", "held"] (spBackG CM CD CF) := by
 refine F.okX sc_do_back (fun vs H Q E h => ?_) (fun cdv Ar outer s0 H vs Q E hr h => ?_)
 ·obtain ⟨A, H0, hs, rs, s, rfl, _⟩ := h
  rfl
 obtain ⟨A, H0, hs, rs, s, rfl, R, h0, hz, q⟩ := h
 refine ⟨_, (zE (xJ (pv 0) (zH Ctake_last hr rfl (zA (pv 1) zC) passX) rfl)
   (zE (yI (pe_bm0 PySem.F.plainAttrs_list PySem.F.slot_list_pop PySem.F.type_list_pop mt_pop (yP (pv 0) rfl)))
   (zG (zW (pt_truth (yP (pv 0) rfl) (fun _ => rfl)) (zG (yI (wI PySem.F.plainAttrs_list PySem.F.slot_list_append PySem.F.type_list_append yZ (yP (zX zP (yP (pv 0) rfl) (qS jM zF) (fun _ _ => rfl)) rfl) (zA (yP (pv 0) rfl) zC)))) zN)))), ?_⟩
 try dsimp only [Cx.nox, Cx.exc, Cx.wish, zY]
 have kh := R.kh h0
 refine ⟨_, rfl, A.ad (.hl s.k), s.cur.hl, rfl, kh, fun e => ?_, fun y ey => ?_⟩
 ·have e1 : backG s = .bad "stray" 0 s.rows := wH e
  rw [e1] at q
  exact FaultG.at q R rfl rfl
 have q1 := q
 unfold backG at q1
 rw [qG ey] at q1
 have R1 := R.setHeld h0 s.cur.hl.dropLast
 have h1 : 0 < (s.held s.cur.hl.dropLast).frs.length := by rw [wM]; exact h0
 have hz1 : ∀ f ∈ (s.held s.cur.hl.dropLast).frs.dropLast, f.hl.length <= 20000 := fun f hf => by
  rw [held_drop] at hf
  exact hz f (mem_drop hf)
 generalize s.held s.cur.hl.dropLast = s1 at *
 generalize upd H (A.ad (.hl s.k)) (.lst (s.cur.hl.dropLast.map V.int)) = H1 at *
 refine ⟨_, rfl, A.ad .m, CM, A.dm, _, rfl, R1.km, T.mach, T.mvalue, (show 6 < 1000 by decide), ?_⟩
 have R2 := R1.setVa y
 have kbd2 := R2.kbd
 have km2 := R2.km
 have R3 := R2.leave
 refine ⟨_, rfl, A.ad .m, CM, A.dm, _, _, rfl, km2, T.mach, T.mdone, rfl, .inl ⟨rfl, _, SqL.of kbd2⟩, A.ad .bd, _, _, rfl, rfl, kbd2, by rw [wY]; exact bdL_get A h1, ?_⟩
 rw [bdL_drop, show MS.frs { rows := s1.rows, frs := s1.frs, br := s1.br, va := y } = s1.frs from rfl, <- List.length_dropLast]
 have R4 : RunG CM CD H0 (upd (upd H1 (A.ad .m) (MG CM A s1.br y)) (A.ad .bd) (.lst (bdL A s1.frs.dropLast.length))) A hs rs { rows := s1.rows, frs := s1.frs.dropLast, br := s1.br, va := y } := R3
 have kbd4 := R4.kbd
 refine ⟨_, rfl, A.ad .m, CM, A.dm, _, _, rfl, R4.km, T.mach, T.mdone, rfl, !(bdL A s1.frs.dropLast.length).isEmpty, .inl ⟨_, SqL.of kbd4, rfl⟩, ?_⟩
 by_cases z : s1.frs.dropLast.length = 0
 ·rw [if_pos z] at q1
  exact iteN (by rw [z]; rfl) (q1 A _ (Like.refl A) R4)
 ·rw [if_neg z] at q1
  have h4 : 0 < (MS.frs { rows := s1.rows, frs := s1.frs.dropLast, br := s1.br, va := y }).length := Nat.pos_of_ne_zero z
  refine iteY (by rw [Bool.not_eq_true', List.isEmpty_eq_false_iff]; intro e; have := congrArg List.length e; rw [wY] at this; exact z this) ?_
  have kh4 := R4.kh h4
  have R5 := R4.setHeld h4 ((MS.cur { rows := s1.rows, frs := s1.frs.dropLast, br := s1.br, va := y }).hl ++ [y])
  rw [List.map_append] at R5
  refine ⟨_, rfl, A.ad .m, CM, A.dm, _, _, rfl, R4.km, T.mach, T.mdone, rfl, _, rfl, A.ad .bd, _, _, _, rfl, rfl, SqL.of kbd4, bdL_last A h4, _, CD, _, _, _, rfl, R4.kd h4, T.doing, T.dheld, rfl, .inl ⟨rfl, _, SqL.of kh4⟩, _, rfl, A.ad .m, CM, A.dm, _, _, rfl, R4.km, T.mach, T.mvalue, rfl, _, _, _, rfl, rfl, kh4, ?_, q1 A _ (Like.refl A) R5⟩
  rw [List.length_map]
  exact big1000 (hz1 _ (cur_mem h4))
theorem rep_flat (vals : List Int) (n : Nat) : vals.map V.int ++ (List.replicate n [V.int 0]).flatten = (vals ++ List.replicate n (0 : Int)).map V.int := by
 rw [List.map_append, List.map_replicate]
 congr 1
 induction n with
 | zero => rfl
 | succ n ih => rw [List.replicate_succ, List.replicate_succ, List.flatten_cons, ih] <;> rfl
theorem ok_callG (T : TxtG K mg CM CD CF aP) (F : Fun K "do_call" "do_call" qD f fd) (Ctake_off : Cal P w K mg base (CXE P w) 4 "take_off" ["held", "many"] (spTakeOff CF)) (CFault : CalX P w K mg base 1 "Fault" CF ["self", "word", "number"] (spInitF CF)) (Mbreathe : CalM P w K mg base (CXE P w) 3 CM "breathe" ["self"] (spBreatheG CM CF)) (CDoing : CalK P w K mg base (CXE P w) 1 "Doing" CD ["self", "start", "boxes"] (spInitD CD)) :
  FnOk P w K mg base (CXE P w) 5 f fd ["machine", "held", "function"] (spCallG CM CD CF) := by
 refine F.okX qK (fun vs H Q E h => ?_) (fun cdv Ar outer s0 H vs Q E hr h => ?_)
 ·obtain ⟨A, H0, hs, rs, s, n, st, p, b, l, rfl, _⟩ := h
  rfl
 obtain ⟨A, H0, hs, rs, s, n, st, p, b, l, rfl, R, hh, n0, st0, p0, pb, b12, f16, q⟩ := h
 refine ⟨_, (zE (jQ (zX zP (yP (pv 0) rfl) (pv 2) (fun _ _ => rfl)) (qP rfl (yK (yH (i := 3) qK.nd rfl (Or.inl rfl)) (yK (yH (i := 4) qK.nd rfl (Or.inl rfl)) (yK (yH (i := 5) qK.nd rfl (Or.inl rfl)) jR)))))
   (zE (zT (i := 6) qK.nd rfl (Or.inl rfl) (zH Ctake_off hr rfl (zA (pv 1) (zA (pv 4) zC)) passX))
   (zE (zW (zI yJ (zU zQ rfl T.n_len yS (zA (yP (pv 0) rfl) zC)) (zO rfl T.m_MOST_DONE_AT_ONCE) (nomark _)) (zG (jK CFault hr rfl (zS (.str (.int .nil))))) zN)
   (zE (yI (pe_methC0 (pv 0) Mbreathe hr passX))
   (zG (yI (wI PySem.F.plainAttrs_list PySem.F.slot_list_append PySem.F.type_list_append yZ (yP (pv 0) rfl) (zA (pe_makeC CDoing hr rfl (zA (pv 3) (zA (zR yT (pv 6) (zR op_rep (zV (zA zF zC)) (zR xQ (pv 5) (pv 4)))) zC)) passX) zC)))))))), ?_⟩
 try dsimp only [Cx.nox, Cx.exc, Cx.wish, zY]
 obtain ⟨pn, rfl⟩ := Int.eq_ofNat_of_zero_le p0
 obtain ⟨sn, rfl⟩ := Int.eq_ofNat_of_zero_le st0
 obtain ⟨zs, hl, fault, good⟩ : ∃ zs : List Int, H l = some (.lst (zs.map V.int)) /\ (zs.length < pn -> ∀ H1, (∀ b o, b ≠ l -> H b = some o -> H1 b = some o) -> H1 l = some (.lst []) -> FaultS CF H1 E "stray" 0) /\
   (pn <= zs.length -> ∀ H1, (∀ b o, b ≠ l -> H b = some o -> H1 b = some o) -> H1 l = some (.lst ((zs.take (zs.length - pn)).map V.int)) -> ∃ s1, RunG CM CD H0 H1 A hs rs s1 /\ s1.frs.length <= 16 /\ EndsG CM CD CF H0 A hs rs Q E (enterG s1 (sn : Int) (zs.drop (zs.length - pn) ++ List.replicate (b - (pn : Int)).toNat 0))) := by
  rcases q with ⟨h0, rfl, hz, q⟩ | ⟨pz, hl, nl, q⟩
  ·unfold callG at q
   rw [hh] at q
   dsimp only at q
   rw [Int.toNat_natCast] at q
   refine ⟨s.cur.hl, R.kh h0, fun c H1 kp el => ?_, fun c H1 kp el => ⟨s.held (s.cur.hl.take (s.cur.hl.length - pn)), R.putHeld h0 _ kp el, by rw [wM]; exact f16, ?_⟩⟩
   ·rw [if_pos c] at q
    exact FaultG.at q (R.putHeld h0 [] kp el) rfl rfl
   ·rw [if_neg (by (first|lia|omega))] at q
    exact q
  ·obtain rfl : pn = 0 := by (first|lia|omega)
   refine ⟨[], hl, fun c => absurd c (by simp), fun _ H1 kp el => ⟨s, R.more (fun b o e => ?_), f16, ?_⟩⟩
   ·by_cases z : b = l
    ·rw [z] at e ⊢
     rw [hl] at e
     cases e
     exact el
    ·exact kp b o z e
   ·rw [show (b - ((0 : Nat) : Int)).toNat = b.toNat by (first|lia|omega)]
    exact q
 clear q
 have hn : n.toNat < hs.length := (List.getElem?_eq_some_iff.mp hh).1
 obtain ⟨v, hv⟩ : ∃ v, A.uh[n.toNat]? = some v := ⟨_, List.getElem?_eq_getElem (by rw [Paired.len R.th]; exact hn)⟩
 obtain ⟨t, rfl, et⟩ := Paired.get R.th n.toNat v _ hv hh
 refine ⟨_, rfl, A.ad .m, CM, A.dm, _, _, rfl, R.km, T.mach, T.mheads, rfl, _, rfl, A.ad .hd, _, _, _, rfl, rfl, SqL.of (R.at_ .hd trivial), kJ n0 hv, t, _, rfl, SqT.of et, rfl, _, _, rfl, _, _, rfl, _, _, rfl, rfl, ?_⟩
 refine ⟨_, rfl, _, rfl, l, zs, pn, rfl, hl, by (first|lia|omega), fault, fun c p H1 hp npl kp el ep => ?_⟩
 obtain ⟨s1, R1, g16, q⟩ := good c H1 kp el
 have lv : (zs.drop (zs.length - pn)).length = pn := by rw [List.length_drop]; (first|lia|omega)
 obtain ⟨vals, hvals⟩ : ∃ vals, vals = zs.drop (zs.length - pn) := ⟨_, rfl⟩
 rw [<- hvals] at lv ep q
 clear fault good
 have q0 := q
 unfold enterG at q0
 refine ⟨_, rfl, A.ad .m, CM, A.dm, _, _, rfl, R1.km, T.mach, T.mdone, rfl, A.ad .bd, _, rfl, .inl (SqL.of R1.kbd), rfl, _, rfl, ite2 (fun c => ?_) (fun c => ?_)⟩
 ·have c' := vt c
  rw [wY] at c'
  rw [if_pos (by (first|lia|omega))] at q0
  exact ⟨small (show 2 <= 1000 by decide), raisedF (FaultG.at q0 R1 rfl rfl)⟩
 have c1 := vf c
 rw [wY] at c1
 rw [if_neg (by (first|lia|omega))] at q0
 refine ⟨_, rfl, A.ad .m, A.dm, _, rfl, R1.km, rfl, A, s1.br, s1.va, rfl, R1.km, fun c => ?_, fun c => ?_⟩
 ·rw [if_pos c] at q0
  exact FaultG.at q0 R1 rfl rfl
 rw [if_neg (by (first|lia|omega)), Int.toNat_natCast] at q0
 have R2 := R1.setBr (s1.br - 1)
 have ep2 : upd H1 (A.ad .m) (MG CM A (s1.br - 1) s1.va) p = some (.lst (vals.map V.int)) := by
  rw [zJ (fun z => by rw [z, R1.km] at ep; cases ep)]
  exact ep
 generalize upd H1 (A.ad .m) (MG CM A (s1.br - 1) s1.va) = H2 at *
 have m2 := R2.km
 have bd2 := R2.kbd
 refine ⟨_, rfl, A.ad .m, CM, A.dm, _, _, rfl, m2, T.mach, T.mdone, rfl, .inl ⟨rfl, _, SqL.of bd2⟩, ?_⟩
 refine ⟨_, rfl, _, rfl, small (show 1 <= 1000 by decide), fun z hz => ?_⟩
 have s3 := zD hz (.lst [.int 0])
 refine ⟨_, rfl, _, rfl, _, _, rfl, rfl, z, _, _, rfl, rfl, zB, by (first|lia|omega), by (first|lia|omega), small (show 1 * (b - (pn : Int)).toNat <= 1000 by (first|lia|omega)), fun z2 hz2 => ?_⟩
 have s4 := zD hz2 (.lst (List.replicate (b - (pn : Int)).toNat [V.int 0]).flatten)
 refine ⟨p, z2, _, _, rfl, rfl, s4 _ _ (s3 _ _ ep2), zB, ?_, fun bx hbx => ?_⟩
 ·rw [len_rep, List.length_map, lv]
  exact small (show pn + (b - (pn : Int)).toNat * 1 <= 1000 by (first|lia|omega))
 have s5 := zD hbx (.lst (vals.map V.int ++ (List.replicate (b - (pn : Int)).toNat [V.int 0]).flatten))
 have s25 := s3.trans (s4.trans s5)
 have bx2 : H2 bx = none := (s3.trans s4).free hbx
 intro x dx hx hdx ndx
 have s6 := zD hdx (.own x)
 have hx7 : upd (upd (upd (upd H2 z (.lst [.int 0])) z2 (.lst (List.replicate (b - (pn : Int)).toNat [V.int 0]).flatten)) bx (.lst (vals.map V.int ++ (List.replicate (b - (pn : Int)).toNat [V.int 0]).flatten))) dx (.own x) x = none := by rw [zJ (Ne.symm ndx)]; exact hx
 have s7 := zD hx7 (.ins CD dx [])
 refine ⟨x, dx, bx, (sn : Int), rfl, zB, fun hl' H' hhl kp' ex ehl => ⟨rfl, ?_⟩⟩
 have s8 : Same H2 H' := fun b o e => kp' b o (fun y => by
  have := s25 _ _ e
  rw [y, hx] at this
  cases this) (s7 _ _ (s6 _ _ (s25 _ _ e)))
 have x2 : H2 x = none := s25.free hx
 have hl2 : H2 hl' = none := (s25.trans (s6.trans s7)).free hhl
 have nxb : x ≠ bx := fun y => by rw [y, zB] at hx; cases hx
 have nxh : x ≠ hl' := fun y => by rw [<- y, zB] at hhl; cases hhl
 have ebx := (s6.trans s7) _ _ (zB (H := upd (upd H2 z (.lst [.int 0])) z2 (.lst (List.replicate (b - (pn : Int)).toNat [V.int 0]).flatten)) (a := bx) (o := .lst (vals.map V.int ++ (List.replicate (b - (pn : Int)).toNat [V.int 0]).flatten)))
 have nbh : bx ≠ hl' := fun y => by rw [<- y, ebx] at hhl; cases hhl
 have ebx' := kp' bx _ (Ne.symm nxb) ebx
 rw [rep_flat] at ebx'
 have nbd : ∀ a, H2 a = none -> a ≠ A.ad .bd := fun a e y => by rw [y, bd2] at e; cases e
 refine ⟨A.ad .bd, _, _, rfl, rfl, s8 _ _ bd2, by rw [wY]; exact small1000 (Nat.le_trans g16 (by decide)), ?_⟩
 refine q0 (A.enter s1.frs.length x dx bx hl') _ (Like.enter ..) (R2.enter x2 bx2 hl2 nxb nxh nbh (fun b o nb e => by rw [zJ nb]; exact s8 _ _ e) zB ?_ ?_ ?_)
 ·rw [zJ (nbd _ x2)]; exact ex
 ·rw [zJ (nbd _ bx2)]; exact ebx'
 ·rw [zJ (nbd _ hl2)]; exact ehl

end
section
variable {P : Program} {w : World} {K : PySem.W.Frag} {mg : Str -> Option Value} {base : Heap} {f : Addr} {fd : FuncData} {CM CD CF aP : Addr}
set_option maxHeartbeats 4000000

theorem ok_rowG (T : TxtG K mg CM CD CF aP) (F : Fun K "do_row" "do_row" wF f fd) (CFault : CalX P w K mg base 1 "Fault" CF ["self", "word", "number"] (spInitF CF)) (Mbreathe : CalM P w K mg base (CXE P w) 3 CM "breathe" ["self"] (spBreatheG CM CF)) (Ctake_last : Cal P w K mg base (CXE P w) 3 "take_last" ["held"] (spTakeLast CF))
  (Cwant_box : Cal P w K mg base (CXE P w) 4 "want_box" ["doing", "box"] (spWantBox CD CF)) (Cdo_deed : Cal P w K mg base (CXE P w) 5 "do_deed" ["machine", "held", "kind"] (spDeedG CM CD CF)) (Cdo_set : Cal P w K mg base (CXE P w) 5 "do_set" ["doing", "box"] (spSetG CM CD CF)) (Cdo_call : Cal P w K mg base (CXE P w) 5 "do_call" ["machine", "held", "function"] (spCallG CM CD CF)) (Cdo_back : Cal P w K mg base (CXE P w) 4 "do_back" ["machine", "held"] (spBackG CM CD CF)) (Cskipped : Cal P w K mg base (CXE P w) 1 "skipped" ["value", "many"] spSkipped) :
  FnOk P w K mg base (CXE P w) 6 f fd ["machine", "doing", "op", "number"] (spRowG CM CD CF) := by
 refine F.okX sc_do_row (fun vs H Q E h => ?_) (fun cdv Ar outer s0 H vs Q E hr h => ?_)
 ·obtain ⟨A, H0, hs, rs, s, op, n, rfl, _⟩ := h
  rfl
 obtain ⟨A, H0, hs, rs, s, op, n, rfl, R, h0, f16, cp, ok, B, hz, q⟩ := h
 refine ⟨_, (zG (zW (zI yJ (pv 2) (zO rfl T.m_OP_PUSH) (nomark _)) (zG (yI (wI PySem.F.plainAttrs_list PySem.F.slot_list_append PySem.F.type_list_append yZ (yP (pv 1) rfl) (zA (pv 3) zC)))) (zG (zW (zI yJ (pv 2) (zO rfl T.m_OP_GET) (nomark _)) (zE (yI (zH Cwant_box hr rfl (zA (pv 1) (zA (pv 3) zC)) passX))
   (zG (yI (wI PySem.F.plainAttrs_list PySem.F.slot_list_append PySem.F.type_list_append yZ (yP (pv 1) rfl) (zA (zX zP (yP (pv 1) rfl) (pv 3) (fun _ _ => rfl)) zC))))) (zG (zW (zI yJ (pv 2) (zO rfl T.m_OP_DO) (nomark _)) (zG (yI (zH Cdo_deed hr rfl (zA (pv 0) (zA (yP (pv 1) rfl) (zA (pv 3) zC))) passX))) (zG (zW (zI yJ (pv 2) (zO rfl T.m_OP_SET) (nomark _)) (zG (yI (zH Cdo_set hr rfl (zA (pv 1) (zA (pv 3) zC)) passX))) (zG (zW (zI yJ (pv 2) (zO rfl T.m_OP_DROP) (nomark _)) (zG (yI (zH Ctake_last hr rfl (zA (yP (pv 1) rfl) zC) passX))) (zG (zW (zI yJ (pv 2) (zO rfl T.m_OP_JUMP) (nomark _)) (zG (xJ (pv 1) (pv 3) rfl)) (zG (zW (zI yJ (pv 2) (zO rfl T.m_OP_UNLESS) (nomark _)) (zG (zW (zI yJ (zH Ctake_last hr rfl (zA (yP (pv 1) rfl) zC) passX) zF (nomark _)) (zG (xJ (pv 1) (pv 3) rfl)) zN)) (zG (zW (zI yJ (pv 2) (zO rfl T.m_OP_BREATH) (nomark _)) (zG (yI (pe_methC0 (pv 0) Mbreathe hr passX))) (zG (zW (zI yJ (pv 2) (zO rfl T.m_OP_CALL) (nomark _)) (zG (yI (zH Cdo_call hr rfl (zA (pv 0) (zA (yP (pv 1) rfl) (zA (pv 3) zC))) passX))) (zG (zW (zI yJ (pv 2) (zO rfl T.m_OP_BACK) (nomark _)) (zG (yI (zH Cdo_back hr rfl (zA (pv 0) (zA (yP (pv 1) rfl) zC)) passX))) (zG (zW (zI yJ (pv 2) (zO rfl T.m_OP_FAIL) (nomark _)) (zG (jK CFault hr rfl (zA jB (zA (zH Ctake_last hr rfl (zA (yP (pv 1) rfl) zC) passX) zC)))) (zG (ps_fldaug (pv 1) (zH Cskipped hr rfl (zA (zH Ctake_last hr rfl (zA (yP (pv 1) rfl) zC) passX) (zA (pv 3) zC)) passX) in_add)))))))))))))))))))))))), ?_⟩
 try dsimp only [Cx.nox, Cx.exc, Cx.wish, zY]
 have kd : H (A.ad (.d s.k)) = some (DG CD A s.k s.cur.pc) := R.kd h0
 have kb := R.kb h0
 have kh := R.kh h0
 have hlen := B.hl
 have setPc : ∀ {H' : Hp} {s' : MS} {k : Int}, 0 <= k -> 0 < s'.frs.length -> s'.k = s.k -> RunG CM CD H0 H' A hs rs s' -> RunG CM CD H0 (upd H' (A.ad (.d s.k)) (DG CD A s.k k)) A hs rs (s'.goto k.toNat) := fun {H' s' k} hk h1 e R' => by
  have := R'.setPc h1 k.toNat
  rwa [Int.toNat_of_nonneg hk, e] at this
 have lr : (hs.length : Int) <= 16 := by have := cp.h16; (first|lia|omega)
 have R1 := R.setHeld h0 s.cur.hl.dropLast
 have h1 : 0 < (s.held s.cur.hl.dropLast).frs.length := by rw [wM]; exact h0
 unfold RowOk at ok
 rcases ok with rfl | ⟨rfl | rfl, n0, n1⟩ | ⟨rfl | rfl, n0, n1⟩ | ⟨rfl, n0, n1⟩ | ⟨rfl, n0, n1⟩ | ⟨rfl, n0, n1⟩ | ⟨rfl | rfl | rfl | rfl, rfl⟩
 ·have R2 := R.setHeld h0 (s.cur.hl ++ [n])
  rw [List.map_append] at R2
  exact ⟨_, rfl, rfl, _, rfl, iteT ⟨_, rfl, A.ad (.d s.k), CD, A.dd s.k, _, _, rfl, kd, T.doing, T.dheld, rfl, .inl ⟨rfl, _, SqL.of kh⟩, _, rfl, A.ad (.hl s.k), _, _, rfl, rfl, kh, by rw [List.length_map]; exact big1000 hlen, q A _ (Like.refl A) R2⟩⟩
 ·have q0 : EndsG CM CD CF H0 A hs rs Q E (if s.cur.bx.length <= n.toNat then .bad "stray" 0 s.rows else .go (s.held (s.cur.hl ++ [s.cur.bx.getD n.toNat 0]))) := q
  refine ⟨_, rfl, rfl, _, rfl, iteF ⟨_, rfl, rfl, _, rfl, iteT ⟨_, rfl, _, rfl, A.ad (.d s.k), A.dd s.k, A.ad (.bx s.k), _, _, s.cur.bx, n, rfl, kd, kb, fun c => ?_, fun c => ?_⟩⟩⟩
  ·rw [if_pos (by (first|lia|omega))] at q0
   exact FaultG.at q0 R rfl rfl
  ·rw [if_neg (by (first|lia|omega))] at q0
   have R2 := R.setHeld h0 (s.cur.hl ++ [s.cur.bx.getD n.toNat 0])
   rw [List.map_append] at R2
   have hat : atI (s.cur.bx.map V.int) n = some (.int (s.cur.bx.getD n.toNat 0)) := kJ n0 (by rw [List.getElem?_map, List.getD_eq_getElem?_getD, List.getElem?_eq_getElem (by (first|lia|omega))]; rfl)
   exact ⟨_, rfl, A.ad (.d s.k), CD, A.dd s.k, _, _, rfl, kd, T.doing, T.dheld, rfl, .inl ⟨rfl, _, SqL.of kh⟩, _, rfl, A.ad (.d s.k), CD, A.dd s.k, _, _, rfl, kd, T.doing, T.dboxes, rfl, _, rfl, A.ad (.bx s.k), _, _, _, rfl, rfl, SqL.of kb, hat, A.ad (.hl s.k), _, _, rfl, rfl, kh, by rw [List.length_map]; exact big1000 hlen, q0 A _ (Like.refl A) R2⟩
 ·exact ⟨_, rfl, rfl, _, rfl, iteF ⟨_, rfl, rfl, _, rfl, iteF ⟨_, rfl, rfl, _, rfl, iteF ⟨_, rfl, rfl, _, rfl, iteT ⟨_, rfl, _, rfl, A, H0, hs, rs, s, n, rfl, R, h0, n0, hlen, EndsG.mono q fun _ h => h⟩⟩⟩⟩⟩
 ·exact ⟨_, rfl, rfl, _, rfl, iteF ⟨_, rfl, rfl, _, rfl, iteF ⟨_, rfl, rfl, _, rfl, iteF ⟨_, rfl, rfl, _, rfl, iteF ⟨_, rfl, rfl, _, rfl, iteF ⟨_, rfl, rfl, _, rfl, iteT ⟨_, rfl, _, rfl, A.ad (.d s.k), CD, A.dd s.k, _, rfl, kd, T.doing, T.dat, (show 3 < 1000 by decide), q A _ (Like.refl A) (setPc n0 h0 rfl R)⟩⟩⟩⟩⟩⟩⟩
 ·have q0 : EndsG CM CD CF H0 A hs rs Q E (popG s fun s v => .go (if v = 0 then s.goto n.toNat else s)) := q
  refine ⟨_, rfl, rfl, _, rfl, iteF ⟨_, rfl, rfl, _, rfl, iteF ⟨_, rfl, rfl, _, rfl, iteF ⟨_, rfl, rfl, _, rfl, iteF ⟨_, rfl, rfl, _, rfl, iteF ⟨_, rfl, rfl, _, rfl, iteF ⟨_, rfl, rfl, _, rfl, iteT ⟨_, rfl, A.ad (.d s.k), CD, A.dd s.k, _, _, rfl, kd, T.doing, T.dheld, rfl, A.ad (.hl s.k), s.cur.hl, rfl, kh, fun e => ?_, fun y ey => ?_⟩⟩⟩⟩⟩⟩⟩⟩
  ·rw [wH e] at q0
   exact FaultG.at q0 R rfl rfl
  ·rw [qG ey] at q0
   refine ⟨rfl, _, rfl, ite2 (fun c => ?_) (fun c => ?_)⟩
   ·rw [if_pos (vt c)] at q0
    have kd1 := R1.kd h1
    rw [held_k, wN h0] at kd1
    exact ⟨_, rfl, _, rfl, A.ad (.d s.k), CD, A.dd s.k, _, rfl, kd1, T.doing, T.dat, (show 3 < 1000 by decide), q0 A _ (Like.refl A) (setPc n0 h1 (held_k ..) R1)⟩
   ·rw [if_neg (vf c)] at q0
    exact q0 A _ (Like.refl A) R1
 ·obtain ⟨g, hg⟩ : ∃ g, hs[n.toNat]? = some g := ⟨_, List.getElem?_eq_getElem (by (first|lia|omega))⟩
  obtain ⟨st, p, b, rfl, ho⟩ := cp.heads _ _ hg
  unfold HeadOk at ho
  exact ⟨_, rfl, rfl, _, rfl, iteF ⟨_, rfl, rfl, _, rfl, iteF ⟨_, rfl, rfl, _, rfl, iteF ⟨_, rfl, rfl, _, rfl, iteF ⟨_, rfl, rfl, _, rfl, iteF ⟨_, rfl, rfl, _, rfl, iteF ⟨_, rfl, rfl, _, rfl, iteF ⟨_, rfl, rfl, _, rfl, iteF ⟨_, rfl, rfl, _, rfl, iteT ⟨_, rfl, _, rfl, A.ad (.d s.k), CD, A.dd s.k, _, _, rfl, kd, T.doing, T.dheld, rfl, _, rfl, A, H0, hs, rs, s, n, st, p, b, A.ad (.hl s.k), rfl, R, hg, n0, ho.1, ho.2.2.1, ho.2.2.2.2.2.1, ho.2.2.2.2.2.2, f16, .inl ⟨h0, rfl, hlen, EndsG.mono q fun _ h => h⟩⟩⟩⟩⟩⟩⟩⟩⟩⟩⟩
 ·exact ⟨_, rfl, rfl, _, rfl, iteF ⟨_, rfl, rfl, _, rfl, iteF ⟨_, rfl, rfl, _, rfl, iteT ⟨_, rfl, _, rfl, A.ad (.d s.k), CD, A.dd s.k, _, _, rfl, kd, T.doing, T.dheld, rfl, _, rfl, A, H0, hs, rs, s, n, rfl, R, h0, n0, n1, B, EndsG.mono q fun _ h => h⟩⟩⟩⟩
 ·have q0 : EndsG CM CD CF H0 A hs rs Q E (popG s fun s v => .go (s.goto (s.cur.pc + (if 0 <= v /\ v < n then v else n - 1).toNat))) := q
  refine ⟨_, rfl, rfl, _, rfl, iteF ⟨_, rfl, rfl, _, rfl, iteF ⟨_, rfl, rfl, _, rfl, iteF ⟨_, rfl, rfl, _, rfl, iteF ⟨_, rfl, rfl, _, rfl, iteF ⟨_, rfl, rfl, _, rfl, iteF ⟨_, rfl, rfl, _, rfl, iteF ⟨_, rfl, rfl, _, rfl, iteF ⟨_, rfl, rfl, _, rfl, iteF ⟨_, rfl, rfl, _, rfl, iteF ⟨_, rfl, rfl, _, rfl, iteF ⟨_, rfl, A.ad (.d s.k), CD, A.dd s.k, _, _, rfl, kd, T.doing, T.dat, rfl, _, rfl, A.ad (.d s.k), CD, A.dd s.k, _, _, rfl, kd, T.doing, T.dheld, rfl, A.ad (.hl s.k), s.cur.hl, rfl, kh, fun e => ?_, fun y ey => ?_⟩⟩⟩⟩⟩⟩⟩⟩⟩⟩⟩⟩
  ·rw [wH e] at q0
   exact FaultG.at q0 R rfl rfl
  ·rw [qG ey] at q0
   obtain ⟨k, ek⟩ : ∃ k : Int, k = (if 0 <= y /\ y < n then y else n - 1) := ⟨_, rfl⟩
   have k0 : 0 <= k := by rw [ek]; split <;> (first|lia|omega)
   have R2 := R1.setPc h1 (s.cur.pc + k.toNat)
   rw [show (((s.cur.pc + k.toNat : Nat)) : Int) = (s.cur.pc : Int) + k by (first|lia|omega), held_k] at R2
   have kd1 := R1.kd h1
   rw [held_k, wN h0] at kd1
   have q1 : EndsG CM CD CF H0 A hs rs Q E (.go ((s.held s.cur.hl.dropLast).goto ((s.held s.cur.hl.dropLast).cur.pc + (if 0 <= y /\ y < n then y else n - 1).toNat))) := q0
   rw [wN h0, <- ek] at q1
   refine ⟨_, rfl, y, n, rfl, _, _, rfl, rfl, A.dd s.k, _, kd1, (show 3 < 1000 by decide), ?_⟩
   rw [<- ek]
   exact q1 A _ (Like.refl A) R2
 ·have q0 : EndsG CM CD CF H0 A hs rs Q E (popG s fun s _ => .go s) := q
  refine ⟨_, rfl, rfl, _, rfl, iteF ⟨_, rfl, rfl, _, rfl, iteF ⟨_, rfl, rfl, _, rfl, iteF ⟨_, rfl, rfl, _, rfl, iteF ⟨_, rfl, rfl, _, rfl, iteT ⟨_, rfl, A.ad (.d s.k), CD, A.dd s.k, _, _, rfl, kd, T.doing, T.dheld, rfl, A.ad (.hl s.k), s.cur.hl, rfl, kh, fun e => ?_, fun y ey => ?_⟩⟩⟩⟩⟩⟩
  ·rw [wH e] at q0
   exact FaultG.at q0 R rfl rfl
  ·rw [qG ey] at q0
   exact q0 A _ (Like.refl A) R1
 ·exact ⟨_, rfl, rfl, _, rfl, iteF ⟨_, rfl, rfl, _, rfl, iteF ⟨_, rfl, rfl, _, rfl, iteF ⟨_, rfl, rfl, _, rfl, iteF ⟨_, rfl, rfl, _, rfl, iteF ⟨_, rfl, rfl, _, rfl, iteF ⟨_, rfl, rfl, _, rfl, iteF ⟨_, rfl, rfl, _, rfl, iteF ⟨_, rfl, rfl, _, rfl, iteF ⟨_, rfl, rfl, _, rfl, iteT ⟨_, rfl, _, rfl, A.ad (.d s.k), CD, A.dd s.k, _, _, rfl, kd, T.doing, T.dheld, rfl, A, H0, hs, rs, s, rfl, R, h0, hz, EndsG.mono q fun _ h => h⟩⟩⟩⟩⟩⟩⟩⟩⟩⟩⟩
 ·have q0 : EndsG CM CD CF H0 A hs rs Q E (popG s fun s v => .bad "told" v s.rows) := q
  refine ⟨_, rfl, rfl, _, rfl, iteF ⟨_, rfl, rfl, _, rfl, iteF ⟨_, rfl, rfl, _, rfl, iteF ⟨_, rfl, rfl, _, rfl, iteF ⟨_, rfl, rfl, _, rfl, iteF ⟨_, rfl, rfl, _, rfl, iteF ⟨_, rfl, rfl, _, rfl, iteF ⟨_, rfl, rfl, _, rfl, iteF ⟨_, rfl, rfl, _, rfl, iteF ⟨_, rfl, rfl, _, rfl, iteF ⟨_, rfl, rfl, _, rfl, iteT ⟨_, rfl, A.ad (.d s.k), CD, A.dd s.k, _, _, rfl, kd, T.doing, T.dheld, rfl, A.ad (.hl s.k), s.cur.hl, rfl, kh, fun e => ?_, fun y ey => ?_⟩⟩⟩⟩⟩⟩⟩⟩⟩⟩⟩⟩
  ·rw [wH e] at q0
   exact FaultG.at q0 R rfl rfl
  ·rw [qG ey] at q0
   exact ⟨small (show 2 <= 1000 by decide), raisedF (FaultG.at q0 R1 rfl rfl)⟩
 ·have q0 : EndsG CM CD CF H0 A hs rs Q E (if s.br <= 0 then .bad "breath" 0 s.rows else .go { s with br := s.br - 1 }) := q
  refine ⟨_, rfl, rfl, _, rfl, iteF ⟨_, rfl, rfl, _, rfl, iteF ⟨_, rfl, rfl, _, rfl, iteF ⟨_, rfl, rfl, _, rfl, iteF ⟨_, rfl, rfl, _, rfl, iteF ⟨_, rfl, rfl, _, rfl, iteF ⟨_, rfl, rfl, _, rfl, iteF ⟨_, rfl, rfl, _, rfl, iteT ⟨_, rfl, A.ad .m, A.dm, _, rfl, R.km, rfl, A, s.br, s.va, rfl, R.km, fun c => ?_, fun c => ?_⟩⟩⟩⟩⟩⟩⟩⟩⟩
  ·rw [if_pos c] at q0
   exact FaultG.at q0 R rfl rfl
  ·rw [if_neg (by (first|lia|omega))] at q0
   exact q0 A _ (Like.refl A) (R.setBr _)

end
section
variable {P : Program} {w : World} {K : PySem.W.Frag} {mg : Str -> Option Value} {base : Heap} {f : Addr} {fd : FuncData} {CM CD CF aP : Addr}
set_option maxHeartbeats 4000000

def InvRowsG (CM CD CF : Addr) (H0 : Hp) (A : Pl) (hs rs : List (List Int)) (Q : VK) (E : XK) (most k : Nat) (σ' : St) (H' : Hp) : Prop :=
 ∃ (dn j : Nat) (v5 v6 : Option V) (A1 : Pl) (s1 : MS), σ' = [some (.ref (A.ad .m)), some (.int (most : Int)), some (.ref (A.ad .sp)), some (.ref (A.ad .bd)), some (.int (dn : Int)), v5, v6] /\ dn + k = most /\ Like A A1 /\ RunG CM CD H0 H' A1 hs rs s1 /\ BdG j s1 /\ j + k <= 15000 /\ EndsG CM CD CF H0 A hs rs Q E (runG hs rs k s1)
theorem ok_rowsG (T : TxtG K mg CM CD CF aP) (F : Fun K "do_rows" "do_rows" qA f fd) (CFault : CalX P w K mg base 1 "Fault" CF ["self", "word", "number"] (spInitF CF)) (Cdo_row : Cal P w K mg base (CXE P w) 6 "do_row" ["machine", "doing", "op", "number"] (spRowG CM CD CF)) : FnOk P w K mg base (CXE P w) 7 f fd ["machine", "most"] (spRowsG CM CD CF) := by
 refine F.okX jD (fun vs H Q E h => ?_) (fun cdv Ar outer s0 H vs Q E hr h => ?_)
 ·obtain ⟨A, H0, hs, rs, s, most, j, rfl, _⟩ := h
  rfl
 obtain ⟨A, H0, hs, rs, s, most, j, rfl, R0, cp, vb, B0, l0, q0⟩ := h
 refine ⟨_, (zE (zT (i := 2) jD.nd rfl (Or.inl rfl) (yP (pv 0) rfl))
   (zE (zT (i := 3) jD.nd rfl (Or.inl rfl) (yP (pv 0) rfl))
   (zE (zT (i := 4) jD.nd rfl (Or.inl rfl) zF)
   (zG (ps_while (own_fly rfl rfl) (pt_truth (pv 3) (fun _ => rfl)) (zE (zT (i := 5) jD.nd rfl (Or.inl rfl) (zX zP (pv 3) (qS jM zF) (fun _ _ => rfl)))
   (zE (zT (i := 6) jD.nd rfl (Or.inl rfl) (yP (pv 5) rfl))
   (zE (zW (zI op_ge (pv 6) (zU zQ rfl T.n_len yS (zA (pv 2) zC)) (nomark _)) (zG (jK CFault hr rfl (zS (.str (.int .nil))))) zN)
   (zE (zW (zI op_ge (pv 4) (pv 1) (nomark _)) (zG (jK CFault hr rfl (zS (.str (.int .nil))))) zN)
   (zE (ps_aug (i := 4) jD.nd rfl (Or.inl rfl) zF ip_add)
   (zE (xJ (pv 5) (zR xF (pv 6) zF) rfl)
   (zG (yI (zH Cdo_row hr rfl (zA (pv 0) (zA (pv 5) (zA (zX ix_tup (zX zP (pv 2) (pv 6) (fun _ _ => rfl)) zF (fun _ _ => rfl)) (zA (zX ix_tup (zX zP (pv 2) (pv 6) (fun _ _ => rfl)) zF (fun _ _ => rfl)) zC)))) passX)))))))))))))), ?_⟩
 try dsimp only [Cx.nox, Cx.exc, Cx.wish, zY]
 refine ⟨_, rfl, A.ad .m, CM, A.dm, _, _, rfl, R0.km, T.mach, T.msteps, rfl, ?_⟩
 refine ⟨_, rfl, A.ad .m, CM, A.dm, _, _, rfl, R0.km, T.mach, T.mdone, rfl, ?_⟩
 refine ⟨fun k σ' H' => InvRowsG CM CD CF H0 A hs rs Q E most k σ' H', ⟨most, 0, j, _, _, A, s, rfl, Nat.zero_add _, Like.refl A, R0, B0, l0, q0⟩, ?_⟩
 rintro k σ' H' ⟨dn, j, v5, v6, A1, s1, rfl, ed, lk, R, B, lj, q⟩
 have kbd : H' (A.ad .bd) = some (.lst (bdL A1 s1.frs.length)) := by rw [<- lk.bd]; exact R.kbd
 refine ⟨_, rfl, !(bdL A1 s1.frs.length).isEmpty, .inl ⟨_, SqL.of kbd, rfl⟩, ?_⟩
 by_cases z : s1.frs.length = 0
 ·refine iteN (by rw [z]; rfl) ?_
  rw [runG_fin z] at q
  exact q A1 H' lk R
 refine iteY (by rw [Bool.not_eq_true', List.isEmpty_eq_false_iff]; intro e; have := congrArg List.length e; rw [wY] at this; exact z this) ?_
 have h0 : 0 < s1.frs.length := Nat.pos_of_ne_zero z
 refine ⟨_, fun σ' H' z => z, ?_⟩
 have es : H' (A.ad .sp) = some (.lst A1.us) := by rw [<- lk.sp]; exact R.at_ .sp trivial
 have ls : A1.us.length = rs.length := Paired.len R.ts
 refine ⟨_, rfl, _, rfl, A.ad .bd, _, _, _, rfl, rfl, SqL.of kbd, bdL_last A1 h0, ?_⟩
 have kd : H' (A1.ad (.d (s1.frs.length - 1))) = some (DG CD A1 s1.k s1.cur.pc) := R.kd h0
 refine ⟨_, rfl, A1.ad (.d s1.k), CD, A1.dd s1.k, _, _, rfl, kd, T.doing, T.dat, rfl, ?_⟩
 refine ⟨_, rfl, _, rfl, A.ad .sp, _, rfl, .inl (SqL.of es), _, _, rfl, rfl, _, rfl, ite2 (fun c => ?_) (fun c => ?_)⟩
 ·have c' := of_decide_eq_true c
  rw [runG_none z (List.getElem?_eq_none (by (first|lia|omega)))] at q
  exact ⟨small (show 2 <= 1000 by decide), raisedF (FaultG.at q R lk.m rfl)⟩
 have c' := df c
 have hpc : s1.cur.pc < rs.length := by (first|lia|omega)
 obtain ⟨g, hg⟩ : ∃ g, rs[s1.cur.pc]? = some g := ⟨_, List.getElem?_eq_getElem hpc⟩
 obtain ⟨op, n, rfl, rok⟩ := cp.rows g (List.mem_iff_getElem?.mpr ⟨_, hg⟩)
 obtain ⟨v, hv⟩ : ∃ v, A1.us[s1.cur.pc]? = some v := ⟨_, List.getElem?_eq_getElem (by (first|lia|omega))⟩
 refine ⟨_, rfl, _, rfl, _, _, rfl, rfl, _, rfl, ite2 (fun c => ?_) (fun c => ?_)⟩
 ·have c2 := of_decide_eq_true c
  obtain rfl : k = 0 := by (first|lia|omega)
  rw [runG_zero z hg] at q
  exact ⟨small (show 2 <= 1000 by decide), raisedF (FaultG.at q R lk.m rfl)⟩
 have c2 := df c
 obtain ⟨fuel, rfl⟩ : ∃ f', k = f' + 1 := ⟨k - 1, by (first|lia|omega)⟩
 refine ⟨_, rfl, _, _, rfl, rfl, ?_⟩
 refine ⟨_, rfl, _, _, rfl, rfl, _, rfl, A1.ad (.d s1.k), CD, A1.dd s1.k, _, rfl, kd, T.doing, T.dat, (show 3 < 1000 by decide), ?_⟩
 have R1 := R.setPc h0 (s1.cur.pc + 1)
 have es1 : upd H' (A1.ad (.d s1.k)) (DG CD A1 s1.k ((s1.cur.pc + 1 : Nat) : Int)) (A.ad .sp) = some (.lst A1.us) := by rw [<- lk.sp]; exact R1.at_ .sp trivial
 obtain ⟨t, rfl, et⟩ := Paired.get R1.ts s1.cur.pc v _ hv hg
 refine ⟨_, rfl, _, rfl, _, rfl, _, rfl, A.ad .sp, _, _, _, rfl, rfl, SqL.of es1, qW hv, t, _, _, _, rfl, rfl, SqT.of et, rfl, _, rfl, _, rfl, A.ad .sp, _, _, _, rfl, rfl, SqL.of es1, qW hv, t, _, _, _, rfl, rfl, SqT.of et, rfl, ?_⟩
 have h1 : 0 < (s1.goto (s1.cur.pc + 1)).frs.length := by rw [goto_len]; exact h0
 have B1 := B.goto h0 (s1.cur.pc + 1)
 refine ⟨A1, H0, hs, rs, s1.goto (s1.cur.pc + 1), op, n, by rw [lk.m, goto_k] <;> rfl, R1, h1, B1.nf, cp, rok, ⟨by have := B1.nr; (first|lia|omega), fun xs hx => by have := (B1.rl xs hx).1; (first|lia|omega), by have := (B1.curH h1).1; (first|lia|omega), (B1.curH h1).2⟩, fun f hf => by have := (B1.hl f hf).1; (first|lia|omega), ?_⟩
 cases st : stepG hs op n (s1.goto (s1.cur.pc + 1)) with
 | go s2 =>
  rw [runG_go z hg st] at q
  have B2 := stepG_bd B1 h1 (by (first|lia|omega)) (vb _ (List.mem_iff_getElem?.mpr ⟨_, hg⟩) n (by simp)) st
  exact fun A2 H2 l2 R2 => ⟨fuel, by (first|lia|omega), dn + 1, j + 1, _, _, A2, s2, rfl, by (first|lia|omega), lk.trans l2, R2, B2, by (first|lia|omega), q⟩
 | bad wd k rows =>
  rw [runG_bad z hg st] at q
  intro d H2 A2 s2 em R2 er ed
  exact q d H2 A2 s2 (em.trans lk.m) R2 er ed

end
section
variable {P : Program} {w : World} {K : PySem.W.Frag} {mg : Str -> Option Value} {base : Heap} {f : Addr} {fd : FuncData} {CM CD CF aP : Addr}
set_option maxHeartbeats 4000000

theorem ok_initMG (T : TxtG K mg CM CD CF aP) (F : Fun K "__init__" "Machine.__init__" yR f fd) (Cheads_of : Cal P w K mg base (CXE P w) 4 "heads_of" ["code"] spHeadsOf) (Crows_of : Cal P w K mg base (CXE P w) 4 "rows_of" ["code"] spRowsOf) : FnOk P w K mg base (CXE P w) 5 f fd ["self", "code", "given", "breaths"] (spInitMG CM CD) := by
 refine F.okX kK (fun vs H Q E h => ?_) (fun cdv Ar outer s H vs Q E hr h => ?_)
 ·obtain ⟨x, dx, co, gv, br, hs, rs, gs, H0, rfl, _⟩ := h
  rfl
 obtain ⟨x, dx, co, gv, br, hs, rs, gs, H0, rfl, hx, hx0, g0, hco, cp, hgv, q⟩ := h
 refine ⟨_, (zE (xJ (pv 0) (zH Cheads_of hr rfl (zA (pv 1) zC) passX) rfl)
   (zE (xJ (pv 0) (zH Crows_of hr rfl (zA (pv 1) zC) passX) rfl)
   (zE (xJ (pv 0) (zV (zA (jA wX rfl T.n_list bt_list (zA (pv 2) zC)) (zA (zV zC) zC))) rfl)
   (zE (xJ (pv 0) (pv 3) rfl)
   (zE (xJ (pv 0) (zV zC) rfl)
   (zG (xJ (pv 0) zF rfl))))))), ?_⟩
 try dsimp only [Cx.nox, Cx.exc, Cx.wish, zY]
 have h3 := cp.h3
 have h2 := cp.r2
 have b1 := cp.h16
 have b2 := cp.r24
 have f3 := xU h3
 have f2 := xU h2
 have len6 : (codeL hs rs).length <= 1000000 := by
  unfold codeL
  rw [List.length_cons, List.length_append]
  (first|lia|omega)
 have nco : co ≠ x := fun z => by rw [z, hx] at hco; cases hco
 have ngv : gv ≠ x := fun z => by rw [z, hx] at hgv; cases hgv
 refine ⟨_, rfl, co, codeL hs rs, rfl, hco, len6, cp.ok, fun hd H1 g1 hhd GH => ⟨_, rfl, x, CM, dx, _, rfl, g1 _ _ hx, T.mach, T.mheads, (show 0 < 1000 by decide), ?_⟩⟩
 rw [cp.headNums, qR (.inr rfl) h3] at GH
 have GH1 := GH.putI (o := .ins CM dx [("heads", .ref hd)]) (g1 _ _ hx)
 have K1 : Keep x H (upd H1 x (.ins CM dx [("heads", .ref hd)])) := (Keep.same g1).trans Keep.upd
 have x1 : upd H1 x (.ins CM dx [("heads", .ref hd)]) x = some (.ins CM dx [("heads", .ref hd)]) := zB
 refine ⟨_, rfl, co, codeL hs rs, rfl, K1 _ _ nco hco, len6, cp.ok, fun sp H2 g2 hsp GS => ⟨_, rfl, x, CM, dx, _, rfl, g2 _ _ x1, T.mach, T.msteps, (show 1 < 1000 by decide), ?_⟩⟩
 rw [cp.rowNums, qR (.inl rfl) h2] at GS
 have GH2 := (GH1.same g2).putI (o := .ins CM dx [("heads", .ref hd), ("steps", .ref sp)]) (g2 _ _ x1)
 have GS2 := GS.putI (o := .ins CM dx [("heads", .ref hd), ("steps", .ref sp)]) (g2 _ _ x1)
 have K2 : Keep x H (upd H2 x (.ins CM dx [("heads", .ref hd), ("steps", .ref sp)])) := K1.trans ((Keep.same g2).trans Keep.upd)
 have x2 : upd H2 x (.ins CM dx [("heads", .ref hd), ("steps", .ref sp)]) x = some (.ins CM dx [("heads", .ref hd), ("steps", .ref sp)]) := zB
 refine ⟨_, rfl, gv, _, rfl, .inl (SqL.of (K2 _ _ ngv hgv)), fun r0 h0 => ?_⟩
 have s3 := zD h0 (.lst (gs.map V.int))
 refine ⟨small (show 0 <= 1000 by decide), fun r1 hr1 => ?_⟩
 have s4 := zD hr1 (.lst [])
 refine ⟨small (show 2 <= 1000 by decide), fun rw hrw => ?_⟩
 have s5 := zD hrw (.lst [.ref r0, .ref r1])
 have ss := s3.trans (s4.trans s5)
 have r15 := s5 _ _ (zB (a := r1) (o := .lst []))
 have rw5 := zB (H := upd (upd (upd H2 x (.ins CM dx [("heads", .ref hd), ("steps", .ref sp)])) r0 (.lst (gs.map V.int))) r1 (.lst [])) (a := rw) (o := .lst [.ref r0, .ref r1])
 have x5 := ss _ _ x2
 have K5 := K2.trans (Keep.same ss)
 have GH5 := GH2.same ss
 have GS5 := GS2.same ss
 obtain ⟨H5, e5⟩ : ∃ H5, H5 = upd (upd (upd (upd H2 x (.ins CM dx [("heads", .ref hd), ("steps", .ref sp)])) r0 (.lst (gs.map V.int))) r1 (.lst [])) rw (.lst [.ref r0, .ref r1]) := ⟨_, rfl⟩
 have x5' : H5 x = some (.ins CM dx [("heads", .ref hd), ("steps", .ref sp)]) := by rw [e5]; exact x5
 have r15' : H5 r1 = some (.lst []) := by rw [e5]; exact r15
 have rw5' : H5 rw = some (.lst [.ref r0, .ref r1]) := by rw [e5]; exact rw5
 have K5' : Keep x H H5 := by rw [e5]; exact K5
 have GH5' : GrpAt H5 hd hs := by rw [e5]; exact GH5
 have GS5' : GrpAt H5 sp rs := by rw [e5]; exact GS5
 refine ⟨_, rfl, x, CM, dx, _, rfl, x5, T.mach, T.mrows, (show 2 < 1000 by decide), ?_⟩
 refine ⟨_, rfl, _, rfl, x, CM, dx, _, rfl, zB, T.mach, T.mbreaths, (show 3 < 1000 by decide), ?_⟩
 have e7 : upd (upd H5 x (.ins CM dx [("heads", .ref hd), ("steps", .ref sp), ("rows", .ref rw)])) x (.ins CM dx [("heads", .ref hd), ("steps", .ref sp), ("rows", .ref rw), ("breaths", .int br)]) = upd H5 x (.ins CM dx [("heads", .ref hd), ("steps", .ref sp), ("rows", .ref rw), ("breaths", .int br)]) := upd_upd
 refine ⟨small (show 0 <= 1000 by decide), fun bd hbd => ?_⟩
 have hbd7 : upd H5 x (.ins CM dx [("heads", .ref hd), ("steps", .ref sp), ("rows", .ref rw), ("breaths", .int br)]) bd = none := by
  rw [<- e7, e5]
  exact hbd
 have x7 : upd H5 x (.ins CM dx [("heads", .ref hd), ("steps", .ref sp), ("rows", .ref rw), ("breaths", .int br)]) x = some (.ins CM dx [("heads", .ref hd), ("steps", .ref sp), ("rows", .ref rw), ("breaths", .int br)]) := zB
 have nbx : bd ≠ x := fun z => by rw [z, x7] at hbd7; cases hbd7
 have hbd5 : H5 bd = none := by rw [zJ nbx] at hbd7; exact hbd7
 refine ⟨_, rfl, x, CM, dx, [("heads", .ref hd), ("steps", .ref sp), ("rows", .ref rw), ("breaths", .int br)], rfl, by rw [zJ (Ne.symm nbx)]; exact zB, T.mach, T.mdone, (show 4 < 1000 by decide), ?_⟩
 refine ⟨_, rfl, x, CM, dx, [("heads", .ref hd), ("steps", .ref sp), ("rows", .ref rw), ("breaths", .int br), ("being_done", .ref bd)], rfl, zB, T.mach, T.mvalue, (show 5 < 1000 by decide), ?_⟩
 obtain ⟨hv, ehv, phv⟩ := id GH5'
 obtain ⟨sv, esv, psv⟩ := id GS5'
 have r05' : H5 r0 = some (.lst (gs.map V.int)) := by rw [e5]; exact (s4.trans s5) _ _ zB
 obtain ⟨_, e1h, _⟩ := id GH1
 obtain ⟨_, e2h, _⟩ := id GH2
 obtain ⟨_, e2s, _⟩ := id GS2
 have n1 : x ≠ hd := zK hx hhd
 have n2 : x ≠ sp /\ hd ≠ sp := ⟨zK x1 hsp, zK e1h hsp⟩
 have n3 : x ≠ r0 /\ hd ≠ r0 /\ sp ≠ r0 := ⟨zK x2 h0, zK e2h h0, zK e2s h0⟩
 have n4 : x ≠ r1 /\ hd ≠ r1 /\ sp ≠ r1 /\ r0 ≠ r1 := ⟨zK (s3 _ _ x2) hr1, zK (s3 _ _ e2h) hr1, zK (s3 _ _ e2s) hr1, zK zB hr1⟩
 have n5 : x ≠ rw /\ hd ≠ rw /\ sp ≠ rw /\ r0 ≠ rw /\ r1 ≠ rw := ⟨zK ((s3.trans s4) _ _ x2) hrw, zK ((s3.trans s4) _ _ e2h) hrw, zK ((s3.trans s4) _ _ e2s) hrw, zK (s4 _ _ zB) hrw, zK zB hrw⟩
 have n6 : x ≠ bd /\ hd ≠ bd /\ sp ≠ bd /\ r0 ≠ bd /\ r1 ≠ bd /\ rw ≠ bd := ⟨zK x5' hbd5, zK ehv hbd5, zK esv hbd5, zK r05' hbd5, zK r15' hbd5, zK rw5' hbd5⟩
 have fr : ∀ {G : Hp} {a : Addr}, Keep x H G -> a ≠ x -> G a = none -> H0 a = none := fun {G a} k n e => by
  cases z : H0 a with
  | none => rfl
  | some o =>
   have := k a o n (g0 _ _ z)
   rw [e] at this
   cases this
 have w1 : H0 hd = none := g0.free hhd
 have w2 : H0 sp = none := fr K1 (Ne.symm n2.1) hsp
 have w3 : H0 r0 = none := fr K2 (Ne.symm n3.1) h0
 have w4 : H0 r1 = none := fr (K2.trans (Keep.same s3)) (Ne.symm n4.1) hr1
 have w5 : H0 rw = none := fr (K2.trans (Keep.same (s3.trans s4))) (Ne.symm n5.1) hrw
 have w6 : H0 bd = none := fr K5' (Ne.symm n6.1) hbd5
 let A : Pl := plac x dx hd sp rw r0 r1 bd hv sv
 have fin : ∀ {H' : Hp}, H' = upd (upd (upd (upd (upd H5 x (.ins CM dx [("heads", .ref hd), ("steps", .ref sp), ("rows", .ref rw)])) x (.ins CM dx [("heads", .ref hd), ("steps", .ref sp), ("rows", .ref rw), ("breaths", .int br)])) bd (.lst [])) x (.ins CM dx [("heads", .ref hd), ("steps", .ref sp), ("rows", .ref rw), ("breaths", .int br), ("being_done", .ref bd)])) x (MG CM A br 0) -> RunG CM CD H0 H' A hs rs ⟨[gs, []], [], br, 0⟩ := by
  intro H' eH
  have eH2 : H' = upd (upd H5 bd (.lst [])) x (MG CM A br 0) := by
   rw [eH, upd_upd]
   funext b
   by_cases z : b = x
   ·subst z
    rw [zB, zB]
   ·rw [zJ z, zJ z]
    by_cases y : b = bd
    ·subst y
     rw [zB, zB]
    ·rw [zJ y, zJ y, zJ z, zJ z]
  subst eH2
  have s6 := zD hbd5 (.lst [])
  have go : ∀ b o, b ≠ x -> H5 b = some o -> upd (upd H5 bd (.lst [])) x (MG CM A br 0) b = some o := fun b o nb e => by
   rw [zJ nb]
   exact s6 _ _ e
  have nt : ∀ a xs, H5 a = some (.tup xs) -> a ≠ x := fun a xs e z => by rw [z, x5'] at e; cases e
  refine ⟨fun b o e => ?_, inj7 n1 n2 n3 n4 n5 n6, fun r hr => ?_, fun r hr => ?_, Paired.imp (fun _ _ ⟨t, e, q⟩ => ⟨t, e, go _ _ (nt _ _ q) q⟩) phv, Paired.imp (fun _ _ ⟨t, e, q⟩ => ⟨t, e, go _ _ (nt _ _ q) q⟩) psv⟩
  ·have nb : b ≠ x := zK e hx0
   exact go b o nb (K5' b o nb (g0 _ _ e))
  ·rcases ok7 hr with rfl | rfl | rfl | rfl | rfl | rfl | rfl
   ·exact zB
   ·exact go _ _ (Ne.symm n1) ehv
   ·exact go _ _ (Ne.symm n2.1) esv
   ·exact go _ _ (Ne.symm n3.1) r05'
   ·exact go _ _ (Ne.symm n4.1) r15'
   ·exact go _ _ (Ne.symm n5.1) rw5'
   ·show upd _ x _ bd = _
    rw [zJ (Ne.symm n6.1)]; exact zB
  ·rcases ok7 hr with rfl | rfl | rfl | rfl | rfl | rfl | rfl
   ·exact hx0
   ·exact w1
   ·exact w2
   ·exact w3
   ·exact w4
   ·exact w5
   ·exact w6
 exact q A _ rfl (fin (by rw [e5] <;> rfl))

def spInitME (K : PySem.W.Frag) (CC : Addr) : Sp := fun vs H Q E => ∃ (x : Addr) (v g b : V) (o : Option (List V)), vs = [.ref x, v, g, b] /\ Thing K H v o /\ ¬ codeV o /\ ∀ H', Same H H' -> E (.ref CC) none H'
theorem ok_initME {CC : Addr} (T : TxtG K mg CM CD CF aP) (F : Fun K "__init__" "Machine.__init__" yR f fd) (Cheads_of : Cal P w K mg base (CXE P w) 4 "heads_of" ["code"] (spHeadsOfX K CC)) (Crows_of : Cal P w K mg base (CXE P w) 4 "rows_of" ["code"] (spRowsOfX K CC)) : FnOk P w K mg base (CXE P w) 5 f fd ["self", "code", "given", "breaths"] (spInitME K CC) := by
 refine F.okX kK (fun vs H Q E h => ?_) (fun cdv Ar outer s H vs Q E hr h => ?_)
 ·obtain ⟨x, v, g, b, o, rfl, _⟩ := h
  rfl
 obtain ⟨x, v, g, b, o, rfl, th, nc, qe⟩ := h
 refine ⟨_, (zE (xJ (pv 0) (zH Cheads_of hr rfl (zA (pv 1) zC) passX) rfl)
   (zE (xJ (pv 0) (zH Crows_of hr rfl (zA (pv 1) zC) passX) rfl)
   (zE (xJ (pv 0) (zV (zA (jA wX rfl T.n_list bt_list (zA (pv 2) zC)) (zA (zV zC) zC))) rfl)
   (zE (xJ (pv 0) (pv 3) rfl)
   (zE (xJ (pv 0) (zV zC) rfl)
   (zG (xJ (pv 0) zF rfl))))))), ?_⟩
 try dsimp only [Cx.nox, Cx.exc, Cx.wish, zY]
 exact ⟨_, rfl, v, o, rfl, th, fun ns e hk => absurd ⟨ns, e, hk⟩ nc, fun _ H' g => qe H' g⟩

end
section
variable {P : Program} {w : World} {K : PySem.W.Frag} {mg : Str -> Option Value} {base : Heap} {f : Addr} {fd : FuncData} {CM CD CF aP : Addr}
set_option maxHeartbeats 4000000

theorem ok_goG (T : TxtG K mg CM CD CF aP) (F : Fun K "go" "go" s_go f fd) (CMachine : CalK P w K mg base (CXE P w) 5 "Machine" CM ["self", "code", "given", "breaths"] (spInitMG CM CD)) (Cdo_call : Cal P w K mg base (CXE P w) 5 "do_call" ["machine", "held", "function"] (spCallG CM CD CF)) (Cdo_rows : Cal P w K mg base (CXE P w) 7 "do_rows" ["machine", "most"] (spRowsG CM CD CF)) : FnOk P w K mg base (CXE P w) 8 f fd ["code", "given", "breaths", "most"] (spGoG CM CD) := by
 refine F.okX sc_go (fun vs H Q E h => ?_) (fun cdv Ar outer s0 H vs Q E hr h => ?_)
 ·obtain ⟨co, gv, br, most, hs, rs, gs, rfl, _⟩ := h
  rfl
 obtain ⟨co, gv, br, most, hs, rs, gs, rfl, hco, cp, vb, hgv, gb, gl, m10, q⟩ := h
 refine ⟨_, (zE (zT (i := 4) sc_go.nd rfl (Or.inl rfl) (pe_makeC CMachine hr rfl (zA (pv 0) (zA (pv 1) (zA (pv 2) zC))) passX))
   (zE (ps_tryS (i := 5) sc_go.nd rfl rfl rfl T.m_Fault (fun _ _ => (zE (yI (kG Cdo_call hr rfl (zA (pv 4) (zA (zV zC) (zA zF zC)))))
   (zG (yI (kG Cdo_rows hr rfl (zA (pv 4) (zA (pv 3) zC))))))) (fun _ => (zG (zL (zM (zA (pe_fldXK K rfl (pv 5)) (zA (pe_fldXK K rfl (pv 5)) (zA (zX (ix_listK K rfl) (pe_fldK K rfl (pv 4)) (zO rfl T.m_ANSWER) (fun _ _ => rfl)) zC))))))))
   (zG (zL (zM (zA jB (zA (yP (pv 4) rfl) (zA (zX zP (yP (pv 4) rfl) (zO rfl T.m_ANSWER) (fun _ _ => rfl)) zC)))))))), ?_⟩
 try dsimp only [Cx.nox, Cx.exc, Cx.wish, zY]
 refine ⟨_, rfl, _, rfl, _, rfl, fun x dx hx hdx ndx => ?_⟩
 have s1 := zD hdx (.own x)
 have hx1 : upd H dx (.own x) x = none := by rw [zJ (Ne.symm ndx)]; exact hx
 have s2 := zD hx1 (.ins CM dx [])
 have s12 := s1.trans s2
 refine ⟨x, dx, co, gv, br, hs, rs, gs, H, rfl, zB, hx, s12, s12 _ _ hco, cp, s12 _ _ hgv, fun A H1 em R => ⟨rfl, ?_⟩⟩
 subst em
 obtain ⟨g, hg⟩ : ∃ g, hs[0]? = some g := ⟨_, List.getElem?_eq_getElem (by have := cp.h1; (first|lia|omega))⟩
 obtain ⟨st, p, b, rfl, ho⟩ := cp.heads _ _ hg
 unfold HeadOk at ho
 have p0 : p = 0 := ho.2.2.2.2.1 rfl
 obtain ⟨ht, eh⟩ : ∃ ht, hs = [st, p, b] :: ht := by
  cases hs with
  | nil => cases hg
  | cons a r => cases hg; exact ⟨r, rfl⟩
 refine ⟨_, rfl, small (show 0 <= 1000 by decide), fun hl0 hhl0 => ?_⟩
 have s3 := zD hhl0 (.lst [])
 have eb : begG hs rs most br gs = match enterG ⟨[gs, []], [], br, 0⟩ st (List.replicate b.toNat 0) with | .go s => runG hs rs most s | .bad w k rows => .bad w k rows := by
  subst eh
  rfl
 have R1 := R.more s3
 have hand : ∀ {H3 : Hp} {A3 : Pl} {s4 : MS} {wd : Str} {k : Int}, RunG CM CD H H3 A3 hs rs s4 -> outG (begG hs rs most br gs) = (wd, k, s4.rows) -> 2 <= s4.rows.length ->
   atI ((rwL A3 s4.rows.length).map V.ref) 1 = some (.ref (A3.ad (.row 1))) /\ ∀ t, H3 t = none -> Q (.ref t) (upd H3 t (.tup [.str wd, .int k, .ref (A3.ad (.row 1))])) := fun {H3 A3 s4 wd k} R3 eo l2 => by
  refine ⟨qW (j := 1) (by rw [List.getElem?_map, rwL_get A3 (by (first|lia|omega))]; rfl), fun t ht => ?_⟩
  have s5 := zD ht (.tup [.str wd, .int k, .ref (A3.ad (.row 1))])
  refine q t (A3.ad (.row 1)) _ (R3.same.trans s5) (R3.same.free ht) (R3.new (.row 1) l2) ?_ ?_
  ·rw [eo]; exact zB
  ·rw [eo]; exact s5 _ _ (R3.at_ (.row 1) l2)
 have ge2 := enterG_ge (s := ⟨[gs, []], [], br, 0⟩) (st := st) (zs := List.replicate b.toNat 0)
 refine ⟨A, H, hs, rs, ⟨[gs, []], [], br, 0⟩, 0, st, p, b, hl0, rfl, R1, hg, by decide, ho.1, ho.2.2.1, ho.2.2.2.2.2.1, ho.2.2.2.2.2.2, Nat.zero_le _, .inr ⟨p0, zB, fun r hr => zK (R.at_ r hr) hhl0, ?_⟩⟩
 cases en : enterG ⟨[gs, []], [], br, 0⟩ st (List.replicate b.toNat 0) with
 | go s1 =>
  rw [en] at eb ge2
  intro A2 H2 l2 R2
  have B1 := enterG_bd (BdG.beg gb gl) (fun v hv => by rw [(List.mem_replicate.mp hv).2]; exact Vb.small (by decide)) en
  refine ⟨_, rfl, _, rfl, A2, H, hs, rs, s1, most, 4000, by rw [l2.m], R2, cp, vb, B1, by (first|lia|omega), ?_⟩
  have ge3 := Nat.le_trans ge2 (runG_ge (hs := hs) (rs := rs) most s1)
  cases ru : runG hs rs most s1 with
  | go s5 =>
   rw [ru] at ge3
   intro A3 H3 l3 R3
   have em : A3.ad .m = A.ad .m := (l2.trans l3).m
   obtain ⟨hat, hq⟩ := hand R3 (by rw [eb]; dsimp only; rw [ru] <;> rfl) ge3
   have m3 : H3 (A.ad .m) = some (MG CM A3 s5.br s5.va) := by rw [<- em]; exact R3.km
   exact ⟨_, rfl, A.ad .m, CM, _, _, _, rfl, m3, T.mach, T.mvalue, rfl, _, rfl, A.ad .m, CM, _, _, _, rfl, m3, T.mach, T.mrows, rfl, A3.ad .rw, _, _, _, rfl, rfl, SqL.of (R3.at_ .rw trivial), hat, small (show 3 <= 1000 by decide), fun t ht => hq t ht⟩
  | bad wd k rows =>
   rw [ru] at ge3
   intro d H3 A3 s5 em' R3 er ed
   have em : A3.ad .m = A.ad .m := em'.trans l2.m
   subst er
   refine ⟨CF, d, rfl, rfl, T.mch, fun x ex => ?_⟩
   obtain ⟨hat, hq⟩ := hand R3 (by rw [eb]; dsimp only; rw [ru] <;> rfl) ge3
   have m3 : H3 (A.ad .m) = some (MG CM A3 s5.br s5.va) := by rw [<- em]; exact R3.km
   exact ⟨_, rfl, x, CF, d, _, _, rfl, ex, ed, T.exc, T.xword, rfl, _, rfl, x, CF, d, _, _, rfl, ex, ed, T.exc, T.xnumber, rfl, _, rfl, A.ad .m, CM, _, _, _, rfl, m3, T.mach, T.mrows, rfl, A3.ad .rw, _, _, _, rfl, rfl, SqL.of (R3.at_ .rw trivial), hat, small (show 3 <= 1000 by decide), fun t ht => hq t ht⟩
 | bad wd k rows =>
  rw [en] at eb ge2
  intro d H3 A3 s5 em R3 er ed
  subst er
  refine ⟨CF, d, rfl, rfl, T.mch, fun x ex => ?_⟩
  obtain ⟨hat, hq⟩ := hand R3 (by rw [eb] <;> rfl) ge2
  have m3 : H3 (A.ad .m) = some (MG CM A3 s5.br s5.va) := by rw [<- em]; exact R3.km
  exact ⟨_, rfl, x, CF, d, _, _, rfl, ex, ed, T.exc, T.xword, rfl, _, rfl, x, CF, d, _, _, rfl, ex, ed, T.exc, T.xnumber, rfl, _, rfl, A.ad .m, CM, _, _, _, rfl, m3, T.mach, T.mrows, rfl, A3.ad .rw, _, _, _, rfl, rfl, SqL.of (R3.at_ .rw trivial), hat, small (show 3 <= 1000 by decide), fun t ht => hq t ht⟩

def spGoE (K : PySem.W.Frag) (CC : Addr) : Sp := fun vs H Q E => ∃ (v g b m : V) (o : Option (List V)), vs = [v, g, b, m] /\ Thing K H v o /\ ¬ codeV o /\ ∀ H', Same H H' -> E (.ref CC) none H'
theorem ok_goE {CC : Addr} {sp1 sp2 : Sp} (T : TxtG K mg CM CD CF aP) (F : Fun K "go" "go" s_go f fd) (CMachine : CalK P w K mg base (CXE P w) 5 "Machine" CM ["self", "code", "given", "breaths"] (spInitME K CC)) (Cdo_call : Cal P w K mg base (CXE P w) 5 "do_call" ["machine", "held", "function"] sp1) (Cdo_rows : Cal P w K mg base (CXE P w) 7 "do_rows" ["machine", "most"] sp2) : FnOk P w K mg base (CXE P w) 8 f fd ["code", "given", "breaths", "most"] (spGoE K CC) := by
 refine F.okX sc_go (fun vs H Q E h => ?_) (fun cdv Ar outer s0 H vs Q E hr h => ?_)
 ·obtain ⟨v, g, b, m, o, rfl, _⟩ := h
  rfl
 obtain ⟨v, g, b, m, o, rfl, th, nc, qe⟩ := h
 refine ⟨_, (zE (zT (i := 4) sc_go.nd rfl (Or.inl rfl) (pe_makeC CMachine hr rfl (zA (pv 0) (zA (pv 1) (zA (pv 2) zC))) passX))
   (zE (ps_tryS (i := 5) sc_go.nd rfl rfl rfl T.m_Fault (fun _ _ => (zE (yI (kG Cdo_call hr rfl (zA (pv 4) (zA (zV zC) (zA zF zC)))))
   (zG (yI (kG Cdo_rows hr rfl (zA (pv 4) (zA (pv 3) zC))))))) (fun _ => (zG (zL (zM (zA (pe_fldXK K rfl (pv 5)) (zA (pe_fldXK K rfl (pv 5)) (zA (zX (ix_listK K rfl) (pe_fldK K rfl (pv 4)) (zO rfl T.m_ANSWER) (fun _ _ => rfl)) zC))))))))
   (zG (zL (zM (zA jB (zA (yP (pv 4) rfl) (zA (zX zP (yP (pv 4) rfl) (zO rfl T.m_ANSWER) (fun _ _ => rfl)) zC)))))))), ?_⟩
 try dsimp only [Cx.nox, Cx.exc, Cx.wish, zY]
 refine ⟨_, rfl, _, rfl, _, rfl, fun x dx hx hdx ndx => ?_⟩
 have s1 := zD hdx (.own x)
 have hx1 : upd H dx (.own x) x = none := by rw [zJ (Ne.symm ndx)]; exact hx
 have s2 := zD hx1 (.ins CM dx [])
 have s12 := s1.trans s2
 exact ⟨x, v, g, b, o, rfl, th.same s12, nc, fun H' g => qe H' (s12.trans g)⟩
def spGoX (K : PySem.W.Frag) (CM CD CC : Addr) : Sp := fun vs H Q E => spGoG CM CD vs H Q E \/ spGoE K CC vs H Q E

end
section
variable {P : Program} {w : World} {K : PySem.W.Frag} {mg : Str -> Option Value} {base : Heap} {f : Addr} {fd : FuncData}
set_option maxHeartbeats 4000000

theorem ok_pen (F : Fun K "_law_pen" "_law_pen" kB f fd) : FnOk P w K mg base (CXE P w) 1 f fd ["_law_script"] (spPen K) := by
 refine F.okN sc__law_pen (fun vs H Q E h => ?_) (fun cdv A outer s H vs Q E hr h => ?_)
 ·obtain ⟨a, ns, rfl, _⟩ := h
  rfl
 obtain ⟨a, ns, rfl, hs, hl, q⟩ := h
 refine ⟨_, (zG (zL (zV (zA (pv 0) (zA zF (zA zF (zA zF zC))))))), ?_⟩
 try dsimp only [Cx.nox, Cx.exc, Cx.wish, zY]
 refine ⟨_, rfl, small (show 4 <= 1000 by decide), fun st hst => ?_⟩
 exact q _ _ hst (zD hst _) ⟨a, ns, 0, 0, 0, zB, hs.imp (fun ⟨o, z⟩ => ⟨o, zD hst _ _ _ z⟩) id, hl, by decide, by decide⟩
theorem ok_mixed (F : Fun K "_law_mixed" "_law_mixed" xY f fd) : FnOk P w K mg base (CXE P w) 1 f fd ["_law_cell", "_law_turn"] spMixed := by
 refine F.okN sc__law_mixed (fun vs H Q E h => ?_) (fun cdv A outer s H vs Q E hr h => ?_)
 ·obtain ⟨c, k, rfl, _⟩ := h
  rfl
 obtain ⟨c, k, rfl, q⟩ := h
 refine ⟨_, (zE (zT (i := 2) sc__law_mixed.nd rfl (Or.inl rfl) (zR wT (zR vG (zR xF (zR xF (zR wT (pv 0) zF) (zR vG zF (pv 1))) zF) zF) zF))
   (zG (zL (zR vH (zR wT (zR vG (pv 2) (zR xF (zR xF (zR wT (pv 2) zF) (pv 1)) zF)) zF) zF)))), ?_⟩
 try dsimp only [Cx.nox, Cx.exc, Cx.wish, zY]
 have p1 : (0 : Int) < 2147483647 := by decide
 have p2 : (0 : Int) < 2147483629 := by decide
 have p3 : (0 : Int) < 65521 := by decide
 have p4 : (0 : Int) < 2147483587 := by decide
 refine ⟨_, rfl, _, _, rfl, rfl, p1, _, rfl, _, _, rfl, rfl, .inl ⟨by decide, by decide⟩, _, _, rfl, rfl, _, _, rfl, rfl, _, _, rfl, rfl, .inr ⟨by decide, by decide⟩, _, _, rfl, rfl, p2, ?_⟩
 generalize (c % 2147483647 + 7919 * k + 1) * 48271 = A1
 have a1 := Int.emod_nonneg A1 (show (2147483629 : Int) ≠ 0 by decide)
 have a2 := Int.emod_lt_of_pos A1 p2
 generalize A1 % 2147483629 = A2 at *
 refine ⟨_, rfl, _, rfl, _, _, rfl, rfl, p3, _, rfl, _, _, rfl, rfl, _, _, rfl, rfl, _, _, rfl, rfl, .inl ⟨by (first|lia|omega), by (first|lia|omega)⟩, _, _, rfl, rfl, p4, _, _, rfl, rfl, ⟨by decide, by decide⟩, ?_⟩
 exact q _ (Int.ediv_nonneg (Int.emod_nonneg _ (by decide)) (by decide))
theorem ok_take (T : Txt K mg) (F : Fun K "_law_take" "_law_take" jH f fd) (C_law_mixed : Cal P w K mg base (CXE P w) 1 "_law_mixed" ["_law_cell", "_law_turn"] spMixed) : FnOk P w K mg base (CXE P w) 2 f fd ["_law_pen_here", "_law_many"] (spTake4 K) := by
 refine F.okN kP (fun vs H Q E h => ?_) (fun cdv A outer s H vs Q E hr h => ?_)
 ·obtain ⟨st, m, rfl, _⟩ := h
  rfl
 obtain ⟨st, m, rfl, hm0, hm1, D, q⟩ := h
 refine ⟨_, (zE (qZ (zW (zI yJ (zX zP (pv 0) zF (fun _ _ => rfl)) zF (nomark _)) (zE (zT (i := 2) kP.nd rfl (Or.inl rfl) zF)
   (zE (qZ (zW (zI op_gt (zU zQ rfl T.n_len yS (zA (zX zP (pv 0) zF (fun _ _ => rfl)) zC)) zF (nomark _)) (zG (zT (i := 2) kP.nd rfl (Or.inl rfl) (zX zP (zX zP (pv 0) zF (fun _ _ => rfl)) (zR wT (zX zP (pv 0) zF (fun _ _ => rfl)) (zU zQ rfl T.n_len yS (zA (zX zP (pv 0) zF (fun _ _ => rfl)) zC))) (fun _ _ => rfl)))) zN))
   (zE (jQ (zR xF (zX zP (pv 0) zF (fun _ _ => rfl)) zF) (pg_sub (pv 0) zF qI))
   (zE (zW (PW.pt (qL (zI kO (pv 2) (zR op_pow zF zF) (nomark _)) (jE (zI op_gt (zX zP (pv 0) zF (fun _ _ => rfl)) (zU zQ rfl T.n_len yS (zA (zX zP (pv 0) zF (fun _ _ => rfl)) zC)) (nomark _))))) (zE (jQ (zR xF (zX zP (pv 0) zF (fun _ _ => rfl)) zF) (pg_sub (pv 0) zF qI))
   (zG (zL (zR wT (zH C_law_mixed hr rfl (zA (pv 2) (zA (zX zP (pv 0) zF (fun _ _ => rfl)) zC)) passN) (pv 1))))) zN)
   (zG (jQ (pv 2) (pg_sub (pv 0) zF qI))))))) zN))
   (zE (zT (i := 3) kP.nd rfl (Or.inl rfl) (zR wT (zX zP (pv 0) zF (fun _ _ => rfl)) (pv 1)))
   (zE (jQ (zR vH (zX zP (pv 0) zF (fun _ _ => rfl)) (pv 1)) (pg_sub (pv 0) zF qI))
   (zG (zL (pv 3)))))), ?_⟩
 try dsimp only [Cx.nox, Cx.exc, Cx.wish, zY]
 obtain ⟨a, ns, k, c, t, hst, hs, hl, hk, hc⟩ := D
 refine ⟨fun σ' H' => ∃ v2 v3, σ' = [some (.ref st), some (.int m), v2, v3] /\ Penned K st H H', ?_, ?_⟩
 ·refine ⟨_, rfl, st, _, _, _, rfl, rfl, SqL.of hst, rfl, rfl, _, rfl, ite2 (fun c0 => ?_) (fun c0 => ⟨_, _, rfl, ⟨a, ns, k, c, t, hst, hs, hl, hk, hc⟩, Keep.refl _ _⟩)⟩
  refine ⟨fun σ' H' => H' = H /\ ∃ x : Int, σ' = [some (.ref st), some (.int m), some (.int x), none], ?_, ?_⟩
  ·have hlen : ((ns.map V.int).length : Int) = ns.length := by rw [List.length_map]
   refine ⟨_, rfl, st, _, _, _, rfl, rfl, SqL.of hst, rfl, a, _, rfl, .inl hs.sq, _, _, rfl, rfl, _, rfl, ite2 (fun cl => ?_) (fun cl => ⟨rfl, _, rfl⟩)⟩
   have cl' := of_decide_eq_true cl
   obtain ⟨v, hv⟩ := atI_int (ns := ns) (k := k % ((ns.map V.int).length : Int)) (Int.emod_nonneg _ (by (first|lia|omega))) (by rw [<- hlen]; exact Int.emod_lt_of_pos _ cl')
   refine ⟨_, rfl, st, _, _, _, rfl, rfl, SqL.of hst, rfl, _, rfl, st, _, _, _, rfl, rfl, SqL.of hst, rfl, _, rfl, st, _, _, _, rfl, rfl, SqL.of hst, rfl, a, _, rfl, .inl hs.sq, _, _, rfl, rfl, cl', a, _, _, _, rfl, rfl, hs.sq, hv, rfl, _, rfl⟩
  ·rintro σ' H' ⟨rfl, x, rfl⟩
   refine ⟨_, rfl, st, _, _, _, rfl, rfl, SqL.of hst, rfl, _, _, rfl, rfl, _, rfl, st, _, _, _, rfl, rfl, hst, rfl, ?_⟩
   have h1 : upd H' st (.lst [.ref a, .int (k + 1), .int c, .int t]) st = some (.lst [.ref a, .int (k + 1), .int c, .int t]) := zB
   have k1 : Keep st H' (upd H' st (.lst [.ref a, .int (k + 1), .int c, .int t])) := Keep.upd
   have s1 : Scr K (upd H' st (.lst [.ref a, .int (k + 1), .int c, .int t])) a ns := hs.keep hst k1
   refine ⟨_, rfl, _, _, rfl, rfl, ⟨by decide, by decide, by decide⟩, _, _, rfl, rfl, _, rfl, ite2 (fun c1 => iteT ?_) (fun c1 => ?_)⟩
   ·refine ⟨_, rfl, st, _, _, _, rfl, rfl, SqL.of h1, rfl, _, _, rfl, rfl, _, rfl, st, _, _, _, rfl, rfl, h1, rfl, ?_⟩
    refine ⟨_, rfl, _, rfl, st, _, _, _, rfl, rfl, SqL.of zB, rfl, _, _, rfl, fun r hr0 => ⟨_, rfl, _, _, rfl, rfl, hm0, ?_⟩⟩
    exact q _ _ (Int.emod_nonneg _ (by (first|lia|omega))) (Int.emod_lt_of_pos _ hm0) ⟨⟨a, ns, k + 1, c, t + 1, zB, s1.keep h1 Keep.upd, hl, by (first|lia|omega), hc⟩, k1.trans Keep.upd⟩
   refine ⟨_, rfl, st, _, _, _, rfl, rfl, SqL.of h1, rfl, _, rfl, st, _, _, _, rfl, rfl, SqL.of h1, rfl, a, _, rfl, .inl s1.sq, _, _, rfl, rfl, _, rfl, ite2 (fun c2 => ?_) (fun c2 => ?_)⟩
   ·refine ⟨_, rfl, st, _, _, _, rfl, rfl, SqL.of h1, rfl, _, _, rfl, rfl, _, rfl, st, _, _, _, rfl, rfl, h1, rfl, ?_⟩
    refine ⟨_, rfl, _, rfl, st, _, _, _, rfl, rfl, SqL.of zB, rfl, _, _, rfl, fun r hr0 => ⟨_, rfl, _, _, rfl, rfl, hm0, ?_⟩⟩
    exact q _ _ (Int.emod_nonneg _ (by (first|lia|omega))) (Int.emod_lt_of_pos _ hm0) ⟨⟨a, ns, k + 1, c, t + 1, zB, s1.keep h1 Keep.upd, hl, by (first|lia|omega), hc⟩, k1.trans Keep.upd⟩
   have cx : ¬ x < 10 ^ 18 := df c1
   have x0 : 0 <= x := by
    have : (0 : Int) <= 10 ^ 18 := by decide
    (first|lia|omega)
   refine ⟨_, rfl, _, rfl, st, _, _, _, rfl, rfl, h1, rfl, ?_⟩
   exact ⟨_, _, rfl, ⟨a, ns, k + 1, x, t, zB, s1.keep h1 Keep.upd, hl, by (first|lia|omega), x0⟩, k1.trans Keep.upd⟩
 ·rintro σ' H' ⟨v2, v3, rfl, D2, kp⟩
  obtain ⟨a, ns, k, c, t, hst, hs, hl, hk, hc⟩ := D2
  refine ⟨_, rfl, st, _, _, _, rfl, rfl, SqL.of hst, rfl, _, rfl, _, _, rfl, rfl, hm0, ?_⟩
  refine ⟨_, rfl, st, _, _, _, rfl, rfl, SqL.of hst, rfl, _, rfl, _, _, rfl, rfl, divB hm0 (Int.lt_trans hm1 (by decide)), ?_⟩
  refine ⟨_, rfl, st, _, _, _, rfl, rfl, hst, rfl, ?_⟩
  refine ⟨_, rfl, q _ _ (Int.emod_nonneg _ (by (first|lia|omega))) (Int.emod_lt_of_pos _ hm0) ⟨⟨a, ns, k, c / m, t, zB, hs.keep hst Keep.upd, hl, hk, Int.ediv_nonneg hc (by (first|lia|omega))⟩, kp.trans Keep.upd⟩⟩

def opsT : List Int := [0, 0, 0, 1, 1, 2, 3, 4, 5, 6, 6, 7, 8, 9, 10, 10, 10, 11, 0, 10]
theorem ops_ok : ∀ op ∈ opsT, 0 <= op /\ op <= 11 := by decide
theorem num_vb : ∀ v ∈ [(10 : Int) ^ 50, 0 - 10 ^ 50, 10 ^ 40 - 1, 0 - 7], Vb v := by unfold Vb; decide +kernel
theorem ok_number (T : Txt K mg) (F : Fun K "_law_number" "_law_number" xO f fd) (C_law_take : Cal P w K mg base (CXE P w) 2 "_law_take" ["_law_pen_here", "_law_many"] (spTake4 K)) : FnOk P w K mg base (CXE P w) 3 f fd ["_law_pen_here"] (spInt4 K Vb) := by
 refine F.okN sc__law_number (fun vs H Q E h => ?_) (fun cdv A outer s H vs Q E hr h => ?_)
 ·obtain ⟨st, rfl, _⟩ := h
  rfl
 obtain ⟨st, rfl, D, q⟩ := h
 refine ⟨_, (zE (zW (zI yJ (zH C_law_take hr rfl (zA (pv 0) (zA zF zC)) passN) zF (nomark _)) (zG (zL (zX zP (zV (zA (zR op_pow zF zF) (zA (zR xQ zF (zR op_pow zF zF)) (zA (zR xQ (zR op_pow zF zF) zF) (zA (zR xQ zF zF) zC))))) (zH C_law_take hr rfl (zA (pv 0) (zA zF zC)) passN) (fun _ _ => rfl)))) zN)
   (zG (zL (zR xQ (zH C_law_take hr rfl (zA (pv 0) (zA zF zC)) passN) zF)))), ?_⟩
 try dsimp only [Cx.nox, Cx.exc, Cx.wish, zY]
 refine ⟨_, rfl, st, 10, rfl, by decide, by decide, D, fun r H1 _ _ D1 => ⟨rfl, _, rfl, ite2 (fun c => ?_) (fun c => ?_)⟩⟩
 ·refine ⟨_, _, rfl, rfl, ⟨by decide, by decide, by decide⟩, ?_⟩
  refine ⟨_, _, rfl, rfl, ⟨by decide, by decide, by decide⟩, _, _, rfl, rfl, ?_⟩
  refine ⟨_, _, rfl, rfl, ⟨by decide, by decide, by decide⟩, _, _, rfl, rfl, ?_⟩
  refine ⟨_, _, rfl, rfl, small (show 4 <= 1000 by decide), fun o ho => ?_⟩
  have D2 := D1.trans (D1.pen.new ho (.lst ([(10 : Int) ^ 50, 0 - 10 ^ 50, 10 ^ 40 - 1, 0 - 7].map V.int)))
  refine ⟨_, rfl, st, 4, rfl, by decide, by decide, D2.pen, fun r2 H3 r0 r1 D3 => ?_⟩
  have eo : H3 o = some (.lst ([(10 : Int) ^ 50, 0 - 10 ^ 50, 10 ^ 40 - 1, 0 - 7].map V.int)) := D3.keep _ _ (Ne.symm (D1.pen.ne ho)) zB
  obtain ⟨v, vm, hv⟩ := qX (ns := [(10 : Int) ^ 50, 0 - 10 ^ 50, 10 ^ 40 - 1, 0 - 7]) r0 (by exact r1)
  exact ⟨o, _, _, _, rfl, rfl, SqL.of eo, hv, q _ _ (num_vb v vm) (D2.trans D3)⟩
 ·exact ⟨_, rfl, st, 12, rfl, by decide, by decide, D1.pen, fun r2 H2 r20 r21 D2 => ⟨_, _, rfl, rfl, q _ _ (Vb.small (by (first|lia|omega))) (D1.trans D2)⟩⟩
theorem ok_needs (T : Txt K mg) (F : Fun K "_law_needs" "_law_needs" xX f fd) : FnOk P w K mg base (CXE P w) 1 f fd ["_law_op", "_law_number_here", "_law_heads"] spNeeds := by
 refine F.okN sc__law_needs (fun vs H Q E h => ?_) (fun cdv A outer s H vs Q E hr h => ?_)
 ·obtain ⟨op, n, hd, hs, rfl, _⟩ := h
  rfl
 obtain ⟨op, n, hd, hs, rfl, G, h3, ft, q⟩ := h
 refine ⟨_, (zE (zW (zI yJ (pv 0) zF (nomark _)) (zG (zL (zX ix_tup (zX zP (pv 2) (pv 1) (fun _ _ => rfl)) zF (fun _ _ => rfl)))) zN)
   (zE (zW (zI yJ (pv 0) zF (nomark _)) (zG (zL (zX zP (zV (zS (.int (.int (.int (.int (.int (.int (.int (.int (.int (.int (.int (.int .nil)))))))))))))) (zR xQ (pv 1) zF) (fun _ _ => rfl)))) zN)
   (zG (zL (zX zP (zV (zS (.int (.int (.int (.int (.int (.int (.int (.int (.int (.int (.int (.int .nil)))))))))))))) (pv 0) (fun _ _ => rfl)))))), ?_⟩
 try dsimp only [Cx.nox, Cx.exc, Cx.wish, zY]
 refine ⟨_, rfl, rfl, _, rfl, ite2 (fun c => ?_) (fun c => ?_)⟩
 ·obtain ⟨n0, n1⟩ := ft.call (vt c)
  obtain ⟨rs, e, pr⟩ := G
  have hn : n.toNat < rs.length := by rw [Paired.len pr]; (first|lia|omega)
  obtain ⟨g, hg, t, et, ht⟩ := Paired.yonder pr (List.getElem?_eq_getElem hn)
  obtain ⟨x, y, z, rfl⟩ := len3 (h3 g (List.mem_iff_getElem?.mpr ⟨_, hg⟩))
  have hv : atI rs n = some (.ref t) := kJ n0 (by rw [List.getElem?_eq_getElem hn, et])
  exact ⟨_, rfl, _, rfl, hd, _, _, _, rfl, rfl, SqL.of e, hv, t, _, _, _, rfl, rfl, SqT.of ht, rfl, q _ _ (Same.refl _)⟩
 have n6 := vf c
 refine ⟨_, rfl, rfl, _, rfl, ite2 (fun c => ?_) (fun c => ?_)⟩
 ·obtain ⟨n0, n1⟩ := ft.deed (vt c)
  refine ⟨small (show 12 <= 1000 by decide), fun o ho => ?_⟩
  obtain ⟨v, _, hv⟩ := qX (ns := needT) (k := n - 8) (by (first|lia|omega)) (show n - 8 < 12 by (first|lia|omega))
  exact ⟨_, rfl, _, _, rfl, rfl, o, _, _, _, rfl, rfl, SqL.of zB, hv, q _ _ (zD ho _)⟩
 ·refine ⟨small (show 12 <= 1000 by decide), fun o ho => ?_⟩
  obtain ⟨v, _, hv⟩ := qX (ns := needT2) (k := op) ft.lo (show op < 12 by have := ft.hi; (first|lia|omega))
  exact ⟨_, rfl, o, _, _, _, rfl, rfl, SqL.of zB, hv, q _ _ (zD ho _)⟩
theorem ok_height (T : Txt K mg) (F : Fun K "_law_height" "_law_height" xP f fd) (C_law_needs : Cal P w K mg base (CXE P w) 1 "_law_needs" ["_law_op", "_law_number_here", "_law_heads"] spNeeds) : FnOk P w K mg base (CXE P w) 2 f fd ["_law_op", "_law_number_here", "_law_heads", "_law_height_here"] spHeight := by
 refine F.okN vC (fun vs H Q E h => ?_) (fun cdv A outer s H vs Q E hr h => ?_)
 ·obtain ⟨op, n, h, hd, hs, rfl, _⟩ := h
  rfl
 obtain ⟨op, n, h, hd, hs, rfl, G, h3, ft, q⟩ := h
 refine ⟨_, (zE (zW (zI wJ (pv 0) (zM (zS (.int (.int (.int .nil))))) rfl) (zG (zL zF)) zN)
   (zE (zT (i := 4) vC.nd rfl (Or.inl rfl) (zU (call_max2 rfl) rfl T.n_max bt_max (zA zF (zA (zR xQ (pv 3) (zH C_law_needs hr rfl (zA (pv 0) (zA (pv 1) (zA (pv 2) zC))) passN)) zC))))
   (zG (zL (zR xF (pv 4) (jA call_int1 rfl T.n_int bt_int (zA (kU wJ (pv 0) (zM (zS (.int (.int (.int (.int (.int .nil))))))) rfl) zC))))))), ?_⟩
 try dsimp only [Cx.nox, Cx.exc, Cx.wish, zY]
 refine ⟨_, rfl, small (show 3 <= 1000 by decide), fun u hu => ⟨u, _, rfl, .inr (SqT.of zB), rfl, rfl, _, rfl, ?_⟩⟩
 have g1 := zD hu (.tup ([(4 : Int), 7, 8].map V.int))
 refine ite2 (fun c => q 0 _ g1) (fun c => ?_)
 refine ⟨_, rfl, _, rfl, _, rfl, _, rfl, op, n, hd, hs, rfl, G.same g1, h3, ft, fun r H2 g2 => ?_⟩
 refine ⟨_, _, rfl, rfl, _, _, rfl, ?_⟩
 refine ⟨_, rfl, _, rfl, small (show 5 <= 1000 by decide), fun u2 hu2 => ⟨u2, _, rfl, .inr (SqT.of zB), rfl, rfl, ?_⟩⟩
 have g3 := zD hu2 (.tup ([(0 : Int), 1, 2, 6, 10].map V.int))
 exact .inr ⟨_, rfl, _, _, rfl, rfl, q _ _ (g1.trans (g2.trans g3))⟩
def spRowB (K : PySem.W.Frag) : Sp := fun vs H Q _ => ∃ (st hd : Addr) (h many : Int) (hs : List (List Int)), vs = [.ref st, .int h, .int many, .ref hd] /\ Pen K H st /\ 0 < many /\ many <= 24 /\ GrpAt H hd hs /\ Heads3 hs /\ 1 <= hs.length /\ hs.length <= 16 /\ hd ≠ st /\
 ∀ t op n H', Penned K st H H' -> H' t = some (.tup [.int op, .int n]) -> RowOk op n hs.length many -> Vb n -> Q (.ref t) H'
theorem ok_row (T : Txt K mg) (F : Fun K "_law_row" "_law_row" kA f fd) (C_law_take : Cal P w K mg base (CXE P w) 2 "_law_take" ["_law_pen_here", "_law_many"] (spTake4 K)) (C_law_number : Cal P w K mg base (CXE P w) 3 "_law_number" ["_law_pen_here"] (spInt4 K Vb)) (C_law_needs : Cal P w K mg base (CXE P w) 1 "_law_needs" ["_law_op", "_law_number_here", "_law_heads"] spNeeds) :
  FnOk P w K mg base (CXE P w) 4 f fd ["_law_pen_here", "_law_height_here", "_law_many", "_law_heads"] (spRowB K) := by
 refine F.okN xC (fun vs H Q E h => ?_) (fun cdv A outer s H vs Q E hr h => ?_)
 ·obtain ⟨st, hd, h, many, hs, rfl, _⟩ := h
  rfl
 obtain ⟨st, hd, h, many, hs, rfl, D, m0, m1, G, h3, l1, l16, ne, q⟩ := h
 refine ⟨_, (zE (zT (i := 4) xC.nd rfl (Or.inl rfl) (zX zP (zV (zS (.int (.int (.int (.int (.int (.int (.int (.int (.int (.int (.int (.int (.int (.int (.int (.int (.int (.int (.int (.int .nil)))))))))))))))))))))) (zH C_law_take hr rfl (zA (pv 0) (zA zF zC)) passN) (fun _ _ => rfl)))
   (zE (zT (i := 5) xC.nd rfl (Or.inl rfl) zF)
   (zE (qZ (zW (zI yJ (pv 4) zF (nomark _)) (zG (zT (i := 5) xC.nd rfl (Or.inl rfl) (zH C_law_number hr rfl (zA (pv 0) zC) passN))) zN))
   (zE (qZ (zW (zI wJ (pv 4) (zM (zS (.int (.int .nil)))) rfl) (zG (zT (i := 5) xC.nd rfl (Or.inl rfl) (zH C_law_take hr rfl (zA (pv 0) (zA (zX zP (zV (zS (.int (.int (.int .nil))))) (zH C_law_take hr rfl (zA (pv 0) (zA zF zC)) passN) (fun _ _ => rfl)) zC)) passN))) zN))
   (zE (qZ (zW (zI wJ (pv 4) (zM (zS (.int (.int .nil)))) rfl) (zG (zT (i := 5) xC.nd rfl (Or.inl rfl) (zH C_law_take hr rfl (zA (pv 0) (zA (pv 2) zC)) passN))) zN))
   (zE (qZ (zW (zI yJ (pv 4) zF (nomark _)) (zG (zT (i := 5) xC.nd rfl (Or.inl rfl) (zH C_law_take hr rfl (zA (pv 0) (zA (zU zQ rfl T.n_len yS (zA (pv 3) zC)) zC)) passN))) zN))
   (zE (qZ (zW (zI yJ (pv 4) zF (nomark _)) (zG (zT (i := 5) xC.nd rfl (Or.inl rfl) (zR xF zF (zH C_law_take hr rfl (zA (pv 0) (zA zF zC)) passN)))) zN))
   (zE (qZ (zW (zI yJ (pv 4) zF (nomark _)) (zG (zT (i := 5) xC.nd rfl (Or.inl rfl) (zX zP (zV (zA zF (zA zF (zA (zR xF zF (zH C_law_take hr rfl (zA (pv 0) (zA zF zC)) passN)) zC)))) (zH C_law_take hr rfl (zA (pv 0) (zA zF zC)) passN) (fun _ _ => rfl)))) zN))
   (zE (zW (PW.pt (pw_and (zI kO (pv 1) (zH C_law_needs hr rfl (zA (pv 4) (zA (pv 5) (zA (pv 3) zC))) passN) (nomark _)) (pw_and1 (zI op_gt (zH C_law_take hr rfl (zA (pv 0) (zA zF zC)) passN) zF (nomark _))))) (zG (zL (zM (zA zF (zA (zH C_law_number hr rfl (zA (pv 0) zC) passN) zC))))) zN)
   (zG (zL (zM (zA (pv 4) (zA (pv 5) zC)))))))))))))), ?_⟩
 try dsimp only [Cx.nox, Cx.exc, Cx.wish, zY]
 refine ⟨small (show 20 <= 1000 by decide), fun o ho => ?_⟩
 have D1 := D.new ho (.lst (opsT.map V.int))
 refine ⟨_, rfl, st, 20, rfl, by decide, by decide, D1.pen, fun r H2 r0 r1 D2 => ?_⟩
 have eo : H2 o = some (.lst (opsT.map V.int)) := D2.keep _ _ (Ne.symm (D.ne ho)) zB
 obtain ⟨op, om, hv⟩ := qX (ns := opsT) r0 r1
 have ob : 0 <= op /\ op <= 11 := ops_ok op om
 refine ⟨o, _, _, _, rfl, rfl, SqL.of eo, hv, ?_⟩
 have D3 := D1.trans D2
 obtain ⟨xs, hst⟩ := D.is
 let Pr (S : Int -> Prop) : St -> Hp -> Prop := fun σ' H' => ∃ n : Int, σ' = [some (.ref st), some (.int h), some (.int many), some (.ref hd), some (.int op), some (.int n)] /\ Penned K st H H' /\ (S op -> RowOk op n hs.length many /\ Vb n) /\ (¬ S op -> n = 0)
 refine ⟨Pr (· = 0), ⟨_, rfl, rfl, _, rfl, ite2 (fun c => ?_) (fun c => ⟨0, rfl, D3, fun z => absurd z (vf c), fun _ => rfl⟩)⟩, ?_⟩
 ·exact ⟨_, rfl, st, rfl, D3.pen, fun x H' hx D4 => ⟨x, rfl, D3.trans D4, fun _ => ⟨.inl (vt c), hx⟩, fun z => absurd (vt c) z⟩⟩
 rintro σ' H4 ⟨n, rfl, D4, a1, a2⟩
 refine ⟨Pr fun z => z = 0 \/ z = 1 \/ z = 2, ⟨_, rfl, small (show 2 <= 1000 by decide), fun u hu => ⟨u, _, rfl, .inr (SqT.of zB), rfl, rfl, _, rfl, ite2 (fun c => ?_) (fun c => ?_)⟩⟩, ?_⟩
 ·have c' := mem2.mp (inI (ns := [1, 2]) c)
  have D5 := D4.trans (D4.pen.new hu (.tup ([(1 : Int), 2].map V.int)))
  refine ⟨_, rfl, small (show 3 <= 1000 by decide), fun o2 ho2 => ?_⟩
  have D6 := D5.pen.new ho2 (.lst ([(3 : Int), 3, 12].map V.int))
  refine ⟨_, rfl, st, 3, rfl, by decide, by decide, D6.pen, fun y H7 y0 y1 D7 => ?_⟩
  have eo2 : H7 o2 = some (.lst ([(3 : Int), 3, 12].map V.int)) := D7.keep _ _ (Ne.symm (D5.pen.ne ho2)) zB
  obtain ⟨v, vm, hv2⟩ := qX (ns := [(3 : Int), 3, 12]) y0 y1
  have v' := mem3.mp vm
  exact ⟨o2, _, _, _, rfl, rfl, SqL.of eo2, hv2, st, v, rfl, by (first|lia|omega), by (first|lia|omega), D7.pen, fun x H8 x0 x1 D8 => ⟨x, rfl, D5.trans (D6.trans (D7.trans D8)), fun _ => ⟨by unfold RowOk; (first|lia|omega), Vb.small (by (first|lia|omega))⟩, fun z => by (first|lia|omega)⟩⟩
 ·have c' : ¬ (op = 1 \/ op = 2) := fun z => inN (ns := [1, 2]) c (mem2.mpr z)
  exact ⟨n, rfl, D4.trans (D4.pen.new hu (.tup ([(1 : Int), 2].map V.int))), fun z => a1 (by (first|lia|omega)), fun z => a2 (by (first|lia|omega))⟩
 clear a1 a2 D4
 rintro σ' H4 ⟨n, rfl, D4, a1, a2⟩
 refine ⟨Pr fun z => z = 0 \/ z = 1 \/ z = 2 \/ z = 4 \/ z = 5, ⟨_, rfl, small (show 2 <= 1000 by decide), fun u hu => ⟨u, _, rfl, .inr (SqT.of zB), rfl, rfl, _, rfl, ite2 (fun c => ?_) (fun c => ?_)⟩⟩, ?_⟩
 ·have c' := mem2.mp (inI (ns := [4, 5]) c)
  have D5 := D4.trans (D4.pen.new hu (.tup ([(4 : Int), 5].map V.int)))
  exact ⟨_, rfl, _, rfl, st, many, rfl, m0, by (first|lia|omega), D5.pen, fun x H8 x0 x1 D8 => ⟨x, rfl, D5.trans D8, fun _ => ⟨by unfold RowOk; (first|lia|omega), Vb.small (by (first|lia|omega))⟩, fun z => by (first|lia|omega)⟩⟩
 ·have c' : ¬ (op = 4 \/ op = 5) := fun z => inN (ns := [4, 5]) c (mem2.mpr z)
  exact ⟨n, rfl, D4.trans (D4.pen.new hu (.tup ([(4 : Int), 5].map V.int))), fun z => a1 (by (first|lia|omega)), fun z => a2 (by (first|lia|omega))⟩
 clear a1 a2 D4
 rintro σ' H4 ⟨n, rfl, D4, a1, a2⟩
 refine ⟨Pr fun z => z = 0 \/ z = 1 \/ z = 2 \/ z = 4 \/ z = 5 \/ z = 6, ⟨_, rfl, rfl, _, rfl, ite2 (fun c => ?_) (fun c => ?_)⟩, ?_⟩
 ·have c' := vt c
  obtain ⟨rs, er, pr⟩ := G.keep ne hst D4.keep
  have hl := Paired.len pr
  exact ⟨_, rfl, _, rfl, hd, _, rfl, .inl (SqL.of er), st, _, rfl, by (first|lia|omega), by (first|lia|omega), D4.pen, fun x H8 x0 x1 D8 => ⟨x, rfl, D4.trans D8, fun _ => ⟨by unfold RowOk; (first|lia|omega), Vb.small (by (first|lia|omega))⟩, fun z => by (first|lia|omega)⟩⟩
 ·have c' := vf c
  exact ⟨n, rfl, D4, fun z => a1 (by (first|lia|omega)), fun z => a2 (by (first|lia|omega))⟩
 clear a1 a2 D4
 rintro σ' H4 ⟨n, rfl, D4, a1, a2⟩
 refine ⟨Pr fun z => z = 0 \/ z = 1 \/ z = 2 \/ z = 4 \/ z = 5 \/ z = 6 \/ z = 10, ⟨_, rfl, rfl, _, rfl, ite2 (fun c => ?_) (fun c => ?_)⟩, ?_⟩
 ·have c' := vt c
  exact ⟨_, rfl, st, 12, rfl, by decide, by decide, D4.pen, fun x H8 x0 x1 D8 => ⟨_, _, rfl, rfl, 8 + x, rfl, D4.trans D8, fun _ => ⟨by unfold RowOk; (first|lia|omega), Vb.small (by (first|lia|omega))⟩, fun z => by (first|lia|omega)⟩⟩
 ·have c' := vf c
  exact ⟨n, rfl, D4, fun z => a1 (by (first|lia|omega)), fun z => a2 (by (first|lia|omega))⟩
 clear a1 a2 D4
 rintro σ' H4 ⟨n, rfl, D4, a1, a2⟩
 refine ⟨Pr fun _ => True, ⟨_, rfl, rfl, _, rfl, ite2 (fun c => ?_) (fun c => ?_)⟩, ?_⟩
 ·have c' := vt c
  refine ⟨_, rfl, st, 11, rfl, by decide, by decide, D4.pen, fun x H5 x0 x1 D5 => ⟨_, _, rfl, rfl, small (show 3 <= 1000 by decide), fun o2 ho2 => ?_⟩⟩
  have D6 := D5.pen.new ho2 (.lst ([(2 : Int), 3, 2 + x].map V.int))
  refine ⟨_, rfl, st, 3, rfl, by decide, by decide, D6.pen, fun y H7 y0 y1 D7 => ?_⟩
  have eo2 : H7 o2 = some (.lst ([(2 : Int), 3, 2 + x].map V.int)) := D7.keep _ _ (Ne.symm (D5.pen.ne ho2)) zB
  obtain ⟨v, vm, hv2⟩ := qX (ns := [(2 : Int), 3, 2 + x]) y0 y1
  have v' := mem3.mp vm
  exact ⟨o2, _, _, _, rfl, rfl, SqL.of eo2, hv2, v, rfl, D4.trans (D5.trans (D6.trans D7)), fun _ => ⟨by unfold RowOk; (first|lia|omega), Vb.small (by (first|lia|omega))⟩, fun z => absurd trivial z⟩
 ·have c' := vf c
  refine ⟨n, rfl, D4, fun z => ?_, fun z => absurd trivial z⟩
  by_cases hop : op = 0 \/ op = 1 \/ op = 2 \/ op = 4 \/ op = 5 \/ op = 6 \/ op = 10
  ·exact a1 hop
  ·have := a2 hop
   exact ⟨by unfold RowOk; (first|lia|omega), Vb.small (by (first|lia|omega))⟩
 clear a1 a2 D4
 rintro σ' H4 ⟨n, rfl, D4, a1, a2⟩
 obtain ⟨ok, nb⟩ := a1 trivial
 refine ⟨_, rfl, _, rfl, _, rfl, _, rfl, op, n, hd, hs, rfl, G.keep ne hst D4.keep, h3, ok.fit, fun r2 H5 g5 => ⟨_, _, rfl, rfl, _, rfl, ite2 (fun c => ?_) (fun c => ?_)⟩⟩
 ·have D5 := D4.trans (D4.pen.more g5)
  refine ⟨_, rfl, st, 9, rfl, by decide, by decide, D5.pen, fun y H6 _ _ D6 => ⟨_, _, rfl, rfl, _, rfl, ite2 (fun c => ?_) (fun c => ?_)⟩⟩
  ·exact ⟨_, rfl, st, rfl, D6.pen, fun x H7 hx D7 => ⟨small (show 2 <= 1000 by decide), fun t ht => q t 0 x _ (D5.trans (D6.trans (D7.trans (D7.pen.new ht _)))) zB (.inl rfl) hx⟩⟩
  ·exact ⟨_, rfl, _, rfl, small (show 2 <= 1000 by decide), fun t ht => q t op n _ (D5.trans (D6.trans (D6.pen.new ht _))) zB ok nb⟩
 ·have D5 := D4.trans (D4.pen.more g5)
  exact iteF ⟨_, rfl, _, rfl, small (show 2 <= 1000 by decide), fun t ht => q t op n _ (D5.trans (D5.pen.new ht _)) zB ok nb⟩

def spCodeB (K : PySem.W.Frag) : Sp := fun vs H Q _ => ∃ st, vs = [.ref st] /\ Pen K H st /\
 ∀ t hd rw hs rs H', Penned K st H H' -> H' t = some (.tup [.ref hd, .ref rw]) -> GrpAt H' hd hs -> GrpAt H' rw rs -> H hd = none -> H rw = none -> hd ≠ rw -> CodeParts hs rs -> (∀ g ∈ rs, ∀ x ∈ g, Vb x) -> rs.length <= 24 -> Q (.ref t) H'
theorem ok_code (T : Txt K mg) (F : Fun K "_law_code" "_law_code" jJ f fd) (C_law_take : Cal P w K mg base (CXE P w) 2 "_law_take" ["_law_pen_here", "_law_many"] (spTake4 K)) (C_law_row : Cal P w K mg base (CXE P w) 4 "_law_row" ["_law_pen_here", "_law_height_here", "_law_many", "_law_heads"] (spRowB K)) (C_law_height : Cal P w K mg base (CXE P w) 2 "_law_height" ["_law_op", "_law_number_here", "_law_heads", "_law_height_here"] spHeight) :
  FnOk P w K mg base (CXE P w) 5 f fd ["_law_pen_here"] (spCodeB K) := by
 refine F.okN yL (fun vs H Q E h => ?_) (fun cdv A outer s H vs Q E hr h => ?_)
 ·obtain ⟨st, rfl, _⟩ := h
  rfl
 obtain ⟨st, rfl, D, q⟩ := h
 refine ⟨_, (zE (zT (i := 1) yL.nd rfl (Or.inl rfl) (zR xF zF (zH C_law_take hr rfl (zA (pv 0) (zA zF zC)) passN)))
   (zE (zT (i := 2) yL.nd rfl (Or.inl rfl) (zV zC))
   (zE (qO PassesOwn.never rfl (kE rfl T.n_range (zA (zX zP (zV (zA zF (zA zF (zA zF (zA (zR xF zF (zH C_law_take hr rfl (zA (pv 0) (zA zF zC)) passN)) zC))))) (zH C_law_take hr rfl (zA (pv 0) (zA zF zC)) passN) (fun _ _ => rfl)) zC)) (yH (i := 3) yL.nd rfl (Or.inl rfl)) (zE (zT (i := 4) yL.nd rfl (Or.inl rfl) (zR vG (zH C_law_take hr rfl (zA (pv 0) (zA zF zC)) passN) (jA call_int1 rfl T.n_int bt_int (zA (kU op_gt (pv 3) zF (nomark _)) zC))))
   (zG (yI (wI PySem.F.plainAttrs_list PySem.F.slot_list_append PySem.F.type_list_append yZ (pv 2) (zA (zM (zA zF (zA (pv 4) (zA (zR xF (pv 4) (zH C_law_take hr rfl (zA (pv 0) (zA (zX zP (zV (zA zF (zA (zR xQ zF (pv 4)) zC))) (zH C_law_take hr rfl (zA (pv 0) (zA zF zC)) passN) (fun _ _ => rfl)) zC)) passN)) zC)))) zC))))))
   (zE (zT (i := 5) yL.nd rfl (Or.inl rfl) (zV zC))
   (zE (zT (i := 6) yL.nd rfl (Or.inl rfl) (zV zC))
   (zE (zT (i := 7) yL.nd rfl (Or.inl rfl) zF)
   (zE (qO PassesOwn.never rfl (kE rfl T.n_range (zA (pv 1) zC)) (yH (i := 3) yL.nd rfl (Or.inl rfl)) (zE (qZ (zW (zI yJ (pv 7) zF (nomark _)) (zG (yI (wI PySem.F.plainAttrs_list PySem.F.slot_list_append PySem.F.type_list_append yZ (pv 6) (zA (pv 3) zC)))) zN))
   (zE (yI (wI PySem.F.plainAttrs_list PySem.F.slot_list_append PySem.F.type_list_append yZ (pv 5) (zA (zH C_law_row hr rfl (zA (pv 0) (zA (pv 7) (zA (pv 1) (zA (pv 2) zC)))) passN) zC)))
   (zG (zT (i := 7) yL.nd rfl (Or.inl rfl) (zH C_law_height hr rfl (zA (zX ix_tup (zX zP (pv 5) (pv 3) (fun _ _ => rfl)) zF (fun _ _ => rfl)) (zA (zX ix_tup (zX zP (pv 5) (pv 3) (fun _ _ => rfl)) zF (fun _ _ => rfl)) (zA (pv 2) (zA (pv 7) zC)))) passN))))))
   (zE (qO PassesOwn.never rfl (kE rfl T.n_range (zA (zU zQ rfl T.n_len yS (zA (pv 2) zC)) zC)) (yH (i := 3) yL.nd rfl (Or.inl rfl)) (zE (zT (i := 8) yL.nd rfl (Or.inl rfl) (zX zP (pv 6) (zH C_law_take hr rfl (zA (pv 0) (zA (zU zQ rfl T.n_len yS (zA (pv 6) zC)) zC)) passN) (fun _ _ => rfl)))
   (zE (qZ (zW (PW.pt (pw_and (zI yJ (pv 3) zF (nomark _)) (pw_and1 (zI op_gt (zH C_law_take hr rfl (zA (pv 0) (zA zF zC)) passN) zF (nomark _))))) (zG (zT (i := 8) yL.nd rfl (Or.inl rfl) zF)) zN))
   (zG (jQ (zM (zA (pv 8) (zA (zX ix_tup (zX zP (pv 2) (pv 3) (fun _ _ => rfl)) zF (fun _ _ => rfl)) (zA (zX ix_tup (zX zP (pv 2) (pv 3) (fun _ _ => rfl)) zF (fun _ _ => rfl)) zC)))) (pg_sub (pv 2) (pv 3) qI))))))
   (zG (zL (zM (zA (pv 2) (zA (pv 5) zC))))))))))))), ?_⟩
 try dsimp only [Cx.nox, Cx.exc, Cx.wish, zY]
 refine ⟨_, rfl, st, 24, rfl, by decide, by decide, D, fun r H1 r0 r1 d1 => ⟨_, _, rfl, rfl, ?_⟩⟩
 obtain ⟨many, em⟩ : ∃ many : Nat, 1 + r = (many : Int) /\ 1 <= many /\ many <= 24 := ⟨(1 + r).toNat, by (first|lia|omega), by (first|lia|omega), by (first|lia|omega)⟩
 obtain ⟨em, em1, em24⟩ := em
 refine ⟨small (show 0 <= 1000 by decide), fun hd hhd => ?_⟩
 have nsh := d1.pen.ne hhd
 have d2 := d1.trans (d1.pen.new hhd (.lst []))
 have nH : H hd = none := d1.free hhd
 refine ⟨_, rfl, st, 16, rfl, by decide, by decide, d2.pen, fun r3 H3 a3 b3 d3 => ⟨_, _, rfl, rfl, small (show 4 <= 1000 by decide), fun o ho => ?_⟩⟩
 have d4 := d2.trans (d3.trans (d3.pen.new ho (.lst ([(1 : Int), 2, 3, 1 + r3].map V.int))))
 have ehd4 : upd H3 o (.lst ([(1 : Int), 2, 3, 1 + r3].map V.int)) hd = some (.lst []) := zD ho _ _ _ (d3.keep _ _ (Ne.symm nsh) zB)
 refine ⟨_, rfl, st, 4, rfl, by decide, by decide, d4.pen, fun r5 H5 a5 b5 d5 => ?_⟩
 have eo : H5 o = some (.lst ([(1 : Int), 2, 3, 1 + r3].map V.int)) := d5.keep _ _ (Ne.symm (d3.pen.ne ho)) zB
 obtain ⟨v, vm, hv⟩ := qX (ns := [(1 : Int), 2, 3, 1 + r3]) a5 b5
 have v' : v = 1 \/ v = 2 \/ v = 3 \/ v = 1 + r3 := by simpa using vm
 have ehd5 := d5.keep _ _ (Ne.symm nsh) ehd4
 have d6 := d4.trans d5
 refine ⟨o, _, _, _, rfl, rfl, SqL.of eo, hv, _, rfl, by (first|lia|omega), by (first|lia|omega), wO (lo := 0) (n := v.toNat) (fun i σ' H' => ∃ (hs : List (List Int)) (v3 v4 : Option V), σ' = [some (.ref st), some (.int (many : Int)), some (.ref hd), v3, v4, none, none, none, none] /\ hs.length = i /\ Penned K st H H' /\ GrpAt H' hd hs /\
   ∀ j g, hs[j]? = some g -> isHead g j many) ⟨[], none, none, by rw [<- em] <;> rfl, rfl, d6, ⟨[], ehd5, .nil⟩, fun j g e => by simp at e⟩ ?_ ?_⟩
 ·rintro i σ' H' hi ⟨hs, v3, v4, rfl, hn, dd, ⟨rs, er, pr⟩, al⟩
  refine ⟨_, rfl, st, 5, rfl, by decide, by decide, dd.pen, fun r5 H5 a5 b5 d5 => ?_⟩
  refine ⟨_, rfl, _, _, rfl, rfl, .inr ⟨_, rfl, _, _, rfl, rfl, .inl ⟨by (first|lia|omega), by (first|lia|omega)⟩, ?_⟩⟩
  obtain ⟨pa, hp⟩ : ∃ pa, r5 * (if decide (0 < (0 : Int) + (i : Int)) = true then 1 else 0) = pa := ⟨_, rfl⟩
  show gName 4 (V.int (r5 * (if decide (0 < (0 : Int) + (i : Int)) = true then 1 else 0))) _ _ _
  rw [hp]
  have p0 : 0 <= pa /\ pa <= 4 /\ (i = 0 -> pa = 0) := by
   rw [<- hp]
   by_cases c : 0 < i
   ·rw [if_pos (decide_eq_true (by (first|lia|omega)))]; (first|lia|omega)
   ·rw [if_neg (fun z => by have := of_decide_eq_true z; (first|lia|omega))]; (first|lia|omega)
  have er5 := d5.keep hd _ (Ne.symm nsh) er
  refine ⟨_, rfl, .inl ⟨rfl, _, SqL.of er5⟩, _, rfl, _, rfl, _, rfl, _, rfl, _, _, rfl, rfl, small (show 2 <= 1000 by decide), fun p6 hp6 => ?_⟩
  have d6 := d5.pen.new hp6 (.lst [.int 3, .int (13 - pa)])
  refine ⟨_, rfl, st, 2, rfl, by decide, by decide, d6.pen, fun r7 H7 a7 b7 d7 => ?_⟩
  obtain ⟨mm, am, m0, m13⟩ : ∃ mm : Int, atI [V.int 3, V.int (13 - pa)] r7 = some (.int mm) /\ 0 < mm /\ pa + mm <= 13 := by
   rcases (show r7 = 0 \/ r7 = 1 by (first|lia|omega)) with rfl | rfl
   ·exact ⟨3, rfl, by (first|lia|omega), by (first|lia|omega)⟩
   ·exact ⟨13 - pa, rfl, by (first|lia|omega), by (first|lia|omega)⟩
  have e7 := d7.keep _ _ (Ne.symm (d5.pen.ne hp6)) zB
  refine ⟨p6, _, _, _, rfl, rfl, SqL.of e7, am, st, mm, rfl, m0, by (first|lia|omega), d7.pen, fun r8 H8 a8 b8 d8 => ?_⟩
  refine ⟨_, _, rfl, rfl, small (show 3 <= 1000 by decide), fun t9 ht9 => ?_⟩
  have k9 := d5.trans (d6.trans (d7.trans (d8.trans (d8.pen.new ht9 (.tup ([0, pa, pa + r8].map V.int))))))
  have er9 := k9.keep hd _ (Ne.symm nsh) er
  obtain ⟨rs9, er9', pr9⟩ := GrpAt.pen ⟨rs, er, pr⟩ (Ne.symm nsh) dd.pen k9
  have ee : rs9 = rs := by
   have : some (HO.lst rs9) = some (HO.lst rs) := er9'.symm.trans er9
   cases this
   rfl
  subst ee
  have hl9 : rs9.length = i := (Paired.len pr9).trans hn
  refine ⟨hd, _, _, rfl, rfl, er9, small1000 (by (first|lia|omega)), ?_⟩
  refine ⟨hs ++ [[0, pa, pa + r8]], _, _, rfl, by rw [List.length_append, hn] <;> rfl, (dd.trans k9).putNew nH er9 (Ne.symm nsh), GrpAt.push er9 pr9 ⟨t9, rfl, zB⟩, fun j g e => ?_⟩
  rcases snoc_get e with e | ⟨e1, e2⟩
  ·exact al j g e
  ·refine ⟨0, pa, pa + r8, e2, by (first|lia|omega), by (first|lia|omega), by (first|lia|omega), by (first|lia|omega), fun z => p0.2.2 (by (first|lia|omega)), by (first|lia|omega), by (first|lia|omega)⟩
 ·rintro σ' H' ⟨hs, v3, v4, rfl, hn, dd, G, al⟩
  have hn1 : 1 <= hs.length /\ hs.length <= 16 := by (first|lia|omega)
  have h3 : Heads3 hs := fun g hg => by
   obtain ⟨j, hj⟩ := List.mem_iff_getElem?.mp hg
   obtain ⟨_, _, _, rfl, _⟩ := al j g hj
   rfl
  refine ⟨small (show 0 <= 1000 by decide), fun rw_ hrw => ?_⟩
  have G1 := G.same (zD hrw (.lst []))
  have d1' := dd.trans (dd.pen.new hrw (.lst []))
  have nrs := dd.pen.ne hrw
  have nrH := dd.free hrw
  have nhr : hd ≠ rw_ := fun z => by
   obtain ⟨rs, e, _⟩ := G
   rw [z, hrw] at e
   cases e
  refine ⟨small (show 0 <= 1000 by decide), fun fw hfw => ?_⟩
  have G2 := G1.same (zD hfw (.lst []))
  have d2' := d1'.trans (d1'.pen.new hfw (.lst []))
  have nfs := d1'.pen.ne hfw
  have nfH := d1'.free hfw
  have nfr : rw_ ≠ fw := fun z => by
   rw [<- z, zB] at hfw
   cases hfw
  have nhf : hd ≠ fw := fun z => by
   obtain ⟨rs, e, _⟩ := G1
   rw [z, hfw] at e
   cases e
  refine ⟨_, rfl, _, rfl, by (first|lia|omega), by (first|lia|omega), wO (lo := 0) (n := (many : Int).toNat) (fun i σ' H' => ∃ (rs : List (List Int)) (fl : List Int) (hg : Int) (w3 w4 : Option V), σ' = [some (.ref st), some (.int (many : Int)), some (.ref hd), w3, w4, some (.ref rw_), some (.ref fw), some (.int hg), none] /\ rs.length = i /\ Penned K st H H' /\ GrpAt H' hd hs /\ GrpAt H' rw_ rs /\
    H' fw = some (.lst (fl.map V.int)) /\ fl.length <= i /\ (i = 0 -> hg = 0) /\ (0 < i -> 0 < fl.length) /\ (∀ x ∈ fl, 0 <= x /\ x < many) /\ ∀ g ∈ rs, isRow g hs.length many /\ ∀ x ∈ g, Vb x)
    ⟨[], [], 0, v3, v4, rfl, rfl, d2', G2, ⟨[], zD hfw _ _ _ zB, .nil⟩, zB, Nat.le_refl _, fun _ => rfl, fun z => absurd z (Nat.lt_irrefl 0), fun x hx => (nomatch hx), fun g hg => (nomatch hg)⟩ ?_ ?_⟩
  ·rintro i σ' H6 hi ⟨rs, fl, hg, w3, w4, rfl, ln, dd6, GH, GR, ef, lf, z0, zf, fb, rb⟩
   refine ⟨fun σ' H' => ∃ fl' : List Int, σ' = [some (.ref st), some (.int (many : Int)), some (.ref hd), some (.int (0 + (i : Int))), w4, some (.ref rw_), some (.ref fw), some (.int hg), none] /\ Penned K st H H' /\ GrpAt H' hd hs /\ GrpAt H' rw_ rs /\ H' fw = some (.lst (fl'.map V.int)) /\ fl'.length <= i + 1 /\ 0 < fl'.length /\ ∀ x ∈ fl', 0 <= x /\ x < many, ⟨_, rfl, rfl, _, rfl, ite2 (fun c => ?_) (fun c => ?_)⟩, ?_⟩
   ·refine ⟨_, rfl, .inl ⟨rfl, _, SqL.of ef⟩, _, rfl, fw, _, _, rfl, rfl, ef, small1000 (by rw [List.length_map]; (first|lia|omega)), ?_⟩
    refine ⟨fl ++ [0 + (i : Int)], rfl, dd6.putNew nfH ef (Ne.symm nfs), GH.put ef nhf, GR.put ef nfr, ?_, ?_, ?_, fun x hx => ?_⟩
    ·rw [List.map_append]; exact zB
    ·rw [List.length_append]; exact Nat.add_le_add lf (Nat.le_refl 1)
    ·rw [List.length_append]; exact Nat.succ_pos _
    ·rcases List.mem_append.mp hx with z | z
     ·exact fb x z
     ·have := List.mem_singleton.mp z
      (first|lia|omega)
   ·have i0 : 0 < i := Nat.pos_of_ne_zero fun z => vf c (z0 z)
    exact ⟨fl, rfl, dd6, GH, GR, ef, by (first|lia|omega), zf i0, fb⟩
   clear fb ef lf zf
   rintro σ' H7 ⟨fl, rfl, dd7, GH, GR, ef, lf, zf, fb⟩
   obtain ⟨rv, erv, prv⟩ := id GR
   have lrv : rv.length = i := (Paired.len prv).trans ln
   refine ⟨_, rfl, .inl ⟨rfl, _, SqL.of erv⟩, _, rfl, _, rfl, _, rfl, _, rfl, st, hd, hg, many, hs, rfl, dd7.pen, by (first|lia|omega), by (first|lia|omega), GH, h3, hn1.1, hn1.2, Ne.symm nsh, fun t op nu H8 d8 et ok nb => ?_⟩
   have erv8 := d8.keep _ _ (Ne.symm nrs) erv
   have GH8 := GH.pen (Ne.symm nsh) dd7.pen d8
   obtain ⟨rv8, e8, pr8⟩ := GR.pen (Ne.symm nrs) dd7.pen d8
   have ee : rv8 = rv := by
    have : some (HO.lst rv8) = some (HO.lst rv) := e8.symm.trans erv8
    cases this
    rfl
   subst ee
   have ntr : t ≠ rw_ := fun z => by rw [z, e8] at et; cases et
   refine ⟨rw_, _, _, rfl, rfl, e8, small1000 (by (first|lia|omega)), ?_⟩
   have GRn := GrpAt.push e8 pr8 (g := [op, nu]) ⟨t, rfl, et⟩
   have GHn := GH8.put e8 nhr (ys := rv8 ++ [.ref t])
   have dd9 := (dd7.trans d8).putNew nrH e8 (Ne.symm nrs) (ys := rv8 ++ [.ref t])
   have ef9 : upd H8 rw_ (.lst (rv8 ++ [.ref t])) fw = some (.lst (fl.map V.int)) := by rw [zJ (Ne.symm nfr)]; exact d8.keep _ _ (Ne.symm nfs) ef
   have et9 : upd H8 rw_ (.lst (rv8 ++ [.ref t])) t = some (.tup [.int op, .int nu]) := by rw [zJ ntr]; exact et
   have atk : atI (rv8 ++ [V.ref t]) (0 + (i : Int)) = some (.ref t) := kJ (by (first|lia|omega)) (by
    rw [show (0 + (i : Int)).toNat = rv8.length by (first|lia|omega), List.getElem?_append_right (Nat.le_refl _), Nat.sub_self] <;> rfl)
   refine ⟨_, rfl, _, rfl, rw_, _, _, _, rfl, rfl, SqL.of zB, atk, t, _, _, _, rfl, rfl, SqT.of et9, rfl, _, rfl, _, rfl, rw_, _, _, _, rfl, rfl, SqL.of zB, atk, t, _, _, _, rfl, rfl, SqT.of et9, rfl, _, rfl, _, rfl, op, nu, hg, hd, hs, rfl, GHn, h3, ok.fit, fun r H10 g10 => ?_⟩
   refine ⟨rs ++ [[op, nu]], fl, r, _, _, rfl, by rw [List.length_append, ln] <;> rfl, dd9.trans (dd9.pen.more g10), GHn.same g10, GRn.same g10, g10 _ _ ef9, lf, fun z => absurd z (Nat.succ_ne_zero i), fun _ => zf, fb, fun g hg' => ?_⟩
   rcases List.mem_append.mp hg' with z | z
   ·exact rb g z
   ·refine ⟨⟨op, nu, List.mem_singleton.mp z, ok⟩, fun x hx => ?_⟩
    rw [List.mem_singleton.mp z] at hx
    rcases List.mem_cons.mp hx with rfl | hx
    ·exact Vb.small (by have := ok.fit.lo; have := ok.fit.hi; (first|lia|omega))
    ·rw [List.mem_singleton.mp hx]; exact nb
  ·rintro σ' H6 ⟨rs, fl, hg, w3, w4, rfl, ln, dd6, GH, GR, ef, lf, _, zf, fb, rb⟩
   have ln' : rs.length = many := by (first|lia|omega)
   have zf' := zf (by (first|lia|omega))
   obtain ⟨rh, erh, prh⟩ := id GH
   have lrh := Paired.len prh
   refine ⟨_, rfl, hd, _, rfl, .inl (SqL.of erh), _, rfl, by (first|lia|omega), by (first|lia|omega), wO (lo := 0) (n := (rh.length : Int).toNat) (fun i σ' H' => ∃ (hs' : List (List Int)) (w3 w8 : Option V), σ' = [some (.ref st), some (.int (many : Int)), some (.ref hd), w3, w4, some (.ref rw_), some (.ref fw), some (.int hg), w8] /\ hs'.length = hs.length /\ Penned K st H H' /\ GrpAt H' hd hs' /\ GrpAt H' rw_ rs /\
    H' fw = some (.lst (fl.map V.int)) /\ ∀ j g, hs'[j]? = some g -> isHead g j many) ⟨hs, w3, none, rfl, rfl, dd6, GH, GR, ef, al⟩ ?_ ?_⟩
   ·rintro i σ' H7 hi ⟨hs', w3, w8, rfl, lh', dd7, GH7, GR7, ef7, al7⟩
    refine ⟨_, rfl, _, rfl, _, rfl, fw, _, rfl, .inl (SqL.of ef7), st, _, rfl, by rw [List.length_map]; (first|lia|omega), by rw [List.length_map]; (first|lia|omega), dd7.pen, fun r H8 r0 r1 d8 => ?_⟩
    have ef8 := d8.keep _ _ (Ne.symm nfs) ef7
    obtain ⟨s0, sm, hv⟩ := qX (ns := fl) r0 (by rw [List.length_map] at r1; exact r1)
    have sb := fb s0 sm
    refine ⟨fw, _, _, _, rfl, rfl, SqL.of ef8, hv, ?_⟩
    refine ⟨fun σ' H' => ∃ s : Int, σ' = [some (.ref st), some (.int (many : Int)), some (.ref hd), some (.int (0 + (i : Int))), w4, some (.ref rw_), some (.ref fw), some (.int hg), some (.int s)] /\ Penned K st H7 H' /\ 0 <= s /\ s < many, ⟨_, rfl, rfl, _, rfl, ite2 (fun c => ?_) (fun c => iteF ⟨s0, rfl, d8, sb.1, sb.2⟩)⟩, ?_⟩
    ·exact ⟨_, rfl, st, 4, rfl, by decide, by decide, d8.pen, fun y H9 _ _ d9 => ⟨_, _, rfl, rfl, _, rfl, ite2 (fun c => ⟨0, rfl, d8.trans d9, by (first|lia|omega), by (first|lia|omega)⟩) (fun c => ⟨s0, rfl, d8.trans d9, sb.1, sb.2⟩)⟩⟩
    rintro σ' H9 ⟨s, rfl, d9, s0', s1'⟩
    have GH9 := GH7.pen (Ne.symm nsh) dd7.pen d9
    have GR9 := GR7.pen (Ne.symm nrs) dd7.pen d9
    have ef9 := d9.keep _ _ (Ne.symm nfs) ef7
    obtain ⟨rv, erv, prv⟩ := id GH9
    have lrv := Paired.len prv
    have hir : i < rv.length := by (first|lia|omega)
    obtain ⟨g, hgj, th, eth, hth⟩ := Paired.yonder prv (List.getElem?_eq_getElem hir)
    obtain ⟨x, y, z, rfl, okh⟩ := al7 i g hgj
    have atk : atI rv (0 + (i : Int)) = some (.ref th) := kJ (by (first|lia|omega)) (by rw [show (0 + (i : Int)).toNat = i by (first|lia|omega), List.getElem?_eq_getElem hir, eth])
    refine ⟨_, rfl, _, rfl, _, rfl, hd, _, _, _, rfl, rfl, SqL.of erv, atk, th, _, _, _, rfl, rfl, SqT.of hth, rfl, _, rfl, _, rfl, hd, _, _, _, rfl, rfl, SqL.of erv, atk, th, _, _, _, rfl, rfl, SqT.of hth, rfl, small (show 3 <= 1000 by decide), fun t ht => ?_⟩
    have dA := d9.trans (d9.pen.new ht (.tup ([s, y, z].map V.int)))
    have gA := zD ht (.tup ([s, y, z].map V.int))
    have ei : ixN rv.length (0 + (i : Int)) = some i := by
     unfold ixN
     rw [if_pos (by (first|lia|omega)), if_pos (by (first|lia|omega)), show (0 + (i : Int)).toNat = i by (first|lia|omega)]
    have ervA := gA _ _ erv
    refine ⟨_, rfl, _, rfl, hd, _, _, _, rfl, rfl, ervA, ei, ?_⟩
    refine ⟨hs'.set i [s, y, z], _, _, rfl, by rw [List.length_set]; exact lh', (dd7.trans dA).putNew nH ervA (Ne.symm nsh), GrpAt.setAt i ervA (Paired.imp (fun _ _ x => x.same gA) prv) ⟨t, rfl, zB⟩, (GR9.same gA).put ervA (Ne.symm nhr), by rw [zJ (Ne.symm nhf)]; exact gA _ _ ef9, fun j g e => ?_⟩
    by_cases hj : j = i
    ·subst hj
     rw [List.getElem?_set_self (by (first|lia|omega))] at e
     cases e
     unfold HeadOk at okh
     exact ⟨s, y, z, rfl, by unfold HeadOk; (first|lia|omega)⟩
    ·rw [List.getElem?_set_ne (Ne.symm hj)] at e
     exact al7 j g e
   ·rintro σ' H7 ⟨hs', w3, w8, rfl, lh', dd7, GH7, GR7, ef7, al7⟩
    refine ⟨_, rfl, _, rfl, small (show 2 <= 1000 by decide), fun t ht => ?_⟩
    have gA := zD ht (.tup [.ref hd, .ref rw_])
    exact q t hd rw_ hs' rs _ (dd7.trans (dd7.pen.more gA)) zB (GH7.same gA) (GR7.same gA) nH nrH nhr ⟨by (first|lia|omega), by (first|lia|omega), by (first|lia|omega), by (first|lia|omega), by rw [ln']; exact al7, by rw [ln', lh']; exact fun g hg => (rb g hg).1⟩ (fun g hg => (rb g hg).2) (by (first|lia|omega))

end
section
variable {P : Program} {w : World} {K : PySem.W.Frag} {mg : Str -> Option Value} {base : Heap} {f : Addr} {fd : FuncData}
set_option maxHeartbeats 4000000

structure TxtW (K : PySem.W.Frag) (mg : Str -> Option Value) (CN CT CR CM CC CE : Addr) : Prop extends Txt K mg where
 n_ValueError : mg "ValueError" = none
 m_NoSheet : mg "NoSheet" = some (.ref CN)
 m_NoText : mg "NoText" = some (.ref CT)
 m_NoRow : mg "NoRow" = some (.ref CR)
 m_NoName : mg "NoName" = some (.ref CM)
 m_NoCode : mg "NoCode" = some (.ref CC)
 m_ChainError : mg "ChainError" = some (.ref CE)
 exc : ExCls K CC
 is : IsCls K CC
 mch : Mch K CC CE
 kN : PySem.W.kitOne K (.ref CC) (.ref CN) = some false
 kT : PySem.W.kitOne K (.ref CC) (.ref CT) = some false
 kR : PySem.W.kitOne K (.ref CC) (.ref CR) = some false
 kM : PySem.W.kitOne K (.ref CC) (.ref CM) = some false
 kC : PySem.W.kitOne K (.ref CC) (.ref CC) = some true
 kV : PySem.W.kitOne K (.ref CC) (.type "ValueError") = some true
variable {CN CT CR CM CC CE : Addr}
def spWord (CC : Addr) : Sp := fun vs H Q _ => (vs = [.non] /\ Q (.str "told") H) \/ ∃ x, vs = [.ref x] /\ H x = some (ExO x CC none) /\ ∀ H', Same H H' -> Q (.str "code") H'
theorem ok_word (T : TxtW K mg CN CT CR CM CC CE) (F : Fun K "_law_word" "_law_word" jG f fd) : FnOk P w K mg base (CXE P w) 1 f fd ["_law_caught"] (spWord CC) := by
 refine F.okN sc__law_word (fun vs H Q E h => ?_) (fun cdv A outer s H vs Q E hr h => ?_)
 ·rcases h with ⟨rfl, _⟩ | ⟨x, rfl, _⟩
  ·rfl
  ·rfl
 refine ⟨_, (zE (zW (zI op_isN (pv 0) xI (nomark _)) (zG (zL jB)) zN)
   (zE (zT (i := 1) sc__law_word.nd rfl (Or.inl rfl) (zU call_isO rfl T.n_isinstance yV (zA (pv 0) (zA (zM (zA (pe_gref rfl T.m_NoSheet) (zA (pe_gref rfl T.m_NoText) (zA (pe_gref rfl T.m_NoRow) (zA (pe_gref rfl T.m_NoName) zC))))) zC))))
   (zG (zL (zX zP (zV (zS (.str (.str .nil)))) (jA call_int1 rfl T.n_int bt_int (zA (vD (zU call_isO rfl T.n_isinstance yV (zA (pv 0) (zA (pe_gref rfl T.m_NoCode) zC))) (vD (zU call_isO rfl T.n_isinstance yV (zA (pv 0) (zA (qT (v := .ty "ValueError") rfl T.n_ValueError bt_ValueError rfl) zC))) (pe_one (pe_not (pv 1))))) zC)) (fun _ _ => rfl)))))), ?_⟩
 try dsimp only [Cx.nox, Cx.exc, Cx.wish, zY]
 rcases h with ⟨rfl, q⟩ | ⟨x, rfl, ex, q⟩
 ·exact ⟨_, rfl, rfl, _, rfl, iteT q⟩
 refine ⟨_, rfl, rfl, _, rfl, iteF ?_⟩
 have ea : ∀ {H1 : Hp}, Same H H1 -> ExcAt K H1 x CC := fun g => ⟨none, g _ _ ex, fun d e => (nomatch e), T.exc, T.is⟩
 refine ⟨_, rfl, small (show 4 <= 1000 by decide), fun tp htp => ?_⟩
 have s1 := zD htp (.tup (([CN, CT, CR, CM] : List Addr).map V.ref))
 refine ⟨x, CC, false, ea s1, .inr (.inr ⟨tp, [CN, CT, CR, CM], rfl, zB, kit_no4 T.kN T.kT T.kR T.kM⟩), ?_⟩
 try dsimp only [gName, List.set]
 refine ⟨small (show 2 <= 1000 by decide), fun l hl => ?_⟩
 have s2 := s1.trans (zD hl (.lst [.str "other", .str "code"]))
 refine ⟨_, rfl, x, CC, true, ea s2, .inr (.inl ⟨_, rfl, T.kC⟩), _, rfl, iteT ?_⟩
 refine ⟨_, rfl, x, CC, true, ea s2, .inl ⟨_, rfl, T.kV⟩, _, rfl, iteT ?_⟩
 refine ⟨_, rfl, _, rfl, .inr ⟨true, rfl, ?_⟩⟩
 exact ⟨l, _, _, _, rfl, rfl, SqL.of zB, rfl, q _ s2⟩
def NoRow (nf nr : Int) (g : List Int) : Prop := ∃ op n, g = [op, n] /\ ¬ RowOk op n nf nr
def spBadRow (K : PySem.W.Frag) : Sp := fun vs H Q _ => ∃ (st : Addr) (nr nf : Int), vs = [.ref st, .int nr, .int nf] /\ Pen K H st /\ 1 <= nr /\ nr <= 1000 /\ 1 <= nf /\ nf <= 16 /\ ∀ t g H', Penned K st H H' -> H' t = some (.tup (g.map V.int)) -> NoRow nf nr g -> Q (.ref t) H'
theorem ok_bad_row (T : Txt K mg) (F : Fun K "_law_bad_row" "_law_bad_row" xH f fd) (C_law_take : Cal P w K mg base (CXE P w) 2 "_law_take" ["_law_pen_here", "_law_many"] (spTake4 K)) : FnOk P w K mg base (CXE P w) 3 f fd ["_law_pen_here", "_law_many", "_law_count"] (spBadRow K) := by
 refine F.okN jC (fun vs H Q E h => ?_) (fun cdv A outer s H vs Q E hr h => ?_)
 ·obtain ⟨st, nr, nf, rfl, _⟩ := h
  rfl
 obtain ⟨st, nr, nf, rfl, D, r1, r2, f1, f2, q⟩ := h
 refine ⟨_, (zE (zT (i := 3) jC.nd rfl (Or.inl rfl) (zV (zA (zM (zS (.int (.int .nil)))) (zA (zM (zA (qS jM zF) (zA zF zC))) (zA (zM (zS (.int (.int .nil)))) (zA (zM (zA zF (zA (qS jM zF) zC))) (zA (zM (zS (.int (.int .nil)))) (zA (zM (zA zF (zA (qS jM zF) zC))) (zA (zM (zS (.int (.int .nil)))) (zA (zM (zA zF (zA (pv 1) zC))) (zA (zM (zA zF (zA (qS jM zF) zC))) (zA (zM (zA zF (zA (pv 1) zC))) (zA (zM (zA zF (zA (qS jM zF) zC))) zC)))))))))))))
   (zE (zT (i := 3) jC.nd rfl (Or.inl rfl) (zR yT (pv 3) (zV (zA (zM (zA zF (zA (pv 2) zC))) (zA (zM (zA zF (zA (qS jM zF) zC))) (zA (zM (zS (.int (.int .nil)))) (zA (zM (zA zF (zA (qS jM zF) zC))) (zA (zM (zS (.int (.int .nil)))) (zA (zM (zS (.int (.int .nil)))) (zA (zM (zS (.int (.int .nil)))) (zA (zM (zS (.int (.int .nil)))) (zA (zM (zS (.int (.int .nil)))) (zA (zM (zS (.int (.int .nil)))) zC)))))))))))))
   (zE (zT (i := 3) jC.nd rfl (Or.inl rfl) (zR yT (pv 3) (zV (zA (zM (zS (.int (.int .nil)))) (zA (zM (zA (zR op_pow zF zF) (zA zF zC))) (zA (zM (zA zF (zA (zR op_pow zF zF) zC))) (zA (zM (zA zF (zA (qS jM zF) zC))) zC)))))))
   (zG (zL (zX zP (pv 3) (zH C_law_take hr rfl (zA (pv 0) (zA (zU zQ rfl T.n_len yS (zA (pv 3) zC)) zC)) passN) (fun _ _ => rfl))))))), ?_⟩
 try dsimp only [Cx.nox, Cx.exc, Cx.wish, zY]
 have p40 : ((10 : Int) ^ (40 : Int).toNat) > 100000 := by decide
 try dsimp only [gName, List.set, tSeq, tAsg, tRet]
 refine LsT.go (P := NoRow nf nr) (m := 11) ?_ (by decide) (fun p1 H1 s1 _ L1 => ?_)
 ·refine TpsE.cons ?_ (TpsE.cons ?_ (TpsE.cons ?_ (TpsE.cons ?_ (TpsE.cons ?_ (TpsE.cons ?_ (TpsE.cons ?_ (TpsE.cons ?_ (TpsE.cons ?_ (TpsE.cons ?_ (TpsE.cons ?_ TpsE.nil))))))))))
  ·exact TpE.consts (ns := [12, 0]) ⟨_, _, rfl, by unfold RowOk; (first|lia|omega)⟩ (by decide)
  ·exact TpE.two (InE.neg InE.c) InE.c ⟨_, _, rfl, by unfold RowOk; (first|lia|omega)⟩
  ·exact TpE.consts (ns := [1, 12]) ⟨_, _, rfl, by unfold RowOk; (first|lia|omega)⟩ (by decide)
  ·exact TpE.two InE.c (InE.neg InE.c) ⟨_, _, rfl, by unfold RowOk; (first|lia|omega)⟩
  ·exact TpE.consts (ns := [2, 12]) ⟨_, _, rfl, by unfold RowOk; (first|lia|omega)⟩ (by decide)
  ·exact TpE.two InE.c (InE.neg InE.c) ⟨_, _, rfl, by unfold RowOk; (first|lia|omega)⟩
  ·exact TpE.consts (ns := [3, 1]) ⟨_, _, rfl, by unfold RowOk; (first|lia|omega)⟩ (by decide)
  ·exact TpE.two InE.c (InE.v rfl) ⟨_, _, rfl, by unfold RowOk; (first|lia|omega)⟩
  ·exact TpE.two InE.c (InE.neg InE.c) ⟨_, _, rfl, by unfold RowOk; (first|lia|omega)⟩
  ·exact TpE.two InE.c (InE.v rfl) ⟨_, _, rfl, by unfold RowOk; (first|lia|omega)⟩
  ·exact TpE.two InE.c (InE.neg InE.c) ⟨_, _, rfl, by unfold RowOk; (first|lia|omega)⟩
 try dsimp only [gName, List.set, tSeq, tAsg, tRet]
 refine ⟨_, rfl, LsT.go (P := NoRow nf nr) (m := 10) ?_ (by decide) (fun q2 G2 t2 _ M2 => ?_)⟩
 ·refine TpsE.cons ?_ (TpsE.cons ?_ (TpsE.cons ?_ (TpsE.cons ?_ (TpsE.cons ?_ (TpsE.cons ?_ (TpsE.cons ?_ (TpsE.cons ?_ (TpsE.cons ?_ (TpsE.cons ?_ TpsE.nil)))))))))
  ·exact TpE.two InE.c (InE.v rfl) ⟨_, _, rfl, by unfold RowOk; (first|lia|omega)⟩
  ·exact TpE.two InE.c (InE.neg InE.c) ⟨_, _, rfl, by unfold RowOk; (first|lia|omega)⟩
  ·exact TpE.consts (ns := [7, 1]) ⟨_, _, rfl, by unfold RowOk; (first|lia|omega)⟩ (by decide)
  ·exact TpE.two InE.c (InE.neg InE.c) ⟨_, _, rfl, by unfold RowOk; (first|lia|omega)⟩
  ·exact TpE.consts (ns := [9, 7]) ⟨_, _, rfl, by unfold RowOk; (first|lia|omega)⟩ (by decide)
  ·exact TpE.consts (ns := [10, 7]) ⟨_, _, rfl, by unfold RowOk; (first|lia|omega)⟩ (by decide)
  ·exact TpE.consts (ns := [10, 20]) ⟨_, _, rfl, by unfold RowOk; (first|lia|omega)⟩ (by decide)
  ·exact TpE.consts (ns := [10, 0]) ⟨_, _, rfl, by unfold RowOk; (first|lia|omega)⟩ (by decide)
  ·exact TpE.consts (ns := [11, 1]) ⟨_, _, rfl, by unfold RowOk; (first|lia|omega)⟩ (by decide)
  ·exact TpE.consts (ns := [11, 13]) ⟨_, _, rfl, by unfold RowOk; (first|lia|omega)⟩ (by decide)
 have L1 := L1.same t2
 have s1 := s1.trans t2
 obtain ⟨us2, ts2, e2, z2⟩ := id L1
 obtain ⟨us3, ts3, e3, z3⟩ := id M2
 refine ⟨p1, q2, us2, us3, rfl, rfl, e2, e3, small (show us2.length + us3.length <= 1000 by rw [Paired.len z2.1, Paired.len z3.1, z2.2.2, z3.2.2]; decide), fun p1 hp1 => ?_⟩
 have np : p1 ≠ st := Ne.symm ((D.same s1).ne hp1)
 have s4 := zD hp1 (.lst (us2 ++ us3))
 have L1 := L1.cat M2 e2 e3 s4 zB
 have s1 := s1.trans s4
 generalize upd G2 p1 (.lst (us2 ++ us3)) = H1 at L1 s1 ⊢
 try dsimp only [gName, List.set, tSeq, tAsg, tRet]
 clear M2 e2 e3 z2 z3 s4
 refine ⟨_, rfl, LsT.go (P := NoRow nf nr) (m := 4) ?_ (by decide) (fun q3 G3 t3 _ M3 => ?_)⟩
 ·refine TpsE.cons ?_ (TpsE.cons ?_ (TpsE.cons ?_ (TpsE.cons ?_ TpsE.nil)))
  ·exact TpE.consts (ns := [11, 0]) ⟨_, _, rfl, by unfold RowOk; (first|lia|omega)⟩ (by decide)
  ·exact TpE.two (InE.pow ⟨by decide, by decide, by decide⟩) InE.c ⟨_, _, rfl, by unfold RowOk; (first|lia|omega)⟩
  ·exact TpE.two InE.c (InE.pow ⟨by decide, by decide, by decide⟩) ⟨_, _, rfl, by unfold RowOk; (first|lia|omega)⟩
  ·exact TpE.two InE.c (InE.neg InE.c) ⟨_, _, rfl, by unfold RowOk; (first|lia|omega)⟩
 have L1 := L1.same t3
 have s1 := s1.trans t3
 obtain ⟨us2, ts2, e2, z2⟩ := id L1
 obtain ⟨us3, ts3, e3, z3⟩ := id M3
 refine ⟨p1, q3, us2, us3, rfl, rfl, e2, e3, small (show us2.length + us3.length <= 1000 by rw [Paired.len z2.1, Paired.len z3.1, z2.2.2, z3.2.2]; decide), fun p1 hp1 => ?_⟩
 have np : p1 ≠ st := Ne.symm ((D.same s1).ne hp1)
 have s4 := zD hp1 (.lst (us2 ++ us3))
 have L1 := L1.cat M3 e2 e3 s4 zB
 have s1 := s1.trans s4
 generalize upd G3 p1 (.lst (us2 ++ us3)) = H1 at L1 s1 ⊢
 try dsimp only [gName, List.set, tSeq, tAsg, tRet]
 clear M3 e2 e3 z2 z3 s4
 obtain ⟨vs, gs, ev, pp, gg, ll⟩ := id L1
 have lv : vs.length = 25 := by rw [Paired.len pp, ll]
 refine ⟨_, rfl, _, rfl, _, rfl, p1, _, rfl, .inl (SqL.of ev), st, _, rfl, by rw [lv]; decide, by rw [lv]; decide, D.same s1, fun x H2 x0 x1 d2 => ?_⟩
 rw [lv] at x1
 have lx : x.toNat < vs.length := by (first|lia|omega)
 have ey := List.getElem?_eq_getElem lx
 obtain ⟨g, hg, t, et, tt⟩ := Paired.yonder pp ey
 rw [et] at ey
 refine ⟨p1, _, _, _, rfl, rfl, SqL.of (d2.lst ev np), kJ x0 ey, q t g H2 ((D.more s1).trans d2) (d2.keep _ _ (fun z => ?_) tt) (gg g (List.mem_of_getElem? hg))⟩
 obtain ⟨xs, e⟩ := (D.same s1).is
 rw [z, e] at tt; cases tt
def NoHead (fn nr : Int) (g : List Int) : Prop := ∃ s p b, g = [s, p, b] /\ ¬ HeadOk s p b fn nr
def spBadHead (K : PySem.W.Frag) : Sp := fun vs H Q _ => ∃ (st ht : Addr) (fn nr s p b : Int), vs = [.ref st, .ref ht, .int fn, .int nr] /\ Pen K H st /\ H ht = some (.tup [.int s, .int p, .int b]) /\ HeadOk s p b fn nr /\ 0 <= fn /\ 1 <= nr /\ nr <= 1000 /\ ∀ t g H', Penned K st H H' -> H' t = some (.tup (g.map V.int)) -> NoHead fn nr g -> Q (.ref t) H'
theorem ok_bad_head (T : Txt K mg) (F : Fun K "_law_bad_head" "_law_bad_head" xB f fd) (C_law_take : Cal P w K mg base (CXE P w) 2 "_law_take" ["_law_pen_here", "_law_many"] (spTake4 K)) : FnOk P w K mg base (CXE P w) 3 f fd ["_law_pen_here", "_law_head", "_law_at", "_law_many"] (spBadHead K) := by
 refine F.okN yW (fun vs H Q E h => ?_) (fun cdv A outer s H vs Q E hr h => ?_)
 ·obtain ⟨st, ht, fn, nr, s, p, b, rfl, _⟩ := h
  rfl
 obtain ⟨st, ht, fn, nr, s, p, b, rfl, D, eht, ho, f0, r1, r2, q⟩ := h
 refine ⟨_, (zE (jQ (pv 1) (qP rfl (yK (yH (i := 4) yW.nd rfl (Or.inl rfl)) (yK (yH (i := 5) yW.nd rfl (Or.inl rfl)) (yK (yH (i := 6) yW.nd rfl (Or.inl rfl)) jR)))))
   (zE (zT (i := 7) yW.nd rfl (Or.inl rfl) (zV (zA (zM (zA (pv 3) (zA (pv 5) (zA (pv 6) zC)))) (zA (zM (zA (qS jM zF) (zA (pv 5) (zA (pv 6) zC)))) (zA (zM (zA (pv 4) (zA zF (zA zF zC)))) (zA (zM (zA (pv 4) (zA (qS jM zF) (zA (pv 6) zC)))) (zA (zM (zA (pv 4) (zA (pv 5) (zA (zR xQ (pv 5) zF) zC)))) zC)))))))
   (zE (zT (i := 7) yW.nd rfl (Or.inl rfl) (zR yT (pv 7) (zV (zA (zM (zA (pv 4) (zA (pv 5) (zA zF zC)))) (zA (zX zP (zV (zA (zM (zA (pv 4) (zA zF (zA zF zC)))) (zA (zM (zA (pv 4) (zA zF (zA zF zC)))) zC))) (jA call_int1 rfl T.n_int bt_int (zA (kU op_gt (pv 2) zF (nomark _)) zC)) (fun _ _ => rfl)) (zA (zM (zA (zR op_pow zF zF) (zA (pv 5) (zA (pv 6) zC)))) zC))))))
   (zG (zL (zX zP (pv 7) (zH C_law_take hr rfl (zA (pv 0) (zA (zU zQ rfl T.n_len yS (zA (pv 7) zC)) zC)) passN) (fun _ _ => rfl))))))), ?_⟩
 try dsimp only [Cx.nox, Cx.exc, Cx.wish, zY]
 have p40 : ((10 : Int) ^ (40 : Int).toNat) > 100000 := by decide
 unfold HeadOk at ho
 refine ⟨_, rfl, ht, _, rfl, SqT.of eht, rfl, _, _, rfl, _, _, rfl, _, _, rfl, rfl, ?_⟩
 try dsimp only [gName, List.set, tSeq, tAsg, tRet]
 refine LsT.go (P := NoHead fn nr) (m := 5) ?_ (by decide) (fun p1 H1 s1 _ L1 => ?_)
 ·refine TpsE.cons ?_ (TpsE.cons ?_ (TpsE.cons ?_ (TpsE.cons ?_ (TpsE.cons ?_ TpsE.nil))))
  ·exact TpE.three (InE.v rfl) (InE.v rfl) (InE.v rfl) ⟨_, _, _, rfl, by unfold HeadOk; (first|lia|omega)⟩
  ·exact TpE.three (InE.neg InE.c) (InE.v rfl) (InE.v rfl) ⟨_, _, _, rfl, by unfold HeadOk; (first|lia|omega)⟩
  ·exact TpE.three (InE.v rfl) InE.c InE.c ⟨_, _, _, rfl, by unfold HeadOk; (first|lia|omega)⟩
  ·exact TpE.three (InE.v rfl) (InE.neg InE.c) (InE.v rfl) ⟨_, _, _, rfl, by unfold HeadOk; (first|lia|omega)⟩
  ·exact TpE.three (InE.v rfl) (InE.v rfl) (InE.sub (InE.v rfl) InE.c) ⟨_, _, _, rfl, by unfold HeadOk; (first|lia|omega)⟩
 try dsimp only [gName, List.set, tSeq, tAsg, tRet]
 refine ⟨_, rfl, LsT.go (P := NoHead fn nr) (m := 3) ?_ (by decide) (fun q2 G2 t2 _ M2 => ?_)⟩
 ·refine TpsE.cons ?_ (TpsE.cons ?_ (TpsE.cons ?_ TpsE.nil))
  ·exact TpE.three (InE.v rfl) (InE.v rfl) InE.c ⟨_, _, _, rfl, by unfold HeadOk; (first|lia|omega)⟩
  ·intro H2 s2 Q q
   refine ⟨_, rfl, small (show 3 <= 1000 by decide), fun ta hta => ⟨_, rfl, small (show 3 <= 1000 by decide), fun tb htb => ⟨small (show 2 <= 1000 by decide), fun l hl => ?_⟩⟩⟩
   have g1 := zD hta (.tup (([s, 1, 3] : List Int).map V.int))
   have g2 := zD htb (.tup (([s, 4, 3] : List Int).map V.int))
   have g3 := zD hl (.lst [.ref ta, .ref tb])
   refine ⟨_, rfl, _, _, rfl, rfl, .inr ⟨_, rfl, ?_⟩⟩
   by_cases c : 0 < fn
   ·rw [if_pos (show decide (0 < fn) = true from decide_eq_true c)]
    exact ⟨l, _, _, _, rfl, rfl, SqL.of zB, rfl, q tb [s, 4, 3] _ (g1.trans (g2.trans g3)) (g3 _ _ zB) ⟨_, _, _, rfl, by unfold HeadOk; (first|lia|omega)⟩⟩
   ·rw [if_neg (show ¬ decide (0 < fn) = true from fun z => c (of_decide_eq_true z))]
    exact ⟨l, _, _, _, rfl, rfl, SqL.of zB, rfl, q ta [s, 1, 3] _ (g1.trans (g2.trans g3)) ((g2.trans g3) _ _ zB) ⟨_, _, _, rfl, by unfold HeadOk; (first|lia|omega)⟩⟩
  ·exact TpE.three (InE.pow ⟨by decide, by decide, by decide⟩) (InE.v rfl) (InE.v rfl) ⟨_, _, _, rfl, by unfold HeadOk; (first|lia|omega)⟩
 have L1 := L1.same t2
 have s1 := s1.trans t2
 obtain ⟨us2, ts2, e2, z2⟩ := id L1
 obtain ⟨us3, ts3, e3, z3⟩ := id M2
 refine ⟨p1, q2, us2, us3, rfl, rfl, e2, e3, small (show us2.length + us3.length <= 1000 by rw [Paired.len z2.1, Paired.len z3.1, z2.2.2, z3.2.2]; decide), fun p1 hp1 => ?_⟩
 have np : p1 ≠ st := Ne.symm ((D.same s1).ne hp1)
 have s4 := zD hp1 (.lst (us2 ++ us3))
 have L1 := L1.cat M2 e2 e3 s4 zB
 have s1 := s1.trans s4
 generalize upd G2 p1 (.lst (us2 ++ us3)) = H1 at L1 s1 ⊢
 try dsimp only [gName, List.set, tSeq, tAsg, tRet]
 clear M2 e2 e3 z2 z3 s4
 obtain ⟨vs, gs, ev, pp, gg, ll⟩ := id L1
 have lv : vs.length = 8 := by rw [Paired.len pp, ll]
 refine ⟨_, rfl, _, rfl, _, rfl, p1, _, rfl, .inl (SqL.of ev), st, _, rfl, by rw [lv]; decide, by rw [lv]; decide, D.same s1, fun x H2 x0 x1 d2 => ?_⟩
 rw [lv] at x1
 have lx : x.toNat < vs.length := by (first|lia|omega)
 have ey := List.getElem?_eq_getElem lx
 obtain ⟨g, hg, t, et, tt⟩ := Paired.yonder pp ey
 rw [et] at ey
 refine ⟨p1, _, _, _, rfl, rfl, SqL.of (d2.lst ev np), kJ x0 ey, q t g H2 ((D.more s1).trans d2) (d2.keep _ _ (fun z => ?_) tt) (gg g (List.mem_of_getElem? hg))⟩
 obtain ⟨xs, e⟩ := (D.same s1).is
 rw [z, e] at tt; cases tt

end
section
variable {P : Program} {w : World} {K : PySem.W.Frag} {mg : Str -> Option Value} {base : Heap} {f : Addr} {fd : FuncData}
set_option maxHeartbeats 4000000

variable {CN CT CR CM CC CE MM MD : Addr}
def spFlat : Sp := fun vs H Q _ => ∃ (hd rw : Addr) (hs rs : List (List Int)), vs = [.ref hd, .ref rw] /\ GrpAt H hd hs /\ GrpAt H rw rs /\ hs.length <= 100 /\ rs.length <= 1000 /\ (∀ g ∈ hs ++ rs, g.length <= 3) /\ ∀ l H', Same H H' -> H l = none -> H' l = some (.lst ((codeL hs rs).map V.int)) -> Q (.ref l) H'
theorem ok_flat (T : Txt K mg) (F : Fun K "_law_flat" "_law_flat" jI f fd) : FnOk P w K mg base (CXE P w) 1 f fd ["_law_heads", "_law_rows"] spFlat := by
 refine F.okN kQ (fun vs H Q E h => ?_) (fun cdv A outer s H vs Q E hr h => ?_)
 ·obtain ⟨hd, rw, hs, rs, rfl, _⟩ := h
  rfl
 obtain ⟨hd, rw, hs, rs, rfl, ⟨vs, ehd, ph⟩, ⟨us, erw, pr⟩, lh, lr, l3, q⟩ := h
 refine ⟨_, (zE (zT (i := 2) kQ.nd rfl (Or.inl rfl) (zV (zA (zU zQ rfl T.n_len yS (zA (pv 0) zC)) zC)))
   (zE (qO PassesOwn.never rfl (pi_list (zR yT (pv 0) (pv 1))) (yH (i := 3) kQ.nd rfl (Or.inl rfl)) (zG (zT (i := 2) kQ.nd rfl (Or.inl rfl) (zR yT (pv 2) (jA wX rfl T.n_list bt_list (zA (pv 3) zC))))))
   (zG (zL (pv 2))))), ?_⟩
 try dsimp only [Cx.nox, Cx.exc, Cx.wish, zY]
 have lv := Paired.len ph
 have lu := Paired.len pr
 refine ⟨_, rfl, hd, _, rfl, .inl (SqL.of ehd), small (show 1 <= 1000 by decide), fun l0 hl0 => ?_⟩
 have g1 := zD hl0 (.lst [.int (vs.length : Int)])
 try dsimp only [gName, List.set]
 refine ⟨_, rfl, _, rfl, hd, rw, _, _, rfl, rfl, g1 _ _ ehd, g1 _ _ erw, Nat.le_trans (show _ <= 1100 by (first|lia|omega)) (by decide), fun c hc => ?_⟩
 have g2 := zD hc (.lst (vs ++ us))
 have gg := g1.trans g2
 have pp := Paired.append ph pr
 have lp := Paired.len pp
 have ec : upd (upd H l0 (.lst [.int (vs.length : Int)])) c (.lst (vs ++ us)) c = some (.lst (vs ++ us)) := zB
 refine ⟨c, rfl, ⟨_, SqL.of ec⟩, for_list (xs := vs ++ us) (fun i σ' H' => ∃ (l : Addr) (v3 : Option V), σ' = [some (.ref hd), some (.ref rw), some (.ref l), v3] /\ Same H H' /\ H' c = some (.lst (vs ++ us)) /\ H l = none /\ H' l = some (.lst (((hs.length : Int) :: ((hs ++ rs).take i).flatten).map V.int))) ⟨l0, none, rfl, gg, ec, hl0, ?_⟩ ?_ ?_ ?_⟩
 ·rw [List.take_zero]
  have := g2 _ _ (zB (H := H) (a := l0) (o := .lst [.int (vs.length : Int)]))
  rw [this, lv] <;> rfl
 ·rintro i σ' H' _ ⟨l, v3, _, _, e, _⟩
  exact SqL.of e
 ·rintro i x σ' H1 hx ⟨l, v3, rfl, s1, e1, hl, el⟩
  obtain ⟨g, hg, t, rfl, ht⟩ := Paired.yonder pp hx
  have gm := l3 g (List.mem_of_getElem? hg)
  have ht1 := s1 _ _ ht
  try dsimp only [gName, List.set]
  refine ⟨_, rfl, _, rfl, t, _, rfl, .inr (SqT.of ht1), fun y hy => ?_⟩
  have s2 := zD hy (.lst (g.map V.int))
  have lf : ((hs ++ rs).take i).flatten.length <= 4000 := by
   have : ∀ {gs : List (List Int)}, (∀ g ∈ gs, g.length <= 3) -> gs.flatten.length <= 3 * gs.length := fun {gs} => by
    induction gs with
    | nil => intro _; exact Nat.zero_le _
    | cons a r ih =>
     intro h
     rw [List.flatten_cons, List.length_append, List.length_cons]
     have := h a (List.mem_cons_self ..)
     have := ih fun g m => h g (List.mem_cons_of_mem _ m)
     (first|lia|omega)
   have h1 := this (gs := (hs ++ rs).take i) fun g m => l3 g (List.mem_of_mem_take m)
   have h2 : ((hs ++ rs).take i).length <= 1100 := by rw [List.length_take, List.length_append]; (first|lia|omega)
   (first|lia|omega)
  refine ⟨l, y, _, _, rfl, rfl, s2 _ _ el, zB, Nat.le_trans (show _ <= 4100 by rw [List.length_map, List.length_map, List.length_cons]; (first|lia|omega)) (by decide), fun l2 h2 => ?_⟩
  have s3 := zD h2 (.lst ((((hs.length : Int) :: ((hs ++ rs).take i).flatten).map V.int) ++ g.map V.int))
  refine ⟨l2, _, rfl, s1.trans (s2.trans s3), (s2.trans s3) _ _ e1, (s1.trans s2).free h2, ?_⟩
  rw [zB, fl_take hg, <- List.map_append] <;> rfl
 ·rintro σ' H1 ⟨l, v3, rfl, s1, e1, hl, el⟩
  rw [lp, List.take_length, List.flatten_append] at el
  exact ⟨_, rfl, q l H1 s1 hl el⟩
def OkCode (H : Hp) (co : Addr) : Prop := ∃ (hs rs : List (List Int)), H co = some (.lst ((codeL hs rs).map V.int)) /\ CodeParts hs rs /\ (∀ g ∈ rs, ∀ x ∈ g, Vb x)
def spTried (K : PySem.W.Frag) : Sp := fun vs H Q _ => ∃ (way : Int) (v1 v2 : V), vs = [.int way, v1, v2] /\
  ((0 <= way /\ way <= 2 /\ ∃ o, Thing K H v1 o /\ ¬ codeV o /\ ∀ H', Same H H' -> Q (.str "code") H') \/
   (way = 2 /\ ∃ co, v1 = .ref co /\ OkCode H co /\ ∀ H', Same H H' -> Q (.str "told") H') \/
   (way = 3 /\ ∃ o1 o2, Things K H 3 v1 o1 /\ Things K H 2 v2 o2 /\ (((∀ zs ws, o1 = some zs -> o2 = some ws -> ¬ codeV (some (toldV zs ws))) /\ ∀ H', Same H H' -> Q (.str "code") H') \/ ∃ zs ws, o1 = some zs /\ o2 = some ws /\ codeV (some (toldV zs ws)) /\ ∀ H', Same H H' -> Q (.str "told") H')))
theorem ok_tried (T : TxtW K mg CN CT CR CM CC CE) (F : Fun K "_law_tried" "_law_tried" xW f fd) (Cheads_of : Cal P w K mg base (CXE P w) 4 "heads_of" ["code"] (spHeadsOfX K CC)) (Crows_of : Cal P w K mg base (CXE P w) 4 "rows_of" ["code"] (spRowsOfX K CC)) (Cgo : Cal P w K mg base (CXE P w) 8 "go" ["code", "given", "breaths", "most"] (spGoX K MM MD CC)) (Ccode_of : Cal P w K mg base (CXE P w) 4 "code_of" ["heads", "rows"] (spCodeOfY K CC)) (C_law_word : Cal P w K mg base (CXE P w) 1 "_law_word" ["_law_caught"] (spWord CC)) : FnOk P w K mg base (CXE P w) 9 f fd ["_law_way", "_law_one", "_law_other"] (spTried K) := by
 refine F.okN kF (fun vs H Q E h => ?_) (fun cdv A outer s H vs Q E hr h => ?_)
 ·obtain ⟨way, v1, v2, rfl, _⟩ := h
  rfl
 obtain ⟨way, v1, v2, rfl, h⟩ := h
 refine ⟨_, (zE (zT (i := 3) kF.nd rfl (Or.inl rfl) xI)
   (zE (ps_tryO (i := 4) kF.nd rfl rfl rfl T.m_ChainError (fun _ _ => (zG (zW (zI yJ (pv 0) zF (nomark _)) (zG (yI (kG Cheads_of hr rfl (zA (pv 1) zC)))) (zG (zW (zI yJ (pv 0) zF (nomark _)) (zG (yI (kG Crows_of hr rfl (zA (pv 1) zC)))) (zG (zW (zI yJ (pv 0) zF (nomark _)) (zG (yI (kG Cgo hr rfl (zA (pv 1) (zA (zV zC) (zA zF (zA zF zC))))))) (zG (yI (kG Ccode_of hr rfl (zA (pv 1) (zA (pv 2) zC)))))))))))) (fun _ => (zG (zT (i := 3) kF.nd rfl (Or.inl rfl) (pv 4)))))
   (zG (zL (zH C_law_word hr rfl (zA (pv 3) zC) passN))))), ?_⟩
 try dsimp only [Cx.nox, Cx.exc, Cx.wish, zY]
 try dsimp only [gName, List.set]
 rcases h with ⟨w0, w2, o, th, nc, q⟩ | ⟨rfl, co, rfl, ⟨hs, rs, eco, cp, vb⟩, q⟩ | ⟨rfl, o1, o2, t1, t2, h⟩
 ·have bad : ∀ {H1 : Hp} {D : Prop}, Same H H1 -> True := fun _ => trivial
  refine ⟨_, rfl, rfl, _, rfl, ite2 (fun c => ?_) (fun c => ⟨_, rfl, rfl, _, rfl, ite2 (fun c1 => ?_) (fun c1 => ⟨_, rfl, rfl, _, rfl, ite2 (fun c2 => ?_) (fun c2 => ?_)⟩)⟩)⟩
  ·refine ⟨_, rfl, v1, o, rfl, th, fun ns e hk => absurd ⟨ns, e, hk⟩ nc, fun _ H1 g => ⟨CC, rfl, T.mch, fun x ex => ?_⟩⟩
   exact ⟨_, rfl, _, rfl, .inr ⟨x, rfl, ex, fun H2 g2 => q H2 (g.trans g2)⟩⟩
  ·refine ⟨_, rfl, v1, o, rfl, th, fun ns e hk => absurd ⟨ns, e, hk⟩ nc, fun _ H1 g => ⟨CC, rfl, T.mch, fun x ex => ?_⟩⟩
   exact ⟨_, rfl, _, rfl, .inr ⟨x, rfl, ex, fun H2 g2 => q H2 (g.trans g2)⟩⟩
  ·refine ⟨_, rfl, small (show 0 <= 1000 by decide), fun gv hgv => ?_⟩
   have s1 := zD hgv (.lst [])
   refine .inr ⟨v1, .ref gv, .int 1, .int 9, o, rfl, th.same s1, nc, fun H1 g => ⟨CC, rfl, T.mch, fun x ex => ?_⟩⟩
   exact ⟨_, rfl, _, rfl, .inr ⟨x, rfl, ex, fun H2 g2 => q H2 (s1.trans (g.trans g2))⟩⟩
  ·have := vf c
   have := vf c1
   have := vf c2
   (first|lia|omega)
 ·refine ⟨_, rfl, rfl, _, rfl, iteF ⟨_, rfl, rfl, _, rfl, iteF ⟨_, rfl, rfl, _, rfl, iteT ?_⟩⟩⟩
  refine ⟨_, rfl, small (show 0 <= 1000 by decide), fun gv hgv => ?_⟩
  have s1 := zD hgv (.lst [])
  refine .inl ⟨co, gv, 1, 9, hs, rs, [], rfl, s1 _ _ eco, cp, vb, zB, fun v hv => (nomatch hv), by decide, by decide, fun t r1 H1 g _ _ _ _ => ?_⟩
  exact ⟨_, rfl, .inl ⟨rfl, q H1 (s1.trans g)⟩⟩
 ·refine ⟨_, rfl, rfl, _, rfl, iteF ⟨_, rfl, rfl, _, rfl, iteF ⟨_, rfl, rfl, _, rfl, iteF ?_⟩⟩⟩
  refine ⟨_, rfl, _, rfl, v1, v2, o1, o2, rfl, t1, t2, fun zs ws e1 e2 hk l H1 g _ _ => ?_, fun nk H1 g => ⟨CC, rfl, T.mch, fun x ex => ?_⟩⟩
  ·rcases h with ⟨nk, _⟩ | ⟨_, _, _, _, _, q⟩
   ·exact absurd hk (nk zs ws e1 e2)
   ·exact ⟨_, rfl, .inl ⟨rfl, q H1 g⟩⟩
  ·rcases h with ⟨_, q⟩ | ⟨zs, ws, e1, e2, hk, _⟩
   ·exact ⟨_, rfl, _, rfl, .inr ⟨x, rfl, ex, fun H2 g2 => q H2 (g.trans g2)⟩⟩
   ·exact absurd hk (nk zs ws e1 e2)
def spRefused (K : PySem.W.Frag) : Sp := fun vs H Q _ => ∃ v o, vs = [v] /\ Thing K H v o /\ ¬ codeV o /\ ∀ H', Same H H' -> Q (.bl true) H'
theorem ok_refused (T : Txt K mg) (F : Fun K "_law_refused" "_law_refused" xA f fd) (Cis_code : Cal P w K mg base (CXE P w) 3 "is_code" ["thing"] (spIsCodeX K)) (C_law_tried : Cal P w K mg base (CXE P w) 9 "_law_tried" ["_law_way", "_law_one", "_law_other"] (spTried K)) : FnOk P w K mg base (CXE P w) 10 f fd ["_law_thing"] (spRefused K) := by
 refine F.okN sc__law_refused (fun vs H Q E h => ?_) (fun cdv A outer s H vs Q E hr h => ?_)
 ·obtain ⟨v, o, rfl, _⟩ := h
  rfl
 obtain ⟨v, o, rfl, th, nc, q⟩ := h
 refine ⟨_, (zE (zW (zI op_notB (zH Cis_code hr rfl (zA (pv 0) zC) passN) jL (nomark _)) (zG (zL jL)) zN)
   (zG (zL (kU (op_eqD hr) (pe_comp (own := ["_law_way"]) (ys := ["_law_thing"]) rfl (kE rfl T.n_range (zA zF zC)) (qH (sc := defScope xA) rfl (by decide +kernel)) (.cons (j := 0) rfl .nil) (fun _ _ _ _ _ => (yH (i := 0) (show List.Nodup [("_law_way" : Str), ("_law_thing" : Str)] from (by decide +kernel)) rfl (Or.inl rfl))) (fun _ _ _ _ _ => pts_nil) (fun _ _ _ _ _ => (zH C_law_tried hr rfl (zA (pv 0) (zA (pv 1) (zA xI zC))) passN))) (zR op_rep (zV (zA jB zC)) zF) (nomark _))))), ?_⟩
 try dsimp only [Cx.nox, Cx.exc, Cx.wish, zY]
 refine ⟨_, rfl, v, o, rfl, th, fun r H1 g1 z => ?_⟩
 rw [Bool.eq_false_iff.mpr fun y => nc (z.mp y)]
 refine ⟨_, _, rfl, rfl, _, rfl, iteN rfl ?_⟩
 refine ⟨_, rfl, by decide, by decide, fun p hp => ?_⟩
 refine comp_rng (lo := 0) (n := (3 : Int).toNat) (fs := [some v]) (fun j ys H' => Same H1 H' /\ H' p = some (.lst (List.replicate j (.str "code")))) ⟨zD hp _, zB⟩ ?_ ?_
 ·rintro j ys H3 hj ⟨s3, e3⟩
  have hj : j < 3 := hj
  refine tyes ⟨_, rfl, _, rfl, _, v, .non, rfl, .inl ⟨by (first|lia|omega), by (first|lia|omega), o, (th.same g1).same s3, nc, fun H4 g4 => ?_⟩⟩
  have e4 := g4 _ _ e3
  refine ⟨_, e4, (by rw [List.length_replicate]; exact small1000 (by (first|lia|omega))), CompW.next (ys := []) hj ⟨fun b o e => by rw [zJ (zK e hp)]; exact (s3.trans g4) b o e, ?_⟩⟩
  rw [zB, List.replicate_succ'] <;> rfl
 rintro ys H3 ⟨s3, e3⟩
 refine ⟨small (show 1 <= 1000 by decide), fun z hz => ?_⟩
 have g4 := zD hz (.lst [.str "code"])
 refine ⟨z, _, _, rfl, rfl, zB, by decide, by decide, small (show 1 * 3 <= 1000 by decide), fun y hy => ?_⟩
 have g5 := zD hy (.lst (List.replicate (3 : Int).toNat [V.str "code"]).flatten)
 refine ⟨p, y, _, _, 1, rfl, rfl, .inl ⟨SqL.of ((g4.trans g5) _ _ e3), SqL.of zB⟩, .cons (EqD.flat rfl 1) (.cons (EqD.flat rfl 1) (.cons (EqD.flat rfl 1) .nil)), by decide, q _ (g1.trans (s3.trans (g4.trans g5)))⟩

end
section
variable {P : Program} {w : World} {K : PySem.W.Frag} {mg : Str -> Option Value} {base : Heap} {f : Addr} {fd : FuncData}
set_option maxHeartbeats 4000000

theorem codeL_rows {hs rs : List (List Int)} (h3 : ∀ g ∈ hs, g.length = 3) : rowNums (codeL hs rs) = rs.flatten := by
 show List.drop (1 + 3 * ((hs.length : Int)).toNat) ((hs.length : Int) :: (hs.flatten ++ rs.flatten)) = _
 have := xU h3
 rw [Int.toNat_natCast, Nat.add_comm, List.drop_succ_cons, show 3 * hs.length = hs.flatten.length by (first|lia|omega), List.drop_left]
theorem codeL_heads {hs rs : List (List Int)} (h3 : ∀ g ∈ hs, g.length = 3) : headNums (codeL hs rs) = hs.flatten := by
 show List.take (3 * ((hs.length : Int)).toNat) (hs.flatten ++ rs.flatten) = _
 have := xU h3
 rw [Int.toNat_natCast, List.take_append_of_le_length (by (first|lia|omega)), List.take_of_length_le (by (first|lia|omega))]
structure NotCode (hs rs : List (List Int)) : Prop where
 lh : hs.length <= 17
 lr : rs.length <= 24
 h3 : ∀ g ∈ hs, g.length = 3
 r2 : ∀ g ∈ rs, g.length = 2
 no : ¬ CodeOk (codeL hs rs)
theorem put_mem {α : Type} {xs : List α} {i : Nat} {x y : α} (m : y ∈ xs.take i ++ [x] ++ xs.drop (i + 1)) : y ∈ xs \/ y = x := by
 rcases List.mem_append.mp m with m | m
 ·rcases List.mem_append.mp m with m | m
  ·exact .inl (List.mem_of_mem_take m)
  ·exact .inr (List.mem_singleton.mp m)
 ·exact .inl (List.mem_of_mem_drop m)
theorem put_len {α : Type} {xs : List α} {i : Nat} {x : α} (h : i < xs.length) : (xs.take i ++ [x] ++ xs.drop (i + 1)).length = xs.length := by
 rw [List.length_append, List.length_append, List.length_take, List.length_drop, List.length_singleton]
 (first|lia|omega)
theorem put_get {α : Type} {xs : List α} {i : Nat} {x : α} (h : i < xs.length) : (xs.take i ++ [x] ++ xs.drop (i + 1))[i]? = some x := by
 rw [List.append_assoc, List.getElem?_append_right (by rw [List.length_take]; (first|lia|omega)), List.length_take, show i - min i xs.length = 0 by (first|lia|omega)] <;> rfl
section
variable {hs rs : List (List Int)}
theorem not_row (cp : CodeParts hs rs) (l24 : rs.length <= 24) {i : Nat} {g : List Int} (hi : i < rs.length) (ng : NoRow hs.length rs.length g) : NotCode hs (rs.take i ++ [g] ++ rs.drop (i + 1)) := by
 obtain ⟨op, n, rfl, nr⟩ := ng
 have r2 : ∀ g' ∈ rs.take i ++ [[op, n]] ++ rs.drop (i + 1), g'.length = 2 := fun g' m => by
  rcases put_mem m with z | z
  ·exact cp.r2 g' z
  ·rw [z] <;> rfl
 have l2 := xU r2
 refine ⟨by have := cp.h16; (first|lia|omega), by rw [put_len hi]; exact l24, cp.h3, r2, fun c => ?_⟩
 have := c.rows [op, n]
 rw [codeL_rows cp.h3, qR (.inl rfl) r2] at this
 obtain ⟨op', n', e, ok⟩ := this (List.mem_append_left _ (List.mem_append_right _ (List.mem_singleton.mpr rfl)))
 cases e
 rw [l2, put_len hi, Nat.mul_div_cancel _ (by decide)] at ok
 have e0 : ((codeL hs (rs.take i ++ [[op, n]] ++ rs.drop (i + 1))).headD 0).toNat = hs.length := Int.toNat_natCast _
 rw [e0] at ok
 exact nr ok
theorem not_head (cp : CodeParts hs rs) (l24 : rs.length <= 24) {i : Nat} {g : List Int} (hi : i < hs.length) (ng : NoHead i rs.length g) : NotCode (hs.take i ++ [g] ++ hs.drop (i + 1)) rs := by
 obtain ⟨s, p, b, rfl, nr⟩ := ng
 have h3 : ∀ g' ∈ hs.take i ++ [[s, p, b]] ++ hs.drop (i + 1), g'.length = 3 := fun g' m => by
  rcases put_mem m with z | z
  ·exact cp.h3 g' z
  ·rw [z] <;> rfl
 have l2 := xU cp.r2
 refine ⟨by rw [put_len hi]; have := cp.h16; (first|lia|omega), l24, h3, cp.r2, fun c => ?_⟩
 have := c.heads i [s, p, b]
 rw [codeL_heads h3, qR (.inr rfl) h3, codeL_rows h3, l2, Nat.mul_div_cancel _ (by decide)] at this
 obtain ⟨s', p', b', e, ok⟩ := this (put_get hi)
 cases e
 exact nr ok
theorem not_none (cp : CodeParts hs rs) (l24 : rs.length <= 24) : NotCode [] rs := ⟨by decide, l24, fun g m => (nomatch m), cp.r2, fun c => by
 obtain ⟨n, ms, e, h1, _⟩ := c.big
 unfold codeL at e
 injection e with e _
 have : (([] : List (List Int)).length : Int) = 0 := rfl
 (first|lia|omega)⟩
theorem not_rows (cp : CodeParts hs rs) : NotCode hs [] := ⟨by have := cp.h16; (first|lia|omega), by decide, cp.h3, fun g m => (nomatch m), fun c => by
 obtain ⟨n, ms, e, h1, h2, h3, _⟩ := c.big
 have l3 := xU cp.h3
 unfold codeL at e
 injection e with e1 e2
 have : ms.length = hs.flatten.length := by rw [<- e2, List.flatten_nil, List.append_nil]
 (first|lia|omega)⟩
theorem not_more (cp : CodeParts hs rs) (l24 : rs.length <= 24) : NotCode (List.replicate 17 [0, 0, 0]) rs := ⟨by decide, l24, fun g m => by rw [(List.mem_replicate.mp m).2] <;> rfl, cp.r2, fun c => by
 obtain ⟨n, ms, e, h1, h2, _⟩ := c.big
 unfold codeL at e
 injection e with e1 e2
 have : ((List.replicate 17 ([0, 0, 0] : List Int)).length : Int) = 17 := rfl
 (first|lia|omega)⟩
end
def spBent (K : PySem.W.Frag) : Sp := fun vs H Q _ => ∃ (st hd rw : Addr) (hs rs : List (List Int)), vs = [.ref st, .ref hd, .ref rw] /\ Pen K H st /\ GrpAt H hd hs /\ GrpAt H rw rs /\ hd ≠ st /\ rw ≠ st /\ CodeParts hs rs /\ rs.length <= 24 /\ ∀ t hd' rw' hs' rs' H', Penned K st H H' -> H' t = some (.tup [.ref hd', .ref rw']) -> GrpAt H' hd' hs' -> GrpAt H' rw' rs' -> NotCode hs' rs' -> Q (.ref t) H'
theorem TupAt.pnd {H H' : Hp} {st : Addr} {v : V} {zs : List Int} (h : TupAt H v zs) (D : Pen K H st) (d : Penned K st H H') : TupAt H' v zs := by
 obtain ⟨t, a, z⟩ := h
 refine ⟨t, a, d.keep _ _ (fun y => ?_) z⟩
 obtain ⟨xs, q⟩ := D.is
 rw [y, q] at z; cases z
theorem GrpAt.pnd {H H' : Hp} {st l : Addr} {gs : List (List Int)} (h : GrpAt H l gs) (D : Pen K H st) (d : Penned K st H H') (n : l ≠ st) : GrpAt H' l gs := by
 obtain ⟨vs, e, p⟩ := h
 refine ⟨vs, d.keep _ _ n e, Paired.imp (fun _ _ ⟨t, a, z⟩ => ⟨t, a, d.keep _ _ (fun y => ?_) z⟩) p⟩
 obtain ⟨xs, q⟩ := D.is
 rw [y, q] at z; cases z
theorem GrpAt.sm {H H' : Hp} {l : Addr} {gs : List (List Int)} (h : GrpAt H l gs) (s : Same H H') : GrpAt H' l gs := by
 obtain ⟨vs, e, p⟩ := h
 exact ⟨vs, s _ _ e, Paired.imp (fun _ _ z => z.mono s) p⟩
theorem ok_bent (T : Txt K mg) (F : Fun K "_law_bent" "_law_bent" xS f fd) (C_law_take : Cal P w K mg base (CXE P w) 2 "_law_take" ["_law_pen_here", "_law_many"] (spTake4 K)) (C_law_bad_row : Cal P w K mg base (CXE P w) 3 "_law_bad_row" ["_law_pen_here", "_law_many", "_law_count"] (spBadRow K)) (C_law_bad_head : Cal P w K mg base (CXE P w) 3 "_law_bad_head" ["_law_pen_here", "_law_head", "_law_at", "_law_many"] (spBadHead K)) : FnOk P w K mg base (CXE P w) 4 f fd ["_law_pen_here", "_law_heads", "_law_rows"] (spBent K) := by
 refine F.okN jP (fun vs H Q E h => ?_) (fun cdv A outer s H vs Q E hr h => ?_)
 ·obtain ⟨st, hd, rw, hs, rs, rfl, _⟩ := h
  rfl
 obtain ⟨st, hd, rw, hs, rs, rfl, D, GH, GR, nh, nr, cp, l24, q⟩ := h
 refine ⟨_, (zE (zT (i := 3) jP.nd rfl (Or.inl rfl) (zH C_law_take hr rfl (zA (pv 0) (zA (zU zQ rfl T.n_len yS (zA (pv 2) zC)) zC)) passN))
   (zE (zT (i := 4) jP.nd rfl (Or.inl rfl) (zH C_law_take hr rfl (zA (pv 0) (zA (zU zQ rfl T.n_len yS (zA (pv 1) zC)) zC)) passN))
   (zE (zT (i := 5) jP.nd rfl (Or.inl rfl) (zH C_law_take hr rfl (zA (pv 0) (zA zF zC)) passN))
   (zE (zW (zI kO (pv 5) zF (nomark _)) (zG (zL (zM (zA (pv 1) (zA (zR yT (zR yT (xT jN (pv 2) kS (xZ (pv 3))) (zV (zA (zH C_law_bad_row hr rfl (zA (pv 0) (zA (zU zQ rfl T.n_len yS (zA (pv 2) zC)) (zA (zU zQ rfl T.n_len yS (zA (pv 1) zC)) zC))) passN) zC))) (xT jN (pv 2) (xZ (zR xF (pv 3) zF)) kS)) zC))))) zN)
   (zE (zW (zI kO (pv 5) zF (nomark _)) (zG (zL (zM (zA (zR yT (zR yT (xT jN (pv 1) kS (xZ (pv 4))) (zV (zA (zH C_law_bad_head hr rfl (zA (pv 0) (zA (zX zP (pv 1) (pv 4) (fun _ _ => rfl)) (zA (pv 4) (zA (zU zQ rfl T.n_len yS (zA (pv 2) zC)) zC)))) passN) zC))) (xT jN (pv 1) (xZ (zR xF (pv 4) zF)) kS)) (zA (pv 2) zC))))) zN)
   (zE (ps_setcomp (i := 6) jP.nd rfl rfl  (own := ["_law_k"]) (ys := []) rfl (kE rfl T.n_range (zA zF zC)) (qH (sc := defScope xS) rfl (by decide +kernel)) .nil (fun _ _ _ _ _ => (yH (i := 0) (show List.Nodup [("_law_k" : Str)] from (by decide +kernel)) rfl (Or.inl rfl))) (fun _ _ _ _ _ => pts_nil) (fun _ _ _ _ _ => (zM (zS (.int (.int (.int .nil)))))))
   (zG (zL (zX zP (zV (zA (zM (zA (zV zC) (zA (pv 2) zC))) (zA (zM (zA (pv 1) (zA (zV zC) zC))) (zA (zM (zA (pv 6) (zA (pv 2) zC))) zC)))) (zH C_law_take hr rfl (zA (pv 0) (zA zF zC)) passN) (fun _ _ => rfl)))))))))), ?_⟩
 try dsimp only [Cx.nox, Cx.exc, Cx.wish, zY]
 have h1 := cp.h1
 have h16 := cp.h16
 have r1 := cp.r1
 obtain ⟨vs, ehd, ph⟩ := id GH
 obtain ⟨us, erw, pr⟩ := id GR
 have lv := Paired.len ph
 have lu := Paired.len pr
 refine ⟨_, rfl, _, rfl, rw, _, rfl, .inl (SqL.of erw), st, _, rfl, by (first|lia|omega), by (first|lia|omega), D, fun at_ H1 a0 a1 d1 => ?_⟩
 try dsimp only [gName, List.set]
 have ehd1 := d1.keep _ _ nh ehd
 refine ⟨_, rfl, _, rfl, hd, _, rfl, .inl (SqL.of ehd1), st, _, rfl, by (first|lia|omega), by (first|lia|omega), d1.pen, fun to H2 t0 t1 d2 => ?_⟩
 try dsimp only [gName, List.set]
 refine ⟨_, rfl, st, 5, rfl, by decide, by decide, d2.pen, fun way H3 w0 w1 d3 => ?_⟩
 try dsimp only [gName, List.set]
 have dd := d1.trans (d2.trans d3)
 have GH := GrpAt.pnd GH D dd nh
 have GR := GrpAt.pnd GR D dd nr
 have ehd := dd.keep _ _ nh ehd
 have erw := dd.keep _ _ nr erw
 have D3 := dd.pen
 clear d1 d2 d3 ehd1
 obtain ⟨vs', e', ph3⟩ := id GH
 rw [ehd] at e'
 cases e'
 obtain ⟨us', e', pr3⟩ := id GR
 rw [erw] at e'
 cases e'
 clear ph pr
 refine ⟨_, rfl, _, _, rfl, rfl, _, rfl, ite2 (fun c => ?_) (fun c => ?_)⟩
 ·have ha : at_.toNat < rs.length := by (first|lia|omega)
  refine ⟨_, rfl, _, rfl, _, rfl, _, rfl, rw, _, rfl, SqL.of erw, fun p1 k1 => ?_⟩
  rw [show cutV us none (some at_) = us.take at_.toNat by rw [show at_ = ((at_.toNat : Nat) : Int) by (first|lia|omega)]; exact cutV_take _]
  have s1 := zD k1 (.lst (us.take at_.toNat))
  have n1 : p1 ≠ st := Ne.symm (D3.ne k1)
  refine ⟨_, rfl, _, rfl, rw, _, rfl, .inl (SqL.of (s1 _ _ erw)), _, rfl, hd, _, rfl, .inl (SqL.of (s1 _ _ ehd)), st, _, _, rfl, D3.same s1, by (first|lia|omega), by (first|lia|omega), by (first|lia|omega), by (first|lia|omega), fun t g H5 d5 et ng => ?_⟩
  have e1 := d5.lst (zB (H := H3) (a := p1) (o := .lst (us.take at_.toNat))) n1
  have d35 := (D3.more s1).trans d5
  refine ⟨small (show 1 <= 1000 by decide), fun p2 k2 => ?_⟩
  have s2 := zD k2 (.lst [.ref t])
  refine ⟨p1, p2, _, _, rfl, rfl, s2 _ _ e1, zB, small (show (us.take at_.toNat).length + 1 <= 1000 by rw [List.length_take]; (first|lia|omega)), fun p3 k3 => ?_⟩
  have s3 := zD k3 (.lst (us.take at_.toNat ++ [.ref t]))
  have s23 := s2.trans s3
  have erw5 := s23 _ _ (d35.keep _ _ nr erw)
  refine ⟨_, rfl, _, rfl, _, _, rfl, rfl, _, rfl, rw, _, rfl, SqL.of erw5, fun p4 k4 => ?_⟩
  rw [show cutV us (some ((fun i j => i + j) at_ 1)) none = us.drop (at_.toNat + 1) by show cutV us (some (at_ + 1)) none = _; rw [show at_ + 1 = ((at_.toNat + 1 : Nat) : Int) by (first|lia|omega)]; exact cutV_drop _]
  have s4 := zD k4 (.lst (us.drop (at_.toNat + 1)))
  refine ⟨p3, p4, _, _, rfl, rfl, s4 _ _ zB, zB, small (show (us.take at_.toNat ++ [V.ref t]).length + (us.drop (at_.toNat + 1)).length <= 1000 by rw [List.length_append, List.length_take, List.length_drop, List.length_singleton]; (first|lia|omega)), fun p5 k5 => ?_⟩
  have s5 := zD k5 (.lst (us.take at_.toNat ++ [.ref t] ++ us.drop (at_.toNat + 1)))
  refine ⟨small (show 2 <= 1000 by decide), fun tt ktt => ?_⟩
  have s6 := zD ktt (.tup [.ref hd, .ref p5])
  have sA := s23.trans (s4.trans (s5.trans s6))
  refine q tt hd p5 hs _ _ (dd.trans (d35.trans (d35.pen.more sA))) zB (GrpAt.sm (GrpAt.pnd GH D3 d35 nh) sA) ⟨_, s6 _ _ zB, ?_⟩ (not_row cp l24 ha (by rw [lv, lu] at ng; exact ng))
  have pq := Paired.imp (fun _ _ z => (TupAt.pnd z D3 d35).mono sA) pr3
  exact Paired.append (Paired.append (vE pq _) (.cons ⟨t, rfl, sA _ _ et⟩ .nil)) (vF pq _)
 have c1 := df c
 refine ⟨_, rfl, _, _, rfl, rfl, _, rfl, ite2 (fun c => ?_) (fun c => ?_)⟩
 ·have ha : to.toNat < hs.length := by (first|lia|omega)
  refine ⟨_, rfl, _, rfl, _, rfl, hd, _, rfl, SqL.of ehd, fun p1 k1 => ?_⟩
  rw [show cutV vs none (some to) = vs.take to.toNat by rw [show to = ((to.toNat : Nat) : Int) by (first|lia|omega)]; exact cutV_take _]
  have s1 := zD k1 (.lst (vs.take to.toNat))
  have n1 : p1 ≠ st := Ne.symm (D3.ne k1)
  obtain ⟨ht, eht⟩ : ∃ x, vs[to.toNat]? = some x := ⟨_, List.getElem?_eq_getElem (by (first|lia|omega))⟩
  obtain ⟨hg, ehg, th, rfl, tth⟩ := Paired.yonder ph3 eht
  obtain ⟨s', p', b', rfl, ho⟩ := cp.heads _ _ ehg
  refine ⟨_, rfl, _, rfl, _, rfl, hd, _, _, _, rfl, rfl, SqL.of (s1 _ _ ehd), kJ t0 eht, _, rfl, _, rfl, rw, _, rfl, .inl (SqL.of (s1 _ _ erw)), st, th, _, _, s', p', b', rfl, D3.same s1, s1 _ _ tth, ?_, t0, by (first|lia|omega), by (first|lia|omega), fun t g H5 d5 et ng => ?_⟩
  ·rw [lu, show to = ((to.toNat : Nat) : Int) by (first|lia|omega)]; exact ho
  have e1 := d5.lst (zB (H := H3) (a := p1) (o := .lst (vs.take to.toNat))) n1
  have d35 := (D3.more s1).trans d5
  refine ⟨small (show 1 <= 1000 by decide), fun p2 k2 => ?_⟩
  have s2 := zD k2 (.lst [.ref t])
  refine ⟨p1, p2, _, _, rfl, rfl, s2 _ _ e1, zB, small (show (vs.take to.toNat).length + 1 <= 1000 by rw [List.length_take]; (first|lia|omega)), fun p3 k3 => ?_⟩
  have s3 := zD k3 (.lst (vs.take to.toNat ++ [.ref t]))
  have s23 := s2.trans s3
  have ehd5 := s23 _ _ (d35.keep _ _ nh ehd)
  refine ⟨_, rfl, _, rfl, _, _, rfl, rfl, _, rfl, hd, _, rfl, SqL.of ehd5, fun p4 k4 => ?_⟩
  rw [show cutV vs (some ((fun i j => i + j) to 1)) none = vs.drop (to.toNat + 1) by show cutV vs (some (to + 1)) none = _; rw [show to + 1 = ((to.toNat + 1 : Nat) : Int) by (first|lia|omega)]; exact cutV_drop _]
  have s4 := zD k4 (.lst (vs.drop (to.toNat + 1)))
  refine ⟨p3, p4, _, _, rfl, rfl, s4 _ _ zB, zB, small (show (vs.take to.toNat ++ [V.ref t]).length + (vs.drop (to.toNat + 1)).length <= 1000 by rw [List.length_append, List.length_take, List.length_drop, List.length_singleton]; (first|lia|omega)), fun p5 k5 => ?_⟩
  have s5 := zD k5 (.lst (vs.take to.toNat ++ [.ref t] ++ vs.drop (to.toNat + 1)))
  refine ⟨_, rfl, small (show 2 <= 1000 by decide), fun tt ktt => ?_⟩
  have s6 := zD ktt (.tup [.ref p5, .ref rw])
  have sA := s23.trans (s4.trans (s5.trans s6))
  refine q tt p5 rw _ rs _ (dd.trans (d35.trans (d35.pen.more sA))) zB ⟨_, s6 _ _ zB, ?_⟩ (GrpAt.sm (GrpAt.pnd GR D3 d35 nr) sA) (not_head cp l24 ha (by rw [lu, show to = ((to.toNat : Nat) : Int) by (first|lia|omega)] at ng; exact ng))
  have pq := Paired.imp (fun _ _ z => (TupAt.pnd z D3 d35).mono sA) ph3
  exact Paired.append (Paired.append (vE pq _) (.cons ⟨t, rfl, sA _ _ et⟩ .nil)) (vF pq _)
 have c2 := df c
 try dsimp only [gName, List.set]
 refine ⟨_, rfl, by decide, by decide, fun p hp => ?_⟩
 refine comp_rng (lo := 0) (n := (17 : Int).toNat) (fs := []) (fun j ys H' => Same H3 H' /\ ∃ ws, H' p = some (.lst ws) /\ Paired (TupAt H') ws (List.replicate j [0, 0, 0])) ⟨zD hp _, [], zB, .nil⟩ ?_ ?_
 ·rintro j ys H4 hj ⟨s4, ws, e4, p4⟩
  have hj : j < 17 := hj
  refine tyes ⟨small (show 3 <= 1000 by decide), fun t ht => ?_⟩
  have s5 := zD ht (.tup (([0, 0, 0] : List Int).map V.int))
  have e5 := s5 _ _ e4
  have tu : Tups (upd H4 t (.tup (([0, 0, 0] : List Int).map V.int))) (upd (upd H4 t (.tup (([0, 0, 0] : List Int).map V.int))) p (.lst (ws ++ [.ref t]))) := fun b xs q => by rw [zJ (fun y => by rw [y, e5] at q; cases q)]; exact q
  refine ⟨_, e5, (by rw [Paired.len p4, List.length_replicate]; exact small1000 (by (first|lia|omega))), CompW.next (ys := []) hj ⟨fun b o e => by rw [zJ (zK e hp)]; exact (s4.trans s5) b o e, ws ++ [.ref t], zB, ?_⟩⟩
  rw [List.replicate_succ']
  exact Paired.append (Paired.imp (fun _ _ ⟨a, e, z⟩ => ⟨a, e, tu _ _ (s5 _ _ z)⟩) p4) (.cons ⟨t, rfl, tu _ _ zB⟩ .nil)
 rintro ys H4 ⟨s4, ws, e4, p4⟩
 try dsimp only [gName, List.set]
 refine ⟨small (show 0 <= 1000 by decide), fun x1 k1 => ?_⟩
 have g1 := zD k1 (.lst [])
 refine ⟨_, rfl, small (show 2 <= 1000 by decide), fun ta ka => ?_⟩
 have g2 := zD ka (.tup [.ref x1, .ref rw])
 refine ⟨_, rfl, small (show 0 <= 1000 by decide), fun x2 k2 => ?_⟩
 have g3 := zD k2 (.lst [])
 refine ⟨small (show 2 <= 1000 by decide), fun tb kb => ?_⟩
 have g4 := zD kb (.tup [.ref hd, .ref x2])
 refine ⟨_, rfl, _, rfl, small (show 2 <= 1000 by decide), fun tc kc => ?_⟩
 have g5 := zD kc (.tup [.ref p, .ref rw])
 refine ⟨small (show 3 <= 1000 by decide), fun L kL => ?_⟩
 have g6 := zD kL (.lst [.ref ta, .ref tb, .ref tc])
 have gA := g1.trans (g2.trans (g3.trans (g4.trans (g5.trans g6))))
 have sA := s4.trans gA
 have D4 := D3.same sA
 have nL : L ≠ st := Ne.symm ((D3.same (s4.trans (g1.trans (g2.trans (g3.trans (g4.trans g5)))))).ne kL)
 have n1 : x1 ≠ st := Ne.symm ((D3.same s4).ne k1)
 have n2 : x2 ≠ st := Ne.symm ((D3.same (s4.trans (g1.trans g2))).ne k2)
 have np : p ≠ st := Ne.symm (D3.ne hp)
 have eL := zB (H := upd (upd (upd (upd (upd H4 x1 (.lst [])) ta (.tup [.ref x1, .ref rw])) x2 (.lst [])) tb (.tup [.ref hd, .ref x2])) tc (.tup [.ref p, .ref rw])) (a := L) (o := .lst [.ref ta, .ref tb, .ref tc])
 have ea := (g3.trans (g4.trans (g5.trans g6))) _ _ (zB (H := upd H4 x1 (.lst [])) (a := ta) (o := .tup [.ref x1, .ref rw]))
 have eb := (g5.trans g6) _ _ (zB (H := upd (upd (upd H4 x1 (.lst [])) ta (.tup [.ref x1, .ref rw])) x2 (.lst [])) (a := tb) (o := .tup [.ref hd, .ref x2]))
 have ec := g6 _ _ (zB (H := upd (upd (upd (upd H4 x1 (.lst [])) ta (.tup [.ref x1, .ref rw])) x2 (.lst [])) tb (.tup [.ref hd, .ref x2])) (a := tc) (o := .tup [.ref p, .ref rw]))
 have e1 := (g2.trans (g3.trans (g4.trans (g5.trans g6)))) _ _ (zB (H := H4) (a := x1) (o := .lst []))
 have e2 := (g4.trans (g5.trans g6)) _ _ (zB (H := upd (upd H4 x1 (.lst [])) ta (.tup [.ref x1, .ref rw])) (a := x2) (o := .lst []))
 have ep := gA _ _ e4
 have pp := Paired.imp (fun _ _ z => TupAt.mono z gA) p4
 refine ⟨_, rfl, st, 3, rfl, by decide, by decide, D4, fun x H5 x0 x1' d5 => ?_⟩
 generalize upd (upd (upd (upd (upd (upd H4 x1 (.lst [])) ta (.tup [.ref x1, .ref rw])) x2 (.lst [])) tb (.tup [.ref hd, .ref x2])) tc (.tup [.ref p, .ref rw])) L (.lst [.ref ta, .ref tb, .ref tc]) = HA at *
 have tk : ∀ {a : Addr} {xs : List V}, HA a = some (.tup xs) -> H5 a = some (.tup xs) := fun e => d5.keep _ _ (fun z => by
  obtain ⟨xs, q⟩ := D4.is
  rw [z, q] at e; cases e) e
 have dA := dd.trans ((D3.more sA).trans d5)
 have GH5 := GrpAt.pnd (GrpAt.sm GH sA) D4 d5 nh
 have GR5 := GrpAt.pnd (GrpAt.sm GR sA) D4 d5 nr
 have xc : x = 0 \/ x = 1 \/ x = 2 := by (first|lia|omega)
 rcases xc with rfl | rfl | rfl
 ·exact ⟨L, _, _, _, rfl, rfl, SqL.of (d5.lst eL nL), rfl, q ta x1 rw [] rs H5 dA (tk ea) ⟨[], d5.lst e1 n1, .nil⟩ GR5 (not_none cp l24)⟩
 ·exact ⟨L, _, _, _, rfl, rfl, SqL.of (d5.lst eL nL), rfl, q tb hd x2 hs [] H5 dA (tk eb) GH5 ⟨[], d5.lst e2 n2, .nil⟩ (not_rows cp)⟩
 ·exact ⟨L, _, _, _, rfl, rfl, SqL.of (d5.lst eL nL), rfl, q tc p rw _ rs H5 dA (tk ec) (GrpAt.pnd ⟨ws, ep, pp⟩ D4 d5 np) GR5 (not_more cp l24)⟩

end
section
variable {P : Program} {w : World} {K : PySem.W.Frag} {mg : Str -> Option Value} {base : Heap} {f : Addr} {fd : FuncData}
set_option maxHeartbeats 4000000

theorem cutV_last {xs : List V} (h : 1 <= xs.length) : cutV xs none (some (-1)) = xs.take (xs.length - 1) := by
 unfold cutV
 rw [HT.sIx_none, List.drop_zero, Nat.sub_zero]
 have e : HT.sIx xs.length xs.length (some (-1)) = xs.length - 1 := by
  show (if (-1 : Int) < 0 then (-1 + (xs.length : Int)).toNat else min (-1 : Int).toNat xs.length) = _
  rw [if_pos (by decide)]
  (first|lia|omega)
 rw [e]
def OddT (K : PySem.W.Frag) (st : Addr) (H : Hp) (v : V) : Prop := (∃ o, Thing K H v o /\ ¬ codeV o) /\ v ≠ .ref st
theorem OddT.same {st : Addr} {H H' : Hp} {v : V} (h : OddT K st H v) (s : Same H H') : OddT K st H' v := by
 obtain ⟨⟨o, t, n⟩, e⟩ := h
 exact ⟨⟨o, t.same s, n⟩, e⟩
theorem TyOf.pnd {st : Addr} {H H' : Hp} {v : V} {t : String} (h : TyOf K H v (.type t)) (D : Pen K H st) (d : Penned K st H H') : TyOf K H' v (.type t) := by
 obtain ⟨xs, q⟩ := D.is
 obtain ⟨ys, r⟩ := d.pen.is
 generalize ht : Value.type t = tv at h ⊢
 cases h with
 | non => exact .non
 | bl x => exact .bl x
 | int i => exact .int i
 | str x => exact .str x
 | flt x => exact .flt x
 | @lst a xs e =>
  by_cases z : a = st
  ·subst z; exact .lst r
  ·exact .lst (d.keep _ _ z e)
 | frz e => exact .frz (d.keep _ _ (fun z => by rw [z, q] at e; cases e) e)
 | tup e => exact .tup (d.keep _ _ (fun z => by rw [z, q] at e; cases e) e)
 | dK e => exact .dK (d.keep _ _ (fun z => by rw [z, q] at e; cases e) e)
 | dT e => exact .dT (d.keep _ _ (fun z => by rw [z, q] at e; cases e) e)
 | ins e => cases ht
theorem OddT.pnd {st : Addr} {H H' : Hp} {v : V} (h : OddT K st H v) (D : Pen K H st) (d : Penned K st H H') : OddT K st H' v := by
 obtain ⟨⟨o, t, n⟩, e⟩ := h
 refine ⟨⟨o, ?_, n⟩, e⟩
 cases t with
 | no m k ty => exact .no m k (TyOf.pnd ty D d)
 | yes ea k l => exact .yes (d.keep _ _ (fun z => e (by rw [z])) ea) (fun x m => by
   obtain ⟨t, mt, ty⟩ := k x m
   exact ⟨t, mt, TyOf.pnd ty D d⟩) l
theorem odd_len {ns zs : List Int} (h : CodeOk ns) (e : zs.headD 0 = ns.headD 0) (l : zs.length + 1 = ns.length \/ zs.length = ns.length + 1) : ¬ CodeOk zs := fun c => by
 obtain ⟨n, ms, rfl, a1, a2, a3, a4⟩ := h.big
 obtain ⟨n', ms', rfl, b1, b2, b3, b4⟩ := c.big
 have e : n' = n := e
 subst e
 rw [List.length_cons, List.length_cons] at l
 (first|lia|omega)
def OdE (K : PySem.W.Frag) (st : Addr) (σ : St) (H : Hp) (te : TE) : Prop := ∀ H1, Same H H1 -> ∀ Q : VK, (∀ v H', Same H1 H' -> OddT K st H' v -> Q v H') -> te σ H1 Q
def XE (K : PySem.W.Frag) (σ : St) (H : Hp) (te : TE) : Prop := ∀ H1, Same H H1 -> ∀ Q : VK, (∀ x H', Same H1 H' -> Kn K H' x -> isWh x = false -> Q x H') -> te σ H1 Q
section
variable {st : Addr} {σ : St} {H : Hp}
theorem OdE.ints {te : TE} {zs : List Int} (D : Pen K H st) (h : ∀ H1, Same H H1 -> ∀ Q : VK, (∀ p H', Same H1 H' -> H1 p = none -> H' p = some (.lst (zs.map V.int)) -> Q (.ref p) H') -> te σ H1 Q) (l : zs.length <= 1000000) (n : ¬ CodeOk zs) : OdE K st σ H te := fun H1 s1 Q q =>
 h H1 s1 Q fun p H' s2 hp ep => q (.ref p) H' s2 ⟨⟨_, Thing.ints ep l, fun c => n (xV.mp c)⟩, fun e => (D.same s1).ne hp (by injection e with e; exact e.symm)⟩
theorem OdE.flat {v : V} {t : String} (m : t ∈ kinds7) (n : t ≠ "list") (ty : ∀ H, TyOf K H v (.type t)) (e : ∀ a, v ≠ .ref a) : OdE K st σ H (tC v) := fun H1 s1 Q q => q v H1 (fun _ _ e => e) ⟨⟨none, .no m n (ty H1), codeV_none⟩, e st⟩
theorem OdE.mix {tx : TE} {i j : Nat} {lo up : Addr} {xs ys : List Int} (D : Pen K H st) (hi : σ[i]? = some (some (.ref lo))) (hj : σ[j]? = some (some (.ref up))) (el : H lo = some (.lst (xs.map V.int))) (eu : H up = some (.lst (ys.map V.int))) (lx : xs.length <= 1000) (ly : ys.length <= 1000) (hx : XE K σ H tx) : OdE K st σ H (tOp rCat (tOp rCat (tVar i) (tLst (tCons tx tNil))) (tVar j)) := fun H1 s1 Q q => by
 refine ⟨_, hi, hx H1 s1 _ fun x H2 s2 kx nx => ⟨small (show 1 <= 1000 by decide), fun p1 k1 => ?_⟩⟩
 have s3 := zD k1 (.lst [x])
 have sl : (2002 : Nat) <= sizeLine := by decide
 refine ⟨lo, p1, _, _, rfl, rfl, (s1.trans (s2.trans s3)) _ _ el, zB, by rw [List.length_map]; show xs.length + 1 <= sizeLine; (first|lia|omega), fun p2 k2 => ?_⟩
 have s4 := zD k2 (.lst (xs.map V.int ++ [x]))
 refine ⟨_, hj, p2, up, _, _, rfl, rfl, zB, (s1.trans (s2.trans (s3.trans s4))) _ _ eu, by rw [List.length_append, List.length_map, List.length_map]; show xs.length + 1 + ys.length <= sizeLine; (first|lia|omega), fun p3 k3 => ?_⟩
 have s5 := zD k3 (.lst (xs.map V.int ++ [x] ++ ys.map V.int))
 have sA := s2.trans (s3.trans (s4.trans s5))
 refine q (.ref p3) _ sA ⟨⟨_, .yes zB (fun y m => ?_) ?_, codeV_odd ?_⟩, fun e => (D.same (s1.trans (s2.trans (s3.trans s4)))).ne k3 (by injection e with e; exact e.symm)⟩
 ·rcases List.mem_append.mp m with m | m
  ·rcases List.mem_append.mp m with m | m
   ·obtain ⟨n, _, rfl⟩ := List.mem_map.mp m
    exact Kn.int n
   ·rw [List.mem_singleton.mp m]; exact kx.same (s3.trans (s4.trans s5))
  ·obtain ⟨n, _, rfl⟩ := List.mem_map.mp m
   exact Kn.int n
 ·rw [List.length_append, List.length_append, List.length_map, List.length_map]
  show xs.length + 1 + ys.length <= 1000000
  (first|lia|omega)
 ·rw [List.all_append, List.all_append, List.all_cons, nx, Bool.false_and, Bool.and_false, Bool.false_and]
theorem XE.c {v : V} {t : String} (m : t ∈ kinds7) (ty : ∀ H, TyOf K H v (.type t)) (n : isWh v = false) : XE K σ H (tC v) := fun H1 s1 Q q => q v H1 (fun _ _ e => e) ⟨t, m, ty H1⟩ n
def OdsE (K : PySem.W.Frag) (st : Addr) (σ : St) (H : Hp) (ta : TA) (m : Nat) : Prop := ∀ H1, Same H H1 -> ∀ Q : List V -> Hp -> Prop, (∀ vs H', Same H1 H' -> (∀ v ∈ vs, OddT K st H' v) -> vs.length = m -> Q vs H') -> ta σ H1 Q
theorem OdsE.nil : OdsE K st σ H tNil 0 := fun H1 s1 Q q => q [] H1 (fun _ _ e => e) (fun v m => (nomatch m)) rfl
theorem OdsE.cons {te : TE} {ta : TA} {m : Nat} (h : OdE K st σ H te) (hr : OdsE K st σ H ta m) : OdsE K st σ H (tCons te ta) (m + 1) := fun H1 s1 Q q =>
 h H1 s1 _ fun v H2 s2 p => hr H2 (s1.trans s2) _ fun vs H3 s3 pv l => q _ H3 (s2.trans s3) (fun u m => by
  rcases List.mem_cons.mp m with z | z
  ·rw [z]; exact p.same s3
  ·exact pv u z) (by rw [List.length_cons, l])
def LsO (K : PySem.W.Frag) (st : Addr) (H : Hp) (l : Addr) (m : Nat) : Prop := ∃ vs, H l = some (.lst vs) /\ (∀ v ∈ vs, OddT K st H v) /\ vs.length = m
theorem LsO.go {ta : TA} {m : Nat} (h : OdsE K st σ H ta m) (m1 : m <= 1000) {Q : VK} (q : ∀ p H', Same H H' -> H p = none -> LsO K st H' p m -> Q (.ref p) H') : tLst ta σ H Q := by
 refine h H (fun _ _ e => e) _ fun vs H1 s1 pv l => ⟨small (show vs.length <= 1000 by rw [l]; exact m1), fun p hp => ?_⟩
 have s2 := zD hp (.lst vs)
 exact q p _ (s1.trans s2) (s1.free hp) ⟨vs, zB, fun v m => (pv v m).same s2, l⟩
theorem LsO.same {H' : Hp} {l : Addr} {m : Nat} (h : LsO K st H l m) (s : Same H H') : LsO K st H' l m := by
 obtain ⟨vs, e, p, n⟩ := h
 exact ⟨vs, s _ _ e, fun v m => (p v m).same s, n⟩
theorem LsO.cat {H1 : Hp} {p q r : Addr} {m n : Nat} {vs us : List V} (h : LsO K st H p m) (g : LsO K st H q n) (e1 : H p = some (.lst vs)) (e2 : H q = some (.lst us)) (s : Same H H1) (e : H1 r = some (.lst (vs ++ us))) : LsO K st H1 r (m + n) := by
 obtain ⟨vs', e1', hg, l⟩ := h
 obtain ⟨us', e2', hg', l'⟩ := g
 rw [e1] at e1'
 rw [e2] at e2'
 cases e1'
 cases e2'
 refine ⟨_, e, fun v m => ?_, by rw [List.length_append, l, l']⟩
 rcases List.mem_append.mp m with z | z
 ·exact (hg v z).same s
 ·exact (hg' v z).same s
end
def spOdd (K : PySem.W.Frag) : Sp := fun vs H Q _ => ∃ (st nl : Addr) (ns : List Int), vs = [.ref st, .ref nl] /\ Pen K H st /\ H nl = some (.lst (ns.map V.int)) /\ nl ≠ st /\ CodeOk ns /\ ns.length <= 1000 /\ ∀ v H', Penned K st H H' -> OddT K st H' v -> Q v H'
theorem ok_odd (T : Txt K mg) (F : Fun K "_law_odd" "_law_odd" kD f fd) (C_law_take : Cal P w K mg base (CXE P w) 2 "_law_take" ["_law_pen_here", "_law_many"] (spTake4 K)) : FnOk P w K mg base (CXE P w) 3 f fd ["_law_pen_here", "_law_numbers"] (spOdd K) := by
 refine F.okN xR (fun vs H Q E h => ?_) (fun cdv A outer s H vs Q E hr h => ?_)
 ·obtain ⟨st, nl, ns, rfl, _⟩ := h
  rfl
 obtain ⟨st, nl, ns, rfl, D, enl, nn, ok, ln, q⟩ := h
 refine ⟨_, (zE (zT (i := 2) xR.nd rfl (Or.inl rfl) (zR xF zF (zH C_law_take hr rfl (zA (pv 0) (zA (zR xQ (zU zQ rfl T.n_len yS (zA (pv 1) zC)) zF) zC)) passN)))
   (zE (zT (i := 3) xR.nd rfl (Or.inl rfl) (xT jN (pv 1) kS (xZ (pv 2))))
   (zE (zT (i := 4) xR.nd rfl (Or.inl rfl) (xT jN (pv 1) (xZ (zR xF (pv 2) zF)) kS))
   (zE (zT (i := 5) xR.nd rfl (Or.inl rfl) (zV (zA (zR yT (pv 3) (pv 4)) (zA (zR yT (pv 1) (zV (zA zF zC))) (zA (zR yT (zR yT (pv 3) (zV (zA jL zC))) (pv 4)) (zA (zR yT (zR yT (pv 3) (zV (zA jB zC))) (pv 4)) (zA (zR yT (zR yT (pv 3) (zV (zA xI zC))) (pv 4)) zC)))))))
   (zE (zT (i := 5) xR.nd rfl (Or.inl rfl) (zR yT (pv 5) (zV (zA (zR yT (zR yT (pv 3) (zV (zA (zV (zA zF zC)) zC))) (pv 4)) (zA (jA call_tuple_of rfl T.n_tuple bt_tuple (zA (pv 1) zC)) (zA (zV zC) (zA jB (zA jB (zA xI (zA zF (zA jL (zA pe_dnewK (zA (zV (zA (pv 1) zC)) zC)))))))))))))
   (zE (zT (i := 5) xR.nd rfl (Or.inl rfl) (zR yT (pv 5) (zV (zA (zV (zA (zX zP (pv 1) zF (fun _ _ => rfl)) zC)) (zA (xT jN (pv 1) kS (xZ (qS jM zF))) (zA (zR yT (zV (zA zF zC)) (xT jN (pv 1) (xZ zF) kS)) (zA (zR yT (zR yT (pv 3) (zV (zA (zM (zS (.int (.int .nil)))) zC))) (pv 4)) zC)))))))
   (zG (zL (zX zP (pv 5) (zH C_law_take hr rfl (zA (pv 0) (zA (zU zQ rfl T.n_len yS (zA (pv 5) zC)) zC)) passN) (fun _ _ => rfl)))))))))), ?_⟩
 try dsimp only [Cx.nox, Cx.exc, Cx.wish, zY]
 obtain ⟨n, ms, ens, n1, n16, lm, ev⟩ := ok.big
 have lns : ns.length = ms.length + 1 := by rw [ens, List.length_cons]
 refine ⟨_, rfl, _, rfl, nl, _, rfl, .inl (SqL.of enl), _, _, rfl, rfl, st, _, rfl, by rw [List.length_map]; (first|lia|omega), by rw [List.length_map]; (first|lia|omega), D, fun y H1 y0 y1 d1 => ?_⟩
 rw [List.length_map] at y1
 refine ⟨_, _, rfl, rfl, ?_⟩
 have enl := d1.keep _ _ nn enl
 have D1 := d1.pen
 have hat : (1 + y).toNat = y.toNat + 1 := by (first|lia|omega)
 try dsimp only [gName, List.set, tSeq, tAsg, tRet]
 refine ⟨_, rfl, _, rfl, _, rfl, nl, _, rfl, SqL.of enl, fun lo klo => ?_⟩
 rw [show cutV (ns.map V.int) none (some (1 + y)) = (ns.take (y.toNat + 1)).map V.int by rw [show 1 + y = ((y.toNat + 1 : Nat) : Int) by (first|lia|omega), cutV_take, List.map_take]]
 have s1 := zD klo (.lst ((ns.take (y.toNat + 1)).map V.int))
 try dsimp only [gName, List.set, tSeq, tAsg, tRet]
 refine ⟨_, rfl, _, rfl, _, _, rfl, rfl, _, rfl, nl, _, rfl, SqL.of (s1 _ _ enl), fun up kup => ?_⟩
 rw [show cutV (ns.map V.int) (some ((fun i j => i + j) (1 + y) 1)) none = (ns.drop (y.toNat + 2)).map V.int by show cutV (ns.map V.int) (some (1 + y + 1)) none = _; rw [show 1 + y + 1 = ((y.toNat + 2 : Nat) : Int) by (first|lia|omega), cutV_drop, List.map_drop]]
 have s2 := zD kup (.lst ((ns.drop (y.toNat + 2)).map V.int))
 have s12 := s1.trans s2
 have enl := s12 _ _ enl
 have D2 := D1.same s12
 have elo := s2 _ _ (zB (H := H1) (a := lo) (o := .lst ((ns.take (y.toNat + 1)).map V.int)))
 have eup : upd (upd H1 lo (.lst ((ns.take (y.toNat + 1)).map V.int))) up (.lst ((ns.drop (y.toNat + 2)).map V.int)) up = some (.lst ((ns.drop (y.toNat + 2)).map V.int)) := zB
 have llo : (ns.take (y.toNat + 1)).length <= 1000 := by rw [List.length_take]; (first|lia|omega)
 have lup : (ns.drop (y.toNat + 2)).length <= 1000 := by rw [List.length_drop]; (first|lia|omega)
 have dA := d1.trans (D1.more s12)
 have sl : (3000 : Nat) <= sizeLine := by decide
 generalize upd (upd H1 lo (.lst ((ns.take (y.toNat + 1)).map V.int))) up (.lst ((ns.drop (y.toNat + 2)).map V.int)) = H2 at enl D2 elo eup dA ⊢
 clear s1 s2 s12 klo kup D1 d1
 try dsimp only [gName, List.set, tSeq, tAsg, tRet]
 refine LsO.go (K := K) (st := st) (m := 5) ?_ (by decide) (fun p1 H3 s3 _ L1 => ?_)
 ·refine OdsE.cons ?_ (OdsE.cons ?_ (OdsE.cons ?_ (OdsE.cons ?_ (OdsE.cons ?_ OdsE.nil))))
  ·refine OdE.ints (zs := ns.take (y.toNat + 1) ++ ns.drop (y.toNat + 2)) D2 (fun H3 s3 Q q => ?_) (by rw [List.length_append]; (first|lia|omega)) (odd_len ok ?_ (.inl ?_))
   ·refine ⟨_, rfl, _, rfl, lo, up, _, _, rfl, rfl, s3 _ _ elo, s3 _ _ eup, by rw [List.length_map, List.length_map]; (first|lia|omega), fun p k => q p _ (zD k _) k (by rw [zB, List.map_append])⟩
   ·rw [ens] <;> rfl
   ·rw [List.length_append, List.length_take, List.length_drop]; (first|lia|omega)
  ·refine OdE.ints (zs := ns ++ [0]) D2 (fun H3 s3 Q q => ?_) (by rw [List.length_append]; show ns.length + 1 <= _; (first|lia|omega)) (odd_len ok ?_ (.inr ?_))
   ·refine ⟨_, rfl, small (show 1 <= 1000 by decide), fun p0 k0 => ?_⟩
    have s4 := zD k0 (.lst [.int 0])
    exact ⟨nl, p0, _, _, rfl, rfl, (s3.trans s4) _ _ enl, zB, by rw [List.length_map]; show ns.length + 1 <= sizeLine; (first|lia|omega), fun p k => q p _ (s4.trans (zD k _)) (s4.free k) (by rw [zB, List.map_append] <;> rfl)⟩
   ·rw [ens] <;> rfl
   ·rw [List.length_append] <;> rfl
  ·exact OdE.mix D2 rfl rfl elo eup llo lup (XE.c (t := "bool") (by decide) (fun _ => .bl true) rfl)
  ·exact OdE.mix D2 rfl rfl elo eup llo lup (XE.c (t := "str") (by decide) (fun _ => .str _) rfl)
  ·exact OdE.mix D2 rfl rfl elo eup llo lup (XE.c (t := "NoneType") (by decide) (fun _ => .non) rfl)
 try dsimp only [gName, List.set, tSeq, tAsg, tRet]
 have D3 := D2.same s3
 have elo3 := s3 _ _ elo
 have eup3 := s3 _ _ eup
 have enl3 := s3 _ _ enl
 refine ⟨_, rfl, LsO.go (K := K) (st := st) (m := 10) ?_ (by decide) (fun q2 G2 t2 _ M2 => ?_)⟩
 ·refine OdsE.cons ?_ (OdsE.cons ?_ (OdsE.cons ?_ (OdsE.cons ?_ (OdsE.cons ?_ (OdsE.cons ?_ (OdsE.cons ?_ (OdsE.cons ?_ (OdsE.cons ?_ (OdsE.cons ?_ OdsE.nil)))))))))
  ·exact OdE.mix D3 rfl rfl elo3 eup3 llo lup fun H4 s4 Q q => ⟨small (show 1 <= 1000 by decide), fun p k => q (.ref p) _ (zD k _) (Kn.lst zB) rfl⟩
  ·exact fun H4 s4 Q q => ⟨_, rfl, nl, _, rfl, .inl ⟨SqL.of (s4 _ _ enl3), fun p k => q (.ref p) _ (zD k _) ⟨⟨none, .no (t := "tuple") (by decide) (by decide) (.tup zB), codeV_none⟩, fun e => (D3.same s4).ne k (by injection e with e; exact e.symm)⟩⟩⟩
  ·refine OdE.ints (zs := []) D3 (fun H4 s4 Q q => ⟨small (show 0 <= 1000 by decide), fun p k => q p _ (zD k _) k zB⟩) (by decide) (fun c => ?_)
   obtain ⟨_, _, e, _⟩ := c.big
   cases e
  ·exact OdE.flat (t := "str") (by decide) (by decide) (fun _ => .str _) (fun a e => by cases e)
  ·exact OdE.flat (t := "str") (by decide) (by decide) (fun _ => .str _) (fun a e => by cases e)
  ·exact OdE.flat (t := "NoneType") (by decide) (by decide) (fun _ => .non) (fun a e => by cases e)
  ·exact OdE.flat (t := "int") (by decide) (by decide) (fun _ => .int _) (fun a e => by cases e)
  ·exact OdE.flat (t := "bool") (by decide) (by decide) (fun _ => .bl _) (fun a e => by cases e)
  ·exact fun H4 s4 Q q p k => q (.ref p) _ (zD k _) ⟨⟨none, .no (t := "dict") (by decide) (by decide) (.dK zB), codeV_none⟩, fun e => (D3.same s4).ne k (by injection e with e; exact e.symm)⟩
  ·exact fun H4 s4 Q q => ⟨_, rfl, small (show 1 <= 1000 by decide), fun p k => q (.ref p) _ (zD k _) ⟨⟨_, .yes zB (fun x m => by rw [List.mem_singleton.mp m]; exact Kn.lst ((s4.trans (zD k _)) _ _ enl3)) (show 1 <= 1000000 by decide), codeV_odd rfl⟩, fun e => (D3.same s4).ne k (by injection e with e; exact e.symm)⟩⟩
 have L1 := L1.same t2
 have s3 := s3.trans t2
 obtain ⟨us2, e2, z2⟩ := id L1
 obtain ⟨us3, e3, z3⟩ := id M2
 refine ⟨p1, q2, us2, us3, rfl, rfl, e2, e3, small (show us2.length + us3.length <= 1000 by rw [z2.2, z3.2]; decide), fun p1 hp1 => ?_⟩
 have np : p1 ≠ st := Ne.symm ((D2.same s3).ne hp1)
 have s4 := zD hp1 (.lst (us2 ++ us3))
 have L1 := LsO.cat L1 M2 e2 e3 s4 zB
 have s3 := s3.trans s4
 generalize upd G2 p1 (.lst (us2 ++ us3)) = H3 at L1 s3 ⊢
 try dsimp only [gName, List.set, tSeq, tAsg, tRet]
 clear M2 e2 e3 z2 z3 s4
 clear elo3 eup3 enl3 D3
 have D3 := D2.same s3
 have elo3 := s3 _ _ elo
 have eup3 := s3 _ _ eup
 have enl3 := s3 _ _ enl
 refine ⟨_, rfl, LsO.go (K := K) (st := st) (m := 4) ?_ (by decide) (fun q4 G4 t4 _ M4 => ?_)⟩
 ·refine OdsE.cons ?_ (OdsE.cons ?_ (OdsE.cons ?_ (OdsE.cons ?_ OdsE.nil)))
  ·refine OdE.ints (zs := [n]) D3 (fun H4 s4 Q q => ?_) (by simp) (fun c => ?_)
   ·exact ⟨_, rfl, nl, _, _, _, rfl, rfl, SqL.of (s4 _ _ enl3), at_zero ens, small (show 1 <= 1000 by decide), fun p k => q p _ (zD k _) k zB⟩
   ·obtain ⟨n', ms', e, _, _, l', _⟩ := c.big
    injection e with e1 e2
    rw [<- e2, List.length_nil] at l'
    (first|lia|omega)
  ·refine OdE.ints (zs := ns.take (ns.length - 1)) D3 (fun H4 s4 Q q => ?_) (by rw [List.length_take]; (first|lia|omega)) (odd_len ok ?_ (.inl ?_))
   ·refine ⟨_, rfl, _, rfl, _, rfl, nl, _, rfl, SqL.of (s4 _ _ enl3), fun p k => q p _ (zD k _) k ?_⟩
    rw [zB]
    show some (HO.lst (cutV (ns.map V.int) none (some (-1)))) = _
    rw [List.map_take, cutV_last (by rw [List.length_map]; (first|lia|omega)), List.length_map]
   ·rw [ens]
    have : (n :: ms).length - 1 = (ms.length - 1) + 1 := by rw [List.length_cons]; (first|lia|omega)
    rw [this] <;> rfl
   ·rw [List.length_take]; (first|lia|omega)
  ·refine OdE.ints (zs := 0 :: ms) D3 (fun H4 s4 Q q => ?_) (by rw [List.length_cons]; (first|lia|omega)) (fun c => ?_)
   ·refine ⟨small (show 1 <= 1000 by decide), fun p0 k0 => ?_⟩
    have s5 := zD k0 (.lst [.int 0])
    refine ⟨_, rfl, _, rfl, nl, _, rfl, SqL.of ((s4.trans s5) _ _ enl3), fun p2 k2 => ?_⟩
    rw [show cutV (ns.map V.int) (some 1) none = ms.map V.int by rw [show (1 : Int) = ((1 : Nat) : Int) from rfl, cutV_drop, ens] <;> rfl]
    have s6 := zD k2 (.lst (ms.map V.int))
    exact ⟨p0, p2, _, _, rfl, rfl, s6 _ _ zB, zB, by rw [List.length_map]; show 1 + ms.length <= sizeLine; (first|lia|omega), fun p k => q p _ (s5.trans (s6.trans (zD k _))) ((s5.trans s6).free k) zB⟩
   ·obtain ⟨n', ms', e, h1, _⟩ := c.big
    injection e with e1 e2
    (first|lia|omega)
  ·exact OdE.mix D3 rfl rfl elo3 eup3 llo lup fun H4 s4 Q q => ⟨small (show 2 <= 1000 by decide), fun p k => q (.ref p) _ (zD k _) (Kn.tup zB) rfl⟩
 have L1 := L1.same t4
 have s3 := s3.trans t4
 obtain ⟨us2, e2, z2⟩ := id L1
 obtain ⟨us3, e3, z3⟩ := id M4
 refine ⟨p1, q4, us2, us3, rfl, rfl, e2, e3, small (show us2.length + us3.length <= 1000 by rw [z2.2, z3.2]; decide), fun p1 hp1 => ?_⟩
 have np : p1 ≠ st := Ne.symm ((D2.same s3).ne hp1)
 have s4 := zD hp1 (.lst (us2 ++ us3))
 have L1 := LsO.cat L1 M4 e2 e3 s4 zB
 have s3 := s3.trans s4
 generalize upd G4 p1 (.lst (us2 ++ us3)) = H3 at L1 s3 ⊢
 try dsimp only [gName, List.set, tSeq, tAsg, tRet]
 clear M4 e2 e3 z2 z3 s4
 obtain ⟨vs, ev', gg, ll⟩ := id L1
 have D4 := D2.same s3
 refine ⟨_, rfl, _, rfl, _, rfl, p1, _, rfl, .inl (SqL.of ev'), st, _, rfl, by rw [ll]; decide, by rw [ll]; decide, D4, fun x H5 x0 x1 d5 => ?_⟩
 have lx : x.toNat < vs.length := by (first|lia|omega)
 have ey := List.getElem?_eq_getElem lx
 exact ⟨p1, _, _, _, rfl, rfl, SqL.of (d5.lst ev' np), kJ x0 ey, q _ H5 (dA.trans ((D2.more s3).trans d5)) (OddT.pnd (gg _ (List.mem_of_getElem? ey)) D4 d5)⟩

end
section
variable {P : Program} {w : World} {K : PySem.W.Frag} {mg : Str -> Option Value} {base : Heap} {f : Addr} {fd : FuncData}
set_option maxHeartbeats 4000000

variable {CC : Addr}
theorem SeqH.part3 {H : Hp} {l : Addr} {gs : List (List Int)} {k : Nat} (h : GrpAt H l gs) (hk : ∀ g ∈ gs, g.length = k) (l1 : gs.length <= 1000) : Things K H k (.ref l) (some (gs.flatten.map V.int)) := by
 obtain ⟨vs, e, p⟩ := h
 have : ∀ {vs : List V} {gs : List (List Int)}, Paired (TupAt H) vs gs -> (∀ g ∈ gs, g.length = k) -> Paired (Part K H k) vs (gs.map fun g => some (g.map V.int)) /\ joinV (gs.map fun g => some (g.map V.int)) = some (gs.flatten.map V.int) := fun {vs gs} p => by
  induction p with
  | nil => exact fun _ => ⟨.nil, rfl⟩
  | @cons v g vs gs h t ih =>
   intro hk
   obtain ⟨a, b⟩ := ih fun g m => hk g (List.mem_cons_of_mem _ m)
   obtain ⟨t, rfl, et⟩ := h
   refine ⟨.cons (.ok (.inr et) (by rw [List.length_map]; exact hk g (List.mem_cons_self ..)) fun y m => ?_) a, ?_⟩
   ·obtain ⟨n, _, rfl⟩ := List.mem_map.mp m
    exact Kn.int n
   ·show (joinV (gs.map fun g => some (g.map V.int))).map (g.map V.int ++ ·) = _
    rw [b, List.flatten_cons, List.map_append] <;> rfl
 obtain ⟨a, b⟩ := this p hk
 rw [<- b]
 exact .seq (.inl e) a (by rw [Paired.len p]; exact l1)
theorem told_code {hs rs : List (List Int)} (h3 : ∀ g ∈ hs, g.length = 3) : toldV (hs.flatten.map V.int) (rs.flatten.map V.int) = (codeL hs rs).map V.int := by
 unfold toldV codeL
 have := xU h3
 rw [List.length_map, show ((hs.flatten.length : Nat) : Int) / 3 = (hs.length : Int) by (first|lia|omega), List.map_cons, List.map_append]
def BadP (K : PySem.W.Frag) (H : Hp) (v1 v2 : V) : Prop := ∃ o1 o2, Things K H 3 v1 o1 /\ Things K H 2 v2 o2 /\ ∀ zs ws, o1 = some zs -> o2 = some ws -> ¬ codeV (some (toldV zs ws))
theorem BadP.same {H H' : Hp} {v1 v2 : V} (h : BadP K H v1 v2) (s : Same H H') : BadP K H' v1 v2 := by
 obtain ⟨o1, o2, a, b, c⟩ := h
 exact ⟨o1, o2, a.same s, b.same s, c⟩
def PaE (K : PySem.W.Frag) (σ : St) (H : Hp) (te : TE) : Prop := ∀ H1, Same H H1 -> ∀ Q : VK, (∀ t v1 v2 H', Same H1 H' -> H' t = some (.tup [v1, v2]) -> BadP K H' v1 v2 -> Q (.ref t) H') -> te σ H1 Q
def PrT (K : PySem.W.Frag) (H : Hp) (v : V) : Prop := ∃ t v1 v2, v = .ref t /\ H t = some (.tup [v1, v2]) /\ BadP K H v1 v2
theorem PrT.same {H H' : Hp} {v : V} (h : PrT K H v) (s : Same H H') : PrT K H' v := by
 obtain ⟨t, v1, v2, e, a, b⟩ := h
 exact ⟨t, v1, v2, e, s _ _ a, b.same s⟩
def PasE (K : PySem.W.Frag) (σ : St) (H : Hp) (ta : TA) (m : Nat) : Prop := ∀ H1, Same H H1 -> ∀ Q : List V -> Hp -> Prop, (∀ vs H', Same H1 H' -> (∀ v ∈ vs, PrT K H' v) -> vs.length = m -> Q vs H') -> ta σ H1 Q
theorem PasE.nil {σ : St} {H : Hp} : PasE K σ H tNil 0 := fun H1 s1 Q q => q [] H1 (fun _ _ e => e) (fun v m => (nomatch m)) rfl
theorem PasE.cons {σ : St} {H : Hp} {te : TE} {ta : TA} {m : Nat} (h : PaE K σ H te) (hr : PasE K σ H ta m) : PasE K σ H (tCons te ta) (m + 1) := fun H1 s1 Q q =>
 h H1 s1 _ fun t v1 v2 H2 s2 e p => hr H2 (s1.trans s2) _ fun vs H3 s3 pv l => q _ H3 (s2.trans s3) (fun u m => by
  rcases List.mem_cons.mp m with z | z
  ·rw [z]; exact ⟨t, v1, v2, rfl, s3 _ _ e, p.same s3⟩
  ·exact pv u z) (by rw [List.length_cons, l])
theorem PasE.go {σ : St} {H : Hp} {ta : TA} {m : Nat} (h : PasE K σ H ta m) (m1 : m <= 1000) {Q : VK} (q : ∀ p vs H', Same H H' -> H' p = some (.lst vs) -> (∀ v ∈ vs, PrT K H' v) -> Q (.ref p) H') : tLst ta σ H Q := by
 refine h H (fun _ _ e => e) _ fun vs H1 s1 pv l => ⟨small (show vs.length <= 1000 by rw [l]; exact m1), fun p hp => ?_⟩
 have s2 := zD hp (.lst vs)
 exact q p vs _ (s1.trans s2) zB fun v m => (pv v m).same s2
theorem Things.one {H : Hp} {k : Nat} {l : Addr} {x : V} {o : Option (List V)} (e : H l = some (.lst [x])) (p : Part K H k x o) : Things K H k (.ref l) (joinV [o]) := .seq (.inl e) (.cons p .nil) (show 1 <= 1000 by decide)
theorem BadP.left {H : Hp} {v1 v2 : V} {o2 : Option (List V)} (h : Things K H 3 v1 none) (g : Things K H 2 v2 o2) : BadP K H v1 v2 := ⟨none, o2, h, g, fun zs ws e _ => by cases e⟩
theorem BadP.right {H : Hp} {v1 v2 : V} {o1 : Option (List V)} (h : Things K H 3 v1 o1) (g : Things K H 2 v2 none) : BadP K H v1 v2 := ⟨o1, none, h, g, fun zs ws _ e => by cases e⟩
theorem BadP.odd {H : Hp} {v1 v2 : V} {xs ys : List V} (h : Things K H 3 v1 (some xs)) (g : Things K H 2 v2 (some ys)) (n : xs.all isWh = false \/ ys.all isWh = false) : BadP K H v1 v2 := ⟨_, _, h, g, fun zs ws e1 e2 => by
 cases e1
 cases e2
 refine codeV_odd ?_
 unfold toldV
 rw [List.all_cons, List.all_append]
 rcases n with n | n
 ·rw [n, Bool.false_and, Bool.and_false]
 ·rw [n, Bool.and_false, Bool.and_false]⟩
theorem seq_go {a b : TS} {D : Ends} {σ : St} {H : Hp} (h : a { D with nx := b D } σ H) : tSeq a b D σ H := h
theorem for_go {g : TG} {tb : TS} {D : Ends} {σ : St} {H : Hp} {tl : TE} (h : tl σ H fun x H1 => ∃ a, x = .ref a /\ (∃ xs, SqL K H1 a xs) /\ ∃ W : Nat -> Nat -> St -> Hp -> Prop, (∃ m, W 0 m σ H1) /\ ∀ i m σ H, W i m σ H ->
 ((Itl K a).stop i H /\ D.nx σ H) \/ ((Itl K a).go i H /\ ∃ N : St -> Hp -> Prop, (∀ σ' H', N σ' H' -> ∃ m', m' < m /\ W (i + 1) m' σ' H') /\ ∀ x H', (Itl K a).yld i H x H' -> g x σ H' fun σ2 H2 => tb { D with nx := N, ct := N, bk := D.nx } σ2 H2)) : tFor (iList K tl) g tb D σ H := h
theorem ok_law (T : Txt K mg) (F : Fun K "law" "law" s_law f fd) (C_law_pen : Cal P w K mg base (CXE P w) 1 "_law_pen" ["_law_script"] (spPen K)) (C_law_code : Cal P w K mg base (CXE P w) 5 "_law_code" ["_law_pen_here"] (spCodeB K)) (C_law_flat : Cal P w K mg base (CXE P w) 1 "_law_flat" ["_law_heads", "_law_rows"] spFlat) (C_law_bent : Cal P w K mg base (CXE P w) 4 "_law_bent" ["_law_pen_here", "_law_heads", "_law_rows"] (spBent K)) (C_law_odd : Cal P w K mg base (CXE P w) 3 "_law_odd" ["_law_pen_here", "_law_numbers"] (spOdd K)) (C_law_tried : Cal P w K mg base (CXE P w) 9 "_law_tried" ["_law_way", "_law_one", "_law_other"] (spTried K)) (C_law_refused : Cal P w K mg base (CXE P w) 10 "_law_refused" ["_law_thing"] (spRefused K)) (Cis_code : Cal P w K mg base (CXE P w) 3 "is_code" ["thing"] (spIsCodeX K)) : FnOk P w K mg base (CXE P w) 11 f fd ["_law_script"] (spLaw K) := by
 refine F.okN kH (fun vs H Q E h => ?_) (fun cdv A outer s H vs Q E hr h => ?_)
 ·obtain ⟨a, ns, rfl, _⟩ := h
  rfl
 obtain ⟨a, ns, rfl, hsc, hl, q⟩ := h
 refine ⟨_, (zE (zT (i := 1) kH.nd rfl (Or.inl rfl) (zH C_law_pen hr rfl (zA (pv 0) zC) passN))
   (zE (jQ (zH C_law_code hr rfl (zA (pv 1) zC) passN) (qP rfl (yK (yH (i := 2) kH.nd rfl (Or.inl rfl)) (yK (yH (i := 3) kH.nd rfl (Or.inl rfl)) jR))))
   (zE (zT (i := 4) kH.nd rfl (Or.inl rfl) (zH C_law_flat hr rfl (zA (pv 2) (zA (pv 3) zC)) passN))
   (zE (qO PassesOwn.never rfl (kE rfl T.n_range (zA zF zC)) (yH (i := 5) kH.nd rfl (Or.inl rfl)) (zE (jQ (zH C_law_bent hr rfl (zA (pv 1) (zA (pv 2) (zA (pv 3) zC))) passN) (qP rfl (yK (yH (i := 6) kH.nd rfl (Or.inl rfl)) (yK (yH (i := 7) kH.nd rfl (Or.inl rfl)) jR))))
   (zE (zW (PW.pt (qL (zI op_ne (zH C_law_tried hr rfl (zA zF (zA (pv 6) (zA (pv 7) zC))) passN) jB (nomark _)) (jE (kI (qM (zH C_law_refused hr rfl (zA (zH C_law_flat hr rfl (zA (pv 6) (zA (pv 7) zC)) passN) zC) passN)))))) (zG (zL jL)) zN)
   (zG (zW (kI (qM (zH C_law_refused hr rfl (zA (zH C_law_odd hr rfl (zA (pv 1) (zA (pv 4) zC)) passN) zC) passN))) (zG (zL jL)) zN)))))
   (zE (qO PassesOwn.never rfl (pi_list (zV (zA (zM (zA xI (zA (pv 3) zC))) (zA (zM (zA (pv 2) (zA xI zC))) (zA (zM (zA jB (zA (pv 3) zC))) (zA (zM (zA (pv 2) (zA zF zC))) (zA (zM (zA (zV (zA (zM (zS (.int (.int .nil)))) zC)) (zA (pv 3) zC))) (zA (zM (zA (pv 2) (zA (zV (zA (zM (zS (.int (.int (.int .nil))))) zC)) zC))) zC)))))))) (qP rfl (yK (yH (i := 8) kH.nd rfl (Or.inl rfl)) (yK (yH (i := 9) kH.nd rfl (Or.inl rfl)) jR))) (zG (zW (zI op_ne (zH C_law_tried hr rfl (zA zF (zA (pv 8) (zA (pv 9) zC))) passN) jB (nomark _)) (zG (zL jL)) zN)))
   (zE (qO PassesOwn.never rfl (pi_list (zV (zA (zM (zA (zV (zA xI zC)) (zA (pv 3) zC))) (zA (zM (zA (pv 2) (zA (zV (zA jB zC)) zC))) (zA (zM (zA (zV (zA (zM (zA zF (zA zF (zA jL zC)))) zC)) (zA (pv 3) zC))) (zA (zM (zA (pv 2) (zA (zV (zA (zM (zA zF (zA xI zC))) zC)) zC))) (zA (zM (zA pe_dnewK (zA pe_dnewK zC))) zC))))))) (qP rfl (yK (yH (i := 8) kH.nd rfl (Or.inl rfl)) (yK (yH (i := 9) kH.nd rfl (Or.inl rfl)) jR))) (zG (zW (zI op_ne (zH C_law_tried hr rfl (zA zF (zA (pv 8) (zA (pv 9) zC))) passN) jB (nomark _)) (zG (zL jL)) zN)))
   (zG (zL (vD (kU op_isB (zH Cis_code hr rfl (zA (pv 4) zC) passN) jL (nomark _)) (vD (kU yJ (zH C_law_tried hr rfl (zA zF (zA (pv 2) (zA (pv 3) zC))) passN) jB (nomark _)) (pe_one (kU yJ (zH C_law_tried hr rfl (zA zF (zA (pv 4) (zA xI zC))) passN) jB (nomark _))))))))))))), ?_⟩
 try dsimp only [Cx.nox, Cx.exc, Cx.wish, zY]
 refine ⟨_, rfl, a, ns, rfl, hsc, hl, fun st H1 hst s1 D1 => ?_⟩
 try dsimp only [gName, List.set]
 refine ⟨_, rfl, st, rfl, D1, fun t hd rw hs rs H2 d2 et GH GR hhd hrw nhr cp vb l24 => ?_⟩
 refine ⟨t, _, rfl, SqT.of et, rfl, _, _, rfl, _, _, rfl, rfl, ?_⟩
 try dsimp only [gName, List.set]
 have nh : hd ≠ st := Ne.symm (D1.ne hhd)
 have nr : rw ≠ st := Ne.symm (D1.ne hrw)
 have h3 := cp.h3
 have r2 := cp.r2
 have h16 := cp.h16
 have D2 := d2.pen
 refine ⟨_, rfl, _, rfl, hd, rw, hs, rs, rfl, GH, GR, by (first|lia|omega), by (first|lia|omega), ?_, fun nl H3 s3 hnl enl => ?_⟩
 ·intro g m
  rcases List.mem_append.mp m with z | z
  ·rw [h3 g z]; decide
  ·rw [r2 g z]; decide
 have nn : nl ≠ st := Ne.symm (D2.ne hnl)
 have GH := GrpAt.sm GH s3
 have GR := GrpAt.sm GR s3
 have D3 := D2.same s3
 have okc := cp.ok
 have lns : (codeL hs rs).length <= 1000 := by
  have := xU h3
  have := xU r2
  unfold codeL
  rw [List.length_cons, List.length_append]
  (first|lia|omega)
 clear et hhd hrw hnl s3 d2
 try dsimp only [gName, List.set]
 have sA : ∀ {H0 H' : Hp}, Pen K H0 st -> Penned K st H0 H' -> GrpAt H0 hd hs -> GrpAt H0 rw rs -> H0 nl = some (.lst ((codeL hs rs).map V.int)) -> GrpAt H' hd hs /\ GrpAt H' rw rs /\ H' nl = some (.lst ((codeL hs rs).map V.int)) := fun D d a b c => ⟨GrpAt.pnd a D d nh, GrpAt.pnd b D d nr, d.keep _ _ nn c⟩
 refine ⟨_, rfl, by decide, by decide, wO (lo := 0) (n := (6 : Int).toNat) (fun i σ' H' => ∃ (v5 v6 v7 : Option V), σ' = [some (.ref a), some (.ref st), some (.ref hd), some (.ref rw), some (.ref nl), v5, v6, v7, none, none] /\ Pen K H' st /\ GrpAt H' hd hs /\ GrpAt H' rw rs /\ H' nl = some (.lst ((codeL hs rs).map V.int))) ⟨none, none, none, rfl, D3, GH, GR, enl⟩ ?_ ?_⟩
 ·rintro i σ' H4 hi ⟨v5, v6, v7, rfl, D4, GH, GR, enl⟩
  try dsimp only [gName, List.set]
  refine ⟨_, rfl, _, rfl, _, rfl, st, hd, rw, hs, rs, rfl, D4, GH, GR, nh, nr, cp, l24, fun t hd' rw' hs' rs' H5 d5 et GH' GR' nc => ?_⟩
  refine ⟨t, _, rfl, SqT.of et, rfl, _, _, rfl, _, _, rfl, rfl, ?_⟩
  obtain ⟨GH, GR, enl⟩ := sA D4 d5 GH GR enl
  have D5 := d5.pen
  have lh' := nc.lh
  have lr' := nc.lr
  try dsimp only [gName, List.set]
  refine ⟨_, rfl, _, rfl, 3, .ref hd', .ref rw', rfl, .inr (.inr ⟨rfl, _, _, SeqH.part3 GH' nc.h3 (by (first|lia|omega)), SeqH.part3 GR' nc.r2 (by (first|lia|omega)), .inl ⟨fun zs ws e1 e2 => ?_, fun H6 s6 => ?_⟩⟩)⟩
  ·cases e1
   cases e2
   rw [told_code nc.h3]
   exact fun c => nc.no (xV.mp c)
  refine ⟨rfl, _, rfl, iteN rfl ?_⟩
  have lc' : (codeL hs' rs').length <= 1000000 := by
   have := xU nc.h3
   have := xU nc.r2
   unfold codeL
   rw [List.length_cons, List.length_append]
   (first|lia|omega)
  refine ⟨_, rfl, _, rfl, hd', rw', hs', rs', rfl, GrpAt.sm GH' s6, GrpAt.sm GR' s6, by (first|lia|omega), by (first|lia|omega), ?_, fun l7 H7 s7 hl7 el7 => ?_⟩
  ·intro g m
   rcases List.mem_append.mp m with z | z
   ·rw [nc.h3 g z]; decide
   ·rw [nc.r2 g z]; decide
  refine ⟨.ref l7, _, rfl, Thing.ints el7 lc', fun c => nc.no (xV.mp c), fun H8 s8 => ⟨_, rfl, iteF ?_⟩⟩
  have s68 := s6.trans (s7.trans s8)
  have D8 := D5.same s68
  have GH := GrpAt.sm GH s68
  have GR := GrpAt.sm GR s68
  have enl := s68 _ _ enl
  try dsimp only [gName, List.set]
  refine ⟨_, rfl, _, rfl, st, nl, codeL hs rs, rfl, D8, enl, nn, okc, lns, fun v H9 d9 ov => ?_⟩
  obtain ⟨⟨o, th, no⟩, _⟩ := ov
  obtain ⟨GH, GR, enl⟩ := sA D8 d9 GH GR enl
  refine ⟨v, o, rfl, th, no, fun H10 s10 => ⟨_, rfl, iteF ?_⟩⟩
  exact ⟨_, _, _, rfl, d9.pen.same s10, GrpAt.sm GH s10, GrpAt.sm GR s10, s10 _ _ enl⟩
 clear GH GR enl D3
 rintro σ' H4 ⟨v5, v6, v7, rfl, D4, GH, GR, enl⟩
 try dsimp only [gName, List.set]
 have kn3 : ∀ {H : Hp}, ∀ y ∈ [V.int 0, .int 0, .bl true], Kn K H y := fun {H} y m => by
  simp only [List.mem_cons, List.not_mem_nil, or_false] at m
  rcases m with rfl | rfl | rfl
  ·exact Kn.int 0
  ·exact Kn.int 0
  ·exact ⟨"bool", by decide, .bl true⟩
 have kn2 : ∀ {H : Hp}, ∀ y ∈ [V.int 0, .non], Kn K H y := fun {H} y m => by
  simp only [List.mem_cons, List.not_mem_nil, or_false] at m
  rcases m with rfl | rfl
  ·exact Kn.int 0
  ·exact ⟨"NoneType", by decide, .non⟩
 have TH : Things K H4 3 (.ref hd) (some (hs.flatten.map V.int)) := SeqH.part3 GH h3 (by (first|lia|omega))
 have TR : Things K H4 2 (.ref rw) (some (rs.flatten.map V.int)) := SeqH.part3 GR r2 (by (first|lia|omega))
 try dsimp only
 refine seq_go (for_go ?_)
 refine PasE.go (K := K) (m := 6) ?_ (by decide) (fun L1 xs1 G1 g1 eL1 all1 => ?_)
 ·refine PasE.cons ?_ (PasE.cons ?_ (PasE.cons ?_ (PasE.cons ?_ (PasE.cons ?_ (PasE.cons ?_ PasE.nil)))))
  ·exact fun H1 s1 Q q => ⟨_, rfl, small (show 2 <= 1000 by decide), fun t ht => q t .non (.ref rw) _ (zD ht _) zB (BadP.left (.no (t := "NoneType") (by decide) (by decide) .non) (TR.same (s1.trans (zD ht _))))⟩
  ·exact fun H1 s1 Q q => ⟨_, rfl, small (show 2 <= 1000 by decide), fun t ht => q t (.ref hd) .non _ (zD ht _) zB (BadP.right (TH.same (s1.trans (zD ht _))) (.no (t := "NoneType") (by decide) (by decide) .non))⟩
  ·exact fun H1 s1 Q q => ⟨_, rfl, small (show 2 <= 1000 by decide), fun t ht => q t (.str _) (.ref rw) _ (zD ht _) zB (BadP.left (.no (t := "str") (by decide) (by decide) (.str _)) (TR.same (s1.trans (zD ht _))))⟩
  ·exact fun H1 s1 Q q => ⟨_, rfl, small (show 2 <= 1000 by decide), fun t ht => q t (.ref hd) (.int 7) _ (zD ht _) zB (BadP.right (TH.same (s1.trans (zD ht _))) (.no (t := "int") (by decide) (by decide) (.int _)))⟩
  ·exact fun H1 s1 Q q => ⟨small (show 2 <= 1000 by decide), fun x kx => ⟨small (show 1 <= 1000 by decide), fun l kl => ⟨_, rfl, small (show 2 <= 1000 by decide), fun t ht => q t (.ref l) (.ref rw) _ ((zD kx _).trans ((zD kl _).trans (zD ht _))) zB (BadP.left (Things.one (o := none) (zD ht _ _ _ zB) (.bad (.inr (((zD kl _).trans (zD ht _)) _ _ zB)) (by decide))) (TR.same (s1.trans ((zD kx _).trans ((zD kl _).trans (zD ht _))))))⟩⟩⟩
  ·exact fun H1 s1 Q q => ⟨_, rfl, small (show 3 <= 1000 by decide), fun x kx => ⟨small (show 1 <= 1000 by decide), fun l kl => ⟨small (show 2 <= 1000 by decide), fun t ht => q t (.ref hd) (.ref l) _ ((zD kx _).trans ((zD kl _).trans (zD ht _))) zB (BadP.right (TH.same (s1.trans ((zD kx _).trans ((zD kl _).trans (zD ht _))))) (Things.one (o := none) (zD ht _ _ _ zB) (.bad (.inr (((zD kl _).trans (zD ht _)) _ _ zB)) (by decide))))⟩⟩⟩
 refine ⟨L1, rfl, ⟨_, SqL.of eL1⟩, for_list (xs := xs1) (fun i σ' H' => ∃ (v8 v9 : Option V), σ' = [some (.ref a), some (.ref st), some (.ref hd), some (.ref rw), some (.ref nl), v5, v6, v7, v8, v9] /\ Same G1 H') ⟨none, none, rfl, fun _ _ e => e⟩ ?_ ?_ ?_⟩
 ·rintro i σ' H' _ ⟨_, _, _, s⟩
  exact SqL.of (s _ _ eL1)
 ·rintro i x σ' H5 hx ⟨v8, v9, rfl, s5⟩
  obtain ⟨t, v1, v2, rfl, et, o1, o2, T1, T2, no⟩ := (all1 x (List.mem_of_getElem? hx)).same s5
  try dsimp only [gName, List.set]
  refine ⟨t, _, rfl, SqT.of et, rfl, _, _, rfl, _, _, rfl, rfl, ?_⟩
  try dsimp only [gName, List.set]
  refine ⟨_, rfl, _, rfl, 3, v1, v2, rfl, .inr (.inr ⟨rfl, o1, o2, T1, T2, .inl ⟨no, fun H6 s6 => ?_⟩⟩)⟩
  exact ⟨rfl, _, rfl, iteN rfl ⟨_, _, rfl, s5.trans s6⟩⟩
 rintro σ' H5 ⟨v8, v9, rfl, s5⟩
 have s45 := g1.trans s5
 have TH := TH.same s45
 have TR := TR.same s45
 have enl := s45 _ _ enl
 clear GH GR D4 s45 s5 g1 all1 eL1
 try dsimp only
 refine seq_go (for_go ?_)
 refine PasE.go (K := K) (m := 5) ?_ (by decide) (fun L2 xs2 G2 g2 eL2 all2 => ?_)
 ·refine PasE.cons ?_ (PasE.cons ?_ (PasE.cons ?_ (PasE.cons ?_ (PasE.cons ?_ PasE.nil))))
  ·exact fun H1 s1 Q q => ⟨small (show 1 <= 1000 by decide), fun l kl => ⟨_, rfl, small (show 2 <= 1000 by decide), fun t ht => q t (.ref l) (.ref rw) _ ((zD kl _).trans (zD ht _)) zB (BadP.left (Things.one (o := none) (zD ht _ _ _ zB) (.no (t := "NoneType") (by decide) (by decide) .non)) (TR.same (s1.trans ((zD kl _).trans (zD ht _)))))⟩⟩
  ·exact fun H1 s1 Q q => ⟨_, rfl, small (show 1 <= 1000 by decide), fun l kl => ⟨small (show 2 <= 1000 by decide), fun t ht => q t (.ref hd) (.ref l) _ ((zD kl _).trans (zD ht _)) zB (BadP.right (TH.same (s1.trans ((zD kl _).trans (zD ht _)))) (Things.one (o := none) (zD ht _ _ _ zB) (.no (t := "str") (by decide) (by decide) (.str _))))⟩⟩
  ·exact fun H1 s1 Q q => ⟨small (show 3 <= 1000 by decide), fun x kx => ⟨small (show 1 <= 1000 by decide), fun l kl => ⟨_, rfl, small (show 2 <= 1000 by decide), fun t ht => q t (.ref l) (.ref rw) _ ((zD kx _).trans ((zD kl _).trans (zD ht _))) zB (BadP.odd (Things.one (o := some [.int 0, .int 0, .bl true]) (zD ht _ _ _ zB) (.ok (.inr (((zD kl _).trans (zD ht _)) _ _ zB)) rfl kn3)) (TR.same (s1.trans ((zD kx _).trans ((zD kl _).trans (zD ht _))))) (.inl rfl))⟩⟩⟩
  ·exact fun H1 s1 Q q => ⟨_, rfl, small (show 2 <= 1000 by decide), fun x kx => ⟨small (show 1 <= 1000 by decide), fun l kl => ⟨small (show 2 <= 1000 by decide), fun t ht => q t (.ref hd) (.ref l) _ ((zD kx _).trans ((zD kl _).trans (zD ht _))) zB (BadP.odd (TH.same (s1.trans ((zD kx _).trans ((zD kl _).trans (zD ht _))))) (Things.one (o := some [.int 0, .non]) (zD ht _ _ _ zB) (.ok (.inr (((zD kl _).trans (zD ht _)) _ _ zB)) rfl kn2)) (.inr rfl))⟩⟩⟩
  ·exact fun H1 s1 Q q x kx y ky => ⟨small (show 2 <= 1000 by decide), fun t ht => q t (.ref x) (.ref y) _ ((zD kx _).trans ((zD ky _).trans (zD ht _))) zB (BadP.left (.no (t := "dict") (by decide) (by decide) (.dK (((zD ky _).trans (zD ht _)) _ _ zB))) (.no (t := "dict") (by decide) (by decide) (.dK (zD ht _ _ _ zB))))⟩
 refine ⟨L2, rfl, ⟨_, SqL.of eL2⟩, for_list (xs := xs2) (fun i σ' H' => ∃ (v8 v9 : Option V), σ' = [some (.ref a), some (.ref st), some (.ref hd), some (.ref rw), some (.ref nl), v5, v6, v7, v8, v9] /\ Same G2 H') ⟨v8, v9, rfl, fun _ _ e => e⟩ ?_ ?_ ?_⟩
 ·rintro i σ' H' _ ⟨_, _, _, s⟩
  exact SqL.of (s _ _ eL2)
 ·rintro i x σ' H7 hx ⟨v8, v9, rfl, s7⟩
  obtain ⟨t, v1, v2, rfl, et, o1, o2, T1, T2, no⟩ := (all2 x (List.mem_of_getElem? hx)).same s7
  try dsimp only [gName, List.set]
  refine ⟨t, _, rfl, SqT.of et, rfl, _, _, rfl, _, _, rfl, rfl, ?_⟩
  try dsimp only [gName, List.set]
  refine ⟨_, rfl, _, rfl, 3, v1, v2, rfl, .inr (.inr ⟨rfl, o1, o2, T1, T2, .inl ⟨no, fun H8 s8 => ?_⟩⟩)⟩
  exact ⟨rfl, _, rfl, iteN rfl ⟨_, _, rfl, s7.trans s8⟩⟩
 rintro σ' H7 ⟨v8, v9, rfl, s7⟩
 have s57 := g2.trans s7
 have TH := TH.same s57
 have TR := TR.same s57
 have enl := s57 _ _ enl
 try dsimp only [gName, List.set]
 refine ⟨_, rfl, .ref nl, _, rfl, Thing.ints enl (by (first|lia|omega)), fun r H9 s9 z => ?_⟩
 rw [z.mpr (xV.mpr okc)]
 refine ⟨_, _, rfl, rfl, _, rfl, iteT ?_⟩
 refine ⟨_, rfl, _, rfl, 3, .ref hd, .ref rw, rfl, .inr (.inr ⟨rfl, _, _, TH.same s9, TR.same s9, .inr ⟨_, _, rfl, rfl, by rw [told_code h3]; exact xV.mpr okc, fun H10 s10 => ?_⟩⟩)⟩
 refine ⟨rfl, _, rfl, iteT ?_⟩
 refine ⟨_, rfl, 2, .ref nl, .non, rfl, .inr (.inl ⟨rfl, nl, rfl, ⟨hs, rs, (s9.trans s10) _ _ enl, cp, vb⟩, fun H11 s11 => ?_⟩)⟩
 exact ⟨rfl, q _⟩

end
section
variable {P : Program} {w : World} {K : PySem.W.Frag} {mg : Str -> Option Value} {base : Heap} {f : Addr} {fd : FuncData}
set_option maxHeartbeats 4000000

theorem heads_X {CC : Addr} : ∀ vs H Q E, spHeadsOf vs H Q E -> spHeadsOfX K CC vs H Q E := fun vs H Q E ⟨a, ns, e, ha, hl, hk, q⟩ => ⟨.ref a, _, e, Thing.ints ha hl, fun ms em _ l H' g n at2 => by
 injection em with em
 rw [<- ints_inj em] at at2
 exact q l H' g n at2, fun nc => absurd (xV.mpr hk) nc⟩
theorem rows_X {CC : Addr} : ∀ vs H Q E, spRowsOf vs H Q E -> spRowsOfX K CC vs H Q E := fun vs H Q E ⟨a, ns, e, ha, hl, hk, q⟩ => ⟨.ref a, _, e, Thing.ints ha hl, fun ms em _ l H' g n at2 => by
 injection em with em
 rw [<- ints_inj em] at at2
 exact q l H' g n at2, fun nc => absurd (xV.mpr hk) nc⟩
theorem ok_goX {MM MD CC : Addr} (h0 : FnOk P w K mg base (CXE P w) 8 f fd ["code", "given", "breaths", "most"] (spGoG MM MD)) (h1 : FnOk P w K mg base (CXE P w) 8 f fd ["code", "given", "breaths", "most"] (spGoE K CC)) : FnOk P w K mg base (CXE P w) 8 f fd ["code", "given", "breaths", "most"] (spGoX K MM MD CC) := by
 refine FnOk.ex (sp := fun d => match d with | 0 => spGoG MM MD | _ => spGoE K CC) (fun d => ?_) (fun vs H Q E h => ?_)
 ·cases d with
  | zero => exact h0
  | succ d => exact h1
 ·rcases h with h | h
  ·exact ⟨0, h⟩
  ·exact ⟨1, h⟩
theorem kit_no2 {K : PySem.W.Frag} {t a b : Value} (ha : PySem.W.kitOne K t a = some false) (hb : PySem.W.kitOne K t b = some false) : PySem.W.kitAny K t [a, b] = some false := by
 unfold PySem.W.kitAny
 rw [ha]
 unfold PySem.W.kitAny
 rw [hb] <;> rfl
theorem mem7 {Q : String -> Prop} (h1 : Q "int") (h2 : Q "bool") (h3 : Q "str") (h4 : Q "NoneType") (h5 : Q "list") (h6 : Q "tuple") (h7 : Q "dict") : ∀ t ∈ kinds7, Q t := fun t m => by
 unfold kinds7 at m
 simp only [List.mem_cons, List.not_mem_nil, or_false] at m
 rcases m with rfl | rfl | rfl | rfl | rfl | rfl | rfl
 ·exact h1
 ·exact h2
 ·exact h3
 ·exact h4
 ·exact h5
 ·exact h6
 ·exact h7
theorem bare_of {K : PySem.W.Frag} {C CE N nsC : Addr} {nm q : Str} {bs : List Value} {sn : List Str} {sub : List Value} {ab : Bool} {col : Option Bool} {dd ddC ddD ddY : Option Addr} {k0 k1 k2 k3 k5 : Option Value} {ccC ccD ccY : Value} {cd : ClassData} {slC slD slY : Array (Option Value)} {esD esY : Array DictEntry} {nD nY : Nat}
  (h : K.lookup C = some (excClassObj nm q C N bs (.ref CE :: bmValue) true sn sub ab col dd k0 k1 k2 k3 k5 "ValueError.__new__"))
  (hC : K.lookup CE = some ⟨ccC, ddC, .cls cd, slC⟩) (hn : cd.ns = nsC) (hD : K.lookup nsC = some ⟨ccD, ddD, .dict esD nD, slD⟩) (eD : (esD.toList.all fun e => match e.key with | .str _ _ => true | _ => false) = true) (fD : PySem.W.nsIn K nsC "__init__" = some none)
  (hY : K.lookup N = some ⟨ccY, ddY, .dict esY nY, slY⟩) (eY : (esY.toList.all fun e => match e.key with | .str _ _ => true | _ => false) = true) (fY : PySem.W.nsIn K N "__init__" = some none) : ExBare K C :=
 ⟨_, _, _, _, _, _, _, _, _, _, _, _, _, _, _, _, h, rfl, exc_tail hC hn (ns_ok hD eD) fD, fun _ X => ⟨_, .of_isNs (PySem.W.isNs_of_in X (ns_ok hY eY)), PySem.W.nsMap_none_of_in X (ns_ok hY eY) fY⟩⟩

end
set_option maxHeartbeats 4000000


theorem ln1 {α : Type} {us : List α} (h : us.length = 1) : ∃ a0, us = [a0] := match us, h with | [a0], _ => ⟨a0, rfl⟩
theorem ln2 {α : Type} {us : List α} (h : us.length = 2) : ∃ a0 a1, us = [a0, a1] := match us, h with | [a0, a1], _ => ⟨a0, a1, rfl⟩
theorem ln3 {α : Type} {us : List α} (h : us.length = 3) : ∃ a0 a1 a2, us = [a0, a1, a2] := match us, h with | [a0, a1, a2], _ => ⟨a0, a1, a2, rfl⟩
theorem ln4 {α : Type} {us : List α} (h : us.length = 4) : ∃ a0 a1 a2 a3, us = [a0, a1, a2, a3] := match us, h with | [a0, a1, a2, a3], _ => ⟨a0, a1, a2, a3, rfl⟩
theorem all_mk {l : PySem.W.OpenLaw} {w : World} {K : PySem.W.Frag} {h : Heap} {mg : Str -> Option Value} {fa f0 f1 f2 f3 f4 f5 f6 f7 f8 f9 f10 f11 f12 f13 f14 f15 f16 f17 f18 f19 f20 f21 f22 f23 f24 f25 f26 f27 f28 f29 f30 f31 f32 f33 f34 f35 f36 f37 f38 f39 f40 f41 f42 f43 f44 f45 f46 f47 f48 f49 : Addr} {nmN qN : Str} {NN aP : Addr} {bsN subN : List Value} {snN : List Str} {abN : Bool} {colN : Option Bool} {ddN : Option Addr} {k0N k1N k2N k3N k5N : Option Value} {cFault cDoing cMachine : Addr} {tADD tNEW tMOST_FUNCTIONS tMOST_PARAMS tMOST_BOXES tMOST_MANY tLEAST_PICK tOP_PUSH tOP_GET tOP_SET tOP_DROP tOP_JUMP tOP_UNLESS tOP_CALL tOP_BACK tOP_FAIL tOP_BREATH tOP_DO tOP_PICK tHEAD_SIZE tROW_SIZE tMOST_DONE_AT_ONCE tANSWER tSUB tMUL tQUO tLESS tSAME tPUSH tPUT tSIZE tGREAT tFAIL : Tok} {tPARTS0 tPARTS1 tPARTS2 tPARTS3 tPARTS4 tPARTS5 tPARTS6 tPARTS7 tPARTS8 tPARTS9 tPARTS10 tPARTS11 tPARTS12 : Tok} {nPARTS : Nat} {sPARTS : Array (Option Value)} {cNoCode cChainError cNoSheet cNoText cNoRow cNoName : Addr} {nmY qY : Str} {NY : Addr} {bsY subY : List Value} {snY : List Str} {abY : Bool} {colY : Option Bool} {ddY : Option Addr} {k0Y k1Y k2Y k3Y k5Y : Option Value} {nmC qC : Str} {nsC : Addr} {bsC mroC subC : List Value} {snC : List Str} {hdC abC delC : Bool} {colC : Option Bool} {ddC ddD ddE : Option Addr} {ccC ccD ccE : Value} {slC slD slE : Array (Option Value)} {esD esE : Array DictEntry} {nD nE : Nat}  (X : K.In h) (G : h.Ns mainGlobals mg) (hfa : mg "law" = some (.ref fa))
  {od0 an0 od1 an1 od2 an2 od3 an3 od4 an4 od5 an5 od6 an6 od7 an7 od8 an8 od9 an9 od10 an10 od11 an11 od12 an12 od13 an13 od14 an14 od15 an15 od16 an16 od17 an17 od18 an18 od19 an19 od20 an20 od21 an21 od22 an22 od23 an23 od24 an24 od25 an25 od26 an26 od27 an27 od28 an28 od29 an29 od30 an30 od31 an31 od32 an32 od33 an33 od34 an34 od35 an35 od36 an36 od37 an37 od38 an38 od39 an39 od40 an40 od41 an41 od42 an42 od43 an43 od44 an44 od45 an45 od46 an46 od47 an47 od48 an48 od49 an49 : Option Addr} {sl0 sl1 sl2 sl3 sl4 sl5 sl6 sl7 sl8 sl9 sl10 sl11 sl12 sl13 sl14 sl15 sl16 sl17 sl18 sl19 sl20 sl21 sl22 sl23 sl24 sl25 sl26 sl27 sl28 sl29 sl30 sl31 sl32 sl33 sl34 sl35 sl36 sl37 sl38 sl39 sl40 sl41 sl42 sl43 sl44 sl45 sl46 sl47 sl48 sl49 : Array (Option Value)} {oc0 kV0 dc0 pm0 cd0 ct0 oc1 kV1 dc1 pm1 cd1 ct1 oc2 kV2 dc2 pm2 cd2 ct2 oc3 kV3 dc3 pm3 cd3 ct3 oc4 kV4 dc4 pm4 cd4 ct4 oc5 kV5 dc5 pm5 cd5 ct5 oc6 kV6 dc6 pm6 cd6 ct6 oc7 kV7 dc7 pm7 cd7 ct7 oc8 kV8 dc8 pm8 cd8 ct8 oc9 kV9 dc9 pm9 cd9 ct9 oc10 kV10 dc10 pm10 cd10 ct10 oc11 kV11 dc11 pm11 cd11 ct11 oc12 kV12 dc12 pm12 cd12 ct12 oc13 kV13 dc13 pm13 cd13 ct13 oc14 kV14 dc14 pm14 cd14 ct14 oc15 kV15 dc15 pm15 cd15 ct15 oc16 kV16 dc16 pm16 cd16 ct16 oc17 kV17 dc17 pm17 cd17 ct17 oc18 kV18 dc18 pm18 cd18 ct18 oc19 kV19 dc19 pm19 cd19 ct19 oc20 kV20 dc20 pm20 cd20 ct20 oc21 kV21 dc21 pm21 cd21 ct21 oc22 kV22 dc22 pm22 cd22 ct22 oc23 kV23 dc23 pm23 cd23 ct23 oc24 kV24 dc24 pm24 cd24 ct24 oc25 kV25 dc25 pm25 cd25 ct25 oc26 kV26 dc26 pm26 cd26 ct26 oc27 kV27 dc27 pm27 cd27 ct27 oc28 kV28 dc28 pm28 cd28 ct28 oc29 kV29 dc29 pm29 cd29 ct29 oc30 kV30 dc30 pm30 cd30 ct30 oc31 kV31 dc31 pm31 cd31 ct31 oc32 kV32 dc32 pm32 cd32 ct32 oc33 kV33 dc33 pm33 cd33 ct33 oc34 kV34 dc34 pm34 cd34 ct34 oc35 kV35 dc35 pm35 cd35 ct35 oc36 kV36 dc36 pm36 cd36 ct36 oc37 kV37 dc37 pm37 cd37 ct37 oc38 kV38 dc38 pm38 cd38 ct38 oc39 kV39 dc39 pm39 cd39 ct39 oc40 kV40 dc40 pm40 cd40 ct40 oc41 kV41 dc41 pm41 cd41 ct41 oc42 kV42 dc42 pm42 cd42 ct42 oc43 kV43 dc43 pm43 cd43 ct43 oc44 kV44 dc44 pm44 cd44 ct44 oc45 kV45 dc45 pm45 cd45 ct45 oc46 kV46 dc46 pm46 cd46 ct46 oc47 kV47 dc47 pm47 cd47 ct47 oc48 kV48 dc48 pm48 cd48 ct48 oc49 kV49 dc49 pm49 cd49 ct49 : Value}
  (c_Fault : PySem.W.nsIn K mainGlobals "Fault" = some (some (.ref cFault)))
  (c_Doing : PySem.W.nsIn K mainGlobals "Doing" = some (some (.ref cDoing)))
  (c_Machine : PySem.W.nsIn K mainGlobals "Machine" = some (some (.ref cMachine)))
  (c_NoCode : PySem.W.nsIn K mainGlobals "NoCode" = some (some (.ref cNoCode)))
  (c_ChainError : PySem.W.nsIn K mainGlobals "ChainError" = some (some (.ref cChainError)))
  (c_NoSheet : PySem.W.nsIn K mainGlobals "NoSheet" = some (some (.ref cNoSheet)))
  (c_NoText : PySem.W.nsIn K mainGlobals "NoText" = some (some (.ref cNoText)))
  (c_NoRow : PySem.W.nsIn K mainGlobals "NoRow" = some (some (.ref cNoRow)))
  (c_NoName : PySem.W.nsIn K mainGlobals "NoName" = some (some (.ref cNoName)))
  (a0 : PySem.W.findIn K (.ref cFault) "__init__" = some (some (.ref f0))) (l0 : K.lookup f0 = some ⟨oc0, od0, .func (PySem.W.fnOf "__init__" "Fault.__init__" (defArgs yX) (defBody yX) (defScope yX) .none kV0 dc0 pm0 an0 cd0 ct0), sl0⟩) (c0 : PySem.W.codeIn K cd0 "Fault.__init__" = true) (k0 : PySem.W.keepIn K (.ref f0) = true)
  (a1 : PySem.W.findIn K (.ref cDoing) "__init__" = some (some (.ref f1))) (l1 : K.lookup f1 = some ⟨oc1, od1, .func (PySem.W.fnOf "__init__" "Doing.__init__" (defArgs yY) (defBody yY) (defScope yY) .none kV1 dc1 pm1 an1 cd1 ct1), sl1⟩) (c1 : PySem.W.codeIn K cd1 "Doing.__init__" = true) (k1 : PySem.W.keepIn K (.ref f1) = true)
  (a2 : PySem.W.findIn K (.ref cMachine) "__init__" = some (some (.ref f2))) (l2 : K.lookup f2 = some ⟨oc2, od2, .func (PySem.W.fnOf "__init__" "Machine.__init__" (defArgs yR) (defBody yR) (defScope yR) .none kV2 dc2 pm2 an2 cd2 ct2), sl2⟩) (c2 : PySem.W.codeIn K cd2 "Machine.__init__" = true) (k2 : PySem.W.keepIn K (.ref f2) = true)
  (a3 : PySem.W.findIn K (.ref cMachine) "breathe" = some (some (.ref f3))) (l3 : K.lookup f3 = some ⟨oc3, od3, .func (PySem.W.fnOf "breathe" "Machine.breathe" (defArgs yU) (defBody yU) (defScope yU) .none kV3 dc3 pm3 an3 cd3 ct3), sl3⟩) (c3 : PySem.W.codeIn K cd3 "Machine.breathe" = true) (k3 : PySem.W.keepIn K (.ref f3) = true)
  (a4 : PySem.W.nsIn K mainGlobals "parts_of" = some (some (.ref f4))) (l4 : K.lookup f4 = some ⟨oc4, od4, .func (PySem.W.fnOf "parts_of" "parts_of" (defArgs jV) (defBody jV) (defScope jV) .none kV4 dc4 pm4 an4 cd4 ct4), sl4⟩) (c4 : PySem.W.codeIn K cd4 "parts_of" = true) (k4 : PySem.W.keepIn K (.ref f4) = true)
  (a5 : PySem.W.nsIn K mainGlobals "is_whole" = some (some (.ref f5))) (l5 : K.lookup f5 = some ⟨oc5, od5, .func (PySem.W.fnOf "is_whole" "is_whole" (defArgs jW) (defBody jW) (defScope jW) .none kV5 dc5 pm5 an5 cd5 ct5), sl5⟩) (c5 : PySem.W.codeIn K cd5 "is_whole" = true) (k5 : PySem.W.keepIn K (.ref f5) = true)
  (a6 : PySem.W.nsIn K mainGlobals "is_head" = some (some (.ref f6))) (l6 : K.lookup f6 = some ⟨oc6, od6, .func (PySem.W.fnOf "is_head" "is_head" (defArgs kZ) (defBody kZ) (defScope kZ) .none kV6 dc6 pm6 an6 cd6 ct6), sl6⟩) (c6 : PySem.W.codeIn K cd6 "is_head" = true) (k6 : PySem.W.keepIn K (.ref f6) = true)
  (a7 : PySem.W.nsIn K mainGlobals "stands_alone" = some (some (.ref f7))) (l7 : K.lookup f7 = some ⟨oc7, od7, .func (PySem.W.fnOf "stands_alone" "stands_alone" (defArgs xG) (defBody xG) (defScope xG) .none kV7 dc7 pm7 an7 cd7 ct7), sl7⟩) (c7 : PySem.W.codeIn K cd7 "stands_alone" = true) (k7 : PySem.W.keepIn K (.ref f7) = true)
  (a8 : PySem.W.nsIn K mainGlobals "is_row" = some (some (.ref f8))) (l8 : K.lookup f8 = some ⟨oc8, od8, .func (PySem.W.fnOf "is_row" "is_row" (defArgs wD) (defBody wD) (defScope wD) .none kV8 dc8 pm8 an8 cd8 ct8), sl8⟩) (c8 : PySem.W.codeIn K cd8 "is_row" = true) (k8 : PySem.W.keepIn K (.ref f8) = true)
  (a9 : PySem.W.nsIn K mainGlobals "grouped" = some (some (.ref f9))) (l9 : K.lookup f9 = some ⟨oc9, od9, .func (PySem.W.fnOf "grouped" "grouped" (defArgs jZ) (defBody jZ) (defScope jZ) .none kV9 dc9 pm9 an9 cd9 ct9), sl9⟩) (c9 : PySem.W.codeIn K cd9 "grouped" = true) (k9 : PySem.W.keepIn K (.ref f9) = true)
  (a10 : PySem.W.nsIn K mainGlobals "heads_in" = some (some (.ref f10))) (l10 : K.lookup f10 = some ⟨oc10, od10, .func (PySem.W.fnOf "heads_in" "heads_in" (defArgs jY) (defBody jY) (defScope jY) .none kV10 dc10 pm10 an10 cd10 ct10), sl10⟩) (c10 : PySem.W.codeIn K cd10 "heads_in" = true) (k10 : PySem.W.keepIn K (.ref f10) = true)
  (a11 : PySem.W.nsIn K mainGlobals "rows_in" = some (some (.ref f11))) (l11 : K.lookup f11 = some ⟨oc11, od11, .func (PySem.W.fnOf "rows_in" "rows_in" (defArgs kY) (defBody kY) (defScope kY) .none kV11 dc11 pm11 an11 cd11 ct11), sl11⟩) (c11 : PySem.W.codeIn K cd11 "rows_in" = true) (k11 : PySem.W.keepIn K (.ref f11) = true)
  (a12 : PySem.W.nsIn K mainGlobals "is_list_of_wholes" = some (some (.ref f12))) (l12 : K.lookup f12 = some ⟨oc12, od12, .func (PySem.W.fnOf "is_list_of_wholes" "is_list_of_wholes" (defArgs yO) (defBody yO) (defScope yO) .none kV12 dc12 pm12 an12 cd12 ct12), sl12⟩) (c12 : PySem.W.codeIn K cd12 "is_list_of_wholes" = true) (k12 : PySem.W.keepIn K (.ref f12) = true)
  (a13 : PySem.W.nsIn K mainGlobals "is_code" = some (some (.ref f13))) (l13 : K.lookup f13 = some ⟨oc13, od13, .func (PySem.W.fnOf "is_code" "is_code" (defArgs xL) (defBody xL) (defScope xL) .none kV13 dc13 pm13 an13 cd13 ct13), sl13⟩) (c13 : PySem.W.codeIn K cd13 "is_code" = true) (k13 : PySem.W.keepIn K (.ref f13) = true)
  (a14 : PySem.W.nsIn K mainGlobals "heads_of" = some (some (.ref f14))) (l14 : K.lookup f14 = some ⟨oc14, od14, .func (PySem.W.fnOf "heads_of" "heads_of" (defArgs jX) (defBody jX) (defScope jX) .none kV14 dc14 pm14 an14 cd14 ct14), sl14⟩) (c14 : PySem.W.codeIn K cd14 "heads_of" = true) (k14 : PySem.W.keepIn K (.ref f14) = true)
  (a15 : PySem.W.nsIn K mainGlobals "rows_of" = some (some (.ref f15))) (l15 : K.lookup f15 = some ⟨oc15, od15, .func (PySem.W.fnOf "rows_of" "rows_of" (defArgs kX) (defBody kX) (defScope kX) .none kV15 dc15 pm15 an15 cd15 ct15), sl15⟩) (c15 : PySem.W.codeIn K cd15 "rows_of" = true) (k15 : PySem.W.keepIn K (.ref f15) = true)
  (a16 : PySem.W.nsIn K mainGlobals "joined" = some (some (.ref f16))) (l16 : K.lookup f16 = some ⟨oc16, od16, .func (PySem.W.fnOf "joined" "joined" (defArgs wC) (defBody wC) (defScope wC) .none kV16 dc16 pm16 an16 cd16 ct16), sl16⟩) (c16 : PySem.W.codeIn K cd16 "joined" = true) (k16 : PySem.W.keepIn K (.ref f16) = true)
  (a17 : PySem.W.nsIn K mainGlobals "code_of" = some (some (.ref f17))) (l17 : K.lookup f17 = some ⟨oc17, od17, .func (PySem.W.fnOf "code_of" "code_of" (defArgs qF) (defBody qF) (defScope qF) .none kV17 dc17 pm17 an17 cd17 ct17), sl17⟩) (c17 : PySem.W.codeIn K cd17 "code_of" = true) (k17 : PySem.W.keepIn K (.ref f17) = true)
  (a18 : PySem.W.nsIn K mainGlobals "within" = some (some (.ref f18))) (l18 : K.lookup f18 = some ⟨oc18, od18, .func (PySem.W.fnOf "within" "within" (defArgs wB) (defBody wB) (defScope wB) .none kV18 dc18 pm18 an18 cd18 ct18), sl18⟩) (c18 : PySem.W.codeIn K cd18 "within" = true) (k18 : PySem.W.keepIn K (.ref f18) = true)
  (a19 : PySem.W.nsIn K mainGlobals "reckoned" = some (some (.ref f19))) (l19 : K.lookup f19 = some ⟨oc19, od19, .func (PySem.W.fnOf "reckoned" "reckoned" (defArgs jU) (defBody jU) (defScope jU) .none kV19 dc19 pm19 an19 cd19 ct19), sl19⟩) (c19 : PySem.W.codeIn K cd19 "reckoned" = true) (k19 : PySem.W.keepIn K (.ref f19) = true)
  (a20 : PySem.W.nsIn K mainGlobals "done_to_row" = some (some (.ref f20))) (l20 : K.lookup f20 = some ⟨oc20, od20, .func (PySem.W.fnOf "done_to_row" "done_to_row" (defArgs xM) (defBody xM) (defScope xM) .none kV20 dc20 pm20 an20 cd20 ct20), sl20⟩) (c20 : PySem.W.codeIn K cd20 "done_to_row" = true) (k20 : PySem.W.keepIn K (.ref f20) = true)
  (a21 : PySem.W.nsIn K mainGlobals "worth" = some (some (.ref f21))) (l21 : K.lookup f21 = some ⟨oc21, od21, .func (PySem.W.fnOf "worth" "worth" (defArgs s_worth) (defBody s_worth) (defScope s_worth) .none kV21 dc21 pm21 an21 cd21 ct21), sl21⟩) (c21 : PySem.W.codeIn K cd21 "worth" = true) (k21 : PySem.W.keepIn K (.ref f21) = true)
  (a22 : PySem.W.nsIn K mainGlobals "take_last" = some (some (.ref f22))) (l22 : K.lookup f22 = some ⟨oc22, od22, .func (PySem.W.fnOf "take_last" "take_last" (defArgs jF) (defBody jF) (defScope jF) .none kV22 dc22 pm22 an22 cd22 ct22), sl22⟩) (c22 : PySem.W.codeIn K cd22 "take_last" = true) (k22 : PySem.W.keepIn K (.ref f22) = true)
  (a23 : PySem.W.nsIn K mainGlobals "take_off" = some (some (.ref f23))) (l23 : K.lookup f23 = some ⟨oc23, od23, .func (PySem.W.fnOf "take_off" "take_off" (defArgs jT) (defBody jT) (defScope jT) .none kV23 dc23 pm23 an23 cd23 ct23), sl23⟩) (c23 : PySem.W.codeIn K cd23 "take_off" = true) (k23 : PySem.W.keepIn K (.ref f23) = true)
  (a24 : PySem.W.nsIn K mainGlobals "want_box" = some (some (.ref f24))) (l24 : K.lookup f24 = some ⟨oc24, od24, .func (PySem.W.fnOf "want_box" "want_box" (defArgs jS) (defBody jS) (defScope jS) .none kV24 dc24 pm24 an24 cd24 ct24), sl24⟩) (c24 : PySem.W.codeIn K cd24 "want_box" = true) (k24 : PySem.W.keepIn K (.ref f24) = true)
  (a25 : PySem.W.nsIn K mainGlobals "do_set" = some (some (.ref f25))) (l25 : K.lookup f25 = some ⟨oc25, od25, .func (PySem.W.fnOf "do_set" "do_set" (defArgs wE) (defBody wE) (defScope wE) .none kV25 dc25 pm25 an25 cd25 ct25), sl25⟩) (c25 : PySem.W.codeIn K cd25 "do_set" = true) (k25 : PySem.W.keepIn K (.ref f25) = true)
  (a26 : PySem.W.nsIn K mainGlobals "do_deed" = some (some (.ref f26))) (l26 : K.lookup f26 = some ⟨oc26, od26, .func (PySem.W.fnOf "do_deed" "do_deed" (defArgs qB) (defBody qB) (defScope qB) .none kV26 dc26 pm26 an26 cd26 ct26), sl26⟩) (c26 : PySem.W.codeIn K cd26 "do_deed" = true) (k26 : PySem.W.keepIn K (.ref f26) = true)
  (a27 : PySem.W.nsIn K mainGlobals "do_call" = some (some (.ref f27))) (l27 : K.lookup f27 = some ⟨oc27, od27, .func (PySem.W.fnOf "do_call" "do_call" (defArgs qD) (defBody qD) (defScope qD) .none kV27 dc27 pm27 an27 cd27 ct27), sl27⟩) (c27 : PySem.W.codeIn K cd27 "do_call" = true) (k27 : PySem.W.keepIn K (.ref f27) = true)
  (a28 : PySem.W.nsIn K mainGlobals "do_back" = some (some (.ref f28))) (l28 : K.lookup f28 = some ⟨oc28, od28, .func (PySem.W.fnOf "do_back" "do_back" (defArgs qE) (defBody qE) (defScope qE) .none kV28 dc28 pm28 an28 cd28 ct28), sl28⟩) (c28 : PySem.W.codeIn K cd28 "do_back" = true) (k28 : PySem.W.keepIn K (.ref f28) = true)
  (a29 : PySem.W.nsIn K mainGlobals "skipped" = some (some (.ref f29))) (l29 : K.lookup f29 = some ⟨oc29, od29, .func (PySem.W.fnOf "skipped" "skipped" (defArgs kW) (defBody kW) (defScope kW) .none kV29 dc29 pm29 an29 cd29 ct29), sl29⟩) (c29 : PySem.W.codeIn K cd29 "skipped" = true) (k29 : PySem.W.keepIn K (.ref f29) = true)
  (a30 : PySem.W.nsIn K mainGlobals "do_row" = some (some (.ref f30))) (l30 : K.lookup f30 = some ⟨oc30, od30, .func (PySem.W.fnOf "do_row" "do_row" (defArgs wF) (defBody wF) (defScope wF) .none kV30 dc30 pm30 an30 cd30 ct30), sl30⟩) (c30 : PySem.W.codeIn K cd30 "do_row" = true) (k30 : PySem.W.keepIn K (.ref f30) = true)
  (a31 : PySem.W.nsIn K mainGlobals "do_rows" = some (some (.ref f31))) (l31 : K.lookup f31 = some ⟨oc31, od31, .func (PySem.W.fnOf "do_rows" "do_rows" (defArgs qA) (defBody qA) (defScope qA) .none kV31 dc31 pm31 an31 cd31 ct31), sl31⟩) (c31 : PySem.W.codeIn K cd31 "do_rows" = true) (k31 : PySem.W.keepIn K (.ref f31) = true)
  (a32 : PySem.W.nsIn K mainGlobals "go" = some (some (.ref f32))) (l32 : K.lookup f32 = some ⟨oc32, od32, .func (PySem.W.fnOf "go" "go" (defArgs s_go) (defBody s_go) (defScope s_go) .none kV32 dc32 pm32 an32 cd32 ct32), sl32⟩) (c32 : PySem.W.codeIn K cd32 "go" = true) (k32 : PySem.W.keepIn K (.ref f32) = true)
  (a33 : PySem.W.nsIn K mainGlobals "_law_pen" = some (some (.ref f33))) (l33 : K.lookup f33 = some ⟨oc33, od33, .func (PySem.W.fnOf "_law_pen" "_law_pen" (defArgs kB) (defBody kB) (defScope kB) .none kV33 dc33 pm33 an33 cd33 ct33), sl33⟩) (c33 : PySem.W.codeIn K cd33 "_law_pen" = true) (k33 : PySem.W.keepIn K (.ref f33) = true)
  (a34 : PySem.W.nsIn K mainGlobals "_law_mixed" = some (some (.ref f34))) (l34 : K.lookup f34 = some ⟨oc34, od34, .func (PySem.W.fnOf "_law_mixed" "_law_mixed" (defArgs xY) (defBody xY) (defScope xY) .none kV34 dc34 pm34 an34 cd34 ct34), sl34⟩) (c34 : PySem.W.codeIn K cd34 "_law_mixed" = true) (k34 : PySem.W.keepIn K (.ref f34) = true)
  (a35 : PySem.W.nsIn K mainGlobals "_law_take" = some (some (.ref f35))) (l35 : K.lookup f35 = some ⟨oc35, od35, .func (PySem.W.fnOf "_law_take" "_law_take" (defArgs jH) (defBody jH) (defScope jH) .none kV35 dc35 pm35 an35 cd35 ct35), sl35⟩) (c35 : PySem.W.codeIn K cd35 "_law_take" = true) (k35 : PySem.W.keepIn K (.ref f35) = true)
  (a36 : PySem.W.nsIn K mainGlobals "_law_number" = some (some (.ref f36))) (l36 : K.lookup f36 = some ⟨oc36, od36, .func (PySem.W.fnOf "_law_number" "_law_number" (defArgs xO) (defBody xO) (defScope xO) .none kV36 dc36 pm36 an36 cd36 ct36), sl36⟩) (c36 : PySem.W.codeIn K cd36 "_law_number" = true) (k36 : PySem.W.keepIn K (.ref f36) = true)
  (a37 : PySem.W.nsIn K mainGlobals "_law_needs" = some (some (.ref f37))) (l37 : K.lookup f37 = some ⟨oc37, od37, .func (PySem.W.fnOf "_law_needs" "_law_needs" (defArgs xX) (defBody xX) (defScope xX) .none kV37 dc37 pm37 an37 cd37 ct37), sl37⟩) (c37 : PySem.W.codeIn K cd37 "_law_needs" = true) (k37 : PySem.W.keepIn K (.ref f37) = true)
  (a38 : PySem.W.nsIn K mainGlobals "_law_row" = some (some (.ref f38))) (l38 : K.lookup f38 = some ⟨oc38, od38, .func (PySem.W.fnOf "_law_row" "_law_row" (defArgs kA) (defBody kA) (defScope kA) .none kV38 dc38 pm38 an38 cd38 ct38), sl38⟩) (c38 : PySem.W.codeIn K cd38 "_law_row" = true) (k38 : PySem.W.keepIn K (.ref f38) = true)
  (a39 : PySem.W.nsIn K mainGlobals "_law_height" = some (some (.ref f39))) (l39 : K.lookup f39 = some ⟨oc39, od39, .func (PySem.W.fnOf "_law_height" "_law_height" (defArgs xP) (defBody xP) (defScope xP) .none kV39 dc39 pm39 an39 cd39 ct39), sl39⟩) (c39 : PySem.W.codeIn K cd39 "_law_height" = true) (k39 : PySem.W.keepIn K (.ref f39) = true)
  (a40 : PySem.W.nsIn K mainGlobals "_law_code" = some (some (.ref f40))) (l40 : K.lookup f40 = some ⟨oc40, od40, .func (PySem.W.fnOf "_law_code" "_law_code" (defArgs jJ) (defBody jJ) (defScope jJ) .none kV40 dc40 pm40 an40 cd40 ct40), sl40⟩) (c40 : PySem.W.codeIn K cd40 "_law_code" = true) (k40 : PySem.W.keepIn K (.ref f40) = true)
  (a41 : PySem.W.nsIn K mainGlobals "_law_word" = some (some (.ref f41))) (l41 : K.lookup f41 = some ⟨oc41, od41, .func (PySem.W.fnOf "_law_word" "_law_word" (defArgs jG) (defBody jG) (defScope jG) .none kV41 dc41 pm41 an41 cd41 ct41), sl41⟩) (c41 : PySem.W.codeIn K cd41 "_law_word" = true) (k41 : PySem.W.keepIn K (.ref f41) = true)
  (a42 : PySem.W.nsIn K mainGlobals "_law_bad_row" = some (some (.ref f42))) (l42 : K.lookup f42 = some ⟨oc42, od42, .func (PySem.W.fnOf "_law_bad_row" "_law_bad_row" (defArgs xH) (defBody xH) (defScope xH) .none kV42 dc42 pm42 an42 cd42 ct42), sl42⟩) (c42 : PySem.W.codeIn K cd42 "_law_bad_row" = true) (k42 : PySem.W.keepIn K (.ref f42) = true)
  (a43 : PySem.W.nsIn K mainGlobals "_law_bad_head" = some (some (.ref f43))) (l43 : K.lookup f43 = some ⟨oc43, od43, .func (PySem.W.fnOf "_law_bad_head" "_law_bad_head" (defArgs xB) (defBody xB) (defScope xB) .none kV43 dc43 pm43 an43 cd43 ct43), sl43⟩) (c43 : PySem.W.codeIn K cd43 "_law_bad_head" = true) (k43 : PySem.W.keepIn K (.ref f43) = true)
  (a44 : PySem.W.nsIn K mainGlobals "_law_flat" = some (some (.ref f44))) (l44 : K.lookup f44 = some ⟨oc44, od44, .func (PySem.W.fnOf "_law_flat" "_law_flat" (defArgs jI) (defBody jI) (defScope jI) .none kV44 dc44 pm44 an44 cd44 ct44), sl44⟩) (c44 : PySem.W.codeIn K cd44 "_law_flat" = true) (k44 : PySem.W.keepIn K (.ref f44) = true)
  (a45 : PySem.W.nsIn K mainGlobals "_law_bent" = some (some (.ref f45))) (l45 : K.lookup f45 = some ⟨oc45, od45, .func (PySem.W.fnOf "_law_bent" "_law_bent" (defArgs xS) (defBody xS) (defScope xS) .none kV45 dc45 pm45 an45 cd45 ct45), sl45⟩) (c45 : PySem.W.codeIn K cd45 "_law_bent" = true) (k45 : PySem.W.keepIn K (.ref f45) = true)
  (a46 : PySem.W.nsIn K mainGlobals "_law_odd" = some (some (.ref f46))) (l46 : K.lookup f46 = some ⟨oc46, od46, .func (PySem.W.fnOf "_law_odd" "_law_odd" (defArgs kD) (defBody kD) (defScope kD) .none kV46 dc46 pm46 an46 cd46 ct46), sl46⟩) (c46 : PySem.W.codeIn K cd46 "_law_odd" = true) (k46 : PySem.W.keepIn K (.ref f46) = true)
  (a47 : PySem.W.nsIn K mainGlobals "_law_tried" = some (some (.ref f47))) (l47 : K.lookup f47 = some ⟨oc47, od47, .func (PySem.W.fnOf "_law_tried" "_law_tried" (defArgs xW) (defBody xW) (defScope xW) .none kV47 dc47 pm47 an47 cd47 ct47), sl47⟩) (c47 : PySem.W.codeIn K cd47 "_law_tried" = true) (k47 : PySem.W.keepIn K (.ref f47) = true)
  (a48 : PySem.W.nsIn K mainGlobals "_law_refused" = some (some (.ref f48))) (l48 : K.lookup f48 = some ⟨oc48, od48, .func (PySem.W.fnOf "_law_refused" "_law_refused" (defArgs xA) (defBody xA) (defScope xA) .none kV48 dc48 pm48 an48 cd48 ct48), sl48⟩) (c48 : PySem.W.codeIn K cd48 "_law_refused" = true) (k48 : PySem.W.keepIn K (.ref f48) = true)
  (a49 : PySem.W.nsIn K mainGlobals "law" = some (some (.ref f49))) (l49 : K.lookup f49 = some ⟨oc49, od49, .func (PySem.W.fnOf "law" "law" (defArgs s_law) (defBody s_law) (defScope s_law) .none kV49 dc49 pm49 an49 cd49 ct49), sl49⟩) (c49 : PySem.W.codeIn K cd49 "law" = true) (k49 : PySem.W.keepIn K (.ref f49) = true)
  (z_len : PySem.W.nsIn K mainGlobals "len" = some none)
  (z_range : PySem.W.nsIn K mainGlobals "range" = some none)
  (z_all : PySem.W.nsIn K mainGlobals "all" = some none)
  (z_max : PySem.W.nsIn K mainGlobals "max" = some none)
  (z_enumerate : PySem.W.nsIn K mainGlobals "enumerate" = some none)
  (z_isinstance : PySem.W.nsIn K mainGlobals "isinstance" = some none)
  (z_int : PySem.W.nsIn K mainGlobals "int" = some none)
  (z_bool : PySem.W.nsIn K mainGlobals "bool" = some none)
  (z_tuple : PySem.W.nsIn K mainGlobals "tuple" = some none)
  (z_list : PySem.W.nsIn K mainGlobals "list" = some none)
  (z_min : PySem.W.nsIn K mainGlobals "min" = some none)
  (z_abs : PySem.W.nsIn K mainGlobals "abs" = some none)
  (z_str : PySem.W.nsIn K mainGlobals "str" = some none)
  (i_ADD : PySem.W.nsIn K mainGlobals "ADD" = some (some (.int 8 tADD)))
  (i_NEW : PySem.W.nsIn K mainGlobals "NEW" = some (some (.int 19 tNEW)))
  (i_MOST_FUNCTIONS : PySem.W.nsIn K mainGlobals "MOST_FUNCTIONS" = some (some (.int 16 tMOST_FUNCTIONS)))
  (i_MOST_PARAMS : PySem.W.nsIn K mainGlobals "MOST_PARAMS" = some (some (.int 4 tMOST_PARAMS)))
  (i_MOST_BOXES : PySem.W.nsIn K mainGlobals "MOST_BOXES" = some (some (.int 12 tMOST_BOXES)))
  (i_MOST_MANY : PySem.W.nsIn K mainGlobals "MOST_MANY" = some (some (.int 12 tMOST_MANY)))
  (i_LEAST_PICK : PySem.W.nsIn K mainGlobals "LEAST_PICK" = some (some (.int 2 tLEAST_PICK)))
  (i_OP_PUSH : PySem.W.nsIn K mainGlobals "OP_PUSH" = some (some (.int 0 tOP_PUSH)))
  (i_OP_GET : PySem.W.nsIn K mainGlobals "OP_GET" = some (some (.int 1 tOP_GET)))
  (i_OP_SET : PySem.W.nsIn K mainGlobals "OP_SET" = some (some (.int 2 tOP_SET)))
  (i_OP_DROP : PySem.W.nsIn K mainGlobals "OP_DROP" = some (some (.int 3 tOP_DROP)))
  (i_OP_JUMP : PySem.W.nsIn K mainGlobals "OP_JUMP" = some (some (.int 4 tOP_JUMP)))
  (i_OP_UNLESS : PySem.W.nsIn K mainGlobals "OP_UNLESS" = some (some (.int 5 tOP_UNLESS)))
  (i_OP_CALL : PySem.W.nsIn K mainGlobals "OP_CALL" = some (some (.int 6 tOP_CALL)))
  (i_OP_BACK : PySem.W.nsIn K mainGlobals "OP_BACK" = some (some (.int 7 tOP_BACK)))
  (i_OP_FAIL : PySem.W.nsIn K mainGlobals "OP_FAIL" = some (some (.int 8 tOP_FAIL)))
  (i_OP_BREATH : PySem.W.nsIn K mainGlobals "OP_BREATH" = some (some (.int 9 tOP_BREATH)))
  (i_OP_DO : PySem.W.nsIn K mainGlobals "OP_DO" = some (some (.int 10 tOP_DO)))
  (i_OP_PICK : PySem.W.nsIn K mainGlobals "OP_PICK" = some (some (.int 11 tOP_PICK)))
  (i_HEAD_SIZE : PySem.W.nsIn K mainGlobals "HEAD_SIZE" = some (some (.int 3 tHEAD_SIZE)))
  (i_ROW_SIZE : PySem.W.nsIn K mainGlobals "ROW_SIZE" = some (some (.int 2 tROW_SIZE)))
  (i_MOST_DONE_AT_ONCE : PySem.W.nsIn K mainGlobals "MOST_DONE_AT_ONCE" = some (some (.int 16 tMOST_DONE_AT_ONCE)))
  (i_ANSWER : PySem.W.nsIn K mainGlobals "ANSWER" = some (some (.int 1 tANSWER)))
  (i_SUB : PySem.W.nsIn K mainGlobals "SUB" = some (some (.int 9 tSUB)))
  (i_MUL : PySem.W.nsIn K mainGlobals "MUL" = some (some (.int 10 tMUL)))
  (i_QUO : PySem.W.nsIn K mainGlobals "QUO" = some (some (.int 11 tQUO)))
  (i_LESS : PySem.W.nsIn K mainGlobals "LESS" = some (some (.int 13 tLESS)))
  (i_SAME : PySem.W.nsIn K mainGlobals "SAME" = some (some (.int 14 tSAME)))
  (i_PUSH : PySem.W.nsIn K mainGlobals "PUSH" = some (some (.int 15 tPUSH)))
  (i_PUT : PySem.W.nsIn K mainGlobals "PUT" = some (some (.int 17 tPUT)))
  (i_SIZE : PySem.W.nsIn K mainGlobals "SIZE" = some (some (.int 18 tSIZE)))
  (i_GREAT : PySem.W.nsIn K mainGlobals "GREAT" = some (some (.int 10000000000000000000000000000000000000000000000000000000000000000000000000000000000000000000000000000 tGREAT)))
  (i_FAIL : PySem.W.nsIn K mainGlobals "FAIL" = some (some (.int 7 tFAIL)))
  (g_PARTS : PySem.W.nsIn K mainGlobals "PARTS" = some (some (.ref aP)))
  (o_PARTS : K.lookup aP = some ⟨.type "tuple", none, .seq #[.int 1 tPARTS0, .int 2 tPARTS1, .int 2 tPARTS2, .int 2 tPARTS3, .int 2 tPARTS4, .int 2 tPARTS5, .int 2 tPARTS6, .int 2 tPARTS7, .int 2 tPARTS8, .int 2 tPARTS9, .int 3 tPARTS10, .int 1 tPARTS11, .int 0 tPARTS12] nPARTS, sPARTS⟩)
  (u_bool : PySem.W.subIn K (.type "int") (.type "bool") = some false)
  (u_tl : PySem.W.subIn K (.type "tuple") (.type "list") = some false)
  (u_str : PySem.W.subIn K (.type "int") (.type "str") = some false)
  (fn_Doing___init__ : PySem.W.isFn K (.ref f1) = true)
  (fn_Machine___init__ : PySem.W.isFn K (.ref f2) = true)
  (fn_Machine_breathe : PySem.W.isFn K (.ref f3) = true)
  (Machine_makes : PySem.W.makesIn K cMachine = true)
  (Machine_kp : PySem.W.keepIn K (.ref cMachine) = true)
  (Machine_pg : PySem.W.plainGet K cMachine Str.empty = true)
  (Machine_hd : PySem.W.hasDictIn K cMachine = true)
  (Machine_po : PySem.W.plainOver K cMachine = true)
  (Machine_sa : PySem.W.findIn K (.ref cMachine) "__setattr__" = some (some (.builtin "object.__setattr__")))
  (Machine_heads : PySem.W.findIn K (.ref cMachine) "heads" = some none)
  (Machine_steps : PySem.W.findIn K (.ref cMachine) "steps" = some none)
  (Machine_rows : PySem.W.findIn K (.ref cMachine) "rows" = some none)
  (Machine_breaths : PySem.W.findIn K (.ref cMachine) "breaths" = some none)
  (Machine_being_done : PySem.W.findIn K (.ref cMachine) "being_done" = some none)
  (Machine_value : PySem.W.findIn K (.ref cMachine) "value" = some none)
  (Doing_makes : PySem.W.makesIn K cDoing = true)
  (Doing_kp : PySem.W.keepIn K (.ref cDoing) = true)
  (Doing_pg : PySem.W.plainGet K cDoing Str.empty = true)
  (Doing_hd : PySem.W.hasDictIn K cDoing = true)
  (Doing_po : PySem.W.plainOver K cDoing = true)
  (Doing_sa : PySem.W.findIn K (.ref cDoing) "__setattr__" = some (some (.builtin "object.__setattr__")))
  (Doing_at : PySem.W.findIn K (.ref cDoing) "at" = some none)
  (Doing_boxes : PySem.W.findIn K (.ref cDoing) "boxes" = some none)
  (Doing_held : PySem.W.findIn K (.ref cDoing) "held" = some none)
  (xN : K.lookup cFault = some (excClassObj nmN qN cFault NN bsN bmExc true snN subN abN colN ddN k0N k1N k2N k3N k5N "Exception.__new__"))
  (xkp : PySem.W.keepIn K (.ref cFault) = true)
  (xty : PySem.W.typeIn K (.ref f0) = some (.type "function"))
  (xobj : PySem.W.mroIn K cFault (.type "object") = some true)
  (xbase : PySem.W.mroIn K cFault (.type "BaseException") = some true)
  (xsa : PySem.W.findIn K (.ref cFault) "__setattr__" = some (some (.builtin "object.__setattr__")))
  (xga : PySem.W.findIn K (.ref cFault) "__getattribute__" = some (some (.builtin "BaseException.__getattribute__")))
  (xnh : PySem.W.findIn K (.ref cFault) "__getattr__" = some none)
  (xwd : PySem.W.findIn K (.ref cFault) "word" = some none)
  (xnu : PySem.W.findIn K (.ref cFault) "number" = some none)
  (xm1 : PySem.W.subIn K (.ref cFault) (.ref cFault) = some true)
  (xm2 : PySem.W.typeIn K (.ref cFault) = some (.type "type"))
  (xm3 : PySem.W.isClsIn K cFault = true)
  (xm4 : PySem.W.subIn K (.ref cFault) (.type "BaseException") = some true)
  (z_ValueError : PySem.W.nsIn K mainGlobals "ValueError" = some none)
  (v_int_bool : PySem.W.subIn K (.type "int") (.type "bool") = some false)
  (v_int_list : PySem.W.subIn K (.type "int") (.type "list") = some false)
  (v_int_tuple : PySem.W.subIn K (.type "int") (.type "tuple") = some false)
  (v_bool_int : PySem.W.subIn K (.type "bool") (.type "int") = some true)
  (v_bool_list : PySem.W.subIn K (.type "bool") (.type "list") = some false)
  (v_bool_tuple : PySem.W.subIn K (.type "bool") (.type "tuple") = some false)
  (v_str_int : PySem.W.subIn K (.type "str") (.type "int") = some false)
  (v_str_bool : PySem.W.subIn K (.type "str") (.type "bool") = some false)
  (v_str_list : PySem.W.subIn K (.type "str") (.type "list") = some false)
  (v_str_tuple : PySem.W.subIn K (.type "str") (.type "tuple") = some false)
  (v_NoneType_int : PySem.W.subIn K (.type "NoneType") (.type "int") = some false)
  (v_NoneType_bool : PySem.W.subIn K (.type "NoneType") (.type "bool") = some false)
  (v_NoneType_list : PySem.W.subIn K (.type "NoneType") (.type "list") = some false)
  (v_NoneType_tuple : PySem.W.subIn K (.type "NoneType") (.type "tuple") = some false)
  (v_list_int : PySem.W.subIn K (.type "list") (.type "int") = some false)
  (v_list_bool : PySem.W.subIn K (.type "list") (.type "bool") = some false)
  (v_list_tuple : PySem.W.subIn K (.type "list") (.type "tuple") = some false)
  (v_tuple_int : PySem.W.subIn K (.type "tuple") (.type "int") = some false)
  (v_tuple_bool : PySem.W.subIn K (.type "tuple") (.type "bool") = some false)
  (v_tuple_list : PySem.W.subIn K (.type "tuple") (.type "list") = some false)
  (v_dict_int : PySem.W.subIn K (.type "dict") (.type "int") = some false)
  (v_dict_bool : PySem.W.subIn K (.type "dict") (.type "bool") = some false)
  (v_dict_list : PySem.W.subIn K (.type "dict") (.type "list") = some false)
  (v_dict_tuple : PySem.W.subIn K (.type "dict") (.type "tuple") = some false)
  (ty_NoCode : PySem.W.typeIn K (.ref cNoCode) = some (.type "type"))
  (cl_NoCode : PySem.W.isClsIn K cNoCode = true)
  (su_NoCode : PySem.W.subIn K (.ref cNoCode) (.ref cNoCode) = some true)
  (ty_ChainError : PySem.W.typeIn K (.ref cChainError) = some (.type "type"))
  (cl_ChainError : PySem.W.isClsIn K cChainError = true)
  (su_ChainError : PySem.W.subIn K (.ref cNoCode) (.ref cChainError) = some true)
  (ty_NoSheet : PySem.W.typeIn K (.ref cNoSheet) = some (.type "type"))
  (cl_NoSheet : PySem.W.isClsIn K cNoSheet = true)
  (su_NoSheet : PySem.W.subIn K (.ref cNoCode) (.ref cNoSheet) = some false)
  (ty_NoText : PySem.W.typeIn K (.ref cNoText) = some (.type "type"))
  (cl_NoText : PySem.W.isClsIn K cNoText = true)
  (su_NoText : PySem.W.subIn K (.ref cNoCode) (.ref cNoText) = some false)
  (ty_NoRow : PySem.W.typeIn K (.ref cNoRow) = some (.type "type"))
  (cl_NoRow : PySem.W.isClsIn K cNoRow = true)
  (su_NoRow : PySem.W.subIn K (.ref cNoCode) (.ref cNoRow) = some false)
  (ty_NoName : PySem.W.typeIn K (.ref cNoName) = some (.type "type"))
  (cl_NoName : PySem.W.isClsIn K cNoName = true)
  (su_NoName : PySem.W.subIn K (.ref cNoCode) (.ref cNoName) = some false)
  (xb_ChainError : PySem.W.subIn K (.ref cChainError) (.type "BaseException") = some true)
  (ve_ : PySem.W.subIn K (.ref cNoCode) (.type "ValueError") = some true)
  (yobj : PySem.W.mroIn K cNoCode (.type "object") = some true)
  (ybase : PySem.W.mroIn K cNoCode (.type "BaseException") = some true)
  (ysa : PySem.W.findIn K (.ref cNoCode) "__setattr__" = some (some (.builtin "object.__setattr__")))
  (yga : PySem.W.findIn K (.ref cNoCode) "__getattribute__" = some (some (.builtin "BaseException.__getattribute__")))
  (ynh : PySem.W.findIn K (.ref cNoCode) "__getattr__" = some none)
  (yha : PySem.W.findIn K (.ref cNoCode) "__class__" = some (some (.builtin "object.__class__")))
  (yhn : PySem.W.specialIn K (.builtin "object.__class__") "__get__" = some (some (.builtin "getset_descriptor.__get__")))
  (ytk : PySem.W.takesIn K (.builtin "object.__class__") = some true)
  (yN : K.lookup cNoCode = some (excClassObj nmY qY cNoCode NY bsY (.ref cChainError :: bmValue) true snY subY abY colY ddY k0Y k1Y k2Y k3Y k5Y "ValueError.__new__"))
  (yC : K.lookup cChainError = some ⟨ccC, ddC, .cls ⟨nmC, bsC, mroC, nsC, qC, hdC, snC, subC, abC, colC, delC⟩, slC⟩)
  (yB : K.lookup nsC = some ⟨ccD, ddD, .dict esD nD, slD⟩)
  (yF : PySem.W.nsIn K nsC "__init__" = some none)
  (yD : K.lookup NY = some ⟨ccE, ddE, .dict esE nE, slE⟩)
  (yG : PySem.W.nsIn K NY "__init__" = some none)
  (yA : (esD.toList.all fun e => match e.key with | .str _ _ => true | _ => false) = true)
  (yE : (esE.toList.all fun e => match e.key with | .str _ _ => true | _ => false) = true)
  : ∃ fd : FuncData, (∀ (s : Shared) (v : Value), BindsTo s fd ⟨[v], []⟩ [("_law_script", v)]) /\ ∀ base : Heap, K.In base -> base.Ns mainGlobals mg -> FnOk l.prog w K mg base (CXE l.prog w) 11 fa fd ["_law_script"] (spLaw K) := by
 have e := hfa.symm.trans (PySem.W.mg_of X G a49)
 cases e
 have F0 := zZ (st := yX) l0 c0 k0
 have b0 := F0.binds (ps := ["self", "word", "number"]) fun _ _ _ _ _ _ us hl => by obtain ⟨_, _, _, rfl⟩ := ln3 hl; rfl
 have F1 := zZ (st := yY) l1 c1 k1
 have b1 := F1.binds (ps := ["self", "start", "boxes"]) fun _ _ _ _ _ _ us hl => by obtain ⟨_, _, _, rfl⟩ := ln3 hl; rfl
 have F2 := zZ (st := yR) l2 c2 k2
 have b2 := F2.binds (ps := ["self", "code", "given", "breaths"]) fun _ _ _ _ _ _ us hl => by obtain ⟨_, _, _, _, rfl⟩ := ln4 hl; rfl
 have F3 := zZ (st := yU) l3 c3 k3
 have b3 := F3.binds (ps := ["self"]) fun _ _ _ _ _ _ us hl => by obtain ⟨_, rfl⟩ := ln1 hl; rfl
 have F4 := zZ (st := jV) l4 c4 k4
 have b4 := F4.binds (ps := ["kind"]) fun _ _ _ _ _ _ us hl => by obtain ⟨_, rfl⟩ := ln1 hl; rfl
 have m4 := PySem.W.mg_of X G a4
 have F5 := zZ (st := jW) l5 c5 k5
 have b5 := F5.binds (ps := ["thing"]) fun _ _ _ _ _ _ us hl => by obtain ⟨_, rfl⟩ := ln1 hl; rfl
 have m5 := PySem.W.mg_of X G a5
 have F6 := zZ (st := kZ) l6 c6 k6
 have b6 := F6.binds (ps := ["head", "function", "many_rows"]) fun _ _ _ _ _ _ us hl => by obtain ⟨_, _, _, rfl⟩ := ln3 hl; rfl
 have m6 := PySem.W.mg_of X G a6
 have F7 := zZ (st := xG) l7 c7 k7
 have b7 := F7.binds (ps := ["op"]) fun _ _ _ _ _ _ us hl => by obtain ⟨_, rfl⟩ := ln1 hl; rfl
 have m7 := PySem.W.mg_of X G a7
 have F8 := zZ (st := wD) l8 c8 k8
 have b8 := F8.binds (ps := ["row", "many_functions", "many_rows"]) fun _ _ _ _ _ _ us hl => by obtain ⟨_, _, _, rfl⟩ := ln3 hl; rfl
 have m8 := PySem.W.mg_of X G a8
 have F9 := zZ (st := jZ) l9 c9 k9
 have b9 := F9.binds (ps := ["numbers", "size"]) fun _ _ _ _ _ _ us hl => by obtain ⟨_, _, rfl⟩ := ln2 hl; rfl
 have m9 := PySem.W.mg_of X G a9
 have F10 := zZ (st := jY) l10 c10 k10
 have b10 := F10.binds (ps := ["numbers"]) fun _ _ _ _ _ _ us hl => by obtain ⟨_, rfl⟩ := ln1 hl; rfl
 have m10 := PySem.W.mg_of X G a10
 have F11 := zZ (st := kY) l11 c11 k11
 have b11 := F11.binds (ps := ["numbers"]) fun _ _ _ _ _ _ us hl => by obtain ⟨_, rfl⟩ := ln1 hl; rfl
 have m11 := PySem.W.mg_of X G a11
 have F12 := zZ (st := yO) l12 c12 k12
 have b12 := F12.binds (ps := ["thing"]) fun _ _ _ _ _ _ us hl => by obtain ⟨_, rfl⟩ := ln1 hl; rfl
 have m12 := PySem.W.mg_of X G a12
 have F13 := zZ (st := xL) l13 c13 k13
 have b13 := F13.binds (ps := ["thing"]) fun _ _ _ _ _ _ us hl => by obtain ⟨_, rfl⟩ := ln1 hl; rfl
 have m13 := PySem.W.mg_of X G a13
 have F14 := zZ (st := jX) l14 c14 k14
 have b14 := F14.binds (ps := ["code"]) fun _ _ _ _ _ _ us hl => by obtain ⟨_, rfl⟩ := ln1 hl; rfl
 have m14 := PySem.W.mg_of X G a14
 have F15 := zZ (st := kX) l15 c15 k15
 have b15 := F15.binds (ps := ["code"]) fun _ _ _ _ _ _ us hl => by obtain ⟨_, rfl⟩ := ln1 hl; rfl
 have m15 := PySem.W.mg_of X G a15
 have F16 := zZ (st := wC) l16 c16 k16
 have b16 := F16.binds (ps := ["things", "size"]) fun _ _ _ _ _ _ us hl => by obtain ⟨_, _, rfl⟩ := ln2 hl; rfl
 have m16 := PySem.W.mg_of X G a16
 have F17 := zZ (st := qF) l17 c17 k17
 have b17 := F17.binds (ps := ["heads", "rows"]) fun _ _ _ _ _ _ us hl => by obtain ⟨_, _, rfl⟩ := ln2 hl; rfl
 have m17 := PySem.W.mg_of X G a17
 have F18 := zZ (st := wB) l18 c18 k18
 have b18 := F18.binds (ps := ["value"]) fun _ _ _ _ _ _ us hl => by obtain ⟨_, rfl⟩ := ln1 hl; rfl
 have m18 := PySem.W.mg_of X G a18
 have F19 := zZ (st := jU) l19 c19 k19
 have b19 := F19.binds (ps := ["kind", "first", "second"]) fun _ _ _ _ _ _ us hl => by obtain ⟨_, _, _, rfl⟩ := ln3 hl; rfl
 have m19 := PySem.W.mg_of X G a19
 have F20 := zZ (st := xM) l20 c20 k20
 have b20 := F20.binds (ps := ["kind", "values", "rows"]) fun _ _ _ _ _ _ us hl => by obtain ⟨_, _, _, rfl⟩ := ln3 hl; rfl
 have m20 := PySem.W.mg_of X G a20
 have F21 := zZ (st := s_worth) l21 c21 k21
 have b21 := F21.binds (ps := ["kind", "values", "rows"]) fun _ _ _ _ _ _ us hl => by obtain ⟨_, _, _, rfl⟩ := ln3 hl; rfl
 have m21 := PySem.W.mg_of X G a21
 have F22 := zZ (st := jF) l22 c22 k22
 have b22 := F22.binds (ps := ["held"]) fun _ _ _ _ _ _ us hl => by obtain ⟨_, rfl⟩ := ln1 hl; rfl
 have m22 := PySem.W.mg_of X G a22
 have F23 := zZ (st := jT) l23 c23 k23
 have b23 := F23.binds (ps := ["held", "many"]) fun _ _ _ _ _ _ us hl => by obtain ⟨_, _, rfl⟩ := ln2 hl; rfl
 have m23 := PySem.W.mg_of X G a23
 have F24 := zZ (st := jS) l24 c24 k24
 have b24 := F24.binds (ps := ["doing", "box"]) fun _ _ _ _ _ _ us hl => by obtain ⟨_, _, rfl⟩ := ln2 hl; rfl
 have m24 := PySem.W.mg_of X G a24
 have F25 := zZ (st := wE) l25 c25 k25
 have b25 := F25.binds (ps := ["doing", "box"]) fun _ _ _ _ _ _ us hl => by obtain ⟨_, _, rfl⟩ := ln2 hl; rfl
 have m25 := PySem.W.mg_of X G a25
 have F26 := zZ (st := qB) l26 c26 k26
 have b26 := F26.binds (ps := ["machine", "held", "kind"]) fun _ _ _ _ _ _ us hl => by obtain ⟨_, _, _, rfl⟩ := ln3 hl; rfl
 have m26 := PySem.W.mg_of X G a26
 have F27 := zZ (st := qD) l27 c27 k27
 have b27 := F27.binds (ps := ["machine", "held", "function"]) fun _ _ _ _ _ _ us hl => by obtain ⟨_, _, _, rfl⟩ := ln3 hl; rfl
 have m27 := PySem.W.mg_of X G a27
 have F28 := zZ (st := qE) l28 c28 k28
 have b28 := F28.binds (ps := ["machine", "held"]) fun _ _ _ _ _ _ us hl => by obtain ⟨_, _, rfl⟩ := ln2 hl; rfl
 have m28 := PySem.W.mg_of X G a28
 have F29 := zZ (st := kW) l29 c29 k29
 have b29 := F29.binds (ps := ["value", "many"]) fun _ _ _ _ _ _ us hl => by obtain ⟨_, _, rfl⟩ := ln2 hl; rfl
 have m29 := PySem.W.mg_of X G a29
 have F30 := zZ (st := wF) l30 c30 k30
 have b30 := F30.binds (ps := ["machine", "doing", "op", "number"]) fun _ _ _ _ _ _ us hl => by obtain ⟨_, _, _, _, rfl⟩ := ln4 hl; rfl
 have m30 := PySem.W.mg_of X G a30
 have F31 := zZ (st := qA) l31 c31 k31
 have b31 := F31.binds (ps := ["machine", "most"]) fun _ _ _ _ _ _ us hl => by obtain ⟨_, _, rfl⟩ := ln2 hl; rfl
 have m31 := PySem.W.mg_of X G a31
 have F32 := zZ (st := s_go) l32 c32 k32
 have b32 := F32.binds (ps := ["code", "given", "breaths", "most"]) fun _ _ _ _ _ _ us hl => by obtain ⟨_, _, _, _, rfl⟩ := ln4 hl; rfl
 have m32 := PySem.W.mg_of X G a32
 have F33 := zZ (st := kB) l33 c33 k33
 have b33 := F33.binds (ps := ["_law_script"]) fun _ _ _ _ _ _ us hl => by obtain ⟨_, rfl⟩ := ln1 hl; rfl
 have m33 := PySem.W.mg_of X G a33
 have F34 := zZ (st := xY) l34 c34 k34
 have b34 := F34.binds (ps := ["_law_cell", "_law_turn"]) fun _ _ _ _ _ _ us hl => by obtain ⟨_, _, rfl⟩ := ln2 hl; rfl
 have m34 := PySem.W.mg_of X G a34
 have F35 := zZ (st := jH) l35 c35 k35
 have b35 := F35.binds (ps := ["_law_pen_here", "_law_many"]) fun _ _ _ _ _ _ us hl => by obtain ⟨_, _, rfl⟩ := ln2 hl; rfl
 have m35 := PySem.W.mg_of X G a35
 have F36 := zZ (st := xO) l36 c36 k36
 have b36 := F36.binds (ps := ["_law_pen_here"]) fun _ _ _ _ _ _ us hl => by obtain ⟨_, rfl⟩ := ln1 hl; rfl
 have m36 := PySem.W.mg_of X G a36
 have F37 := zZ (st := xX) l37 c37 k37
 have b37 := F37.binds (ps := ["_law_op", "_law_number_here", "_law_heads"]) fun _ _ _ _ _ _ us hl => by obtain ⟨_, _, _, rfl⟩ := ln3 hl; rfl
 have m37 := PySem.W.mg_of X G a37
 have F38 := zZ (st := kA) l38 c38 k38
 have b38 := F38.binds (ps := ["_law_pen_here", "_law_height_here", "_law_many", "_law_heads"]) fun _ _ _ _ _ _ us hl => by obtain ⟨_, _, _, _, rfl⟩ := ln4 hl; rfl
 have m38 := PySem.W.mg_of X G a38
 have F39 := zZ (st := xP) l39 c39 k39
 have b39 := F39.binds (ps := ["_law_op", "_law_number_here", "_law_heads", "_law_height_here"]) fun _ _ _ _ _ _ us hl => by obtain ⟨_, _, _, _, rfl⟩ := ln4 hl; rfl
 have m39 := PySem.W.mg_of X G a39
 have F40 := zZ (st := jJ) l40 c40 k40
 have b40 := F40.binds (ps := ["_law_pen_here"]) fun _ _ _ _ _ _ us hl => by obtain ⟨_, rfl⟩ := ln1 hl; rfl
 have m40 := PySem.W.mg_of X G a40
 have F41 := zZ (st := jG) l41 c41 k41
 have b41 := F41.binds (ps := ["_law_caught"]) fun _ _ _ _ _ _ us hl => by obtain ⟨_, rfl⟩ := ln1 hl; rfl
 have m41 := PySem.W.mg_of X G a41
 have F42 := zZ (st := xH) l42 c42 k42
 have b42 := F42.binds (ps := ["_law_pen_here", "_law_many", "_law_count"]) fun _ _ _ _ _ _ us hl => by obtain ⟨_, _, _, rfl⟩ := ln3 hl; rfl
 have m42 := PySem.W.mg_of X G a42
 have F43 := zZ (st := xB) l43 c43 k43
 have b43 := F43.binds (ps := ["_law_pen_here", "_law_head", "_law_at", "_law_many"]) fun _ _ _ _ _ _ us hl => by obtain ⟨_, _, _, _, rfl⟩ := ln4 hl; rfl
 have m43 := PySem.W.mg_of X G a43
 have F44 := zZ (st := jI) l44 c44 k44
 have b44 := F44.binds (ps := ["_law_heads", "_law_rows"]) fun _ _ _ _ _ _ us hl => by obtain ⟨_, _, rfl⟩ := ln2 hl; rfl
 have m44 := PySem.W.mg_of X G a44
 have F45 := zZ (st := xS) l45 c45 k45
 have b45 := F45.binds (ps := ["_law_pen_here", "_law_heads", "_law_rows"]) fun _ _ _ _ _ _ us hl => by obtain ⟨_, _, _, rfl⟩ := ln3 hl; rfl
 have m45 := PySem.W.mg_of X G a45
 have F46 := zZ (st := kD) l46 c46 k46
 have b46 := F46.binds (ps := ["_law_pen_here", "_law_numbers"]) fun _ _ _ _ _ _ us hl => by obtain ⟨_, _, rfl⟩ := ln2 hl; rfl
 have m46 := PySem.W.mg_of X G a46
 have F47 := zZ (st := xW) l47 c47 k47
 have b47 := F47.binds (ps := ["_law_way", "_law_one", "_law_other"]) fun _ _ _ _ _ _ us hl => by obtain ⟨_, _, _, rfl⟩ := ln3 hl; rfl
 have m47 := PySem.W.mg_of X G a47
 have F48 := zZ (st := xA) l48 c48 k48
 have b48 := F48.binds (ps := ["_law_thing"]) fun _ _ _ _ _ _ us hl => by obtain ⟨_, rfl⟩ := ln1 hl; rfl
 have m48 := PySem.W.mg_of X G a48
 have F49 := zZ (st := s_law) l49 c49 k49
 refine ⟨PySem.W.fnOf "law" "law" (defArgs s_law) (defBody s_law) (defScope s_law) .none kV49 dc49 pm49 an49 cd49 ct49, fun s v => .of_eq rfl, fun base _ _ => ?_⟩
 have T0 : Txt K mg := by
  refine ⟨PySem.W.mg_none_of X G z_len, PySem.W.mg_none_of X G z_range, PySem.W.mg_none_of X G z_all, PySem.W.mg_none_of X G z_max, PySem.W.mg_none_of X G z_enumerate, PySem.W.mg_none_of X G z_isinstance, PySem.W.mg_none_of X G z_int, PySem.W.mg_none_of X G z_bool, PySem.W.mg_none_of X G z_tuple, PySem.W.mg_none_of X G z_list, ⟨_, PySem.W.mg_of X G i_ADD⟩, ⟨_, PySem.W.mg_of X G i_NEW⟩, ⟨_, PySem.W.mg_of X G i_MOST_FUNCTIONS⟩, ⟨_, PySem.W.mg_of X G i_MOST_PARAMS⟩, ⟨_, PySem.W.mg_of X G i_MOST_BOXES⟩, ⟨_, PySem.W.mg_of X G i_MOST_MANY⟩, ⟨_, PySem.W.mg_of X G i_LEAST_PICK⟩, ⟨_, PySem.W.mg_of X G i_OP_PUSH⟩, ⟨_, PySem.W.mg_of X G i_OP_GET⟩, ⟨_, PySem.W.mg_of X G i_OP_SET⟩, ⟨_, PySem.W.mg_of X G i_OP_DROP⟩, ⟨_, PySem.W.mg_of X G i_OP_JUMP⟩, ⟨_, PySem.W.mg_of X G i_OP_UNLESS⟩, ⟨_, PySem.W.mg_of X G i_OP_CALL⟩, ⟨_, PySem.W.mg_of X G i_OP_BACK⟩, ⟨_, PySem.W.mg_of X G i_OP_FAIL⟩, ⟨_, PySem.W.mg_of X G i_OP_BREATH⟩, ⟨_, PySem.W.mg_of X G i_OP_DO⟩, ⟨_, PySem.W.mg_of X G i_OP_PICK⟩, ⟨_, PySem.W.mg_of X G i_HEAD_SIZE⟩, ⟨_, PySem.W.mg_of X G i_ROW_SIZE⟩, xK, yM u_bool, xK, kit_any1 xK, kit_any2 (yM u_tl) xK, xK⟩
 have T1 : TxtM K mg cMachine cDoing cFault := ⟨T0, PySem.W.mg_none_of X G z_min, ⟨_, PySem.W.mg_of X G i_MOST_DONE_AT_ONCE⟩, ⟨_, PySem.W.mg_of X G i_ANSWER⟩, PySem.W.mg_of X G c_Fault, ⟨Machine_pg, Machine_hd, Machine_po, Machine_sa⟩, Machine_heads, Machine_steps, Machine_rows, Machine_breaths, Machine_being_done, Machine_value, ⟨Doing_pg, Doing_hd, Doing_po, Doing_sa⟩, Doing_at, Doing_boxes, Doing_held, ⟨exc_cdE xN, xobj, xbase, xsa, xga, xnh⟩, xwd, xnu, ⟨xm1, xm2, xm3, xm4⟩⟩
 have TD : TxtD K mg := ⟨PySem.W.mg_none_of X G z_len, PySem.W.mg_none_of X G z_abs, PySem.W.mg_none_of X G z_range, PySem.W.mg_none_of X G z_isinstance, PySem.W.mg_none_of X G z_int, PySem.W.mg_none_of X G z_bool, PySem.W.mg_none_of X G z_str, PySem.W.mg_none_of X G z_tuple, PySem.W.mg_none_of X G z_list, ⟨_, PySem.W.mg_of X G i_ADD⟩, ⟨_, PySem.W.mg_of X G i_SUB⟩, ⟨_, PySem.W.mg_of X G i_MUL⟩, ⟨_, PySem.W.mg_of X G i_QUO⟩, ⟨_, PySem.W.mg_of X G i_LESS⟩, ⟨_, PySem.W.mg_of X G i_SAME⟩, ⟨_, PySem.W.mg_of X G i_PUSH⟩, ⟨_, PySem.W.mg_of X G i_PUT⟩, ⟨_, PySem.W.mg_of X G i_SIZE⟩, ⟨_, PySem.W.mg_of X G i_NEW⟩, ⟨_, PySem.W.mg_of X G i_GREAT⟩, xK, yM u_str, yM u_bool, xK⟩
 have T : TxtG K mg cMachine cDoing cFault aP := ⟨T1, TD, ⟨_, PySem.W.mg_of X G i_FAIL⟩, PySem.W.mg_of X G g_PARTS, fun H => sqT_of (xs := [V.int 1, V.int 2, V.int 2, V.int 2, V.int 2, V.int 2, V.int 2, V.int 2, V.int 2, V.int 2, V.int 3, V.int 1, V.int 0]) o_PARTS (small (show 13 <= 1000 by decide)) (.cons ⟨_, rfl⟩ (.cons ⟨_, rfl⟩ (.cons ⟨_, rfl⟩ (.cons ⟨_, rfl⟩ (.cons ⟨_, rfl⟩ (.cons ⟨_, rfl⟩ (.cons ⟨_, rfl⟩ (.cons ⟨_, rfl⟩ (.cons ⟨_, rfl⟩ (.cons ⟨_, rfl⟩ (.cons ⟨_, rfl⟩ (.cons ⟨_, rfl⟩ (.cons ⟨_, rfl⟩ (.nil)))))))))))))) H⟩
 have TK : KitO K := ⟨mem7 xK (yM v_bool_int) (yM v_str_int) (yM v_NoneType_int) (yM v_list_int) (yM v_tuple_int) (yM v_dict_int), mem7 (yM v_int_bool) xK (yM v_str_bool) (yM v_NoneType_bool) (yM v_list_bool) (yM v_tuple_bool) (yM v_dict_bool), mem7 (yM v_int_list) (yM v_bool_list) (yM v_str_list) (yM v_NoneType_list) xK (yM v_tuple_list) (yM v_dict_list), mem7 (kit_no2 (yM v_int_list) (yM v_int_tuple)) (kit_no2 (yM v_bool_list) (yM v_bool_tuple)) (kit_no2 (yM v_str_list) (yM v_str_tuple)) (kit_no2 (yM v_NoneType_list) (yM v_NoneType_tuple)) (kit_any1 xK) (kit_any2 (yM v_tuple_list) xK) (kit_no2 (yM v_dict_list) (yM v_dict_tuple))⟩
 have TE : TxtC K mg cNoCode := ⟨bare_of yN yC rfl yB yA yF yD yE yG, PySem.W.mg_of X G c_NoCode⟩
 have TW : TxtW K mg cNoSheet cNoText cNoRow cNoName cNoCode cChainError := ⟨T0, PySem.W.mg_none_of X G z_ValueError, PySem.W.mg_of X G c_NoSheet, PySem.W.mg_of X G c_NoText, PySem.W.mg_of X G c_NoRow, PySem.W.mg_of X G c_NoName, PySem.W.mg_of X G c_NoCode, PySem.W.mg_of X G c_ChainError, ⟨exc_cd yN, yobj, ybase, ysa, yga, ynh⟩, ⟨yha, yhn, ytk⟩, ⟨su_ChainError, ty_ChainError, cl_ChainError, xb_ChainError⟩, kit_ref su_NoSheet ty_NoSheet cl_NoSheet su_NoCode, kit_ref su_NoText ty_NoText cl_NoText su_NoCode, kit_ref su_NoRow ty_NoRow cl_NoRow su_NoCode, kit_ref su_NoName ty_NoName cl_NoName su_NoCode, kit_ref su_NoCode ty_NoCode cl_NoCode su_NoCode, yM ve_ rfl⟩
 have X0 : CalX l.prog w K mg base 1 "Fault" cFault _ _ := ⟨⟨_, _, ExMk.under xN a0 xty xkp T.exc, ok_initF T F0, PySem.W.mg_of X G c_Fault, b0⟩⟩
 have D1 : CalK l.prog w K mg base (CXE l.prog w) 1 "Doing" cDoing _ _ := ⟨⟨_, _, ⟨Doing_makes, a1, fn_Doing___init__, Doing_kp⟩, ok_initD T F1, PySem.W.mg_of X G c_Doing, b1⟩⟩
 have M3 : CalM l.prog w K mg base (CXE l.prog w) 3 cMachine "breathe" _ _ := ⟨⟨_, _, ok_breatheG T F3 X0, T.mach, ⟨a3, fn_Machine_breathe, k3⟩, b3⟩⟩
 have C4 : Cal l.prog w K mg base (CXE l.prog w) 1 "parts_of" _ _ := ⟨⟨_, _, ok_parts T F4, m4, k4, b4⟩⟩
 have C5 : Cal l.prog w K mg base (CXE l.prog w) 1 "is_whole" _ _ := ⟨⟨_, _, ok_wholeX T0 TK F5, m5, k5, b5⟩⟩
 have C6 : Cal l.prog w K mg base (CXE l.prog w) 1 "is_head" _ _ := ⟨⟨_, _, ok_is_head T0 F6, m6, k6, b6⟩⟩
 have C7 : Cal l.prog w K mg base (CXE l.prog w) 1 "stands_alone" _ _ := ⟨⟨_, _, ok_alone T0 F7, m7, k7, b7⟩⟩
 have C8 : Cal l.prog w K mg base (CXE l.prog w) 2 "is_row" _ _ := ⟨⟨_, _, ok_is_row T0 F8 C7, m8, k8, b8⟩⟩
 have C9 : Cal l.prog w K mg base (CXE l.prog w) 1 "grouped" _ _ := ⟨⟨_, _, ok_grouped T0 F9, m9, k9, b9⟩⟩
 have C10 : Cal l.prog w K mg base (CXE l.prog w) 2 "heads_in" _ _ := ⟨⟨_, _, ok_heads_in T0 F10 C9, m10, k10, b10⟩⟩
 have C11 : Cal l.prog w K mg base (CXE l.prog w) 2 "rows_in" _ _ := ⟨⟨_, _, ok_rows_in T0 F11 C9, m11, k11, b11⟩⟩
 have C12 : Cal l.prog w K mg base (CXE l.prog w) 2 "is_list_of_wholes" _ _ := ⟨⟨_, _, ok_wholesX T0 TK F12 C5, m12, k12, b12⟩⟩
 have C13 : Cal l.prog w K mg base (CXE l.prog w) 3 "is_code" _ _ := ⟨⟨_, _, ok_is_codeX T0 F13 C12 C10 C11 C6 C8, m13, k13, b13⟩⟩
 have C14 : Cal l.prog w K mg base (CXE l.prog w) 4 "heads_of" _ _ := ⟨⟨_, _, ok_heads_ofX T0 TE F14 C13 C10, m14, k14, b14⟩⟩
 have C15 : Cal l.prog w K mg base (CXE l.prog w) 4 "rows_of" _ _ := ⟨⟨_, _, ok_rows_ofX T0 TE F15 C13 C11, m15, k15, b15⟩⟩
 have C16 : Cal l.prog w K mg base (CXE l.prog w) 1 "joined" _ _ := ⟨⟨_, _, ok_joinedX T0 TK TE F16, m16, k16, b16⟩⟩
 have C17 : Cal l.prog w K mg base (CXE l.prog w) 4 "code_of" _ _ := ⟨⟨_, _, ok_code_ofY T0 TE F17 C16 C13, m17, k17, b17⟩⟩
 have C18 : Cal l.prog w K mg base (CXE l.prog w) 1 "within" _ _ := ⟨⟨_, _, ok_within TD F18, m18, k18, b18⟩⟩
 have C19 : Cal l.prog w K mg base (CXE l.prog w) 2 "reckoned" _ _ := ⟨⟨_, _, ok_reckoned TD F19 C18, m19, k19, b19⟩⟩
 have C20 : Cal l.prog w K mg base (CXE l.prog w) 1 "done_to_row" _ _ := ⟨⟨_, _, ok_drow TD F20, m20, k20, b20⟩⟩
 have C21 : Cal l.prog w K mg base (CXE l.prog w) 3 "worth" _ _ := ⟨⟨_, _, ok_worth TD F21 C20 C19, m21, k21, b21⟩⟩
 have D2 : CalK l.prog w K mg base (CXE l.prog w) 5 "Machine" cMachine _ _ := ⟨⟨_, _, ⟨Machine_makes, a2, fn_Machine___init__, Machine_kp⟩, ok_initMG T F2 (Cal.imp C14 heads_X) (Cal.imp C15 rows_X), PySem.W.mg_of X G c_Machine, b2⟩⟩
 have E2 : CalK l.prog w K mg base (CXE l.prog w) 5 "Machine" cMachine _ _ := ⟨⟨_, _, ⟨Machine_makes, a2, fn_Machine___init__, Machine_kp⟩, ok_initME T F2 C14 C15, PySem.W.mg_of X G c_Machine, b2⟩⟩
 have C22 : Cal l.prog w K mg base (CXE l.prog w) 3 "take_last" _ _ := ⟨⟨_, _, ok_last T F22 X0, m22, k22, b22⟩⟩
 have C23 : Cal l.prog w K mg base (CXE l.prog w) 4 "take_off" _ _ := ⟨⟨_, _, ok_offG T F23 C22, m23, k23, b23⟩⟩
 have C24 : Cal l.prog w K mg base (CXE l.prog w) 4 "want_box" _ _ := ⟨⟨_, _, ok_want T F24 X0, m24, k24, b24⟩⟩
 have C26 : Cal l.prog w K mg base (CXE l.prog w) 5 "do_deed" _ _ := ⟨⟨_, _, ok_deedG T F26 X0 C23 C4 C21, m26, k26, b26⟩⟩
 have C25 : Cal l.prog w K mg base (CXE l.prog w) 5 "do_set" _ _ := ⟨⟨_, _, ok_setG T F25 C22 C24, m25, k25, b25⟩⟩
 have C27 : Cal l.prog w K mg base (CXE l.prog w) 5 "do_call" _ _ := ⟨⟨_, _, ok_callG T F27 C23 X0 M3 D1, m27, k27, b27⟩⟩
 have C28 : Cal l.prog w K mg base (CXE l.prog w) 4 "do_back" _ _ := ⟨⟨_, _, ok_backG T F28 C22, m28, k28, b28⟩⟩
 have C29 : Cal l.prog w K mg base (CXE l.prog w) 1 "skipped" _ _ := ⟨⟨_, _, ok_skipped T F29, m29, k29, b29⟩⟩
 have C30 : Cal l.prog w K mg base (CXE l.prog w) 6 "do_row" _ _ := ⟨⟨_, _, ok_rowG T F30 X0 M3 C22 C24 C26 C25 C27 C28 C29, m30, k30, b30⟩⟩
 have C31 : Cal l.prog w K mg base (CXE l.prog w) 7 "do_rows" _ _ := ⟨⟨_, _, ok_rowsG T F31 X0 C30, m31, k31, b31⟩⟩
 have C32 : Cal l.prog w K mg base (CXE l.prog w) 8 "go" _ _ := ⟨⟨_, _, ok_goX (ok_goG T F32 D2 C27 C31) (ok_goE T F32 E2 C27 C31), m32, k32, b32⟩⟩
 have C33 : Cal l.prog w K mg base (CXE l.prog w) 1 "_law_pen" _ _ := ⟨⟨_, _, ok_pen F33, m33, k33, b33⟩⟩
 have C34 : Cal l.prog w K mg base (CXE l.prog w) 1 "_law_mixed" _ _ := ⟨⟨_, _, ok_mixed F34, m34, k34, b34⟩⟩
 have C35 : Cal l.prog w K mg base (CXE l.prog w) 2 "_law_take" _ _ := ⟨⟨_, _, ok_take T0 F35 C34, m35, k35, b35⟩⟩
 have C36 : Cal l.prog w K mg base (CXE l.prog w) 3 "_law_number" _ _ := ⟨⟨_, _, ok_number T0 F36 C35, m36, k36, b36⟩⟩
 have C37 : Cal l.prog w K mg base (CXE l.prog w) 1 "_law_needs" _ _ := ⟨⟨_, _, ok_needs T0 F37, m37, k37, b37⟩⟩
 have C38 : Cal l.prog w K mg base (CXE l.prog w) 4 "_law_row" _ _ := ⟨⟨_, _, ok_row T0 F38 C35 C36 C37, m38, k38, b38⟩⟩
 have C39 : Cal l.prog w K mg base (CXE l.prog w) 2 "_law_height" _ _ := ⟨⟨_, _, ok_height T0 F39 C37, m39, k39, b39⟩⟩
 have C40 : Cal l.prog w K mg base (CXE l.prog w) 5 "_law_code" _ _ := ⟨⟨_, _, ok_code T0 F40 C35 C38 C39, m40, k40, b40⟩⟩
 have C41 : Cal l.prog w K mg base (CXE l.prog w) 1 "_law_word" _ _ := ⟨⟨_, _, ok_word TW F41, m41, k41, b41⟩⟩
 have C42 : Cal l.prog w K mg base (CXE l.prog w) 3 "_law_bad_row" _ _ := ⟨⟨_, _, ok_bad_row T0 F42 C35, m42, k42, b42⟩⟩
 have C43 : Cal l.prog w K mg base (CXE l.prog w) 3 "_law_bad_head" _ _ := ⟨⟨_, _, ok_bad_head T0 F43 C35, m43, k43, b43⟩⟩
 have C44 : Cal l.prog w K mg base (CXE l.prog w) 1 "_law_flat" _ _ := ⟨⟨_, _, ok_flat T0 F44, m44, k44, b44⟩⟩
 have C45 : Cal l.prog w K mg base (CXE l.prog w) 4 "_law_bent" _ _ := ⟨⟨_, _, ok_bent T0 F45 C35 C42 C43, m45, k45, b45⟩⟩
 have C46 : Cal l.prog w K mg base (CXE l.prog w) 3 "_law_odd" _ _ := ⟨⟨_, _, ok_odd T0 F46 C35, m46, k46, b46⟩⟩
 have C47 : Cal l.prog w K mg base (CXE l.prog w) 9 "_law_tried" _ _ := ⟨⟨_, _, ok_tried TW F47 C14 C15 C32 C17 C41, m47, k47, b47⟩⟩
 have C48 : Cal l.prog w K mg base (CXE l.prog w) 10 "_law_refused" _ _ := ⟨⟨_, _, ok_refused T0 F48 C13 C47, m48, k48, b48⟩⟩
 exact ok_law T0 F49 C33 C40 C44 C45 C46 C47 C48 C13
theorem walk {l : PySem.W.OpenLaw} {q : Program} {loose : List Str} {XP : (Str -> Option Value) -> Heap -> Prop} {YP : World -> Heap -> Prop} {d : DefRec} {K : Params -> PySem.W.Frag} (hn : l.most = some 63) (hdf : d.params.defaults = [])
  (hY : ∀ (w : World) (h : Heap), YP w h -> (K w.params).In h)
  (F : ∀ (w : World) (mg : Str -> Option Value) (fa : Addr) (h : Heap), (K w.params).In h -> h.Ns mainGlobals mg -> mg d.name = some (.ref fa) ->
   ∃ fd : FuncData, (∀ (s : Shared) (u : Value), BindsTo s fd ⟨[u], []⟩ [("_law_script", u)]) /\ ∀ base : Heap, (K w.params).In base -> base.Ns mainGlobals mg -> FnOk l.prog w (K w.params) mg base (CXE l.prog w) 11 fa fd ["_law_script"] (spLaw (K w.params))) :
  PySem.W.WalkO q loose XP YP l.row.toRowW d [] (fun f vs => PySem.call f vs) :=
 L2.walk_of (n := 63) (k := 11) (x := "_law_script") (CX := fun w => (CXE l.prog w)) (sp := fun w => spLaw (K w.params)) hn (by decide) hdf ⟨rfl, by decide, by decide⟩ hY F (fun _ _ a ns hl hO hS => ⟨a, ns, rfl, Scr.of hO hS, hl, fun _ => rfl⟩) (fun _ _ _ _ _ => cxe_none)
end OcL
namespace OcP
open PySem
set_option compiler.extract_closed false
def B := PySem.Challenge.pw_ownchain_k24_what_is_no_code.main.body
def s0 : Stmt := let_mvar% ?s := (_ : Stmt); let_mvar% ?f := (fun (_ : B[0]? = some ?s) => ?s); ?f rfl
def s1 : Stmt := let_mvar% ?s := (_ : Stmt); let_mvar% ?f := (fun (_ : B[1]? = some ?s) => ?s); ?f rfl
def s2 : Stmt := let_mvar% ?s := (_ : Stmt); let_mvar% ?f := (fun (_ : B[2]? = some ?s) => ?s); ?f rfl
def s3 : Stmt := let_mvar% ?s := (_ : Stmt); let_mvar% ?f := (fun (_ : B[3]? = some ?s) => ?s); ?f rfl
def s4 : Stmt := let_mvar% ?s := (_ : Stmt); let_mvar% ?f := (fun (_ : B[4]? = some ?s) => ?s); ?f rfl
def s5 : Stmt := let_mvar% ?s := (_ : Stmt); let_mvar% ?f := (fun (_ : B[5]? = some ?s) => ?s); ?f rfl
def s6 : Stmt := let_mvar% ?s := (_ : Stmt); let_mvar% ?f := (fun (_ : B[6]? = some ?s) => ?s); ?f rfl
def s7 : Stmt := let_mvar% ?s := (_ : Stmt); let_mvar% ?f := (fun (_ : B[7]? = some ?s) => ?s); ?f rfl
def s8 : Stmt := let_mvar% ?s := (_ : Stmt); let_mvar% ?f := (fun (_ : B[8]? = some ?s) => ?s); ?f rfl
def s9 : Stmt := let_mvar% ?s := (_ : Stmt); let_mvar% ?f := (fun (_ : B[9]? = some ?s) => ?s); ?f rfl
def s10 : Stmt := let_mvar% ?s := (_ : Stmt); let_mvar% ?f := (fun (_ : B[10]? = some ?s) => ?s); ?f rfl
def s11 : Stmt := let_mvar% ?s := (_ : Stmt); let_mvar% ?f := (fun (_ : B[11]? = some ?s) => ?s); ?f rfl
def s12 : Stmt := let_mvar% ?s := (_ : Stmt); let_mvar% ?f := (fun (_ : B[12]? = some ?s) => ?s); ?f rfl
def s13 : Stmt := let_mvar% ?s := (_ : Stmt); let_mvar% ?f := (fun (_ : B[13]? = some ?s) => ?s); ?f rfl
def s14 : Stmt := let_mvar% ?s := (_ : Stmt); let_mvar% ?f := (fun (_ : B[14]? = some ?s) => ?s); ?f rfl
def s15 : Stmt := let_mvar% ?s := (_ : Stmt); let_mvar% ?f := (fun (_ : B[15]? = some ?s) => ?s); ?f rfl
def s16 : Stmt := let_mvar% ?s := (_ : Stmt); let_mvar% ?f := (fun (_ : B[16]? = some ?s) => ?s); ?f rfl
def s17 : Stmt := let_mvar% ?s := (_ : Stmt); let_mvar% ?f := (fun (_ : B[17]? = some ?s) => ?s); ?f rfl
def s18 : Stmt := let_mvar% ?s := (_ : Stmt); let_mvar% ?f := (fun (_ : B[18]? = some ?s) => ?s); ?f rfl
def s19 : Stmt := let_mvar% ?s := (_ : Stmt); let_mvar% ?f := (fun (_ : B[19]? = some ?s) => ?s); ?f rfl
def s20 : Stmt := let_mvar% ?s := (_ : Stmt); let_mvar% ?f := (fun (_ : B[20]? = some ?s) => ?s); ?f rfl
def s21 : Stmt := let_mvar% ?s := (_ : Stmt); let_mvar% ?f := (fun (_ : B[21]? = some ?s) => ?s); ?f rfl
def s22 : Stmt := let_mvar% ?s := (_ : Stmt); let_mvar% ?f := (fun (_ : B[22]? = some ?s) => ?s); ?f rfl
def s23 : Stmt := let_mvar% ?s := (_ : Stmt); let_mvar% ?f := (fun (_ : B[23]? = some ?s) => ?s); ?f rfl
def s24 : Stmt := let_mvar% ?s := (_ : Stmt); let_mvar% ?f := (fun (_ : B[24]? = some ?s) => ?s); ?f rfl
def s25 : Stmt := let_mvar% ?s := (_ : Stmt); let_mvar% ?f := (fun (_ : B[25]? = some ?s) => ?s); ?f rfl
def s26 : Stmt := let_mvar% ?s := (_ : Stmt); let_mvar% ?f := (fun (_ : B[26]? = some ?s) => ?s); ?f rfl
def s27 : Stmt := let_mvar% ?s := (_ : Stmt); let_mvar% ?f := (fun (_ : B[27]? = some ?s) => ?s); ?f rfl
def s28 : Stmt := let_mvar% ?s := (_ : Stmt); let_mvar% ?f := (fun (_ : B[28]? = some ?s) => ?s); ?f rfl
def s29 : Stmt := let_mvar% ?s := (_ : Stmt); let_mvar% ?f := (fun (_ : B[29]? = some ?s) => ?s); ?f rfl
def s30 : Stmt := let_mvar% ?s := (_ : Stmt); let_mvar% ?f := (fun (_ : B[30]? = some ?s) => ?s); ?f rfl
def s31 : Stmt := let_mvar% ?s := (_ : Stmt); let_mvar% ?f := (fun (_ : B[31]? = some ?s) => ?s); ?f rfl
def s32 : Stmt := let_mvar% ?s := (_ : Stmt); let_mvar% ?f := (fun (_ : B[32]? = some ?s) => ?s); ?f rfl
def s33 : Stmt := let_mvar% ?s := (_ : Stmt); let_mvar% ?f := (fun (_ : B[33]? = some ?s) => ?s); ?f rfl
def s34 : Stmt := let_mvar% ?s := (_ : Stmt); let_mvar% ?f := (fun (_ : B[34]? = some ?s) => ?s); ?f rfl
def s35 : Stmt := let_mvar% ?s := (_ : Stmt); let_mvar% ?f := (fun (_ : B[35]? = some ?s) => ?s); ?f rfl
def s36 : Stmt := let_mvar% ?s := (_ : Stmt); let_mvar% ?f := (fun (_ : B[36]? = some ?s) => ?s); ?f rfl
def s37 : Stmt := let_mvar% ?s := (_ : Stmt); let_mvar% ?f := (fun (_ : B[37]? = some ?s) => ?s); ?f rfl
def s38 : Stmt := let_mvar% ?s := (_ : Stmt); let_mvar% ?f := (fun (_ : B[38]? = some ?s) => ?s); ?f rfl
def s39 : Stmt := let_mvar% ?s := (_ : Stmt); let_mvar% ?f := (fun (_ : B[39]? = some ?s) => ?s); ?f rfl
def s40 : Stmt := let_mvar% ?s := (_ : Stmt); let_mvar% ?f := (fun (_ : B[40]? = some ?s) => ?s); ?f rfl
def s41 : Stmt := let_mvar% ?s := (_ : Stmt); let_mvar% ?f := (fun (_ : B[41]? = some ?s) => ?s); ?f rfl
def s42 : Stmt := let_mvar% ?s := (_ : Stmt); let_mvar% ?f := (fun (_ : B[42]? = some ?s) => ?s); ?f rfl
def s43 : Stmt := let_mvar% ?s := (_ : Stmt); let_mvar% ?f := (fun (_ : B[43]? = some ?s) => ?s); ?f rfl
def s44 : Stmt := let_mvar% ?s := (_ : Stmt); let_mvar% ?f := (fun (_ : B[44]? = some ?s) => ?s); ?f rfl
def s45 : Stmt := let_mvar% ?s := (_ : Stmt); let_mvar% ?f := (fun (_ : B[45]? = some ?s) => ?s); ?f rfl
def s46 : Stmt := let_mvar% ?s := (_ : Stmt); let_mvar% ?f := (fun (_ : B[46]? = some ?s) => ?s); ?f rfl
def s47 : Stmt := let_mvar% ?s := (_ : Stmt); let_mvar% ?f := (fun (_ : B[47]? = some ?s) => ?s); ?f rfl
def s48 : Stmt := let_mvar% ?s := (_ : Stmt); let_mvar% ?f := (fun (_ : B[48]? = some ?s) => ?s); ?f rfl
def s49 : Stmt := let_mvar% ?s := (_ : Stmt); let_mvar% ?f := (fun (_ : B[49]? = some ?s) => ?s); ?f rfl
def s50 : Stmt := let_mvar% ?s := (_ : Stmt); let_mvar% ?f := (fun (_ : B[50]? = some ?s) => ?s); ?f rfl
def s51 : Stmt := let_mvar% ?s := (_ : Stmt); let_mvar% ?f := (fun (_ : B[51]? = some ?s) => ?s); ?f rfl
def s52 : Stmt := let_mvar% ?s := (_ : Stmt); let_mvar% ?f := (fun (_ : B[52]? = some ?s) => ?s); ?f rfl
def s53 : Stmt := let_mvar% ?s := (_ : Stmt); let_mvar% ?f := (fun (_ : B[53]? = some ?s) => ?s); ?f rfl
def s54 : Stmt := let_mvar% ?s := (_ : Stmt); let_mvar% ?f := (fun (_ : B[54]? = some ?s) => ?s); ?f rfl
def s55 : Stmt := let_mvar% ?s := (_ : Stmt); let_mvar% ?f := (fun (_ : B[55]? = some ?s) => ?s); ?f rfl
def s56 : Stmt := let_mvar% ?s := (_ : Stmt); let_mvar% ?f := (fun (_ : B[56]? = some ?s) => ?s); ?f rfl
def s57 : Stmt := let_mvar% ?s := (_ : Stmt); let_mvar% ?f := (fun (_ : B[57]? = some ?s) => ?s); ?f rfl
def s58 : Stmt := let_mvar% ?s := (_ : Stmt); let_mvar% ?f := (fun (_ : B[58]? = some ?s) => ?s); ?f rfl
def s59 : Stmt := let_mvar% ?s := (_ : Stmt); let_mvar% ?f := (fun (_ : B[59]? = some ?s) => ?s); ?f rfl
def s60 : Stmt := let_mvar% ?s := (_ : Stmt); let_mvar% ?f := (fun (_ : B[60]? = some ?s) => ?s); ?f rfl
def s61 : Stmt := let_mvar% ?s := (_ : Stmt); let_mvar% ?f := (fun (_ : B[61]? = some ?s) => ?s); ?f rfl
def s62 : Stmt := let_mvar% ?s := (_ : Stmt); let_mvar% ?f := (fun (_ : B[62]? = some ?s) => ?s); ?f rfl
def s63 : Stmt := let_mvar% ?s := (_ : Stmt); let_mvar% ?f := (fun (_ : B[63]? = some ?s) => ?s); ?f rfl
def s64 : Stmt := let_mvar% ?s := (_ : Stmt); let_mvar% ?f := (fun (_ : B[64]? = some ?s) => ?s); ?f rfl
def s65 : Stmt := let_mvar% ?s := (_ : Stmt); let_mvar% ?f := (fun (_ : B[65]? = some ?s) => ?s); ?f rfl
def s66 : Stmt := let_mvar% ?s := (_ : Stmt); let_mvar% ?f := (fun (_ : B[66]? = some ?s) => ?s); ?f rfl
def s67 : Stmt := let_mvar% ?s := (_ : Stmt); let_mvar% ?f := (fun (_ : B[67]? = some ?s) => ?s); ?f rfl
def s68 : Stmt := let_mvar% ?s := (_ : Stmt); let_mvar% ?f := (fun (_ : B[68]? = some ?s) => ?s); ?f rfl
def s69 : Stmt := let_mvar% ?s := (_ : Stmt); let_mvar% ?f := (fun (_ : B[69]? = some ?s) => ?s); ?f rfl
def s70 : Stmt := let_mvar% ?s := (_ : Stmt); let_mvar% ?f := (fun (_ : B[70]? = some ?s) => ?s); ?f rfl
def s71 : Stmt := let_mvar% ?s := (_ : Stmt); let_mvar% ?f := (fun (_ : B[71]? = some ?s) => ?s); ?f rfl
def s72 : Stmt := let_mvar% ?s := (_ : Stmt); let_mvar% ?f := (fun (_ : B[72]? = some ?s) => ?s); ?f rfl
def s73 : Stmt := let_mvar% ?s := (_ : Stmt); let_mvar% ?f := (fun (_ : B[73]? = some ?s) => ?s); ?f rfl
def s74 : Stmt := let_mvar% ?s := (_ : Stmt); let_mvar% ?f := (fun (_ : B[74]? = some ?s) => ?s); ?f rfl
def s75 : Stmt := let_mvar% ?s := (_ : Stmt); let_mvar% ?f := (fun (_ : B[75]? = some ?s) => ?s); ?f rfl
def s76 : Stmt := let_mvar% ?s := (_ : Stmt); let_mvar% ?f := (fun (_ : B[76]? = some ?s) => ?s); ?f rfl
def s77 : Stmt := let_mvar% ?s := (_ : Stmt); let_mvar% ?f := (fun (_ : B[77]? = some ?s) => ?s); ?f rfl
def s78 : Stmt := let_mvar% ?s := (_ : Stmt); let_mvar% ?f := (fun (_ : B[78]? = some ?s) => ?s); ?f rfl
def s79 : Stmt := let_mvar% ?s := (_ : Stmt); let_mvar% ?f := (fun (_ : B[79]? = some ?s) => ?s); ?f rfl
def s80 : Stmt := let_mvar% ?s := (_ : Stmt); let_mvar% ?f := (fun (_ : B[80]? = some ?s) => ?s); ?f rfl
def s81 : Stmt := let_mvar% ?s := (_ : Stmt); let_mvar% ?f := (fun (_ : B[81]? = some ?s) => ?s); ?f rfl
def s82 : Stmt := let_mvar% ?s := (_ : Stmt); let_mvar% ?f := (fun (_ : B[82]? = some ?s) => ?s); ?f rfl
def s83 : Stmt := let_mvar% ?s := (_ : Stmt); let_mvar% ?f := (fun (_ : B[83]? = some ?s) => ?s); ?f rfl
def s84 : Stmt := let_mvar% ?s := (_ : Stmt); let_mvar% ?f := (fun (_ : B[84]? = some ?s) => ?s); ?f rfl
def s85 : Stmt := let_mvar% ?s := (_ : Stmt); let_mvar% ?f := (fun (_ : B[85]? = some ?s) => ?s); ?f rfl
def s86 : Stmt := let_mvar% ?s := (_ : Stmt); let_mvar% ?f := (fun (_ : B[86]? = some ?s) => ?s); ?f rfl
def s87 : Stmt := let_mvar% ?s := (_ : Stmt); let_mvar% ?f := (fun (_ : B[87]? = some ?s) => ?s); ?f rfl
def s88 : Stmt := let_mvar% ?s := (_ : Stmt); let_mvar% ?f := (fun (_ : B[88]? = some ?s) => ?s); ?f rfl
def s89 : Stmt := let_mvar% ?s := (_ : Stmt); let_mvar% ?f := (fun (_ : B[89]? = some ?s) => ?s); ?f rfl
def s90 : Stmt := let_mvar% ?s := (_ : Stmt); let_mvar% ?f := (fun (_ : B[90]? = some ?s) => ?s); ?f rfl
def s91 : Stmt := let_mvar% ?s := (_ : Stmt); let_mvar% ?f := (fun (_ : B[91]? = some ?s) => ?s); ?f rfl
def s92 : Stmt := let_mvar% ?s := (_ : Stmt); let_mvar% ?f := (fun (_ : B[92]? = some ?s) => ?s); ?f rfl
def s93 : Stmt := let_mvar% ?s := (_ : Stmt); let_mvar% ?f := (fun (_ : B[93]? = some ?s) => ?s); ?f rfl
def s94 : Stmt := let_mvar% ?s := (_ : Stmt); let_mvar% ?f := (fun (_ : B[94]? = some ?s) => ?s); ?f rfl
def s95 : Stmt := let_mvar% ?s := (_ : Stmt); let_mvar% ?f := (fun (_ : B[95]? = some ?s) => ?s); ?f rfl
def s96 : Stmt := let_mvar% ?s := (_ : Stmt); let_mvar% ?f := (fun (_ : B[96]? = some ?s) => ?s); ?f rfl
def sc : Scope := { kind := ScopeKind.module, names := [ (Str.ofString "__name__", NameKind.local), (Str.ofString "ChainError", NameKind.local), (Str.ofString "ValueError", NameKind.globalImplicit), (Str.ofString "NoSheet", NameKind.local), (Str.ofString "NoText", NameKind.local), (Str.ofString "NoCode", NameKind.local), (Str.ofString "NoRow", NameKind.local), (Str.ofString "NoName", NameKind.local), (Str.ofString "FAIL", NameKind.local), (Str.ofString "ADD", NameKind.local), (Str.ofString "SUB", NameKind.local), (Str.ofString "MUL", NameKind.local), (Str.ofString "QUO", NameKind.local), (Str.ofString "LESS", NameKind.local), (Str.ofString "SAME", NameKind.local), (Str.ofString "PUSH", NameKind.local), (Str.ofString "PUT", NameKind.local), (Str.ofString "SIZE", NameKind.local), (Str.ofString "NEW", NameKind.local), (Str.ofString "PARTS", NameKind.local), (Str.ofString "parts_of", NameKind.local), (Str.ofString "MOST_FUNCTIONS", NameKind.local), (Str.ofString "MOST_PARAMS", NameKind.local), (Str.ofString "MOST_BOXES", NameKind.local), (Str.ofString "MOST_MANY", NameKind.local), (Str.ofString "LEAST_PICK", NameKind.local), (Str.ofString "is_whole", NameKind.local), (Str.ofString "OP_PUSH", NameKind.local), (Str.ofString "OP_GET", NameKind.local), (Str.ofString "OP_SET", NameKind.local), (Str.ofString "OP_DROP", NameKind.local), (Str.ofString "OP_JUMP", NameKind.local), (Str.ofString "OP_UNLESS", NameKind.local), (Str.ofString "OP_CALL", NameKind.local), (Str.ofString "OP_BACK", NameKind.local), (Str.ofString "OP_FAIL", NameKind.local), (Str.ofString "OP_BREATH", NameKind.local), (Str.ofString "OP_DO", NameKind.local), (Str.ofString "OP_PICK", NameKind.local), (Str.ofString "HEAD_SIZE", NameKind.local), (Str.ofString "ROW_SIZE", NameKind.local), (Str.ofString "is_head", NameKind.local), (Str.ofString "stands_alone", NameKind.local), (Str.ofString "is_row", NameKind.local), (Str.ofString "grouped", NameKind.local), (Str.ofString "heads_in", NameKind.local), (Str.ofString "rows_in", NameKind.local), (Str.ofString "is_list_of_wholes", NameKind.local), (Str.ofString "is_code", NameKind.local), (Str.ofString "heads_of", NameKind.local), (Str.ofString "rows_of", NameKind.local), (Str.ofString "joined", NameKind.local), (Str.ofString "code_of", NameKind.local), (Str.ofString "GREAT", NameKind.local), (Str.ofString "within", NameKind.local), (Str.ofString "reckoned", NameKind.local), (Str.ofString "done_to_row", NameKind.local), (Str.ofString "worth", NameKind.local), (Str.ofString "MOST_DONE_AT_ONCE", NameKind.local), (Str.ofString "ANSWER", NameKind.local), (Str.ofString "Fault", NameKind.local), (Str.ofString "Exception", NameKind.globalImplicit), (Str.ofString "Doing", NameKind.local), (Str.ofString "Machine", NameKind.local), (Str.ofString "take_last", NameKind.local), (Str.ofString "take_off", NameKind.local), (Str.ofString "want_box", NameKind.local), (Str.ofString "do_set", NameKind.local), (Str.ofString "do_deed", NameKind.local), (Str.ofString "do_call", NameKind.local), (Str.ofString "do_back", NameKind.local), (Str.ofString "skipped", NameKind.local), (Str.ofString "do_row", NameKind.local), (Str.ofString "do_rows", NameKind.local), (Str.ofString "go", NameKind.local), (Str.ofString "_law_pen", NameKind.local), (Str.ofString "_law_mixed", NameKind.local), (Str.ofString "_law_take", NameKind.local), (Str.ofString "_law_number", NameKind.local), (Str.ofString "_law_needs", NameKind.local), (Str.ofString "_law_row", NameKind.local), (Str.ofString "_law_height", NameKind.local), (Str.ofString "_law_code", NameKind.local), (Str.ofString "_law_word", NameKind.local), (Str.ofString "_law_bad_row", NameKind.local), (Str.ofString "_law_bad_head", NameKind.local), (Str.ofString "_law_flat", NameKind.local), (Str.ofString "_law_bent", NameKind.local), (Str.ofString "_law_odd", NameKind.local), (Str.ofString "_law_tried", NameKind.local), (Str.ofString "_law_refused", NameKind.local), (Str.ofString "law", NameKind.local)], isGenerator := false, isCoroutine := false, more := [] : Scope }
def gi : Given := { argv := [], stdin := [], environ := (some [([76, 67, 95, 65, 76, 76], [67, 46, 85, 84, 70, 45, 56])]) : PySem.Given }
def fi : Str := "/claim/cut.py"
def pw : Program := { main := { body := [s0, s1, s2, s3, s4, s5, s6, s7, s8, s9, s10, s11, s12, s13, s14, s15, s16, s17, s18, s19, s20, s21, s22, s23, s24, s25, s26, s27, s28, s29, s30, s31, s32, s33, s34, s35, s36, s37, s38, s39, s40, s41, s42, s43, s44, s45, s46, s47, s48, s49, s50, s51, s52, s53, s54, s55, s56, s57, s58, s59, s60, s61, s62, s63, s64, s65, s66, s67, s68, s69, s70, s71, s72, s73, s74, s75, s76, s77, s78, s79, s80, s81, s82, s83, s84, s85, s86, s87, s88, s89, s90, s91, s92, s93, s94, s95, s96], scope := sc, futureAnnotations := false, file := fi, more := [] }, modules := [], parses := [], absent := [], harvested := [], given := gi }
def rw : PySem.W.OpenLaw := { prog := pw, name := (PySem.Str.ofString "law"), about := [(PySem.Str.ofString "is_code")], foot := 17, most := some 63, bound := none, writes := false }
theorem rw_eq : PySem.Challenge.rw_ownchain_k24_what_is_no_code = rw := rfl
end OcP

namespace PySem.W.Fast
 def tw14557328525937488828:=() def tw1310222895362864741:=() def tw6536385124835518439:=() def tw2206491590653224297:=() def tw2401361809541095958:=() def tw9943892271322425916:=() def tw1112083384806748439:=() def tw14832094683899624682:=()
 def tw7879247417710868962:=() def tw10393704174077726835:=() def tw2561545808630625286:=() def tw15227371673999105939:=() def tw10055395536824860085:=() def tw6176275777571302477:=() def tw2900351160675339277:=() def tw16333020487519924025:=()
 def tw6017194413670195300:=() def tw11534055992596359917:=() def tw2688587143603666016:=() def tw17433372850527002714:=() def tw15829357630811754056:=() def tw12011563221742513438:=() def tw5658673714578430607:=() def tw9544070588661375772:=()
 def tw4397362538267945701:=() def tw9701903646086544840:=() def tw3785795229932118425:=() def tw14950548352393610834:=() def tw17042449462108530528:=() def tw7957656236684934542:=() def tw6839861905379072808:=() def tw12871466225262030932:=()
 def tw5126150178429733587:=() def tw13609346126874807171:=() def tw3372951435041026728:=() def tw4486837420830995159:=() def tw823075227490699058:=() def tw9958751220518593774:=() def tw12937004103143061444:=() def tw3510073472617273258:=()
 def tw10191233790597464508:=() def tw5851997167428349843:=() def tw3882319695394895078:=() def tw1795782452549136101:=() def tw17906296316908534253:=() def tw8372556134540324780:=() def tw16364113740985455272:=() def tw14158357464744886135:=()
 def tw6823167738214469396:=() def tw12286278488395962887:=() def tw1320586935206746792:=() def tw16591375472883406151:=() def tw1953178810500589916:=() def tw4238090556412279533:=() def tw8849070019348743642:=() def tw8898478065009231751:=()
 def tw8243697770712099233:=() def tw10581925638479443698:=() def tw14245914350777893387:=() def tw18341607450119490939:=() def tw2529407285385727471:=() def tw3208799077088310262:=() def tw9525573271496532664:=() def tw9643866874330341422:=()
 def tw10567148164254996577:=() def tw14885507049209133199:=() def tw14858473433730484183:=() def tw8720412436448954955:=() def tw9620566163255808571:=() def tw9373149201048088604:=() def tw12641582336929305729:=() def tw3848352726004548036:=()
 def tw9527945295440616016:=() def tw6764067178554525258:=() def tw12951364275299914341:=() def tw3791178650100155893:=() def tw120633302641128386:=() def tw9814547315881503499:=() def tw2037861497999570074:=() def tw10549652976405591609:=()
 def tw15973891136501446899:=() def tw4817031512041391337:=() def tw10766616506612750113:=() def tw4185599430364807790:=() def tw18078332857961019782:=() def tw18197892165185291646:=() def tw1532385296122812322:=() def tw11802703703876733111:=()
 def tw10240473905876531097:=() def tw14678576148558015328:=() def tw2441322154421968370:=() def tw1173844268376457136:=() def tw17872292942070433639:=() def tw16405085106459495009:=() def tw8884720321450037722:=() def tw12211069759535902742:=()
 def tw4421869628426648178:=() def tw6101165997365584177:=() def tw8388229202950531919:=() def tw7681272759729308670:=() def tw14217197005577353647:=() def tw16263090658473260052:=() def tw17066574042754807762:=() def tw4783013354420532422:=()
 def tw154096169287985844:=() def tw11123430809900962696:=() def tw6551209757173382351:=() def tw8084978631279585235:=() def tw9789477874358966384:=() def tw1236010403736511004:=() def tw15717711266117379106:=() def tw14922266848027397247:=()
 def tw837198342529899951:=() def tw7883337990600710425:=() def tw10045832347154936347:=() def tw12273890022368781439:=() def tw15569180392571301599:=() def tw5992156078881447780:=() def tw16684010511217990267:=() def tw7891008415010203609:=()
 def tw10925360358719803586:=() def tw14846849664896466495:=() def tw13918034861616784307:=() def tw17065324836248392499:=() def tw11078021247708080369:=() def tw17660289147485828757:=() def tw8794633411799308621:=() def tw5849390992812284131:=()
 def tw2711764985722042493:=() def tw7821115919183491287:=() def tw8562348403319396973:=() def tw13115772667851271542:=() def tw5247308013425319734:=() def tw9952342513929137569:=() def tw16778228506263706132:=() def tw10624100020418217588:=()
 def tw12191225657235205759:=() def tw3702456035345914424:=() def tw1100532566716865210:=() def tw461017104106516475:=() def tw5976062467742344286:=() def tw4552722393688084885:=() def tw6382251532092625837:=() def tw8757289561277292005:=()
 def tw6516957815022245764:=() def tw8908262475009932013:=() def tw12510648682559212775:=() def tw12514883946125879578:=() def tw12287075105144884412:=() def tw14378701337159939563:=() def tw17057597474861680888:=() def tw15206917675915781724:=()
 def tw7642075190318604184:=() def tw18162886010756200657:=() def tw17702640759018398613:=() def tw4994225659992926071:=() def tw8438041829597197707:=() def tw8936903671963971435:=() def tw6769006437611586688:=() def tw6739603394811559854:=()
 def tw12962577774385403912:=() def tw998072546332789679:=() def tw9827302187340231097:=() def tw16137131047198431443:=() def tw7158632109239547157:=() def tw10018352221978860677:=() def tw3821860848420233355:=() def tw5816824498439812554:=()
 def tw10101860179329357336:=() def tw2645197522391422163:=() def tw2913878049707165191:=() def tw17992438065462811329:=() def tw3918997765548331169:=() def tw18144657827498237169:=() def tw17622221522567965886:=() def tw13696525371462931048:=()
 def tw12493492000088300577:=() def tw12461204611148611757:=() def tw4251435047035175824:=() def tw8184222732468131386:=() def tw11864444879079820255:=() def tw7213902688386386800:=() def tw6976123637459131472:=() def tw12525122639062040594:=()
 def tw2508801179427729912:=() def tw1640338701015207886:=() def tw8154349845078516470:=() def tw16878844024409436339:=() def tw15897964726505481478:=() def tw17954847838746335632:=() def tw17661594762256683735:=() def tw6435286215683855589:=()
 def tw9643217493932347499:=() def tw10332372477712489649:=() def tw4856789916670463847:=() def tw6212391890599743017:=() def tw15481532585351585205:=() def tw10845113325201177311:=() def tw15211135353706434610:=() def tw11656451390111330429:=()
 def tw12742183750566219263:=() def tw12972955681291657277:=() def tw15071243518774490946:=() def tw14612560089352392602:=() def tw6264983038713825574:=() def tw8627300088542439149:=() def tw8417664508949862320:=() def tw14745208125317260030:=()
 def tw496652993165003833:=() def tw10004742620170014067:=() def tw16508337543669207453:=() def tw5030983511058389330:=() def tw13847308683946222889:=() def tw15441553371654780497:=() def tw6364860662136967907:=() def tw16054566468392277213:=()
 def tw9265445928000284543:=() def tw10555259049234956800:=() def tw12291607539844612038:=() def tw8243466575343144518:=() def tw5269365523239075037:=() def tw1328299420620459226:=() def tw10026069554179515339:=() def tw17151725743141889662:=()
 def tw4211193282251009949:=() def tw1125140486959681878:=() def tw10222363501522797433:=() def tw18133226189029715786:=() def tw8519758607648439996:=() def tw8301114713546161240:=() def tw17131950018567389123:=() def tw4411061553874811071:=()
 def tw1514410856983615922:=() def tw62493133353693303:=() def tw3057080059526886293:=() def tw1518345993867452341:=() def tw713795135523897528:=() def tw17058427587749301573:=() def tw3461522965414826487:=() def tw8990854952494832286:=()
 def tw9550092268461274411:=() def tw13613985504383633871:=() def tw18383987376974960957:=() def tw3131863762242749015:=() def tw10449928893099399231:=() def tw3823894751414867906:=() def tw14454961061169627756:=() def tw11821266979691676661:=()
 def tw17801638930736830718:=() def tw12690860314179990883:=() def tw484152008095801886:=() def tw12392097171126327810:=() def tw17153080377380509136:=() def tw15138186462747159159:=() def tw4745365398558052193:=() def tw11569110939349698860:=()
 def tw15710587619879845030:=() def tw9151468759670416813:=()
end PySem.W.Fast
open PySem PySem.W PyProof.Rows
set_option maxRecDepth 100000 in
set_option maxHeartbeats 0 in
theorem PySem.Challenge.cw_ownchain_k24_what_is_no_code_holds : PySem.Challenge.rw_ownchain_k24_what_is_no_code.Holds := by
 rw [OcP.rw_eq]
 w_on; o_law; z_head; (case hw => w_witness2)
 k_fill
 refine L2.walkX_of (fun P => rfl) ?_
 refine OcL.walk (l := OcP.rw) rfl rfl (fun w h Y => Y) ?F
 case F =>
  intro w mg fa h KX G hmg
  refine' OcL.all_mk KX G hmg ?c_Fault ?c_Doing ?c_Machine ?c_NoCode ?c_ChainError ?c_NoSheet ?c_NoText ?c_NoRow ?c_NoName ?a0 ?l0 ?c0 ?k0 ?a1 ?l1 ?c1 ?k1 ?a2 ?l2 ?c2 ?k2 ?a3 ?l3 ?c3 ?k3 ?a4 ?l4 ?c4 ?k4 ?a5 ?l5 ?c5 ?k5 ?a6 ?l6 ?c6 ?k6 ?a7 ?l7 ?c7 ?k7 ?a8 ?l8 ?c8 ?k8 ?a9 ?l9 ?c9 ?k9 ?a10 ?l10 ?c10 ?k10 ?a11 ?l11 ?c11 ?k11 ?a12 ?l12 ?c12 ?k12 ?a13 ?l13 ?c13 ?k13 ?a14 ?l14 ?c14 ?k14 ?a15 ?l15 ?c15 ?k15 ?a16 ?l16 ?c16 ?k16 ?a17 ?l17 ?c17 ?k17 ?a18 ?l18 ?c18 ?k18 ?a19 ?l19 ?c19 ?k19 ?a20 ?l20 ?c20 ?k20 ?a21 ?l21 ?c21 ?k21 ?a22 ?l22 ?c22 ?k22 ?a23 ?l23 ?c23 ?k23 ?a24 ?l24 ?c24 ?k24 ?a25 ?l25 ?c25 ?k25 ?a26 ?l26 ?c26 ?k26 ?a27 ?l27 ?c27 ?k27 ?a28 ?l28 ?c28 ?k28 ?a29 ?l29 ?c29 ?k29 ?a30 ?l30 ?c30 ?k30 ?a31 ?l31 ?c31 ?k31 ?a32 ?l32 ?c32 ?k32 ?a33 ?l33 ?c33 ?k33 ?a34 ?l34 ?c34 ?k34 ?a35 ?l35 ?c35 ?k35 ?a36 ?l36 ?c36 ?k36 ?a37 ?l37 ?c37 ?k37 ?a38 ?l38 ?c38 ?k38 ?a39 ?l39 ?c39 ?k39 ?a40 ?l40 ?c40 ?k40 ?a41 ?l41 ?c41 ?k41 ?a42 ?l42 ?c42 ?k42 ?a43 ?l43 ?c43 ?k43 ?a44 ?l44 ?c44 ?k44 ?a45 ?l45 ?c45 ?k45 ?a46 ?l46 ?c46 ?k46 ?a47 ?l47 ?c47 ?k47 ?a48 ?l48 ?c48 ?k48 ?a49 ?l49 ?c49 ?k49 ?z_len ?z_range ?z_all ?z_max ?z_enumerate ?z_isinstance ?z_int ?z_bool ?z_tuple ?z_list ?z_min ?z_abs ?z_str ?i_ADD ?i_NEW ?i_MOST_FUNCTIONS ?i_MOST_PARAMS ?i_MOST_BOXES ?i_MOST_MANY ?i_LEAST_PICK ?i_OP_PUSH ?i_OP_GET ?i_OP_SET ?i_OP_DROP ?i_OP_JUMP ?i_OP_UNLESS ?i_OP_CALL ?i_OP_BACK ?i_OP_FAIL ?i_OP_BREATH ?i_OP_DO ?i_OP_PICK ?i_HEAD_SIZE ?i_ROW_SIZE ?i_MOST_DONE_AT_ONCE ?i_ANSWER ?i_SUB ?i_MUL ?i_QUO ?i_LESS ?i_SAME ?i_PUSH ?i_PUT ?i_SIZE ?i_GREAT ?i_FAIL ?g_PARTS ?o_PARTS ?u_bool ?u_tl ?u_str ?fn_Doing___init__ ?fn_Machine___init__ ?fn_Machine_breathe ?Machine_makes ?Machine_kp ?Machine_pg ?Machine_hd ?Machine_po ?Machine_sa ?Machine_heads ?Machine_steps ?Machine_rows ?Machine_breaths ?Machine_being_done ?Machine_value ?Doing_makes ?Doing_kp ?Doing_pg ?Doing_hd ?Doing_po ?Doing_sa ?Doing_at ?Doing_boxes ?Doing_held ?xN ?xkp ?xty ?xobj ?xbase ?xsa ?xga ?xnh ?xwd ?xnu ?xm1 ?xm2 ?xm3 ?xm4 ?z_ValueError ?v_int_bool ?v_int_list ?v_int_tuple ?v_bool_int ?v_bool_list ?v_bool_tuple ?v_str_int ?v_str_bool ?v_str_list ?v_str_tuple ?v_NoneType_int ?v_NoneType_bool ?v_NoneType_list ?v_NoneType_tuple ?v_list_int ?v_list_bool ?v_list_tuple ?v_tuple_int ?v_tuple_bool ?v_tuple_list ?v_dict_int ?v_dict_bool ?v_dict_list ?v_dict_tuple ?ty_NoCode ?cl_NoCode ?su_NoCode ?ty_ChainError ?cl_ChainError ?su_ChainError ?ty_NoSheet ?cl_NoSheet ?su_NoSheet ?ty_NoText ?cl_NoText ?su_NoText ?ty_NoRow ?cl_NoRow ?su_NoRow ?ty_NoName ?cl_NoName ?su_NoName ?xb_ChainError ?ve_ ?yobj ?ybase ?ysa ?yga ?ynh ?yha ?yhn ?ytk ?yN ?yC ?yB ?yF ?yD ?yG ?yA ?yE
  (case c_Fault => k_is)
  (case c_Doing => k_is)
  (case c_Machine => k_is)
  (case c_NoCode => k_is)
  (case c_ChainError => k_is)
  (case c_NoSheet => k_is)
  (case c_NoText => k_is)
  (case c_NoRow => k_is)
  (case c_NoName => k_is)
  (case a0 => k_is)
  (case l0 => k_is)
  (case c0 => k_is)
  (case k0 => k_is)
  (case a1 => k_is)
  (case l1 => k_is)
  (case c1 => k_is)
  (case k1 => k_is)
  (case a2 => k_is)
  (case l2 => k_is)
  (case c2 => k_is)
  (case k2 => k_is)
  (case a3 => k_is)
  (case l3 => k_is)
  (case c3 => k_is)
  (case k3 => k_is)
  (case a4 => k_is)
  (case l4 => k_is)
  (case c4 => k_is)
  (case k4 => k_is)
  (case a5 => k_is)
  (case l5 => k_is)
  (case c5 => k_is)
  (case k5 => k_is)
  (case a6 => k_is)
  (case l6 => k_is)
  (case c6 => k_is)
  (case k6 => k_is)
  (case a7 => k_is)
  (case l7 => k_is)
  (case c7 => k_is)
  (case k7 => k_is)
  (case a8 => k_is)
  (case l8 => k_is)
  (case c8 => k_is)
  (case k8 => k_is)
  (case a9 => k_is)
  (case l9 => k_is)
  (case c9 => k_is)
  (case k9 => k_is)
  (case a10 => k_is)
  (case l10 => k_is)
  (case c10 => k_is)
  (case k10 => k_is)
  (case a11 => k_is)
  (case l11 => k_is)
  (case c11 => k_is)
  (case k11 => k_is)
  (case a12 => k_is)
  (case l12 => k_is)
  (case c12 => k_is)
  (case k12 => k_is)
  (case a13 => k_is)
  (case l13 => k_is)
  (case c13 => k_is)
  (case k13 => k_is)
  (case a14 => k_is)
  (case l14 => k_is)
  (case c14 => k_is)
  (case k14 => k_is)
  (case a15 => k_is)
  (case l15 => k_is)
  (case c15 => k_is)
  (case k15 => k_is)
  (case a16 => k_is)
  (case l16 => k_is)
  (case c16 => k_is)
  (case k16 => k_is)
  (case a17 => k_is)
  (case l17 => k_is)
  (case c17 => k_is)
  (case k17 => k_is)
  (case a18 => k_is)
  (case l18 => k_is)
  (case c18 => k_is)
  (case k18 => k_is)
  (case a19 => k_is)
  (case l19 => k_is)
  (case c19 => k_is)
  (case k19 => k_is)
  (case a20 => k_is)
  (case l20 => k_is)
  (case c20 => k_is)
  (case k20 => k_is)
  (case a21 => k_is)
  (case l21 => k_is)
  (case c21 => k_is)
  (case k21 => k_is)
  (case a22 => k_is)
  (case l22 => k_is)
  (case c22 => k_is)
  (case k22 => k_is)
  (case a23 => k_is)
  (case l23 => k_is)
  (case c23 => k_is)
  (case k23 => k_is)
  (case a24 => k_is)
  (case l24 => k_is)
  (case c24 => k_is)
  (case k24 => k_is)
  (case a25 => k_is)
  (case l25 => k_is)
  (case c25 => k_is)
  (case k25 => k_is)
  (case a26 => k_is)
  (case l26 => k_is)
  (case c26 => k_is)
  (case k26 => k_is)
  (case a27 => k_is)
  (case l27 => k_is)
  (case c27 => k_is)
  (case k27 => k_is)
  (case a28 => k_is)
  (case l28 => k_is)
  (case c28 => k_is)
  (case k28 => k_is)
  (case a29 => k_is)
  (case l29 => k_is)
  (case c29 => k_is)
  (case k29 => k_is)
  (case a30 => k_is)
  (case l30 => k_is)
  (case c30 => k_is)
  (case k30 => k_is)
  (case a31 => k_is)
  (case l31 => k_is)
  (case c31 => k_is)
  (case k31 => k_is)
  (case a32 => k_is)
  (case l32 => k_is)
  (case c32 => k_is)
  (case k32 => k_is)
  (case a33 => k_is)
  (case l33 => k_is)
  (case c33 => k_is)
  (case k33 => k_is)
  (case a34 => k_is)
  (case l34 => k_is)
  (case c34 => k_is)
  (case k34 => k_is)
  (case a35 => k_is)
  (case l35 => k_is)
  (case c35 => k_is)
  (case k35 => k_is)
  (case a36 => k_is)
  (case l36 => k_is)
  (case c36 => k_is)
  (case k36 => k_is)
  (case a37 => k_is)
  (case l37 => k_is)
  (case c37 => k_is)
  (case k37 => k_is)
  (case a38 => k_is)
  (case l38 => k_is)
  (case c38 => k_is)
  (case k38 => k_is)
  (case a39 => k_is)
  (case l39 => k_is)
  (case c39 => k_is)
  (case k39 => k_is)
  (case a40 => k_is)
  (case l40 => k_is)
  (case c40 => k_is)
  (case k40 => k_is)
  (case a41 => k_is)
  (case l41 => k_is)
  (case c41 => k_is)
  (case k41 => k_is)
  (case a42 => k_is)
  (case l42 => k_is)
  (case c42 => k_is)
  (case k42 => k_is)
  (case a43 => k_is)
  (case l43 => k_is)
  (case c43 => k_is)
  (case k43 => k_is)
  (case a44 => k_is)
  (case l44 => k_is)
  (case c44 => k_is)
  (case k44 => k_is)
  (case a45 => k_is)
  (case l45 => k_is)
  (case c45 => k_is)
  (case k45 => k_is)
  (case a46 => k_is)
  (case l46 => k_is)
  (case c46 => k_is)
  (case k46 => k_is)
  (case a47 => k_is)
  (case l47 => k_is)
  (case c47 => k_is)
  (case k47 => k_is)
  (case a48 => k_is)
  (case l48 => k_is)
  (case c48 => k_is)
  (case k48 => k_is)
  (case a49 => k_is)
  (case l49 => k_is)
  (case c49 => k_is)
  (case k49 => k_is)
  (case z_len => k_is)
  (case z_range => k_is)
  (case z_all => k_is)
  (case z_max => k_is)
  (case z_enumerate => k_is)
  (case z_isinstance => k_is)
  (case z_int => k_is)
  (case z_bool => k_is)
  (case z_tuple => k_is)
  (case z_list => k_is)
  (case z_min => k_is)
  (case z_abs => k_is)
  (case z_str => k_is)
  (case i_ADD => k_is)
  (case i_NEW => k_is)
  (case i_MOST_FUNCTIONS => k_is)
  (case i_MOST_PARAMS => k_is)
  (case i_MOST_BOXES => k_is)
  (case i_MOST_MANY => k_is)
  (case i_LEAST_PICK => k_is)
  (case i_OP_PUSH => k_is)
  (case i_OP_GET => k_is)
  (case i_OP_SET => k_is)
  (case i_OP_DROP => k_is)
  (case i_OP_JUMP => k_is)
  (case i_OP_UNLESS => k_is)
  (case i_OP_CALL => k_is)
  (case i_OP_BACK => k_is)
  (case i_OP_FAIL => k_is)
  (case i_OP_BREATH => k_is)
  (case i_OP_DO => k_is)
  (case i_OP_PICK => k_is)
  (case i_HEAD_SIZE => k_is)
  (case i_ROW_SIZE => k_is)
  (case i_MOST_DONE_AT_ONCE => k_is)
  (case i_ANSWER => k_is)
  (case i_SUB => k_is)
  (case i_MUL => k_is)
  (case i_QUO => k_is)
  (case i_LESS => k_is)
  (case i_SAME => k_is)
  (case i_PUSH => k_is)
  (case i_PUT => k_is)
  (case i_SIZE => k_is)
  (case i_GREAT => k_is)
  (case i_FAIL => k_is)
  (case g_PARTS => k_is)
  (case o_PARTS => k_is)
  (case u_bool => k_is)
  (case u_tl => k_is)
  (case u_str => k_is)
  (case fn_Doing___init__ => k_is)
  (case fn_Machine___init__ => k_is)
  (case fn_Machine_breathe => k_is)
  (case Machine_makes => k_is)
  (case Machine_kp => k_is)
  (case Machine_pg => k_is)
  (case Machine_hd => k_is)
  (case Machine_po => k_is)
  (case Machine_sa => k_is)
  (case Machine_heads => k_is)
  (case Machine_steps => k_is)
  (case Machine_rows => k_is)
  (case Machine_breaths => k_is)
  (case Machine_being_done => k_is)
  (case Machine_value => k_is)
  (case Doing_makes => k_is)
  (case Doing_kp => k_is)
  (case Doing_pg => k_is)
  (case Doing_hd => k_is)
  (case Doing_po => k_is)
  (case Doing_sa => k_is)
  (case Doing_at => k_is)
  (case Doing_boxes => k_is)
  (case Doing_held => k_is)
  (case xN => k_is)
  (case xkp => k_is)
  (case xty => k_is)
  (case xobj => k_is)
  (case xbase => k_is)
  (case xsa => k_is)
  (case xga => k_is)
  (case xnh => k_is)
  (case xwd => k_is)
  (case xnu => k_is)
  (case xm1 => k_is)
  (case xm2 => k_is)
  (case xm3 => k_is)
  (case xm4 => k_is)
  (case z_ValueError => k_is)
  (case v_int_bool => k_is)
  (case v_int_list => k_is)
  (case v_int_tuple => k_is)
  (case v_bool_int => k_is)
  (case v_bool_list => k_is)
  (case v_bool_tuple => k_is)
  (case v_str_int => k_is)
  (case v_str_bool => k_is)
  (case v_str_list => k_is)
  (case v_str_tuple => k_is)
  (case v_NoneType_int => k_is)
  (case v_NoneType_bool => k_is)
  (case v_NoneType_list => k_is)
  (case v_NoneType_tuple => k_is)
  (case v_list_int => k_is)
  (case v_list_bool => k_is)
  (case v_list_tuple => k_is)
  (case v_tuple_int => k_is)
  (case v_tuple_bool => k_is)
  (case v_tuple_list => k_is)
  (case v_dict_int => k_is)
  (case v_dict_bool => k_is)
  (case v_dict_list => k_is)
  (case v_dict_tuple => k_is)
  (case ty_NoCode => k_is)
  (case cl_NoCode => k_is)
  (case su_NoCode => k_is)
  (case ty_ChainError => k_is)
  (case cl_ChainError => k_is)
  (case su_ChainError => k_is)
  (case ty_NoSheet => k_is)
  (case cl_NoSheet => k_is)
  (case su_NoSheet => k_is)
  (case ty_NoText => k_is)
  (case cl_NoText => k_is)
  (case su_NoText => k_is)
  (case ty_NoRow => k_is)
  (case cl_NoRow => k_is)
  (case su_NoRow => k_is)
  (case ty_NoName => k_is)
  (case cl_NoName => k_is)
  (case su_NoName => k_is)
  (case xb_ChainError => k_is)
  (case ve_ => k_is)
  (case yobj => k_is)
  (case ybase => k_is)
  (case ysa => k_is)
  (case yga => k_is)
  (case ynh => k_is)
  (case yha => k_is)
  (case yhn => k_is)
  (case ytk => k_is)
  (case yN => k_is)
  (case yC => k_is)
  (case yB => k_is)
  (case yF => k_is)
  (case yD => k_is)
  (case yG => k_is)
  (case yA => rfl)
  (case yE => rfl)
