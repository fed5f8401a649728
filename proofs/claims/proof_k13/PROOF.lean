import PyProof.Rows.All
import PyProof.ExcClass2
import PyProof.AutoSeq1
import PyProof.LayNew
import PyProof.EnumFor
import PyProof.EnumStmt
import PyProof.EnumMake
import PyProof.ConsumeWalk
import KE.KRevSl
import KE.KRevIter
import Wide.All
import OpenK.AllK
import Wide.FinOn
import Lean
import PyProof.EqAt
import PyProof.EqKinds
import PyProof.TupleCall
import PyProof.NeKinds
import PySem.Challenge.RW_ownchain_k13_no_codes_texts
set_option genInjectivity false
set_option genSizeOfSpec false
set_option Elab.async false
set_option linter.all false
set_option maxRecDepth 100000
namespace L2
open PySem PySem.Spec PyProof.Rows

noncomputable abbrev Key := Sum Int Str
noncomputable def keyIs : Key → Value → Bool
  | .inl k, v => Value.isInt k v
  | .inr x, v => Value.isStrOf x v
noncomputable def keyH (w : World) : Key → Int
  | .inl k => hashInt k
  | .inr x => hashStr w x
theorem keyIs_shape : ∀ {k : Key} {v : Value}, keyIs k v = true → (∃ i t, k = Sum.inl i ∧ v = Value.int i t) ∨ (∃ x t, k = Sum.inr x ∧ v = Value.str x t)
  | .inl i, v, h => by
    obtain ⟨t, e⟩ := Value.isInt_shape (k := i) (v := v) h
    exact .inl ⟨i, t, rfl, e⟩
  | .inr x, v, h => by
    obtain ⟨t, e⟩ := Value.isStrOf_shape (x := x) (v := v) h
    exact .inr ⟨x, t, rfl, e⟩
theorem key_ll (a b : Int) : decide ((Sum.inl a : Key) = Sum.inl b) = (a == b) := by
  by_cases e : a = b
  · subst e; simp
  · have h : ¬ (Sum.inl a : Key) = Sum.inl b := fun q => e (Sum.inl.inj q)
    rw [decide_eq_false h]
    exact (beq_eq_false_iff_ne.mpr e).symm
theorem key_rr (a b : Str) : decide ((Sum.inr a : Key) = Sum.inr b) = decide (a = b) := by
  by_cases e : a = b
  · subst e; simp
  · have h : ¬ (Sum.inr a : Key) = Sum.inr b := fun q => e (Sum.inr.inj q)
    rw [decide_eq_false h, decide_eq_false e]
theorem key_lr (a : Int) (b : Str) : decide ((Sum.inl a : Key) = Sum.inr b) = false := decide_eq_false (fun q => nomatch q)
theorem key_rl (a : Str) (b : Int) : decide ((Sum.inr a : Key) = Sum.inl b) = false := decide_eq_false (fun q => nomatch q)

noncomputable def mixKind (prog : Program) (w : World) : PySem.KeyKind prog w Key where
  is := keyIs
  hash := keyH w
  inj := fun v a b ha hb => by
    rcases keyIs_shape ha with ⟨i, t, rfl, rfl⟩ | ⟨x, t, rfl, rfl⟩
    · rcases keyIs_shape hb with ⟨j, u, rfl, e⟩ | ⟨y, u, rfl, e⟩
      · injection e with e1 _; rw [e1]
      · exact nomatch e
    · rcases keyIs_shape hb with ⟨j, u, rfl, e⟩ | ⟨y, u, rfl, e⟩
      · exact nomatch e
      · injection e with e1 _; rw [e1]
  byValue := fun k v h => by
    rcases keyIs_shape h with ⟨i, t, rfl, rfl⟩ | ⟨x, t, rfl, rfl⟩ <;> rfl
  pyHash := fun hv h => by
    rcases keyIs_shape hv with ⟨i, t, rfl, rfl⟩ | ⟨x, t, rfl, rfl⟩
    · exact wpAny_pyHash_int h
    · exact wpAny_pyHash_str h
  eqBool := fun hu hv h => by
    rcases keyIs_shape hu with ⟨i, t, rfl, rfl⟩ | ⟨x, t, rfl, rfl⟩
    · rcases keyIs_shape hv with ⟨j, u, rfl, rfl⟩ | ⟨y, u, rfl, rfl⟩
      · rw [key_ll] at h; exact wpAny_eqBool_int h
      · rw [key_lr] at h; exact SeqAt.EqAt.int_str i t y u _ _ _ _ h
    · rcases keyIs_shape hv with ⟨j, u, rfl, rfl⟩ | ⟨y, u, rfl, rfl⟩
      · rw [key_rl] at h; exact SeqAt.EqAt.str_int x t j u _ _ _ _ h
      · rw [key_rr] at h; exact wpAny_eqBool_str h
  «strs» := fun k x t v h => by
    rcases keyIs_shape h with ⟨i, u, rfl, e⟩ | ⟨y, u, rfl, e⟩
    · exact nomatch e
    · injection e with e1 _
      subst e1
      cases v <;> rfl

end L2

namespace L2
open PySem PySem.Spec PyProof.Rows

inductive V where
  | non | bl (b : Bool) | int (i : Int) | str (x : Str) | byt (b : Array UInt8) | flt (b : UInt64) | ref (a : Addr) | ty (n : String)
  deriving DecidableEq

noncomputable def RelV : V → Value → Prop
  | .non, u => u = Value.none
  | .bl b, u => u = Value.bool b
  | .int i, u => ∃ t, u = Value.int i t
  | .str x, u => ∃ t, u = Value.str x t
  | .byt b, u => ∃ t, u = Value.bytes b t
  | .flt b, u => ∃ t, u = Value.float b t
  | .ref a, u => u = Value.ref a
  | .ty n, u => u = Value.type n

noncomputable abbrev Vals : List V → List Value → Prop := Paired RelV
theorem Vals.length {xs : List V} {us : List Value} (r : Vals xs us) : xs.length = us.length := Paired.length r
theorem Vals.get : ∀ {xs : List V} {us : List Value} {i : Nat} {x : V}, Vals xs us → xs[i]? = some x → ∃ u, us[i]? = some u ∧ RelV x u
  | _, _, _, _, .nil, e => by simp at e
  | _, _, 0, _, .cons r _, e => by simp at e; subst e; exact ⟨_, rfl, r⟩
  | _, _, i + 1, x, .cons _ t, e => by
    obtain ⟨u, h1, h2⟩ := Vals.get (i := i) (x := x) t (by simpa using e)
    exact ⟨u, by simpa using h1, h2⟩
theorem Vals.set {x : V} {u : Value} (r : RelV x u) : ∀ {xs : List V} {us : List Value} (i : Nat), Vals xs us → Vals (xs.set i x) (us.set i u)
  | _, _, _, .nil => .nil
  | _, _, 0, .cons _ t => .cons r t
  | _, _, i + 1, .cons q t => .cons q (Vals.set r i t)
theorem Vals.append : ∀ {xs ys : List V} {us ws : List Value}, Vals xs us → Vals ys ws → Vals (xs ++ ys) (us ++ ws)
  | _, _, _, _, .nil, s => s
  | _, _, _, _, .cons r t, s => .cons r (Vals.append t s)
theorem Vals.take : ∀ {xs : List V} {us : List Value} (n : Nat), Vals xs us → Vals (xs.take n) (us.take n)
  | _, _, 0, _ => .nil
  | _, _, _ + 1, .nil => .nil
  | _, _, n + 1, .cons r t => .cons r (Vals.take n t)
theorem Vals.drop : ∀ {xs : List V} {us : List Value} (n : Nat), Vals xs us → Vals (xs.drop n) (us.drop n)
  | _, _, 0, r => r
  | _, _, _ + 1, .nil => .nil
  | _, _, n + 1, .cons _ t => Vals.drop n t
noncomputable def RelO : Option V → Option Value → Prop
  | some v, some u => RelV v u
  | none, none => True
  | _, _ => False
noncomputable def KV {κ : Type} : List (κ × V) → List (κ × Value) → Prop := Paired fun (p : κ × V) (q : κ × Value) => p.1 = q.1 ∧ RelV p.2 q.2

noncomputable def kV : Key → V
  | .inl i => .int i
  | .inr x => .str x

inductive HO where
  | lst (xs : List V)
  | tup (xs : List V)
  | dK (kvs : List (Key × V)) | dT (kvs : List (List Key × V))
  | set (S : Int → Bool) (n : Nat)
  | ins (C dx : Addr) (fs : List (Str × V))
  | own (x : Addr)
  | xd (fs : List (Str × V))
  | met (f x : Addr)
  | rng (lo hi : Int)
  | frz (o : Obj) (u : HO)
  | tbl (ps : Array Value)
  | ext (φ : Heap → Prop)

noncomputable abbrev Hp := Addr → Option HO
noncomputable def upd (H : Hp) (a : Addr) (o : HO) : Hp := fun b => if b = a then some o else H b
theorem upd_same {H : Hp} {a : Addr} {o : HO} : upd H a o a = some o := by unfold upd; rw [if_pos rfl]
theorem upd_ne {H : Hp} {a b : Addr} {o : HO} (h : b ≠ a) : upd H a o b = H b := by unfold upd; rw [if_neg h]
theorem upd_upd {H : Hp} {a : Addr} {o u : HO} : upd (upd H a o) a u = upd H a u := by
  funext b; unfold upd; split <;> rfl
theorem ne_of_none {H : Hp} {a b : Addr} {o : HO} (h : H a = some o) (h' : H b = none) : a ≠ b := by
  intro e; subst e; rw [h] at h'; cases h'

section
variable (P : Program) (w : World)
noncomputable def ObjOk (H : Hp) (h : Heap) (a : Addr) : HO → Prop
  | .lst xs => xs.length ≤ sizeLine ∧ ∃ (its : List Value) (n : Nat), Vals xs its ∧ h.get? a = some { cls := .type "list", data := .seq its.toArray n }
  | .tup xs => xs.length ≤ sizeLine ∧ ∃ its : List Value, Vals xs its ∧ IsTup h a its.toArray
  | .dK kvs => kvs.length ≤ sizeLine ∧ (a == sysModules) = false ∧ ∃ vs, KV kvs vs ∧ h.DictOf (mixKind P w) a vs
  | .dT kvs => kvs.length ≤ sizeLine ∧ (a == sysModules) = false ∧ ∃ xs : List (List Key × Addr × Value),
      Paired (fun (p : List Key × V) (q : List Key × Addr × Value) => p.1 = q.1 ∧ H q.2.1 = some (.tup (p.1.map kV)) ∧ RelV p.2 q.2.2) kvs xs ∧
      ∃ o es ep, h.get? a = some o ∧ o.ExactDict ∧ o.data = .dict es ep ∧ es.toList = xs.map (entryOfKey (tupleKind (mixKind P w))) ∧ (xs.map (·.1)).Nodup
  | .set S n => h.SetOf (intKind P w) a S n
  | .ins C dx fs => H dx = some (.own a) ∧ fs.length ≤ 1000 ∧ dx ≠ a ∧ h.get? a = some (PySem.W.instObj C dx) ∧
      ∃ mA, h.Ns1 dx mA ∧ (∀ f, RelO (fs.lookup f) (mA f)) ∧ PySem.Within mA (fs.map (·.1))
  | .own _ => ∃ o, h.get? a = some o
  | .xd fs => ∃ mA, h.Ns1 a mA ∧ ∀ f, RelO (fs.lookup f) (mA f)
  | .rng lo hi => ∃ t u v, h.get? a = some { cls := .type "range", data := .fields #[.int lo t, .int hi u, .int 1 v] }
  | .frz o u => h.get? a = some o ∧ ObjOk H h a u
  | .tbl ps => h.get? a = some { cls := .none, data := .fields ps }
  | .met f x => h.get? a = some (PySem.W.methodObj (.ref f) (.ref x))
  | .ext φ => φ h ∧ (∃ o, h.get? a = some o) ∧ ∀ h1 h2 : Heap, φ h1 → (∀ o, h1.get? a = some o → h2.get? a = some o) → φ h2
noncomputable def HOk (H : Hp) (h : Heap) : Prop := ∀ a o, H a = some o → ObjOk P w H h a o
end

section
variable {P : Program} {w : World} {H H' : Hp} {h h' : Heap} {a : Addr} {o : HO}
theorem ObjOk.lt (x : ObjOk P w H h a o) : a < h.objs.size := by
  cases o with
  | lst xs => obtain ⟨_, _, _, _, e⟩ := x; exact Heap.lt_size e
  | tup xs => obtain ⟨_, _, _, p⟩ := x; exact p.lt
  | dK kvs => obtain ⟨_, _, _, _, o, _, _, e, _⟩ := x; exact Heap.lt_size e
  | dT kvs => obtain ⟨_, _, _, _, o, _, _, e, _⟩ := x; exact Heap.lt_size e
  | set S n => obtain ⟨o, _, _, _, e, _⟩ := x; exact Heap.lt_size e
  | ins C dx fs => obtain ⟨_, _, _, e, _⟩ := x; exact Heap.lt_size e
  | own y => obtain ⟨_, e⟩ := x; exact Heap.lt_size e
  | xd fs => obtain ⟨_, ⟨_, _, _, e, _⟩, _⟩ := x; exact Heap.lt_size e
  | rng lo hi => obtain ⟨_, _, _, e⟩ := x; exact Heap.lt_size e
  | frz ob u => obtain ⟨e, _⟩ := x; exact Heap.lt_size e
  | tbl ps => exact Heap.lt_size (show h.get? a = some _ from x)
  | met f y => exact Heap.lt_size (show h.get? a = some _ from x)
  | ext φ => obtain ⟨_, ⟨_, e⟩, _⟩ := x; exact Heap.lt_size e
theorem Paired.mapP {α β : Type} {F G : α → β → Prop} : ∀ {l₁ : List α} {l₂ : List β}, Paired F l₁ l₂ → (∀ a b, F a b → G a b) → Paired G l₁ l₂
  | _, _, .nil, _ => .nil
  | _, _, .cons r t, f => .cons (f _ _ r) (Paired.mapP t f)
theorem ObjOk.stay (x : ObjOk P w H h a o) (k : ∀ b u, (b = a ∨ H b = some (.own a)) → h.get? b = some u → h'.get? b = some u)
    (ho : ∀ b, H b = some (.own a) → H' b = some (.own a)) (ht : ∀ b xs, H b = some (.tup xs) → H' b = some (.tup xs)) : ObjOk P w H' h' a o := by
  induction o with
  | lst xs => obtain ⟨z, its, n, r, e⟩ := x; exact ⟨z, its, n, r, k _ _ (.inl rfl) e⟩
  | tup xs => obtain ⟨z, its, r, ob, e, c⟩ := x; exact ⟨z, its, r, ob, k _ _ (.inl rfl) e, c⟩
  | dK kvs => obtain ⟨z, y, vs, r, ob, es, ep, e, c⟩ := x; exact ⟨z, y, vs, r, ob, es, ep, k _ _ (.inl rfl) e, c⟩
  | dT kvs =>
    obtain ⟨z, y, xs, r, ob, es, ep, e, c⟩ := x
    exact ⟨z, y, xs, Paired.mapP r fun p q z => ⟨z.1, ht _ _ z.2.1, z.2.2⟩, ob, es, ep, k _ _ (.inl rfl) e, c⟩
  | set S n => obtain ⟨ob, es, ep, t, e, c⟩ := x; exact ⟨ob, es, ep, t, k _ _ (.inl rfl) e, c⟩
  | ins C dx fs =>
    obtain ⟨d, z, ne, e, mA, ⟨od, es, ep, e2, c⟩, r⟩ := x
    exact ⟨ho _ d, z, ne, k _ _ (.inl rfl) e, mA, ⟨od, es, ep, k _ _ (.inr d) e2, c⟩, r⟩
  | own y => obtain ⟨ob, e⟩ := x; exact ⟨ob, k _ _ (.inl rfl) e⟩
  | xd fs => obtain ⟨mA, ⟨od, es, ep, e, c⟩, r⟩ := x; exact ⟨mA, ⟨od, es, ep, k _ _ (.inl rfl) e, c⟩, r⟩
  | rng lo hi => obtain ⟨t, u, v, e⟩ := x; exact ⟨t, u, v, k _ _ (.inl rfl) e⟩
  | frz ob u ih => obtain ⟨e, q⟩ := x; exact ⟨k _ _ (.inl rfl) e, ih q⟩
  | tbl ps =>
    have e : h.get? a = some { cls := .none, data := .fields ps } := x
    show h'.get? a = some { cls := .none, data := .fields ps }
    exact k a _ (.inl rfl) e
  | met f y =>
    have e : h.get? a = some (PySem.W.methodObj (.ref f) (.ref y)) := x
    show h'.get? a = some (PySem.W.methodObj (.ref f) (.ref y))
    exact k a _ (.inl rfl) e
  | ext φ => obtain ⟨p, ⟨o, e⟩, st⟩ := x; exact ⟨st _ _ p fun o q => k _ _ (.inl rfl) q, ⟨o, k _ _ (.inl rfl) e⟩, st⟩
theorem HOk.lt (x : HOk P w H h) (e : H a = some o) : a < h.objs.size := (x a o e).lt
theorem HOk.fresh (x : HOk P w H h) (e : h.objs.size ≤ a) : H a = none := by
  cases q : H a with
  | none => rfl
  | some u => exact absurd (Nat.lt_of_lt_of_le (x.lt q) e) (Nat.lt_irrefl _)
theorem HOk.kept (x : HOk P w H h) (k : ∀ b u, h.get? b = some u → h'.get? b = some u) : HOk P w H h' := fun a o e =>
  (x a o e).stay (fun b u _ q => k b u q) (fun _ q => q) fun _ _ q => q
theorem HOk.laid (x : HOk P w H h) (k : ∀ b u, h.get? b = some u → h'.get? b = some u) (hp : h.objs.size ≤ a) (new : ObjOk P w (upd H a o) h' a o) : HOk P w (upd H a o) h' := fun b u e => by
  have hn := x.fresh hp
  by_cases hb : b = a
  · subst hb; rw [upd_same] at e; cases e; exact new
  · rw [upd_ne hb] at e
    exact (x b u e).stay (fun c v _ q => k c v q) (fun c q => by rw [upd_ne (ne_of_none q hn)]; exact q) fun c xs q => by rw [upd_ne (ne_of_none q hn)]; exact q
end

noncomputable def Rd (H : Hp) (a : Addr) (u : HO) : Prop := H a = some u ∨ ∃ o, H a = some (.frz o u)
theorem Rd.ok {P : Program} {w : World} {H : Hp} {h : Heap} {a : Addr} {u : HO} (r : Rd H a u) (x : HOk P w H h) : ObjOk P w H h a u := by
  rcases r with r | ⟨o, r⟩
  · exact x a u r
  · obtain ⟨_, q⟩ := x a _ r
    exact q
noncomputable def Mut : Option HO → Prop
  | some (.lst _) => True
  | some (.dK _) => True
  | some (.dT _) => True
  | some (.set _ _) => True
  | some (.ins _ _ _) => True
  | some (.ext _) => True
  | _ => False
section
variable {P : Program} {w : World} {H : Hp} {h h' : Heap} {x e : Addr} {o' : HO}
theorem HOk.write (ok : HOk P w H h) (mu : Mut (H x)) (he : e = x ∨ H e = some (.own x)) (k : ∀ b u, b ≠ e → h.get? b = some u → h'.get? b = some u) (heo : ∃ u, h'.get? e = some u)
    (new : ObjOk P w (upd H x o') h' x o') : HOk P w (upd H x o') h' := fun b u q => by
  have nown : ∀ c y, H c = some (.own y) → c ≠ x := fun c y r z => by subst z; rw [r] at mu; exact mu
  have ntup : ∀ c xs, H c = some (.tup xs) → c ≠ x := fun c xs r z => by subst z; rw [r] at mu; exact mu
  by_cases hb : b = x
  · subst hb; rw [upd_same] at q; cases q; exact new
  · rw [upd_ne hb] at q
    by_cases hbe : b = e
    · have q' : H b = some (.own x) := by
        rcases he with z | z
        · exact absurd (hbe.trans z) hb
        · rw [hbe]; exact z
      rw [q] at q'; cases q'
      obtain ⟨v, hv⟩ := heo
      exact ⟨v, by rw [hbe]; exact hv⟩
    · refine (ok b u q).stay (fun c v hc r => k c v ?_ r) (fun c r => by rw [upd_ne (nown c b r)]; exact r) fun c xs r => by rw [upd_ne (ntup c xs r)]; exact r
      rcases hc with rfl | hc
      · exact hbe
      · rintro rfl
        rcases he with z | z
        · exact nown c b hc z
        · rw [hc] at z; cases z; exact hb rfl
end

structure Un (fs ex : List Addr) (H H' : Hp) (h h' : Heap) : Prop where
  keep : ∀ b o, h.get? b = some o → H b = none → b ∉ fs → b ∉ ex → h'.get? b = some o
  slot : ∀ b o, h.get? b = some o → H b = none → b ∈ fs → b ∉ ex → ∃ sl, h'.get? b = some { o with slots := sl }
  free : ∀ b o, h.get? b = some o → H b = none → b ∉ ex → H' b = none
  there : ∀ b o, h.get? b = some o → b ∉ ex → ∃ o', h'.get? b = some o'
  tups : ∀ b xs, H b = some (.tup xs) → H' b = some (.tup xs)
  frzs : ∀ b o u, H b = some (.frz o u) → H' b = some (.frz o u)
  tbls : ∀ b ps, H b = some (.tbl ps) → ∃ more, H' b = some (.tbl (ps ++ more))
section
variable {fs fs' ex ex' : List Addr} {H H1 H2 : Hp} {h h1 h2 h' : Heap} {a x e : Addr} {o : HO}
theorem Un.any (u : Un fs ex H H1 h h1) {b : Addr} {ob : Obj} (q : h.get? b = some ob) (n : H b = none) (hx : b ∉ ex) : ∃ sl, h1.get? b = some { ob with slots := sl } := by
  by_cases hb : b ∈ fs
  · exact u.slot b ob q n hb hx
  · exact ⟨ob.slots, u.keep b ob q n hb hx⟩
theorem Un.kept (k : ∀ b u, h.get? b = some u → h'.get? b = some u) : Un fs ex H H h h' :=
  ⟨fun b ob q _ _ _ => k b ob q, fun b ob q _ _ _ => ⟨ob.slots, k b ob q⟩, fun _ _ _ n _ => n, fun b ob q _ => ⟨ob, k b ob q⟩, fun _ _ q => q, fun _ _ _ q => q, fun _ ps q => ⟨#[], by rw [q]; simp⟩⟩
theorem Un.refl : Un fs ex H H h h := Un.kept fun _ _ q => q
theorem Un.laid (k : ∀ b u, h.get? b = some u → h'.get? b = some u) (hp : h.objs.size ≤ a) (hn : H a = none) : Un fs ex H (upd H a o) h h' where
  keep := fun b u q _ _ _ => k b u q
  slot := fun b u q _ _ _ => ⟨u.slots, k b u q⟩
  free := fun b u q n _ => by rw [upd_ne (Nat.ne_of_lt (Nat.lt_of_lt_of_le (Heap.lt_size q) hp))]; exact n
  there := fun b u q _ => ⟨u, k b u q⟩
  tups := fun b xs q => by rw [upd_ne (ne_of_none q hn)]; exact q
  frzs := fun b u xs q => by rw [upd_ne (ne_of_none q hn)]; exact q
  tbls := fun b ps q => ⟨#[], by rw [upd_ne (ne_of_none q hn), q]; simp⟩
theorem Un.write (mu : Mut (H x)) (he : e = x ∨ H e = some (.own x)) (k : ∀ b u, b ≠ e → h.get? b = some u → h'.get? b = some u) (heo : ∃ u, h'.get? e = some u) : Un fs ex H (upd H x o) h h' := by
  have hx : ∀ b, H b = none → b ≠ x := fun b n z => by subst z; rw [n] at mu; exact mu
  have hb : ∀ b, H b = none → b ≠ e := fun b n z => by
    subst z
    rcases he with r | r
    · exact hx b n r
    · rw [n] at r; cases r
  have hm : ∀ b u, H b = some u → ¬ Mut (some u) → b ≠ x := fun b u q nm z => by subst z; rw [q] at mu; exact nm mu
  refine ⟨fun b u q n _ _ => k b u (hb b n) q, fun b u q n _ _ => ⟨u.slots, k b u (hb b n) q⟩, fun b u q n _ => by rw [upd_ne (hx b n)]; exact n, fun b u q _ => ?_,
    fun b xs q => by rw [upd_ne (hm b _ q fun z => z)]; exact q, fun b u xs q => by rw [upd_ne (hm b _ q fun z => z)]; exact q, fun b ps q => ⟨#[], by rw [upd_ne (hm b _ q fun z => z), q]; simp⟩⟩
  by_cases hbe : b = e
  · subst hbe; exact heo
  · exact ⟨u, k b u hbe q⟩
end

noncomputable def trk (h : Heap) (H : Hp) : List Addr := (List.range h.objs.size).filter fun a => (H a).isSome
noncomputable def hidT (h : Heap) (H : Hp) : Heap := PySem.W.hideAll h (trk h H)
theorem hidT_size (h : Heap) (H : Hp) : (hidT h H).objs.size = h.objs.size := PySem.W.hideAll_size _ _
theorem hidT_get {h : Heap} {H : Hp} {b : Addr} {o : Obj} (e : h.get? b = some o) (n : H b = none) : (hidT h H).get? b = some o :=
  PySem.W.hideAll_get _ e fun hm => by
    have q : (H b).isSome = true := (List.mem_filter.mp hm).2
    rw [n] at q; simp at q
theorem of_hidT {h : Heap} {H : Hp} {b : Addr} {o : Obj} (e : (hidT h H).get? b = some o) : h.get? b = some o ∧ H b = none := by
  have e' : h.get? b = some o := PySem.W.of_hideAll (trk h H) e
  refine ⟨e', ?_⟩
  cases q : H b with
  | none => rfl
  | some x =>
    have hm : b ∈ trk h H := List.mem_filter.mpr ⟨List.mem_range.mpr (Heap.lt_size e'), by simp [q]⟩
    have z : (hidT h H).get? b = none := PySem.W.hideAll_none (trk h H) hm
    rw [z] at e; cases e

noncomputable def allNews (g h : Heap) (L : Addr) : List (Addr × Obj) := (List.range h.objs.size).filterMap fun a => if a = L ∨ (g.get? a).isSome = true then none else (h.get? a).map fun o => (a, o)
noncomputable def rest (g h : Heap) (L d : Addr) : List (Addr × Obj) := (allNews g h L).filter fun p => decide (p.1 ≠ d)
end L2

namespace L2
open PySem PySem.Spec PyProof.Rows

structure Mod (K : PySem.W.Frag) (mg : Str → Option Value) (base : Heap) : Prop where
  kin : K.In base
  glob : base.Ns mainGlobals mg
  blt : ∃ mb, base.Ns builtinsNs mb ∧ ∀ x : Str, x ≠ "__name__" → mb x = bootBuiltins x
  nolimit : base.NoLimit

structure Cx where
  prog : Program
  w : World
  K : PySem.W.Frag
  mg : Str → Option Value
  base : Heap
  A : Around
  N : List Str
  s₀ : Shared
  H₀ : Hp
  env : Env
  outer : List Env
  stack : List Env
  ex : List Addr
  fn : Str → Bool
  calm : Bool
  pn : List (Addr × Obj)
  xe : Value → Shared → Prop
noncomputable def frs (l : List Env) : List Addr := l.filterMap (·.frame)
noncomputable abbrev Cx.fs (X : Cx) : List Addr := frs X.outer

noncomputable def Vis (sc : Scope) (x : Str) : Prop := sc.names.lookup x = some .local ∨ sc.names.lookup x = some .cell ∨ sc.names.lookup x = some .free
noncomputable def Loc (sc : Scope) (x : Str) : Prop := sc.names.lookup x = some .local ∨ sc.names.lookup x = some .cell
noncomputable def Look (env : Env) (h : Heap) (m : Str → Option Value) (x : Str) (u : Value) : Prop :=
  (env.kindOf x = some .local ∧ m x = some u) ∨ ((env.kindOf x = some .cell ∨ env.kindOf x = some .free) ∧ ∃ c, env.cells.lookup x = some c ∧ h.IsCell c (some u))

structure Cx.Ok (X : Cx) : Prop where
  mod : Mod X.K X.mg X.base
  kind : X.env.scope.kind = .function
  glob : X.env.globals = mainGlobals
  blt : X.env.builtins = builtinsNs
  above : X.s₀.heap.objs.size ≤ X.env.locals
  inj : ∀ x y c, X.env.cells.lookup x = some c → X.env.cells.lookup y = some c → x = y
  has : ∀ x, (X.env.kindOf x = some .cell ∨ X.env.kindOf x = some .free) → ∃ c, X.env.cells.lookup x = some c
  cab : ∀ x c, X.fn x = true → X.env.cells.lookup x = some c → X.s₀.heap.objs.size ≤ c
  hd : X.calm = true → X.A.handled = none
  frames : X.A.frames = some X.stack
  stk : X.stack = X.outer ∨ (X.stack = X.env :: X.outer ∧ X.env.frame = some X.env.locals)
  exf : ∀ b ∈ X.ex, b ≠ X.env.locals ∧ ∀ x c, X.env.cells.lookup x = some c → c ≠ b
  bs : ∀ b o, X.base.get? b = some o → X.s₀.heap.get? b = some o ∧ X.H₀ b = none
  bsz : X.base.objs.size ≤ X.s₀.heap.objs.size
  noex : ∀ b o, X.base.get? b = some o → b ∉ X.ex
  exfs : ∀ b ∈ X.ex, b ∉ X.fs
  funs : X.s₀.heap.FunFrames X.base X.outer
  frf : ∀ b ∈ X.fs, X.H₀ b = none

structure Inv (X : Cx) (pins : List (Addr × Obj)) (σ : List (Option V)) (H : Hp) (s : Shared) : Prop where
  ok : X.Ok
  os : s.os = X.s₀.os
  bare : AllBare s.gens
  base : Un X.fs X.ex X.H₀ H X.s₀.heap s.heap
  loc : ∃ m, s.heap.Ns X.env.locals m ∧ ∀ (i : Nat) (x : Str) (v : V), X.N[i]? = some x → σ[i]? = some (some v) → Vis X.env.scope x → ∃ u, RelV v u ∧ Look X.env s.heap m x u
  cell : ∀ x c, X.env.cells.lookup x = some c → ∃ v, s.heap.IsCell c v
  free : H X.env.locals = none
  freeC : ∀ x c, X.env.cells.lookup x = some c → H c = none
  pin : ∀ p ∈ X.pn ++ pins, s.heap.get? p.1 = some p.2 ∧ H p.1 = none ∧ p.1 ≠ X.env.locals ∧ p.1 ∉ X.fs ∧ ∀ v, p.2.data ≠ .cell v
  hok : HOk X.prog X.w H s.heap
  len : σ.length = X.N.length

section
variable {X : Cx} {pins : List (Addr × Obj)} {σ : List (Option V)} {H H' : Hp} {s : Shared} {h' : Heap}

theorem Cx.Ok.nofr (ok : X.Ok) {b : Addr} {o : Obj} (e : X.base.get? b = some o) : b ∉ X.fs := fun hb => by
  have := (ok.funs.mem hb).1
  rw [e] at this; cases this
theorem Inv.bs (I : Inv X pins σ H s) : ∀ b o, X.base.get? b = some o → s.heap.get? b = some o ∧ H b = none := fun b o e =>
  ⟨I.base.keep b o (I.ok.bs b o e).1 (I.ok.bs b o e).2 (I.ok.nofr e) (I.ok.noex b o e), I.base.free b o (I.ok.bs b o e).1 (I.ok.bs b o e).2 (I.ok.noex b o e)⟩
theorem Inv.bk (I : Inv X pins σ H s) : ∀ b o, X.base.get? b = some o → s.heap.get? b = some o := fun b o e => (I.bs b o e).1
theorem Inv.mod (I : Inv X pins σ H s) : Mod X.K X.mg X.base := I.ok.mod
theorem Inv.kIn (I : Inv X pins σ H s) : X.K.In s.heap := I.ok.mod.kin.keeps I.bk
theorem Inv.lt (I : Inv X pins σ H s) : X.env.locals < s.heap.objs.size := let ⟨_, hn, _⟩ := I.loc; hn.lt
theorem Inv.sz (I : Inv X pins σ H s) : X.s₀.heap.objs.size ≤ s.heap.objs.size := Nat.le_trans I.ok.above (Nat.le_of_lt I.lt)
theorem Inv.nofs (I : Inv X pins σ H s) {a : Addr} (h : s.heap.objs.size ≤ a) : a ∉ X.fs := fun hb => by
  obtain ⟨_, o, ho, _⟩ := I.ok.funs.mem hb
  exact absurd (Nat.lt_of_lt_of_le (Heap.lt_size ho) (Nat.le_trans I.sz h)) (Nat.lt_irrefl _)
theorem Inv.cne (I : Inv X pins σ H s) : ∀ x c, X.env.cells.lookup x = some c → c ≠ X.env.locals := fun x c e z => by
  obtain ⟨v, o, ho, hd⟩ := I.cell x c e
  obtain ⟨m, ⟨o', es, ep, ho', hd', _⟩, _⟩ := I.loc
  rw [z, ho'] at ho; cases ho; rw [hd'] at hd; cases hd
theorem Inv.funs (I : Inv X pins σ H s) : s.heap.FunFrames X.base X.outer := by
  have all : ∀ (l : List Env), (∀ b ∈ frs l, b ∈ X.fs) → X.s₀.heap.FunFrames X.base l → s.heap.FunFrames X.base l := by
    intro l
    induction l with
    | nil => intro _ _; trivial
    | cons env r ih =>
      intro hs hl
      obtain ⟨hk, ⟨L, o, hf, hn, ho, hd⟩, hr⟩ := hl
      have hL : L ∈ X.fs := hs L (by unfold frs; rw [List.filterMap_cons, hf]; exact List.mem_cons_self)
      obtain ⟨sl, e⟩ := I.base.slot L o ho (I.ok.frf L hL) hL fun z => I.ok.exfs L z hL
      exact ⟨hk, ⟨L, _, hf, hn, e, hd⟩, ih (fun b hb => hs b (by unfold frs; rw [List.filterMap_cons, hf]; exact List.mem_cons_of_mem _ hb)) hr⟩
  exact all X.outer (fun _ hb => hb) I.ok.funs

theorem Inv.stack (I : Inv X pins σ H s) : s.heap.FunFrames X.base X.stack := by
  rcases I.ok.stk with e | ⟨e, hf⟩
  · rw [e]; exact I.funs
  · rw [e]
    obtain ⟨m, hn, _⟩ := I.loc
    refine .cons (by rw [I.ok.kind]; decide) hf hn ?_ I.funs
    exact Heap.get?_none_of_le (Nat.le_trans I.ok.bsz I.ok.above)
theorem Inv.stkSub (I : Inv X pins σ H s) : ∀ b ∈ frs X.stack, b ∈ X.env.locals :: X.fs := fun b hb => by
  rcases I.ok.stk with e | ⟨e, hf⟩
  · rw [e] at hb; exact List.mem_cons_of_mem _ hb
  · rw [e] at hb
    unfold frs at hb
    rw [List.filterMap_cons, hf] at hb
    exact hb
theorem Inv.stkFree (I : Inv X pins σ H s) : ∀ b ∈ frs X.stack, H b = none := fun b hb => by
  rcases List.mem_cons.mp (I.stkSub b hb) with e | hb
  · rw [e]; exact I.free
  · obtain ⟨_, o, ho, _⟩ := I.ok.funs.mem hb
    exact I.base.free b o ho (I.ok.frf b hb) fun z => I.ok.exfs b z hb

theorem Inv.step {g' : Array GenState} {t' : Nat} {d' : Drawn} {ch : List Addr} (I : Inv X pins σ H s)
    (hch : ∀ b ∈ ch, (b ∈ X.ex ∨ X.s₀.heap.objs.size ≤ b) ∧ b ≠ X.env.locals ∧ (∀ x c, X.env.cells.lookup x = some c → c ≠ b) ∧ ∀ p ∈ X.pn ++ pins, p.1 ≠ b)
    (keep : ∀ b o, b ≠ X.env.locals → b ∉ X.fs → b ∉ ch → s.heap.get? b = some o → H b = none → h'.get? b = some o)
    (slot : ∀ b o, b ≠ X.env.locals → b ∈ X.fs → b ∉ ch → s.heap.get? b = some o → H b = none → ∃ sl, h'.get? b = some { o with slots := sl }) (free : ∀ b o, b ∉ ch → s.heap.get? b = some o → H b = none → H' b = none)
    (there : ∀ b o, b ∉ ch → s.heap.get? b = some o → ∃ o', h'.get? b = some o')
    (tups : ∀ b xs, H b = some (.tup xs) → H' b = some (.tup xs)) (frzs : ∀ b o u, H b = some (.frz o u) → H' b = some (.frz o u)) (tbls : ∀ b ps, H b = some (.tbl ps) → ∃ more, H' b = some (.tbl (ps ++ more)))
    (ns : ∀ m, s.heap.Ns X.env.locals m → h'.Ns X.env.locals m) (hok : HOk X.prog X.w H' h') (hg : AllBare g') :
    Inv X pins σ H' { s with heap := h', gens := g', drawn := d', toks := t' } := by
  have neL : ∀ b o, X.s₀.heap.get? b = some o → b ≠ X.env.locals := fun b o e => Nat.ne_of_lt (Nat.lt_of_lt_of_le (Heap.lt_size e) I.ok.above)
  have neC : ∀ b o, X.s₀.heap.get? b = some o → b ∉ X.ex → b ∉ ch := fun b o e hx hb => by
    rcases (hch b hb).1 with z | z
    · exact hx z
    · exact absurd (Nat.lt_of_lt_of_le (Heap.lt_size e) z) (Nat.lt_irrefl _)
  have cellK : ∀ x c, X.env.cells.lookup x = some c → ∀ v, s.heap.IsCell c v → h'.IsCell c v := fun x c e v ⟨o, ho, hd⟩ => by
    have nch : c ∉ ch := fun z => (hch c z).2.2.1 x c e rfl
    by_cases hc : c ∈ X.fs
    · obtain ⟨sl, q⟩ := slot c o (I.cne x c e) hc nch ho (I.freeC x c e)
      exact ⟨_, q, hd⟩
    · exact ⟨o, keep c o (I.cne x c e) hc nch ho (I.freeC x c e), hd⟩
  refine ⟨I.ok, I.os, hg, ⟨fun b o e n hb hx => ?_, fun b o e n hb hx => ?_, fun b o e n hx => ?_, fun b o e hx => ?_, fun b xs e => tups b xs (I.base.tups b xs e), fun b o xs e => frzs b o xs (I.base.frzs b o xs e), fun b ps e => ?_⟩, ?_, fun x c e => ?_, ?_, fun x c e => ?_, fun p hp => ?_, hok, I.len⟩
  · exact keep b o (neL b o e) hb (neC b o e hx) (I.base.keep b o e n hb hx) (I.base.free b o e n hx)
  · obtain ⟨sl, e1⟩ := I.base.slot b o e n hb hx
    obtain ⟨sl', e2⟩ := slot b _ (neL b o e) hb (neC b o e hx) e1 (I.base.free b o e n hx)
    exact ⟨sl', e2⟩
  · obtain ⟨o', e1⟩ := I.base.there b o e hx
    exact free b o' (neC b o e hx) e1 (I.base.free b o e n hx)
  · obtain ⟨o', e1⟩ := I.base.there b o e hx
    exact there b o' (neC b o e hx) e1
  · obtain ⟨m1, e1⟩ := I.base.tbls b ps e
    obtain ⟨m2, e2⟩ := tbls b _ e1
    exact ⟨m1 ++ m2, by rw [e2, Array.append_assoc]⟩
  · obtain ⟨m, hn, hl⟩ := I.loc
    refine ⟨m, ns m hn, fun i x v e1 e2 e3 => ?_⟩
    obtain ⟨u, r, l⟩ := hl i x v e1 e2 e3
    refine ⟨u, r, ?_⟩
    rcases l with l | ⟨k, c, e, z⟩
    · exact .inl l
    · exact .inr ⟨k, c, e, cellK x c e _ z⟩
  · obtain ⟨v, z⟩ := I.cell x c e
    exact ⟨v, cellK x c e v z⟩
  · obtain ⟨m, ⟨o, _, _, ho, _⟩, _⟩ := I.loc
    exact free _ o (fun z => (hch _ z).2.1 rfl) ho I.free
  · obtain ⟨v, o, ho, hd⟩ := I.cell x c e
    exact free c o (fun z => (hch c z).2.2.1 x c e rfl) ho (I.freeC x c e)
  · obtain ⟨e, n, ne, nf, d⟩ := I.pin p hp
    have nch : p.1 ∉ ch := fun z => (hch p.1 z).2.2.2 p hp rfl
    exact ⟨keep p.1 p.2 ne nf nch e n, free p.1 p.2 nch e n, ne, nf, d⟩
theorem Inv.un {t' : Nat} (I : Inv X pins σ H s) (u : Un X.fs [] H H' s.heap h') (hok : HOk X.prog X.w H' h') : Inv X pins σ H' { s with heap := h', toks := t' } := by
  obtain ⟨m, ⟨o, es, ep, ho, r⟩, _⟩ := id I.loc
  obtain ⟨sl, hL⟩ := u.any ho I.free (by simp)
  exact I.step (g' := s.gens) (d' := s.drawn) (ch := []) (fun _ z => nomatch z) (fun b o _ hb _ e n => u.keep b o e n hb (by simp)) (fun b o _ hb _ e n => u.slot b o e n hb (by simp)) (fun b o _ e n => u.free b o e n (by simp)) (fun b o _ e => u.there b o e (by simp)) u.tups u.frzs u.tbls (fun m' hm => by
    obtain ⟨o', es', ep', ho', r'⟩ := hm
    rw [ho] at ho'; cases ho'
    exact ⟨_, es', ep', hL, r'⟩) hok I.bare
theorem Inv.call {g' : Array GenState} {t' : Nat} {d' : Drawn} {ch : List Addr} (I : Inv X pins σ H s) (u : Un (frs X.stack) ch H H' s.heap h') (hok : HOk X.prog X.w H' h') (hg : AllBare g')
    (hch : ∀ b ∈ ch, (b ∈ X.ex ∨ X.s₀.heap.objs.size ≤ b) ∧ b ≠ X.env.locals ∧ (∀ x c, X.env.cells.lookup x = some c → c ≠ b) ∧ ∀ p ∈ X.pn ++ pins, p.1 ≠ b) :
    Inv X pins σ H' { s with heap := h', gens := g', drawn := d', toks := t' } := by
  obtain ⟨m, ⟨o, es, ep, ho, r⟩, _⟩ := id I.loc
  obtain ⟨sl, hL⟩ := u.any ho I.free fun z => (hch _ z).2.1 rfl
  exact I.step (ch := ch) hch (fun b o hL hb hc e n => u.keep b o e n (fun z => (List.mem_cons.mp (I.stkSub b z)).elim hL hb) hc) (fun b o _ _ hc e n => u.any e n hc) (fun b o hc e n => u.free b o e n hc) (fun b o hc e => u.there b o e hc) u.tups u.frzs u.tbls (fun m' hm => by
    obtain ⟨o', es', ep', ho', r'⟩ := hm
    rw [ho] at ho'; cases ho'
    exact ⟨_, es', ep', hL, r'⟩) hok hg
theorem Inv.turned {t' : Nat} {it : Addr} (I : Inv X pins σ H s) (k : ∀ b o, b ≠ it → s.heap.get? b = some o → h'.get? b = some o) (hn : H it = none) (hL : it ≠ X.env.locals)
    (h1 : it ∈ X.ex ∨ X.s₀.heap.objs.size ≤ it) (h2 : ∀ x c, X.env.cells.lookup x = some c → c ≠ it) (h3 : ∀ p ∈ X.pn ++ pins, p.1 ≠ it) : Inv X pins σ H { s with heap := h', toks := t' } := by
  have nit : ∀ b u, H b = some u → b ≠ it := fun b u e z => by rw [z, hn] at e; cases e
  refine I.step (g' := s.gens) (d' := s.drawn) (ch := [it]) (fun b hb => ?_) (fun b o _ _ hc e _ => k b o (fun z => hc (by simp [z])) e) (fun b o _ _ hc e _ => ⟨o.slots, k b o (fun z => hc (by simp [z])) e⟩) (fun _ _ _ _ n => n)
    (fun b o hc e => ⟨o, k b o (fun z => hc (by simp [z])) e⟩) (fun _ _ e => e) (fun _ _ _ e => e) (fun b ps e => ⟨#[], by rw [e]; simp⟩) (fun m hm => ?_) (fun b u e => ?_) I.bare
  · have e : b = it := by simpa using hb
    subst e
    exact ⟨h1, hL, h2, h3⟩
  · obtain ⟨o, es, ep, ho, r⟩ := hm
    exact ⟨o, es, ep, k _ o (Ne.symm hL) ho, r⟩
  · refine (I.hok b u e).stay (fun c v hc q => k c v ?_ q) (fun _ q => q) fun _ _ q => q
    rcases hc with z | z
    · rw [z]; exact nit b u e
    · exact nit c _ z
theorem Inv.tok (I : Inv X pins σ H s) (t : Nat) : Inv X pins σ H { s with toks := t } := I.un (h' := s.heap) (t' := t) Un.refl I.hok
theorem Inv.kept {t' : Nat} (I : Inv X pins σ H s) (k : ∀ b u, s.heap.get? b = some u → h'.get? b = some u) : Inv X pins σ H { s with heap := h', toks := t' } := I.un (Un.kept k) (I.hok.kept k)
theorem Inv.laid {a : Addr} {o : HO} {t' : Nat} (I : Inv X pins σ H s) (k : ∀ b u, s.heap.get? b = some u → h'.get? b = some u) (hp : s.heap.objs.size ≤ a) (new : ObjOk X.prog X.w (upd H a o) h' a o) :
    Inv X pins σ (upd H a o) { s with heap := h', toks := t' } := I.un (Un.laid k hp (I.hok.fresh hp)) (I.hok.laid k hp new)
theorem Inv.write {x e : Addr} {o : HO} {t' : Nat} (I : Inv X pins σ H s) (mu : Mut (H x)) (he : e = x ∨ H e = some (.own x)) (k : ∀ b u, b ≠ e → s.heap.get? b = some u → h'.get? b = some u) (heo : ∃ u, h'.get? e = some u)
    (new : ObjOk X.prog X.w (upd H x o) h' x o) : Inv X pins σ (upd H x o) { s with heap := h', toks := t' } := I.un (Un.write mu he k heo) (I.hok.write mu he k heo new)
theorem Inv.pins_of {pins' : List (Addr × Obj)} (I : Inv X pins σ H s) (h : ∀ p ∈ pins', s.heap.get? p.1 = some p.2 ∧ H p.1 = none ∧ p.1 ≠ X.env.locals ∧ p.1 ∉ X.fs ∧ ∀ v, p.2.data ≠ .cell v) : Inv X pins' σ H s :=
  ⟨I.ok, I.os, I.bare, I.base, I.loc, I.cell, I.free, I.freeC, fun p hp => (List.mem_append.mp hp).elim (fun z => I.pin p (List.mem_append_left _ z)) (h p), I.hok, I.len⟩

theorem nodup_ix {N : List Str} (hN : N.Nodup) {i j : Nat} {x : Str} (a : N[i]? = some x) (b : N[j]? = some x) : i = j := by
  obtain ⟨h1, e1⟩ := List.getElem?_eq_some_iff.mp a
  obtain ⟨h2, e2⟩ := List.getElem?_eq_some_iff.mp b
  exact (List.getElem_inj hN).mp (e1.trans e2.symm)

theorem store_ok2 {M : Model} {A : Around} {E : Value → Shared → Prop} {i : Nat} {x : Str} {v : V} {u : Value} {Q : Unit → Shared → Prop} (I : Inv X pins σ H s) (hN : X.N.Nodup) (hi : X.N[i]? = some x) (hx : Loc X.env.scope x) (r : RelV v u)
    (h : ∀ s', Inv X pins (σ.set i (some v)) H s' → (∃ a, Heap.SameBut a s.heap s'.heap ∧ (a = X.env.locals ∨ X.env.cells.lookup x = some a)) → Q () s') (hf : X.fn x = true ∨ X.env.scope.names.lookup x = some .local := by first | exact .inl rfl | exact .inr rfl | assumption) : wpAny M A (storeName X.env x u) Q E s := by
  obtain ⟨m, hn, hl⟩ := id I.loc
  have hcls : (X.env.scope.kind == .class || (X.env.scope.kind == .module && X.env.locals != X.env.globals)) = false := by rw [I.ok.kind]; rfl
  have hiσ : i < σ.length := by rw [I.len]; exact (List.getElem?_eq_some_iff.mp hi).1
  have cne := I.cne
  have tracked : ∀ {a : Addr} {h' : Heap}, (∃ o, s.heap.get? a = some o ∧ H a = none) → Heap.SameBut a s.heap h' → HOk X.prog X.w H h' := fun {a h'} ha hs b ob e => by
    obtain ⟨_, _, hfree⟩ := ha
    refine (I.hok b ob e).stay (fun c w' hc q => (hs.2 c ?_).trans q) (fun _ q => q) fun _ _ q => q
    rintro rfl
    rcases hc with rfl | hc
    · rw [hfree] at e; cases e
    · rw [hfree] at hc; cases hc
  rcases hx with hk | hk
  · refine wpAny_storeName_local hk hn (fun h' hn' hs => ?_) hcls
    obtain ⟨oL, _, _, hoL, _⟩ := id hn
    refine h _ ⟨I.ok, I.os, I.bare, ⟨fun b o e n hb hx => ?_, fun b o e n hb hx => ?_, I.base.free, fun b o e hx => ?_, I.base.tups, I.base.frzs, I.base.tbls⟩, ⟨_, hn', fun j y v' e1 e2 e3 => ?_⟩, fun y c e => ?_, I.free, I.freeC, fun p hp => ?_, tracked ⟨oL, hoL, I.free⟩ hs, by simpa using I.len⟩ ⟨_, hs, .inl rfl⟩
    · exact (hs.2 b (Nat.ne_of_lt (Nat.lt_of_lt_of_le (Heap.lt_size e) I.ok.above))).trans (I.base.keep b o e n hb hx)
    · obtain ⟨sl, e1⟩ := I.base.slot b o e n hb hx
      exact ⟨sl, (hs.2 b (Nat.ne_of_lt (Nat.lt_of_lt_of_le (Heap.lt_size e) I.ok.above))).trans e1⟩
    · obtain ⟨o', e1⟩ := I.base.there b o e hx
      exact ⟨o', (hs.2 b (Nat.ne_of_lt (Nat.lt_of_lt_of_le (Heap.lt_size e) I.ok.above))).trans e1⟩
    · by_cases hj : j = i
      · subst hj
        rw [hi] at e1; cases e1
        rw [List.getElem?_set_self hiσ] at e2
        cases e2
        exact ⟨u, r, .inl ⟨hk, by simp⟩⟩
      · rw [List.getElem?_set_ne (Ne.symm hj)] at e2
        obtain ⟨u', r', q⟩ := hl j y v' e1 e2 e3
        refine ⟨u', r', ?_⟩
        rcases q with ⟨k, e⟩ | ⟨k, c, e, z⟩
        · refine .inl ⟨k, ?_⟩
          have : y ≠ x := fun e => hj (nodup_ix hN e1 (e ▸ hi))
          simp [this, e]
        · exact .inr ⟨k, c, e, z.sameBut hs (cne y c e)⟩
    · obtain ⟨w', z⟩ := I.cell y c e
      exact ⟨w', z.sameBut hs (cne y c e)⟩
    · obtain ⟨e, n, ne, nf, d⟩ := I.pin p hp
      exact ⟨(hs.2 p.1 ne).trans e, n, ne, nf, d⟩
  · have hfn : X.fn x = true := by
      rcases hf with z | z
      · exact z
      · rw [z] at hk; cases hk
    obtain ⟨c, hc⟩ := I.ok.has x (.inl hk)
    obtain ⟨w', z⟩ := I.cell x c hc
    refine wpAny_storeName_cell I.ok.kind hk hc z (fun h' hc' hs => ?_)
    obtain ⟨oc, hoc, hocd⟩ := id z
    refine h { s with heap := h' } ⟨I.ok, I.os, I.bare, ⟨fun b o e n hb hx => ?_, fun b o e n hb hx => ?_, I.base.free, fun b o e hx => ?_, I.base.tups, I.base.frzs, I.base.tbls⟩, ⟨m, hn.sameBut hs (Ne.symm (cne x c hc)), fun j y v' e1 e2 e3 => ?_⟩, fun y c' e => ?_, I.free, I.freeC, fun p hp => ?_, tracked ⟨oc, hoc, I.freeC x c hc⟩ hs, by simpa using I.len⟩ ⟨c, hs, .inr hc⟩
    · exact (hs.2 b (Nat.ne_of_lt (Nat.lt_of_lt_of_le (Heap.lt_size e) (I.ok.cab x c hfn hc)))).trans (I.base.keep b o e n hb hx)
    · obtain ⟨sl, e1⟩ := I.base.slot b o e n hb hx
      exact ⟨sl, (hs.2 b (Nat.ne_of_lt (Nat.lt_of_lt_of_le (Heap.lt_size e) (I.ok.cab x c hfn hc)))).trans e1⟩
    · obtain ⟨o', e1⟩ := I.base.there b o e hx
      exact ⟨o', (hs.2 b (Nat.ne_of_lt (Nat.lt_of_lt_of_le (Heap.lt_size e) (I.ok.cab x c hfn hc)))).trans e1⟩
    · by_cases hj : j = i
      · subst hj
        rw [hi] at e1; cases e1
        rw [List.getElem?_set_self hiσ] at e2
        cases e2
        exact ⟨u, r, .inr ⟨.inl hk, c, hc, hc'⟩⟩
      · rw [List.getElem?_set_ne (Ne.symm hj)] at e2
        obtain ⟨u', r', q⟩ := hl j y v' e1 e2 e3
        refine ⟨u', r', ?_⟩
        rcases q with q | ⟨k, c', e, z'⟩
        · exact .inl q
        · refine .inr ⟨k, c', e, z'.sameBut hs ?_⟩
          rintro rfl
          exact hj (nodup_ix hN e1 (I.ok.inj _ _ _ e hc ▸ hi))
    · by_cases hcc : c' = c
      · subst hcc; exact ⟨_, hc'⟩
      · obtain ⟨w2, z2⟩ := I.cell y c' e
        exact ⟨w2, z2.sameBut hs hcc⟩
    · obtain ⟨e, n, ne, nf, d⟩ := I.pin p hp
      refine ⟨(hs.2 p.1 ?_).trans e, n, ne, nf, d⟩
      intro q
      rw [q, hoc] at e
      have q' : oc = p.2 := Option.some.inj e
      exact d w' (by rw [← q']; exact hocd)
theorem store_ok {M : Model} {A : Around} {E : Value → Shared → Prop} {i : Nat} {x : Str} {v : V} {u : Value} {Q : Unit → Shared → Prop} (I : Inv X pins σ H s) (hN : X.N.Nodup) (hi : X.N[i]? = some x) (hx : Loc X.env.scope x) (r : RelV v u)
    (h : ∀ s', Inv X pins (σ.set i (some v)) H s' → Q () s') (hf : X.fn x = true ∨ X.env.scope.names.lookup x = some .local := by first | exact .inl rfl | exact .inr rfl | assumption) : wpAny M A (storeName X.env x u) Q E s :=
  store_ok2 I hN hi hx r (fun s' I' _ => h s' I') hf
theorem Inv.call' {s' : Shared} {ch : List Addr} (I : Inv X pins σ H s) (ho : s'.os = s.os) (u : Un (frs X.stack) ch H H' s.heap s'.heap) (hok : HOk X.prog X.w H' s'.heap) (hg : AllBare s'.gens)
    (hch : ∀ b ∈ ch, (b ∈ X.ex ∨ X.s₀.heap.objs.size ≤ b) ∧ b ≠ X.env.locals ∧ (∀ x c, X.env.cells.lookup x = some c → c ≠ b) ∧ ∀ p ∈ X.pn ++ pins, p.1 ≠ b) : Inv X pins σ H' s' := by
  obtain ⟨h', g', d', t', o'⟩ := s'
  have e : o' = s.os := ho
  subst e
  exact I.call (g' := g') (t' := t') (d' := d') u hok hg hch
end

noncomputable abbrev XK := Value → Option Addr → Hp → Prop
noncomputable abbrev St := List (Option V)
noncomputable abbrev VK := V → Hp → Prop
noncomputable abbrev TE := St → Hp → VK → Prop
noncomputable abbrev TT := St → Hp → (Bool → Hp → Prop) → Prop
noncomputable abbrev TA := St → Hp → (List V → Hp → Prop) → Prop
structure Ends where
  nx : St → Hp → Prop
  rt : VK
  bk : St → Hp → Prop := fun _ _ => False
  ct : St → Hp → Prop := fun _ _ => False
noncomputable abbrev TS := Ends → St → Hp → Prop

noncomputable def EP (X : Cx) (pins : List (Addr × Obj)) (σ : St) (Q : VK) (u : Value) (s' : Shared) : Prop := ∃ v H', Inv X pins σ H' s' ∧ RelV v u ∧ Q v H'
noncomputable def TP (X : Cx) (pins : List (Addr × Obj)) (σ : St) (Q : Bool → Hp → Prop) (b : Bool) (s' : Shared) : Prop := ∃ H', Inv X pins σ H' s' ∧ Q b H'
noncomputable def AP (X : Cx) (pins : List (Addr × Obj)) (σ : St) (Q : List V → Hp → Prop) (us : List Value) (s' : Shared) : Prop := ∃ vs H', Inv X pins σ H' s' ∧ Vals vs us ∧ Q vs H'
noncomputable def SP (X : Cx) (pins : List (Addr × Obj)) (D : Ends) (f : Flow) (s' : Shared) : Prop :=
  match f with
  | .next => ∃ σ' H', Inv X pins σ' H' s' ∧ D.nx σ' H'
  | .brk => ∃ σ' H', Inv X pins σ' H' s' ∧ D.bk σ' H'
  | .cont => ∃ σ' H', Inv X pins σ' H' s' ∧ D.ct σ' H'
  | .ret u => ∃ v σ' H', Inv X pins σ' H' s' ∧ RelV v u ∧ D.rt v H'

structure PE (X : Cx) (e : Expr) (t : TE)  : Prop where
  go : ∀ (pins : List (Addr × Obj)) (s : Shared) (σ : St) (H : Hp) (Q : VK), Inv X pins σ H s → t σ H Q → wpAny (model X.prog X.w) X.A (eval e X.env) (EP X pins σ Q) X.xe s
instance {X : Cx} {e : Expr} {t : TE} : CoeFun (PE X e t) (fun _ => ∀ (pins : List (Addr × Obj)) (s : Shared) (σ : St) (H : Hp) (Q : VK), Inv X pins σ H s → t σ H Q → wpAny (model X.prog X.w) X.A (eval e X.env) (EP X pins σ Q) X.xe s) := ⟨PE.go⟩
structure PT (X : Cx) (e : Expr) (t : TT)  : Prop where
  go : ∀ (pins : List (Addr × Obj)) (s : Shared) (σ : St) (H : Hp) (Q : Bool → Hp → Prop), Inv X pins σ H s → t σ H Q → wpAny (model X.prog X.w) X.A (isTrue e X.env (eval e X.env)) (TP X pins σ Q) X.xe s
instance {X : Cx} {e : Expr} {t : TT} : CoeFun (PT X e t) (fun _ => ∀ (pins : List (Addr × Obj)) (s : Shared) (σ : St) (H : Hp) (Q : Bool → Hp → Prop), Inv X pins σ H s → t σ H Q → wpAny (model X.prog X.w) X.A (isTrue e X.env (eval e X.env)) (TP X pins σ Q) X.xe s) := ⟨PT.go⟩
structure PW (X : Cx) (e : Expr) (t : TT)  : Prop where
  go : ∀ (whole : Sem Value) (pins : List (Addr × Obj)) (s : Shared) (σ : St) (H : Hp) (Q : Bool → Hp → Prop), Inv X pins σ H s → t σ H Q → wpAny (model X.prog X.w) X.A (isTrue e X.env whole) (TP X pins σ Q) X.xe s
instance {X : Cx} {e : Expr} {t : TT} : CoeFun (PW X e t) (fun _ => ∀ (whole : Sem Value) (pins : List (Addr × Obj)) (s : Shared) (σ : St) (H : Hp) (Q : Bool → Hp → Prop), Inv X pins σ H s → t σ H Q → wpAny (model X.prog X.w) X.A (isTrue e X.env whole) (TP X pins σ Q) X.xe s) := ⟨PW.go⟩
theorem PW.pt {X : Cx} {e : Expr} {t : TT} (h : PW X e t) : PT X e t := ⟨h _⟩
structure PA (X : Cx) (es : List Expr) (t : TA)  : Prop where
  go : ∀ (pos : Pos) (pins : List (Addr × Obj)) (s : Shared) (σ : St) (H : Hp) (Q : List V → Hp → Prop), Inv X pins σ H s → t σ H Q → wpAny (model X.prog X.w) X.A (spliced (backTo pos (starEach es X.env))) (AP X pins σ Q) X.xe s
instance {X : Cx} {es : List Expr} {t : TA} : CoeFun (PA X es t) (fun _ => ∀ (pos : Pos) (pins : List (Addr × Obj)) (s : Shared) (σ : St) (H : Hp) (Q : List V → Hp → Prop), Inv X pins σ H s → t σ H Q → wpAny (model X.prog X.w) X.A (spliced (backTo pos (starEach es X.env))) (AP X pins σ Q) X.xe s) := ⟨PA.go⟩
structure PS (X : Cx) (st : Stmt) (t : TS)  : Prop where
  go : ∀ (pins : List (Addr × Obj)) (s : Shared) (σ : St) (H : Hp) (D : Ends), Inv X pins σ H s → t D σ H → wpAny (model X.prog X.w) X.A (exec st X.env) (SP X pins D) X.xe s
instance {X : Cx} {st : Stmt} {t : TS} : CoeFun (PS X st t) (fun _ => ∀ (pins : List (Addr × Obj)) (s : Shared) (σ : St) (H : Hp) (D : Ends), Inv X pins σ H s → t D σ H → wpAny (model X.prog X.w) X.A (exec st X.env) (SP X pins D) X.xe s) := ⟨PS.go⟩
structure PSs (X : Cx) (st : List Stmt) (t : TS)  : Prop where
  go : ∀ (pins : List (Addr × Obj)) (s : Shared) (σ : St) (H : Hp) (D : Ends), Inv X pins σ H s → t D σ H → wpAny (model X.prog X.w) X.A (execs st X.env) (SP X pins D) X.xe s
instance {X : Cx} {st : List Stmt} {t : TS} : CoeFun (PSs X st t) (fun _ => ∀ (pins : List (Addr × Obj)) (s : Shared) (σ : St) (H : Hp) (D : Ends), Inv X pins σ H s → t D σ H → wpAny (model X.prog X.w) X.A (execs st X.env) (SP X pins D) X.xe s) := ⟨PSs.go⟩
theorem thn {α : Type} {t : Sem α} {Q Q' : α → Shared → Prop} {M : Model} {A : Around} {E : Value → Shared → Prop} {s : Shared} (h : wpAny M A t Q E s) (hQ : ∀ a s, Q a s → Q' a s) : wpAny M A t Q' E s := wpAny_mono h hQ fun _ _ x => x
end L2

namespace L2
open PySem PySem.Spec PyProof.Rows
section
variable {X : Cx}

noncomputable def tVar (i : Nat) : TE := fun σ H Q => ∃ v, σ[i]? = some (some v) ∧ Q v H
noncomputable def tC (v : V) : TE := fun _ H Q => Q v H
theorem pe_var {i : Nat} {x : Str} {pos : Pos} (hN : X.N[i]? = some x) (hv : Vis X.env.scope x) (hd : (x == ("__debug__" : Str)) = false := by decide) (hcd : (x == ("__classdict__" : Str)) = false := by decide) : PE X (.Name x pos) (tVar i) := by
  refine ⟨?_⟩
  intro pins s σ H Q I h
  obtain ⟨v, e, h⟩ := h
  obtain ⟨m, hn, hl⟩ := I.loc
  obtain ⟨u, r, l⟩ := hl i x v hN e hv
  have fin : EP X pins σ Q u s := ⟨v, H, I, r, h⟩
  rcases l with ⟨hk, hm⟩ | ⟨hk, c, hc, hcell⟩
  · exact wpAny_Name (wpAny_loadName_local I.ok.kind hk hn hm fin) hd
  · rcases hk with hk | hk
    · exact wpAny_Name (wpAny_loadName_cell I.ok.kind hk hc hcell fin) hd
    · exact wpAny_Name (wpAny_loadName_free I.ok.kind hk hc hcell fin hcd) hd
theorem pe_int {i j pos} : PE X (.Constant (.int i) j pos) (tC (.int i)) := ⟨fun _ _ _ H _ I h => wpAny_Constant_int ⟨.int i, H, I.tok _, ⟨_, rfl⟩, h⟩⟩
theorem pe_bl {b j pos} : PE X (.Constant (.bool b) j pos) (tC (.bl b)) := ⟨fun _ _ _ H _ I h => Constant_bool ⟨.bl b, H, I, rfl, h⟩⟩
theorem pe_non {j pos} : PE X (.Constant .none j pos) (tC .non) := ⟨fun _ _ _ H _ I h => Constant_none ⟨.non, H, I, rfl, h⟩⟩
theorem pe_str {x j pos} : PE X (.Constant (.str x) j pos) (tC (.str x)) := ⟨fun _ _ _ H _ I h => Calls.Constant_str ⟨.str x, H, I.tok _, ⟨_, rfl⟩, h⟩⟩
noncomputable def Gl (X : Cx) (x : Str) : Prop := X.env.kindOf x = some .globalImplicit
theorem ld_glob {E : Value → Shared → Prop} {pins : List (Addr × Obj)} {s : Shared} {σ : St} {H : Hp} {x : Str} {u : Value} {pos : Pos} {Q : Value → Shared → Prop} (I : Inv X pins σ H s) (hg : Gl X x) (hm : X.mg x = some u) (h : Q u s)
    (hd : (x == ("__debug__" : Str)) = false := by decide) : wpAny (model X.prog X.w) X.A (eval (.Name x pos) X.env) Q E s :=
  Calls.Name_function_global I.ok.kind hg (Calls.loadGlobal_global (by rw [I.ok.glob]; exact I.mod.glob.keeps I.bk) hm h) hd
theorem ld_blt {E : Value → Shared → Prop} {pins : List (Addr × Obj)} {s : Shared} {σ : St} {H : Hp} {x : Str} {u : Value} {pos : Pos} {Q : Value → Shared → Prop} (I : Inv X pins σ H s) (hg : Gl X x) (hm : X.mg x = none) (hv : bootBuiltins x = some u) (h : Q u s)
    (hn : x ≠ "__name__" := by decide) (hd : (x == ("__debug__" : Str)) = false := by decide) : wpAny (model X.prog X.w) X.A (eval (.Name x pos) X.env) Q E s := by
  obtain ⟨mb, h1, h2⟩ := I.mod.blt
  exact Calls.Name_function_global I.ok.kind hg (Calls.loadGlobal_builtin (by rw [I.ok.glob]; exact I.mod.glob.keeps I.bk) hm (by rw [I.ok.blt]; exact h1.keeps I.bk) ((h2 x hn).trans hv) h) hd
theorem pe_glob {x : Str} {v : V} {u : Value} {pos : Pos} (hg : Gl X x) (hm : X.mg x = some u) (r : RelV v u) (hd : (x == ("__debug__" : Str)) = false := by decide) : PE X (.Name x pos) (tC v) := ⟨fun _ _ _ H _ I h => ld_glob I hg hm ⟨v, H, I, r, h⟩ hd⟩
theorem pe_bltn {x : Str} {v : V} {u : Value} {pos : Pos} (hg : Gl X x) (hm : X.mg x = none) (hv : bootBuiltins x = some u) (r : RelV v u) (hn : x ≠ "__name__" := by decide) (hd : (x == ("__debug__" : Str)) = false := by decide) : PE X (.Name x pos) (tC v) := ⟨fun _ _ _ H _ I h => ld_blt I hg hm hv ⟨v, H, I, r, h⟩ hn hd⟩
noncomputable def t2I (ta tb : TE) (k : Int → Int → Hp → Prop) : St → Hp → Prop := fun σ H => ta σ H fun x H1 => tb σ H1 fun y H2 => ∃ i j, x = .int i ∧ y = .int j ∧ k i j H2
noncomputable def tAdd (ta tb : TE) : TE := fun σ H Q => t2I ta tb (fun i j H2 => Q (.int (i + j)) H2) σ H
noncomputable def tSub (ta tb : TE) : TE := fun σ H Q => t2I ta tb (fun i j H2 => Q (.int (i - j)) H2) σ H
noncomputable def tMul (ta tb : TE) : TE := fun σ H Q => t2I ta tb (fun i j H2 => (-(2 ^ 64) < i ∧ i < 2 ^ 64) ∧ Q (.int (i * j)) H2) σ H
variable {a b : Expr} {ta tb : TE} {pos : Pos}
structure PC (X : Cx) (op : CmpOp) (a b : Expr) (t : TE)  : Prop where
  go : ∀ (pins : List (Addr × Obj)) (s : Shared) (σ : St) (H : Hp) (Q : VK), Inv X pins σ H s → t σ H Q →
    wpAny (model X.prog X.w) X.A (eval a X.env) (fun v s₁ => wpAny (model X.prog X.w) X.A (eval b X.env) (fun u s₂ => wpAny (model X.prog X.w) X.A (compareOp op v u) (EP X pins σ Q) X.xe s₂) X.xe s₁) X.xe s
instance {X : Cx} {op : CmpOp} {a b : Expr} {t : TE} : CoeFun (PC X op a b t) (fun _ => ∀ (pins : List (Addr × Obj)) (s : Shared) (σ : St) (H : Hp) (Q : VK), Inv X pins σ H s → t σ H Q →
    wpAny (model X.prog X.w) X.A (eval a X.env) (fun v s₁ => wpAny (model X.prog X.w) X.A (eval b X.env) (fun u s₂ => wpAny (model X.prog X.w) X.A (compareOp op v u) (EP X pins σ Q) X.xe s₂) X.xe s₁) X.xe s) := ⟨PC.go⟩
noncomputable def tCmp (p : Int → Int → Bool) (ta tb : TE) : TE := fun σ H Q => t2I ta tb (fun i j H2 => Q (.bl (p i j)) H2) σ H
noncomputable abbrev tLt : TE → TE → TE := tCmp fun i j => decide (i < j)
noncomputable abbrev tLe : TE → TE → TE := tCmp fun i j => decide (i ≤ j)
noncomputable abbrev tGt : TE → TE → TE := tCmp fun i j => decide (j < i)
noncomputable abbrev tGe : TE → TE → TE := tCmp fun i j => decide (j ≤ i)
noncomputable abbrev tEqI : TE → TE → TE := tCmp fun i j => decide (i = j)
noncomputable abbrev tNeI : TE → TE → TE := tCmp fun i j => !decide (i = j)
noncomputable def tIsN (ta : TE) : TE := fun σ H Q => ta σ H fun x H1 => Q (.bl (decide (x = .non))) H1
noncomputable def tNotN (ta : TE) : TE := fun σ H Q => ta σ H fun x H1 => Q (.bl (!decide (x = .non))) H1
noncomputable def tB (t : TE) : TT := fun σ H Q => t σ H fun x H1 => ∃ c, x = .bl c ∧ Q c H1
theorem pt_val {e : Expr} {t : TE} (h : PE X e t) (he : ∀ whole, isTrue e X.env whole = (do let v ← whole; standAt e.pos; holding [v] (truthy v)) := by intro _; rfl) : PT X e (tB t) := by
  refine ⟨?_⟩
  intro pins s σ H Q I hw
  refine isTrue_plain (thn (h pins s σ H _ I hw) fun v s1 ⟨x, H1, I1, r1, q1⟩ => ?_) (he _)
  obtain ⟨d, rfl, q⟩ := q1
  cases r1
  exact wpAny_truthy_bool ⟨H1, I1, q⟩

variable {tA tB' : TT} {rest : List Expr}
noncomputable def tAnd (t u : TT) : TT := fun σ H Q => t σ H fun c H1 => if c = true then u σ H1 Q else Q false H1
noncomputable def tOr (t u : TT) : TT := fun σ H Q => t σ H fun c H1 => if c = true then Q true H1 else u σ H1 Q
noncomputable def tNot (t : TT) : TT := fun σ H Q => t σ H fun c H1 => Q (!c) H1
theorem pw_and1 (ha : PT X a tA) : PW X (.BoolOp .And [a] pos) tA := by
  refine ⟨?_⟩
  intro wh pins s σ H Q I h
  refine isTrue_and (thn (ha pins s σ H Q I h) fun c s1 e => ?_)
  cases c with
  | true => exact isTrue_and_nil e
  | false => exact e
theorem pw_or1 (ha : PT X a tA) : PW X (.BoolOp .Or [a] pos) tA := by
  refine ⟨?_⟩
  intro wh pins s σ H Q I h
  refine isTrue_or (thn (ha pins s σ H Q I h) fun c s1 e => ?_)
  cases c with
  | false => exact isTrue_or_nil e
  | true => exact e
theorem pw_and (ha : PT X a tA) (hb : PW X (.BoolOp .And (b :: rest) pos) tB') : PW X (.BoolOp .And (a :: b :: rest) pos) (tAnd tA tB') := by
  refine ⟨?_⟩
  intro wh pins s σ H Q I h
  refine isTrue_and (thn (ha pins s σ H _ I h) fun c s1 hzz => ?_)
  obtain ⟨H1, I1, q1⟩ := hzz
  cases c with
  | true => exact hb wh pins s1 σ H1 Q I1 q1
  | false => exact ⟨H1, I1, q1⟩
theorem pw_or (ha : PT X a tA) (hb : PW X (.BoolOp .Or (b :: rest) pos) tB') : PW X (.BoolOp .Or (a :: b :: rest) pos) (tOr tA tB') := by
  refine ⟨?_⟩
  intro wh pins s σ H Q I h
  refine isTrue_or (thn (ha pins s σ H _ I h) fun c s1 hzz => ?_)
  obtain ⟨H1, I1, q1⟩ := hzz
  cases c with
  | true => exact ⟨H1, I1, q1⟩
  | false => exact hb wh pins s1 σ H1 Q I1 q1
theorem pt_not (ha : PT X a tA) : PT X (.UnaryOp .Not a pos) (tNot tA) := by
  refine ⟨?_⟩
  intro pins s σ H Q I h
  exact isTrue_not (ha pins s σ H (fun c H1 => Q (!c) H1) I h)
noncomputable def tAndV (ta tb : TE) : TE := fun σ H Q => ta σ H fun x H1 => ∃ c, x = .bl c ∧ if c = true then tb σ H1 Q else Q (.bl false) H1
noncomputable def tOrV (ta tb : TE) : TE := fun σ H Q => ta σ H fun x H1 => ∃ c, x = .bl c ∧ if c = true then Q (.bl true) H1 else tb σ H1 Q
noncomputable def tNotV (ta : TE) : TE := fun σ H Q => ta σ H fun x H1 => ∃ c, x = .bl c ∧ Q (.bl (!c)) H1
theorem pe_one {op} {t : TE} (h : PE X a t) : PE X (.BoolOp op [a] pos) t := ⟨fun pins s σ H Q I hw => BoolOp_one (h pins s σ H Q I hw)⟩
theorem pe_and (ha : PE X a ta) (hb : PE X (.BoolOp .And (b :: rest) pos) tb) : PE X (.BoolOp .And (a :: b :: rest) pos) (tAndV ta tb) := by
  refine ⟨?_⟩
  intro pins s σ H Q I h
  refine BoolOp_and (thn (ha pins s σ H _ I h) fun v s1 hzz => ?_)
  obtain ⟨x, H1, I1, r1, q1⟩ := hzz
  obtain ⟨c, rfl, q1⟩ := q1
  cases r1
  refine wpAny_truthy_bool ?_
  cases c with
  | true => exact hb pins s1 σ H1 Q I1 q1
  | false => exact ⟨.bl false, H1, I1, rfl, q1⟩
theorem pe_or (ha : PE X a ta) (hb : PE X (.BoolOp .Or (b :: rest) pos) tb) : PE X (.BoolOp .Or (a :: b :: rest) pos) (tOrV ta tb) := by
  refine ⟨?_⟩
  intro pins s σ H Q I h
  refine BoolOp_or (thn (ha pins s σ H _ I h) fun v s1 hzz => ?_)
  obtain ⟨x, H1, I1, r1, q1⟩ := hzz
  obtain ⟨c, rfl, q1⟩ := q1
  cases r1
  refine wpAny_truthy_bool ?_
  cases c with
  | false => exact hb pins s1 σ H1 Q I1 q1
  | true => exact ⟨.bl true, H1, I1, rfl, q1⟩
theorem pe_not (ha : PE X a ta) : PE X (.UnaryOp .Not a pos) (tNotV ta) := by
  refine ⟨?_⟩
  intro pins s σ H Q I h
  refine UnaryOp_ (thn (ha pins s σ H _ I h) fun v s1 hzz => ?_)
  obtain ⟨x, H1, I1, r1, q1⟩ := hzz
  obtain ⟨c, rfl, q1⟩ := q1
  cases r1
  exact not_of (wpAny_truthy_bool ⟨.bl (!c), H1, I1, rfl, q1⟩)
noncomputable def tIf (t : TT) (ta tb : TE) : TE := fun σ H Q => t σ H fun c H1 => if c = true then ta σ H1 Q else tb σ H1 Q
theorem pe_ifExp {c : Expr} (hc : PT X c tA) (ha : PE X a ta) (hb : PE X b tb) : PE X (.IfExp c a b pos) (tIf tA ta tb) := by
  refine ⟨?_⟩
  intro pins s σ H Q I h
  refine wpAny_IfExp (thn (hc pins s σ H _ I h) fun d s1 hzz => ?_)
  obtain ⟨H1, I1, q1⟩ := hzz
  cases d with
  | true => exact ha pins s1 σ H1 Q I1 q1
  | false => exact hb pins s1 σ H1 Q I1 q1
end
end L2

namespace L2
open PySem PySem.Spec PyProof.Rows

noncomputable def SqL (K : PySem.W.Frag) (H : Hp) (a : Addr) (xs : List V) : Prop :=
  Rd H a (.lst xs) ∨
    ∃ (o : Obj) (its : Array Value) (n : Nat), K.lookup a = some o ∧ o.cls = .type "list" ∧ o.dict = none ∧ o.data = .seq its n ∧ its.size ≤ sizeLine ∧ Vals xs its.toList
noncomputable def SqT (K : PySem.W.Frag) (H : Hp) (a : Addr) (xs : List V) : Prop :=
  Rd H a (.tup xs) ∨
    ∃ (o : Obj) (its : Array Value) (n : Nat), K.lookup a = some o ∧ o.cls = .type "tuple" ∧ o.data = .seq its n ∧ its.size ≤ sizeLine ∧ Vals xs its.toList
noncomputable def absV : Value → Option V
  | .none => some .non
  | .bool b => some (.bl b)
  | .int i _ => some (.int i)
  | .str x _ => some (.str x)
  | .bytes b _ => some (.byt b)
  | .float b _ => some (.flt b)
  | .ref a => some (.ref a)
  | .type n => some (.ty n)
  | _ => none
theorem RelV.abs {x : V} {u : Value} (r : RelV x u) : absV u = some x := by
  cases x with
  | non => cases r; rfl
  | bl _ => cases r; rfl
  | int _ => obtain ⟨t, rfl⟩ := r; rfl
  | str _ => obtain ⟨t, rfl⟩ := r; rfl
  | byt _ => obtain ⟨t, rfl⟩ := r; rfl
  | flt _ => obtain ⟨t, rfl⟩ := r; rfl
  | ref _ => cases r; rfl
  | ty _ => cases r; rfl
theorem RelV.inj {x y : V} {u : Value} (r : RelV x u) (q : RelV y u) : x = y := Option.some.inj (r.abs.symm.trans q.abs)
theorem Vals.inj : ∀ {xs ys : List V} {us : List Value}, Vals xs us → Vals ys us → xs = ys
  | _, _, _, .nil, .nil => rfl
  | _, _, _, .cons r t, .cons r' t' => by rw [r.inj r', Vals.inj t t']
section
variable {X : Cx} {pins : List (Addr × Obj)} {σ : St} {H : Hp} {s : Shared} {a : Addr} {xs ys : List V}
theorem SqL.of {K : PySem.W.Frag} (h : H a = some (.lst xs)) : SqL K H a xs := .inl (.inl h)
theorem SqT.of {K : PySem.W.Frag} (h : H a = some (.tup xs)) : SqT K H a xs := .inl (.inl h)
theorem Inv.list (I : Inv X pins σ H s) (h : SqL X.K H a xs) : ∃ its : List Value, Vals xs its ∧ PlainL s.heap a its.toArray ∧ xs.length ≤ sizeLine := by
  rcases h with h | ⟨o, its, n, hk, hc, hd, hs, hz, r⟩
  · obtain ⟨z, its, n, r, e⟩ := h.ok I.hok
    exact ⟨its, r, ⟨_, n, e, rfl, rfl, rfl⟩, z⟩
  · refine ⟨its.toList, r, ⟨o, n, I.kIn a o hk, hc, hd, by simpa using hs⟩, ?_⟩
    have e := r.length
    simp only [Array.length_toList] at e
    (first | lia | omega)
theorem Inv.tuple (I : Inv X pins σ H s) (h : SqT X.K H a xs) : ∃ its : List Value, Vals xs its ∧ IsTup s.heap a its.toArray ∧ xs.length ≤ sizeLine := by
  rcases h with h | ⟨o, its, n, hk, hc, hs, hz, r⟩
  · obtain ⟨z, its, r, p⟩ := h.ok I.hok
    exact ⟨its, r, p, z⟩
  · refine ⟨its.toList, r, ⟨o, I.kIn a o hk, hc, n, by simpa using hs⟩, ?_⟩
    have e := r.length
    simp only [Array.length_toList] at e
    (first | lia | omega)
theorem Inv.list_inj (I : Inv X pins σ H s) (h : SqL X.K H a xs) (h' : SqL X.K H a ys) : xs = ys := by
  obtain ⟨its, r, ⟨o, n, e, _, _, d⟩, _⟩ := I.list h
  obtain ⟨its', r', ⟨o', n', e', _, _, d'⟩, _⟩ := I.list h'
  rw [e] at e'; cases e'
  rw [d] at d'
  injection d' with d1 _
  have : its = its' := by simpa using congrArg Array.toList d1
  subst this
  exact r.inj r'
theorem Inv.tuple_inj (I : Inv X pins σ H s) (h : SqT X.K H a xs) (h' : SqT X.K H a ys) : xs = ys := by
  obtain ⟨its, r, ⟨o, e, _, n, d⟩, _⟩ := I.tuple h
  obtain ⟨its', r', ⟨o', e', _, n', d'⟩, _⟩ := I.tuple h'
  rw [e] at e'; cases e'
  rw [d] at d'
  injection d' with d1 _
  have : its = its' := by simpa using congrArg Array.toList d1
  subst this
  exact r.inj r'
end

noncomputable abbrev Cx.wish (X : Cx) (E : Value → Shared → Prop) : Cx := { X with xe := E }
noncomputable abbrev Cx.nox (X : Cx) : Cx := X.wish fun _ _ => False
theorem Cx.Ok.wish {X : Cx} (ok : X.Ok) (E : Value → Shared → Prop) : (X.wish E).Ok :=
  ⟨ok.mod, ok.kind, ok.glob, ok.blt, ok.above, ok.inj, ok.has, ok.cab, ok.hd, ok.frames, ok.stk, ok.exf, ok.bs, ok.bsz, ok.noex, ok.exfs, ok.funs, ok.frf⟩
theorem Cx.Ok.unwish {X : Cx} {E : Value → Shared → Prop} (ok : (X.wish E).Ok) : X.Ok :=
  ⟨ok.mod, ok.kind, ok.glob, ok.blt, ok.above, ok.inj, ok.has, ok.cab, ok.hd, ok.frames, ok.stk, ok.exf, ok.bs, ok.bsz, ok.noex, ok.exfs, ok.funs, ok.frf⟩
section
variable {X : Cx} {pins : List (Addr × Obj)} {σ : St} {H : Hp} {s : Shared} {E : Value → Shared → Prop}
theorem Inv.wish (I : Inv X pins σ H s) (E : Value → Shared → Prop) : Inv (X.wish E) pins σ H s := ⟨I.ok.wish E, I.os, I.bare, I.base, I.loc, I.cell, I.free, I.freeC, I.pin, I.hok, I.len⟩
theorem Inv.unwish (I : Inv (X.wish E) pins σ H s) : Inv X pins σ H s := ⟨I.ok.unwish, I.os, I.bare, I.base, I.loc, I.cell, I.free, I.freeC, I.pin, I.hok, I.len⟩
theorem SP.unwish {D : Ends} {f : Flow} {s' : Shared} (h : SP (X.wish E) pins D f s') : SP X pins D f s' := by
  cases f with
  | next => obtain ⟨σ', H', I, q⟩ := h; exact ⟨σ', H', I.unwish, q⟩
  | brk => obtain ⟨σ', H', I, q⟩ := h; exact ⟨σ', H', I.unwish, q⟩
  | cont => obtain ⟨σ', H', I, q⟩ := h; exact ⟨σ', H', I.unwish, q⟩
  | ret u => obtain ⟨v, σ', H', I, r, q⟩ := h; exact ⟨v, σ', H', I.unwish, r, q⟩
theorem PSs.nox {st : List Stmt} {t : TS} (h : PSs X.nox st t) : PSs X st t := ⟨fun pins s σ H D I hw =>
  wpAny_mono (h pins s σ H D (I.wish _) hw) (fun _ _ q => q.unwish) fun _ _ z => False.elim z⟩
end

section
variable {X : Cx} {st : Stmt} {rest : List Stmt} {t u : TS} {e : Expr} {te : TE} {pos : Pos}
noncomputable def tNext : TS := fun D σ H => D.nx σ H
noncomputable def tSeq (t u : TS) : TS := fun D σ H => t { D with nx := u D } σ H
theorem pss_nil : PSs X [] tNext := ⟨fun _ _ σ H _ I h => wpAny_execs_nil ⟨σ, H, I, h⟩⟩
theorem pss_cons (h1 : PS X st t) (h2 : PSs X rest u) : PSs X (st :: rest) (tSeq t u) := by
  refine ⟨?_⟩
  intro pins s σ H D I h
  refine wpAny_execs_cons (thn (h1 pins s σ H { D with nx := u D } I h) fun f s1 q => ?_)
  cases f with
  | next =>
    obtain ⟨σ', H', I', q⟩ := q
    exact h2 pins s1 σ' H' D I' q
  | ret v => exact q
  | brk => exact q
  | cont => exact q
theorem pss_one (h1 : PS X st t) : PSs X [st] t := by
  refine ⟨?_⟩
  intro pins s σ H D I h
  refine wpAny_execs_cons (thn (h1 pins s σ H D I h) fun f s1 q => ?_)
  cases f with
  | next => exact wpAny_execs_nil q
  | ret v => exact q
  | brk => exact q
  | cont => exact q
noncomputable def tBreak : TS := fun D σ H => D.bk σ H
noncomputable def tCont : TS := fun D σ H => D.ct σ H
theorem Inv.quiet {pins : List (Addr × Obj)} {σ : St} {H : Hp} {s : Shared} (I : Inv X pins σ H s) : interactive X.env = false := by simp [interactive, I.ok.kind]
noncomputable def tDrop (te : TE) : TS := fun D σ H => te σ H fun _ H1 => D.nx σ H1
theorem ps_expr (he : PE X e te) (hs : swapsWith e none pos.line X.env = pure false := by rfl) : PS X (.Expr e pos) (tDrop te) := by
  refine ⟨?_⟩
  intro pins s σ H D I h
  exact wpAny_Expr_any (thn (he pins s σ H _ I h) fun v s1 ⟨x, H1, I1, r1, q1⟩ => ⟨σ, H1, I1, q1⟩) I.quiet hs
noncomputable def tRet (te : TE) : TS := fun D σ H => te σ H D.rt
theorem ps_ret (he : PE X e te) : PS X (.Return (some e) pos) (tRet te) := by
  refine ⟨?_⟩
  intro pins s σ H D I h
  exact wpAny_Return_some (thn (he pins s σ H _ I h) fun v s1 ⟨x, H1, I1, r1, q1⟩ => ⟨x, σ, H1, I1, r1, q1⟩)
noncomputable def tRetN : TS := fun D _ H => D.rt .non H
noncomputable def tIfS (c : TT) (t u : TS) : TS := fun D σ H => c σ H fun b H1 => if b = true then t D σ H1 else u D σ H1
theorem ps_if {c : Expr} {a b : List Stmt} {tc : TT} (hc : PT X c tc) (ha : PSs X a t) (hb : PSs X b u) : PS X (.If c a b pos) (tIfS tc t u) := by
  refine ⟨?_⟩
  intro pins s σ H D I h
  refine wpAny_If (thn (hc pins s σ H _ I h) fun d s1 hzz => ?_)
  obtain ⟨H1, I1, q1⟩ := hzz
  cases d with
  | true => exact ha pins s1 σ H1 D I1 q1
  | false => exact hb pins s1 σ H1 D I1 q1
noncomputable def tNever : TS := fun _ _ _ => False
theorem ps_never : PS X st tNever := ⟨fun _ _ _ _ _ _ h => h.elim⟩
end

noncomputable abbrev TG := V → St → Hp → (St → Hp → Prop) → Prop
noncomputable abbrev TGs := List V → St → Hp → (St → Hp → Prop) → Prop
structure PG (X : Cx) (target : Expr) (t : TG)  : Prop where
  go : ∀ (pins : List (Addr × Obj)) (s : Shared) (σ : St) (H : Hp) (v : V) (u : Value) (Q : St → Hp → Prop), Inv X pins σ H s → RelV v u → t v σ H Q →
    wpAny (model X.prog X.w) X.A (assign target X.env u) (fun _ s' => ∃ σ' H', Inv X pins σ' H' s' ∧ Q σ' H') X.xe s
instance {X : Cx} {target : Expr} {t : TG} : CoeFun (PG X target t) (fun _ => ∀ (pins : List (Addr × Obj)) (s : Shared) (σ : St) (H : Hp) (v : V) (u : Value) (Q : St → Hp → Prop), Inv X pins σ H s → RelV v u → t v σ H Q →
    wpAny (model X.prog X.w) X.A (assign target X.env u) (fun _ s' => ∃ σ' H', Inv X pins σ' H' s' ∧ Q σ' H') X.xe s) := ⟨PG.go⟩
structure PGs (X : Cx) (ts : List Expr) (t : TGs)  : Prop where
  go : ∀ (pins : List (Addr × Obj)) (s : Shared) (σ : St) (H : Hp) (vs : List V) (us : List Value) (Q : St → Hp → Prop), Inv X pins σ H s → Vals vs us → t vs σ H Q →
    wpAny (model X.prog X.w) X.A (assignInOrder ((assignEach ts X.env).map (·.2)) us) (fun _ s' => ∃ σ' H', Inv X pins σ' H' s' ∧ Q σ' H') X.xe s
instance {X : Cx} {ts : List Expr} {t : TGs} : CoeFun (PGs X ts t) (fun _ => ∀ (pins : List (Addr × Obj)) (s : Shared) (σ : St) (H : Hp) (vs : List V) (us : List Value) (Q : St → Hp → Prop), Inv X pins σ H s → Vals vs us → t vs σ H Q →
    wpAny (model X.prog X.w) X.A (assignInOrder ((assignEach ts X.env).map (·.2)) us) (fun _ s' => ∃ σ' H', Inv X pins σ' H' s' ∧ Q σ' H') X.xe s) := ⟨PGs.go⟩
noncomputable abbrev TSet := V → V → V → Hp → (Hp → Prop) → Prop
noncomputable def PSet (X : Cx) (t : TSet) : Prop :=
  ∀ (pins : List (Addr × Obj)) (s : Shared) (σ : St) (H : Hp) (o i v : V) (ov iv u : Value) (Q : Hp → Prop), Inv X pins σ H s → RelV o ov → RelV i iv → RelV v u → t o i v H Q →
    wpAny (model X.prog X.w) X.A (setItem ov iv u) (fun _ s' => ∃ H', Inv X pins σ H' s' ∧ Q H') X.xe s
noncomputable abbrev TIp := V → V → Hp → VK → Prop
noncomputable def PIp (X : Cx) (op : Operator) (t : TIp) : Prop :=
  ∀ (pins : List (Addr × Obj)) (s : Shared) (σ : St) (H : Hp) (x y : V) (v u : Value) (Q : VK), Inv X pins σ H s → RelV x v → RelV y u → t x y H Q →
    wpAny (model X.prog X.w) X.A (inplaceOp op v u) (EP X pins σ Q) X.xe s
section
variable {X : Cx} {pos : Pos}
noncomputable def gName (i : Nat) : TG := fun v σ H Q => Q (σ.set i (some v)) H
theorem pg_name {i : Nat} {x : Str} (hN : X.N.Nodup) (hi : X.N[i]? = some x) (hx : Loc X.env.scope x) (hf : X.fn x = true ∨ X.env.scope.names.lookup x = some .local := by first | exact .inl rfl | exact .inr rfl | assumption) : PG X (.Name x pos) (gName i) := by
  refine ⟨?_⟩
  intro pins s σ H v u Q I r h
  exact wpAny_assign_Name (store_ok I hN hi hx r (fun s' I' => ⟨_, H, I', h⟩) hf)
noncomputable def gNil : TGs := fun vs σ H Q => vs = [] ∧ Q σ H
noncomputable def gCons (t : TG) (u : TGs) : TGs := fun vs σ H Q => ∃ v r, vs = v :: r ∧ t v σ H fun σ' H' => u r σ' H' Q
theorem pgs_nil : PGs X [] gNil := by
  refine ⟨?_⟩
  intro pins s σ H vs us Q I r h
  obtain ⟨e, h⟩ := h
  subst e
  cases r
  exact assignInOrder_nil ⟨σ, H, I, h⟩
theorem pgs_cons {e : Expr} {es : List Expr} {t : TG} {u : TGs} (h1 : PG X e t) (h2 : PGs X es u)
    (hs : (assignEach (e :: es) X.env).map (·.2) = assign e X.env :: (assignEach es X.env).map (·.2) := by rfl) : PGs X (e :: es) (gCons t u) := by
  refine ⟨?_⟩
  intro pins s σ H vs us Q I r h
  obtain ⟨v, vr, e1, h⟩ := h
  subst e1
  cases r with
  | cons r rr =>
    rw [hs]
    refine assignInOrder_cons (thn (h1 pins s σ H _ _ _ I r h) fun _ s1 hzz => ?_)
    obtain ⟨σ1, H1, I1, q1⟩ := hzz
    exact h2 pins s1 σ1 H1 _ _ Q I1 rr q1
noncomputable def gTup (K : PySem.W.Frag) (n : Nat) (t : TGs) : TG := fun v σ H Q => ∃ a xs, v = .ref a ∧ SqT K H a xs ∧ xs.length = n ∧ t xs σ H Q
theorem pg_tup {es : List Expr} {k : Nat} {t : TGs} {n : Nat} (hc : X.calm = true) (h : PGs X es t)
    (hn : (assignEach es X.env).length = n := by rfl) (hst : (assignEach es X.env).findIdx? (·.1) = none := by rfl) : PG X (.Tuple es k pos) (gTup X.K n t) := by
  refine ⟨?_⟩
  intro pins s σ H v u Q I r hw
  obtain ⟨a, xs, e1, hq, hl, hw⟩ := hw
  subst e1
  cases r
  obtain ⟨its, rv, ht, hz⟩ := I.tuple hq
  refine assign_Tuple_tuple (I.ok.hd hc) ht (by simp [hn, ← hl, rv.length]) hst fun h' hx => ?_
  have I1 : Inv X pins σ H { s with heap := h' } := I.kept (t' := s.toks) fun b o e => hx b o (Nat.ne_of_lt (Heap.lt_size e)) e
  exact h pins _ σ H xs _ Q I1 (by simpa using rv) hw
noncomputable def gSub (to ti : TE) (t : TSet) : TG := fun v σ H Q => to σ H fun o H1 => ti σ H1 fun i H2 => t o i v H2 fun H3 => Q σ H3
theorem pg_sub {o i : Expr} {to ti : TE} {t : TSet} (ho : PE X o to) (hi : PE X i ti) (hs : PSet X t)
    (ha : ∀ v, assign (.Subscript o i pos) X.env v = (do
      let ov ← holding [v] (eval o X.env)
      let iv ← holding [v, ov] (eval i X.env)
      standAt pos
      holding [v, ov, iv] (setItem ov iv v)
      release [v, ov, iv] []) := by intro _; rfl) : PG X (.Subscript o i pos) (gSub to ti t) := by
  refine ⟨?_⟩
  intro pins s σ H v u Q I r h
  rw [ha]
  refine wpAny_bind (wpAny_holding (thn (ho pins s σ H _ I h) fun ov s1 hzz => ?_))
  obtain ⟨x, H1, I1, r1, q1⟩ := hzz
  refine wpAny_bind (wpAny_holding (thn (hi pins s1 σ H1 _ I1 q1) fun iv s2 hzz => ?_))
  obtain ⟨y, H2, I2, r2, q2⟩ := hzz
  refine wpAny_bind (wpAny_standAt (wpAny_bind (wpAny_holding (thn (hs pins s2 σ H2 x y v ov iv u _ I2 r1 r2 r q2) fun _ s3 hzz => ?_))))
  obtain ⟨H3, I3, q3⟩ := hzz
  exact wpAny_release ⟨σ, H3, I3, q3⟩
noncomputable def tAsg (te : TE) (g : TG) : TS := fun D σ H => te σ H fun x H1 => g x σ H1 D.nx
theorem ps_asg {tg e : Expr} {te : TE} {g : TG} (he : PE X e te) (hg : PG X tg g) (hs : swapsWithSole [tg] e pos.line X.env = pure false := by rfl) (hw : swappedStores [tg] e X.env = pure none := by rfl)
    (h1 : (assignEach [tg] X.env).map (·.2) = [assign tg X.env] := by rfl) : PS X (.Assign [tg] e pos) (tAsg te g) := by
  refine ⟨?_⟩
  intro pins s σ H D I h
  refine wpAny_Assign_stores (thn (he pins s σ H _ I h) fun v s1 ⟨x, H1, I1, r1, q1⟩ => ?_) hs hw
  rw [h1]
  exact thn (hg pins s1 σ H1 x v _ I1 r1 q1) fun _ s2 q => q
theorem ps_set {i : Nat} {x : Str} {e : Expr} {te : TE} {pos' : Pos} (hN : X.N.Nodup) (hi : X.N[i]? = some x) (hx : Loc X.env.scope x) (he : PE X e te) (hs : swapsWith e (some (.Name x pos')) pos.line X.env = pure false := by rfl) (hf : X.fn x = true ∨ X.env.scope.names.lookup x = some .local := by first | exact .inl rfl | exact .inr rfl | assumption) :
    PS X (.Assign [.Name x pos'] e pos) (tAsg te (gName i)) := by
  refine ⟨?_⟩
  intro pins s σ H D I h
  refine wpAny_Assign_Name (thn (he pins s σ H _ I h) fun v s1 ⟨y, H1, I1, r1, q1⟩ => ?_) hs
  exact store_ok I1 hN hi hx r1 (fun s2 I2 => ⟨_, H1, I2, q1⟩) hf
noncomputable def tPar (i j : Nat) (ta : TA) : TS := fun D σ H => ta σ H fun vs H1 => ∃ v w, vs = [v, w] ∧ D.nx ((σ.set i (some v)).set j (some w)) H1
noncomputable def tAug (i : Nat) (te : TE) (ti : TIp) : TS := fun D σ H => ∃ x, σ[i]? = some (some x) ∧ te σ H fun y H1 => ti x y H1 fun z H2 => D.nx (σ.set i (some z)) H2
noncomputable def tAugS (to ti te : TE) (tget : V → V → Hp → VK → Prop) (tip : TIp) (tset : TSet) : TS := fun D σ H => to σ H fun o H1 => ti σ H1 fun i H2 => tget o i H2 fun x H3 => te σ H3 fun y H4 => tip x y H4 fun z H5 => tset o i z H5 fun H6 => D.nx σ H6
noncomputable def PGet (X : Cx) (t : V → V → Hp → VK → Prop) : Prop :=
  ∀ (pins : List (Addr × Obj)) (s : Shared) (σ : St) (H : Hp) (o i : V) (ov iv : Value) (Q : VK), Inv X pins σ H s → RelV o ov → RelV i iv → t o i H Q →
    wpAny (model X.prog X.w) X.A (getItem ov iv) (EP X pins σ Q) X.xe s
noncomputable def ipI (f : Int → Int → Int) : TIp := fun x y H Q => ∃ i j, x = .int i ∧ y = .int j ∧ Q (.int (f i j)) H
end

section
variable {X : Cx} {pos : Pos}
noncomputable def tWhile (c : TT) (tb : TS) : TS := fun D σ H => ∃ W : Nat → St → Hp → Prop, (∃ m, W m σ H) ∧ ∀ m σ H, W m σ H →
  c σ H fun b H1 => if b = true then ∃ N : St → Hp → Prop, (∀ σ' H', N σ' H' → ∃ m', m' < m ∧ W m' σ' H') ∧ tb { D with nx := N, ct := N, bk := D.nx } σ H1 else D.nx σ H1
end

structure It where
  go : Nat → Hp → Prop
  yld : Nat → Hp → V → Hp → Prop
  stop : Nat → Hp → Prop
noncomputable def FpOk (X : Cx) (pins : List (Addr × Obj)) (H : Hp) (b : Addr) : Prop :=
  H b = none ∧ b ≠ X.env.locals ∧ b ∉ X.fs ∧ (b ∈ X.ex ∨ X.s₀.heap.objs.size ≤ b) ∧ (∀ x c, X.env.cells.lookup x = some c → c ≠ b) ∧ ∀ p ∈ X.pn ++ pins, p.1 ≠ b
theorem Inv.fpOk {X : Cx} {pins : List (Addr × Obj)} {σ : St} {H H' : Hp} {s : Shared} {b : Addr} (I : Inv X pins σ H s) (hb : s.heap.objs.size ≤ b) (hn : H' b = none) : FpOk X pins H' b := by
  refine ⟨hn, Nat.ne_of_gt (Nat.lt_of_lt_of_le I.lt hb), I.nofs hb, .inr (Nat.le_trans I.sz hb), fun x c e z => ?_, fun p hp z => ?_⟩
  · obtain ⟨v, q⟩ := I.cell x c e
    exact absurd (Nat.lt_of_lt_of_le q.lt (by rw [z]; exact hb)) (Nat.lt_irrefl _)
  · exact absurd (Nat.lt_of_lt_of_le (Heap.lt_size (I.pin p hp).1) (by rw [z]; exact hb)) (Nat.lt_irrefl _)
structure Turn (P : Program) (w : World) (K : PySem.W.Frag) (tg : Expr) (J : It) (fp : List Addr) (it : Addr) (tn : Nat → Heap → Prop) : Prop where
  mem : it ∈ fp
  obj : ∀ i h, tn i h → ∀ b ∈ fp, ∃ o, h.get? b = some o ∧ ∀ v, o.data ≠ .cell v
  keep : ∀ i h h', tn i h → (∀ b ∈ fp, ∀ o, h.get? b = some o → h'.get? b = some o) → tn i h'
  item : ∀ (X : Cx), X.prog = P → X.w = w → X.K = K → X.calm = true → ∀ (i : Nat) (pins : List (Addr × Obj)) (s : Shared) (σ : St) (H : Hp) (E : Value → Shared → Prop), Inv X pins σ H s → (∀ b ∈ fp, FpOk X pins H b) → tn i s.heap → J.go i H →
    wpAny (model P w) X.A (pyNext (.ref it)) (fun r s1 => ∃ u, r = some u ∧
      wpAny (model P w) X.A (letOwnedTupleGo tg (.ref it) u) (fun _ s2 => ∃ x H', Inv X pins σ H' s2 ∧ RelV x u ∧ J.yld i H x H' ∧ tn (i + 1) s2.heap ∧ ∀ b ∈ fp, H' b = none) E s1) E s
  done : ∀ (X : Cx), X.prog = P → X.w = w → X.K = K → X.calm = true → ∀ (i : Nat) (pins : List (Addr × Obj)) (s : Shared) (σ : St) (H : Hp) (E : Value → Shared → Prop), Inv X pins σ H s → (∀ b ∈ fp, FpOk X pins H b) → tn i s.heap → J.stop i H →
    wpAny (model P w) X.A (pyNext (.ref it)) (fun r s1 => r = none ∧ Inv X pins σ H s1) E s
  self : ∀ (A : Around) (i : Nat) (s : Shared) (Q : Value → Shared → Prop) (E : Value → Shared → Prop), tn i s.heap → Q (.ref it) s → wpAny (model P w) A (pyIter (.ref it)) Q E s
noncomputable abbrev TI := St → Hp → (It → Hp → Prop) → Prop
noncomputable def PIE (X : Cx) (pins : List (Addr × Obj)) (σ : St) (tg : Expr) (R : It → Hp → Prop) (itv : Value) (s2 : Shared) : Prop :=
  ∃ (it : Addr) (fp : List Addr) (tn : Nat → Heap → Prop) (J : It) (H' : Hp), itv = .ref it ∧ Inv X pins σ H' s2 ∧ Turn X.prog X.w X.K tg J fp it tn ∧ tn 0 s2.heap ∧ (∀ b ∈ fp, FpOk X pins H' b) ∧ R J H'
structure PI (X : Cx) (tg iter : Expr) (wi : TI)  : Prop where
  go : ∀ (pins : List (Addr × Obj)) (s : Shared) (σ : St) (H : Hp) (R : It → Hp → Prop), Inv X pins σ H s → wi σ H R →
    wpAny (model X.prog X.w) X.A (eval iter X.env) (fun v s1 => wpAny (model X.prog X.w) X.A (pyIter v) (PIE X pins σ tg R) X.xe s1) X.xe s
instance {X : Cx} {tg iter : Expr} {wi : TI} : CoeFun (PI X tg iter wi) (fun _ => ∀ (pins : List (Addr × Obj)) (s : Shared) (σ : St) (H : Hp) (R : It → Hp → Prop), Inv X pins σ H s → wi σ H R →
    wpAny (model X.prog X.w) X.A (eval iter X.env) (fun v s1 => wpAny (model X.prog X.w) X.A (pyIter v) (PIE X pins σ tg R) X.xe s1) X.xe s) := ⟨PI.go⟩

theorem go_of {M : Model} {A : Around} {E : Value → Shared → Prop} {s : Shared} {tg : Expr} {it : Addr} {u : Value} {o : Obj} {n : String} {vs : Array Value} {Q : Unit → Shared → Prop} (ho : s.heap.get? it = some o) (hc : o.cls = .type n) (hd : o.data = .fields vs)
    (hn : ["enumerate", "zip", "dict_itemiterator", "dict_reverseitemiterator", "odict_iterator", "itertools.zip_longest", "itertools.pairwise"].contains n = false) (hQ : Q () s) : wpAny M A (letOwnedTupleGo tg (.ref it) u) Q E s := by
  unfold letOwnedTupleGo
  cases tg <;> first
    | exact wpAny_pure hQ
    | (cases u <;> first
        | exact wpAny_pure hQ
        | (refine wpAny_bind (wpAny_load ho ?_)
           rw [hc, hd]
           show wpAny M A (if (["enumerate", "zip", "dict_itemiterator", "dict_reverseitemiterator", "odict_iterator", "itertools.zip_longest", "itertools.pairwise"].contains n && vs[0]? == some (rawInt _)) = true then _ else _) Q E s
           rw [if_neg (by intro h; rw [hn, Bool.false_and] at h; cases h)]
           exact wpAny_pure hQ))

noncomputable def Itl (K : PySem.W.Frag) (a : Addr) : It :=
  ⟨fun i H => ∃ xs x, SqL K H a xs ∧ xs[i]? = some x, fun i H x H' => H' = H ∧ ∀ xs, SqL K H a xs → xs[i]? = some x, fun i H => ∃ xs, SqL K H a xs ∧ xs.length ≤ i⟩
noncomputable def Itt (K : PySem.W.Frag) (a : Addr) : It :=
  ⟨fun i H => ∃ xs x, SqT K H a xs ∧ xs[i]? = some x, fun i H x H' => H' = H ∧ ∀ xs, SqT K H a xs → xs[i]? = some x, fun i H => ∃ xs, SqT K H a xs ∧ xs.length ≤ i⟩
noncomputable def Itr (lo : Int) (n : Nat) : It := ⟨fun i _ => i < n, fun i H x H' => H' = H ∧ x = .int (lo + i), fun i _ => n ≤ i⟩
theorem turn_list {P : Program} {w : World} {K : PySem.W.Frag} {tg : Expr} (a it : Addr) : Turn P w K tg (Itl K a) [it] it (fun i h => h.IsListIter it a i) where
  mem := by simp
  obj := fun i h st b hb => by
    have e : b = it := by simpa using hb
    subst e
    obtain ⟨o, e, c, d⟩ := st
    exact ⟨o, e, fun v z => by rw [d] at z; cases z⟩
  keep := fun i h h' st k => st.at fun o e => k it (by simp) o e
  item := by
    intro X hP hw hK hc i pins s σ H E I hf st hg
    subst hP hw hK
    obtain ⟨xs, x, hq, hx⟩ := hg
    obtain ⟨its, rv, p, hz⟩ := I.list hq
    obtain ⟨u, hu, ru⟩ := rv.get hx
    obtain ⟨f0, f1, f2, f3, f4, f5⟩ := hf it (by simp)
    refine wpAny_pyNext_list_item st p.isList (x := u) (by simpa using hu) fun h' st' sb => ?_
    have I1 : Inv X pins σ H { s with heap := h' } := I.turned (t' := s.toks) (fun b o hb e => (sb.2 b hb).trans e) f0 f1 f3 f4 f5
    obtain ⟨o, e, c, d⟩ := id st'
    exact ⟨u, rfl, go_of (s := { s with heap := h' }) e c d (by decide) ⟨x, H, I1, ru, ⟨rfl, fun ys hy => by rw [I.list_inj hy hq]; exact hx⟩, st', fun b hb => (hf b hb).1⟩⟩
  done := by
    intro X hP hw hK hc i pins s σ H E I hf st hg
    subst hP hw hK
    obtain ⟨xs, hq, hx⟩ := hg
    obtain ⟨its, rv, p, hz⟩ := I.list hq
    obtain ⟨f0, f1, f2, f3, f4, f5⟩ := hf it (by simp)
    have hl := rv.length
    exact wpAny_pyNext_list_end (I.ok.hd hc) st p.isList (by simp; (first | lia | omega)) fun h' eb => ⟨rfl, I.turned (t' := s.toks) (fun b o hb e => eb b o hb e) f0 f1 f3 f4 f5⟩
  self := fun _ _ _ _ _ st h => wpAny_pyIter_listiter st h
theorem turn_tuple {P : Program} {w : World} {K : PySem.W.Frag} {tg : Expr} (a it : Addr) : Turn P w K tg (Itt K a) [it] it (fun i h => h.IsTupleIter it a i) where
  mem := by simp
  obj := fun i h st b hb => by
    have e : b = it := by simpa using hb
    subst e
    obtain ⟨o, e, c, d⟩ := st
    exact ⟨o, e, fun v z => by rw [d] at z; cases z⟩
  keep := fun i h h' st k => st.at fun o e => k it (by simp) o e
  item := by
    intro X hP hw hK hc i pins s σ H E I hf st hg
    subst hP hw hK
    obtain ⟨xs, x, hq, hx⟩ := hg
    obtain ⟨its, rv, p, hz⟩ := I.tuple hq
    obtain ⟨u, hu, ru⟩ := rv.get hx
    obtain ⟨f0, f1, f2, f3, f4, f5⟩ := hf it (by simp)
    refine wpAny_pyNext_tuple_item st (show s.heap.IsTuple a its.toArray from p) (x := u) (by simpa using hu) fun h' st' sb => ?_
    have I1 : Inv X pins σ H { s with heap := h' } := I.turned (t' := s.toks) (fun b o hb e => (sb.2 b hb).trans e) f0 f1 f3 f4 f5
    obtain ⟨o, e, c, d⟩ := id st'
    exact ⟨u, rfl, go_of (s := { s with heap := h' }) e c d (by decide) ⟨x, H, I1, ru, ⟨rfl, fun ys hy => by rw [I.tuple_inj hy hq]; exact hx⟩, st', fun b hb => (hf b hb).1⟩⟩
  done := by
    intro X hP hw hK hc i pins s σ H E I hf st hg
    subst hP hw hK
    obtain ⟨xs, hq, hx⟩ := hg
    obtain ⟨its, rv, p, hz⟩ := I.tuple hq
    obtain ⟨f0, f1, f2, f3, f4, f5⟩ := hf it (by simp)
    have hl := rv.length
    exact wpAny_pyNext_tuple_end (I.ok.hd hc) st (show s.heap.IsTuple a its.toArray from p) (by simp; (first | lia | omega)) fun h' eb => ⟨rfl, I.turned (t' := s.toks) (fun b o hb e => eb b o hb e) f0 f1 f3 f4 f5⟩
  self := fun _ _ _ _ _ st h => wpAny_pyIter_tupleiter st h
theorem turn_range {P : Program} {w : World} {K : PySem.W.Frag} {tg : Expr} (it : Addr) (lo : Int) (n : Nat) : Turn P w K tg (Itr lo n) [it] it (fun i h => IsRangeIter h it (lo + (i : Nat) * 1) ((n : Int) - (i : Nat)) 1) where
  mem := by simp
  obj := fun i h st b hb => by
    have e : b = it := by simpa using hb
    subst e
    exact ⟨_, st, fun v z => by
      have z' : Data.fields _ = Data.cell v := z
      cases z'⟩
  keep := fun i h h' st k => k it (by simp) _ st
  item := by
    intro X hP hw hK hc i pins s σ H E I hf st hg
    subst hP hw hK
    obtain ⟨f0, f1, f2, f3, f4, f5⟩ := hf it (by simp)
    have W := Walks.range (prog := X.prog) (w := X.w) (I.ok.hd hc) it lo 1 n
    refine W.item i s _ _ hg st fun v h' tk hv st' kk => ?_
    obtain ⟨t, rfl⟩ := hv
    have I1 : Inv X pins σ H { s with heap := h', toks := tk } := I.turned (fun b o hb e => kk b o (by simpa using hb) e) f0 f1 f3 f4 f5
    refine ⟨_, rfl, go_of (s := { s with heap := h', toks := tk }) (n := "range_iterator") st' rfl rfl (by decide) ⟨.int (lo + i), H, I1, ⟨t, ?_⟩, ⟨rfl, rfl⟩, st', fun b hb => (hf b hb).1⟩⟩
    rw [Int.mul_one]
  done := by
    intro X hP hw hK hc i pins s σ H E I hf st hg
    subst hP hw hK
    obtain ⟨f0, f1, f2, f3, f4, f5⟩ := hf it (by simp)
    exact wpAny_pyNext_range_end (I.ok.hd hc) st (by have : n ≤ i := hg; (first | lia | omega)) fun h' eb => ⟨rfl, I.turned (t' := s.toks) (fun b o hb e => eb b o hb e) f0 f1 f3 f4 f5⟩
  self := fun _ _ _ _ _ st h => wpAny_pyIter_rangeiter st h
end L2

namespace L2
open PySem PySem.Spec PyProof.Rows
section
variable {X : Cx} {tg : Expr}
noncomputable def iList (K : PySem.W.Frag) (tl : TE) : TI := fun σ H R => tl σ H fun x H1 => ∃ a, x = .ref a ∧ (∃ xs, SqL K H1 a xs) ∧ R (Itl K a) H1
noncomputable def iTup (K : PySem.W.Frag) (tl : TE) : TI := fun σ H R => tl σ H fun x H1 => ∃ a, x = .ref a ∧ (∃ xs, SqT K H1 a xs) ∧ R (Itt K a) H1
theorem pi_list {l : Expr} {tl : TE} (hl : PE X l tl) : PI X tg l (iList X.K tl) := by
  refine ⟨?_⟩
  intro pins s σ H R I h
  refine thn (hl pins s σ H _ I h) fun v s1 hzz => ?_
  obtain ⟨x, H1, I1, r1, q1⟩ := hzz
  obtain ⟨a, e, ⟨xs, hq⟩, q⟩ := q1
  subst e
  cases r1
  obtain ⟨its, rv, p, hz⟩ := I1.list hq
  refine wpAny_pyIter_list p.isList ?_
  refine ⟨s1.heap.objs.size, [s1.heap.objs.size], _, _, H1, rfl, I1.kept (t' := s1.toks) fun b o e => Heap.get?_push_of_some _ e, turn_list a _, ⟨_, Heap.get?_push_size _ rfl, rfl, rfl⟩, fun b hb => ?_, q⟩
  have e : b = s1.heap.objs.size := by simpa using hb
  subst e
  exact I1.fpOk (Nat.le_refl _) (I1.hok.fresh (Nat.le_refl _))
theorem range_it {pins : List (Addr × Obj)} {σ : St} {H : Hp} {s : Shared} {R : It → Hp → Prop} {E : Value → Shared → Prop} {lo hi : Int} {t u v : Tok} {tk : Nat} (I : Inv X pins σ H s) (h1 : -(2 ^ 62) ≤ lo) (h2 : lo < 2 ^ 62) (h3 : -(2 ^ 62) ≤ hi) (h4 : hi < 2 ^ 62)
    (q : R (Itr lo (hi - lo).toNat) H) : wpAny (model X.prog X.w) X.A (pyIter (.ref s.heap.objs.size)) (PIE X pins σ tg R) E { s with heap := s.heap.push { cls := .type "range", data := .fields #[.int lo t, .int hi u, .int 1 v] }, toks := tk } := by
  refine wpAny_pyIter_range (IsRange.new ..) (small_one h1 h2 h3 h4) ?_
  have I1 : Inv X pins σ H { s with heap := s.heap.push { cls := .type "range", data := .fields #[.int lo t, .int hi u, .int 1 v] }, toks := tk } := I.kept fun b o e => Heap.get?_push_of_some _ e
  refine ⟨(s.heap.push { cls := .type "range", data := .fields #[.int lo t, .int hi u, .int 1 v] }).objs.size, [(s.heap.push { cls := .type "range", data := .fields #[.int lo t, .int hi u, .int 1 v] }).objs.size], _, _, H, rfl,
    I1.kept (t' := tk) fun b o e => Heap.get?_push_of_some _ e, turn_range _ lo (hi - lo).toNat, ?_, fun b hb => ?_, q⟩
  · have e1 : lo + ((0 : Nat) : Int) * 1 = lo := by simp
    have e2 : (((hi - lo).toNat : Nat) : Int) - ((0 : Nat) : Int) = Builtin.Range.rangeSize lo hi 1 := by rw [rangeSize_one]; split <;> (first | lia | omega)
    show IsRangeIter _ _ (lo + ((0 : Nat) : Int) * 1) ((((hi - lo).toNat : Nat) : Int) - ((0 : Nat) : Int)) 1
    rw [e1, e2]
    exact Heap.get?_push_size _ rfl
  · have e : b = (s.heap.push { cls := .type "range", data := .fields #[.int lo t, .int hi u, .int 1 v] }).objs.size := by simpa using hb
    subst e
    exact I1.fpOk (Nat.le_refl _) (I1.hok.fresh (Nat.le_refl _))
noncomputable def iRng1 (ta : TA) : TI := fun σ H R => ta σ H fun vs H1 => ∃ j : Int, vs = [.int j] ∧ -(2 ^ 62) ≤ j ∧ j < 2 ^ 62 ∧ R (Itr 0 j.toNat) H1
noncomputable def iRng2 (ta : TA) : TI := fun σ H R => ta σ H fun vs H1 => ∃ i j : Int, vs = [.int i, .int j] ∧ (-(2 ^ 62) ≤ i ∧ i < 2 ^ 62 ∧ -(2 ^ 62) ≤ j ∧ j < 2 ^ 62) ∧ R (Itr i (j - i).toNat) H1
theorem pi_range1 {a : Expr} {ta : TA} {p pos : Pos} (hg : Gl X "range") (hm : X.mg "range" = none) (ha : PA X [a] ta) (hs : starEach [a] X.env = [(false, eval a X.env)] := by rfl) : PI X tg (.Call (.Name "range" p) [a] [] pos) (iRng1 ta) := by
  refine ⟨?_⟩
  intro pins s σ H R I h
  refine Call_ (ld_blt I hg hm boot_range (PyProof.Rows.callWith_type1 (thn (ha pos pins s σ H _ I h) fun us s1 ⟨vs, H1, I1, r1, q1⟩ => ?_) hs rfl))
  obtain ⟨j, e, q1, q2, q⟩ := q1
  subst e
  cases r1 with
  | cons r rr =>
    cases rr
    obtain ⟨t, rfl⟩ := r
    exact call_range_1 (range_it I1 (by (first | lia | omega)) (by (first | lia | omega)) q1 q2 (by simpa using q))
noncomputable def tFor (wi : TI) (g : TG) (tb : TS) : TS := fun D σ H => wi σ H fun J H1 => ∃ W : Nat → Nat → St → Hp → Prop, (∃ m, W 0 m σ H1) ∧ ∀ i m σ H, W i m σ H →
  (J.stop i H ∧ D.nx σ H) ∨ (J.go i H ∧ ∃ N : St → Hp → Prop, (∀ σ' H', N σ' H' → ∃ m', m' < m ∧ W (i + 1) m' σ' H') ∧ ∀ x H', J.yld i H x H' → g x σ H' fun σ2 H2 => tb { D with nx := N, ct := N, bk := D.nx } σ2 H2)
noncomputable def pinsAt (fp : List Addr) (h : Heap) : List (Addr × Obj) := fp.filterMap fun b => (h.get? b).map fun o => (b, o)
theorem mem_pinsAt {fp : List Addr} {h : Heap} {b : Addr} {o : Obj} (hb : b ∈ fp) (e : h.get? b = some o) : (b, o) ∈ pinsAt fp h := List.mem_filterMap.mpr ⟨b, hb, by rw [e]; rfl⟩
theorem of_pinsAt {fp : List Addr} {h : Heap} {p : Addr × Obj} (hp : p ∈ pinsAt fp h) : p.1 ∈ fp ∧ h.get? p.1 = some p.2 := by
  obtain ⟨b, hb, e⟩ := List.mem_filterMap.mp hp
  cases q : h.get? b with
  | none => rw [q] at e; cases e
  | some o =>
    rw [q] at e
    have e' : (b, o) = p := Option.some.inj e
    subst e'
    exact ⟨hb, q⟩
theorem Inv.pinned {pins : List (Addr × Obj)} {σ : St} {H : Hp} {s : Shared} {fp : List Addr} (I : Inv X pins σ H s) (hf : ∀ b ∈ fp, FpOk X pins H b) (ho : ∀ b ∈ fp, ∃ o, s.heap.get? b = some o ∧ ∀ v, o.data ≠ .cell v) : Inv X (pins ++ pinsAt fp s.heap) σ H s :=
  I.pins_of fun p hp => (List.mem_append.mp hp).elim (fun z => I.pin p (List.mem_append_right _ z)) fun z => by
    obtain ⟨hb, e⟩ := of_pinsAt z
    obtain ⟨f0, f1, f2, _⟩ := hf p.1 hb
    obtain ⟨o, e', d⟩ := ho p.1 hb
    rw [e] at e'; cases e'
    exact ⟨e, f0, f1, f2, d⟩
theorem Inv.unpinned {pins pl : List (Addr × Obj)} {σ : St} {H : Hp} {s : Shared} (I : Inv X (pins ++ pl) σ H s) : Inv X pins σ H s := I.pins_of fun p hp => I.pin p (List.mem_append_right _ (List.mem_append_left _ hp))
theorem ps_for {iter : Expr} {body : List Stmt} {wi : TI} {g : TG} {tb : TS} {pos : Pos} (hp : PassesOwn (model X.prog X.w) X.A X.env X.xe) (hc : X.calm = true) (hi : PI X tg iter wi) (hg : PG X tg g) (hb : PSs X body tb)
    (hs : ∀ x, foldedSetIterable iter X.env x = pure x := by intro _; rfl) : PS X (.For tg iter body [] pos) (tFor wi g tb) := by
  refine ⟨?_⟩
  intro pins s σ H D I h
  refine wpAny_For (thn (hi pins s σ H _ I h) fun v s1 h1 => thn h1 fun itv s2 h2 => ?_) hs
  obtain ⟨it, fp, tn, J, H2, e, I2, T, st2, f2, W, ⟨m0, w0⟩, turn⟩ := h2
  subst e
  have stat : ∀ {H' : Hp}, (∀ b ∈ fp, H' b = none) → ∀ b ∈ fp, FpOk X pins H' b := fun hn b hb => ⟨hn b hb, (f2 b hb).2⟩
  refine codeAny_forLoop_any (fun n s' => ∃ i σ' H', Inv X pins σ' H' s' ∧ tn i s'.heap ∧ (∀ b ∈ fp, H' b = none) ∧ W i n σ' H') ?_ m0 ⟨0, σ, H2, I2, st2, fun b hb => (f2 b hb).1, w0⟩
  rintro n s3 ⟨i, σ3, H3, I3, st3, fr3, w3⟩
  rcases turn i n σ3 H3 w3 with ⟨stop, qn⟩ | ⟨go, N, hN, step⟩
  · refine wpAny_passesOwn hp (thn (T.done X rfl rfl rfl hc i pins s3 σ3 H3 X.xe I3 (stat fr3) st3 stop) fun r s4 hzz => ?_)
    obtain ⟨hr, I4⟩ := hzz
    subst hr
    exact wpAny_execs_nil ⟨σ3, H3, I4, qn⟩
  · refine wpAny_passesOwn hp (thn (T.item X rfl rfl rfl hc i pins s3 σ3 H3 X.xe I3 (stat fr3) st3 go) fun r s4 hzz => ?_)
    obtain ⟨u, hr, h4⟩ := hzz
    subst hr
    refine wpAny_passesOwn hp (thn h4 fun _ s5 hzz => ?_)
    obtain ⟨x, H5, I5, r5, y5, st5, fr5⟩ := hzz
    have I5' := I5.pinned (stat fr5) (T.obj _ _ st5)
    refine wpAny_passesOwn hp (thn (hg _ s5 σ3 H5 x u _ I5' r5 (step x H5 y5)) fun _ s6 hzz => ?_)
    obtain ⟨σ6, H6, I6, q6⟩ := hzz
    refine wpAny_passesOwn hp (thn (hb _ s6 σ6 H6 _ I6 q6) fun f s7 q7 => ?_)
    have again : ∀ {σ7 : St} {H7 : Hp}, Inv X (pins ++ pinsAt fp s5.heap) σ7 H7 s7 → N σ7 H7 → ∃ m, m < n ∧ ∃ i σ' H', Inv X pins σ' H' s7 ∧ tn i s7.heap ∧ (∀ b ∈ fp, H' b = none) ∧ W i m σ' H' := fun {σ7 H7} I7 n7 => by
      obtain ⟨m', hm, w7⟩ := hN σ7 H7 n7
      refine ⟨m', hm, i + 1, σ7, H7, I7.unpinned, T.keep _ _ _ st5 fun b hb o e => (I7.pin (b, o) (List.mem_append_right _ (List.mem_append_right _ (mem_pinsAt hb e)))).1, fun b hb => ?_, w7⟩
      obtain ⟨o, e, d⟩ := T.obj _ _ st5 b hb
      exact (I7.pin (b, o) (List.mem_append_right _ (List.mem_append_right _ (mem_pinsAt hb e)))).2.1
    cases f with
    | next => obtain ⟨σ7, H7, I7, n7⟩ := q7; exact again I7 n7
    | cont => obtain ⟨σ7, H7, I7, n7⟩ := q7; exact again I7 n7
    | brk => obtain ⟨σ7, H7, I7, q7⟩ := q7; exact ⟨σ7, H7, I7.unpinned, q7⟩
    | ret v => obtain ⟨x7, σ7, H7, I7, r7, q7⟩ := q7; exact ⟨x7, σ7, H7, I7.unpinned, r7, q7⟩
end

theorem for_list {K : PySem.W.Frag} {a : Addr} {xs : List V} {g : TG} {tb : TS} {D : Ends} {σ : St} {H : Hp} (Pv : Nat → St → Hp → Prop) (h0 : Pv 0 σ H) (hl : ∀ i σ H, i ≤ xs.length → Pv i σ H → SqL K H a xs)
    (hs : ∀ i x σ H, xs[i]? = some x → Pv i σ H → g x σ H fun σ2 H2 => tb { D with nx := Pv (i + 1), ct := Pv (i + 1), bk := D.nx } σ2 H2) (hd : ∀ σ H, Pv xs.length σ H → D.nx σ H) :
    ∃ W : Nat → Nat → St → Hp → Prop, (∃ m, W 0 m σ H) ∧ ∀ i m σ H, W i m σ H →
      ((Itl K a).stop i H ∧ D.nx σ H) ∨ ((Itl K a).go i H ∧ ∃ N : St → Hp → Prop, (∀ σ' H', N σ' H' → ∃ m', m' < m ∧ W (i + 1) m' σ' H') ∧ ∀ x H', (Itl K a).yld i H x H' → g x σ H' fun σ2 H2 => tb { D with nx := N, ct := N, bk := D.nx } σ2 H2) := by
  refine ⟨fun i m σ H => m = xs.length - i ∧ i ≤ xs.length ∧ Pv i σ H, ⟨xs.length, by simp, Nat.zero_le _, h0⟩, ?_⟩
  rintro i m σ H ⟨rfl, hi, p⟩
  have q := hl i σ H hi p
  by_cases hlt : i < xs.length
  · refine .inr ⟨⟨xs, xs[i], q, by simp [hlt]⟩, Pv (i + 1), fun σ' H' p' => ⟨xs.length - (i + 1), by (first | lia | omega), rfl, hlt, p'⟩, fun x H' y => ?_⟩
    obtain ⟨e, y⟩ := y
    subst e
    exact hs i x σ _ (y xs q) p
  · have e : i = xs.length := by (first | lia | omega)
    subst e
    exact .inl ⟨⟨xs, q, Nat.le_refl _⟩, hd σ H p⟩
theorem for_tup {K : PySem.W.Frag} {a : Addr} {xs : List V} {g : TG} {tb : TS} {D : Ends} {σ : St} {H : Hp} (Pv : Nat → St → Hp → Prop) (h0 : Pv 0 σ H) (hl : ∀ i σ H, i ≤ xs.length → Pv i σ H → SqT K H a xs)
    (hs : ∀ i x σ H, xs[i]? = some x → Pv i σ H → g x σ H fun σ2 H2 => tb { D with nx := Pv (i + 1), ct := Pv (i + 1), bk := D.nx } σ2 H2) (hd : ∀ σ H, Pv xs.length σ H → D.nx σ H) :
    ∃ W : Nat → Nat → St → Hp → Prop, (∃ m, W 0 m σ H) ∧ ∀ i m σ H, W i m σ H →
      ((Itt K a).stop i H ∧ D.nx σ H) ∨ ((Itt K a).go i H ∧ ∃ N : St → Hp → Prop, (∀ σ' H', N σ' H' → ∃ m', m' < m ∧ W (i + 1) m' σ' H') ∧ ∀ x H', (Itt K a).yld i H x H' → g x σ H' fun σ2 H2 => tb { D with nx := N, ct := N, bk := D.nx } σ2 H2) := by
  refine ⟨fun i m σ H => m = xs.length - i ∧ i ≤ xs.length ∧ Pv i σ H, ⟨xs.length, by simp, Nat.zero_le _, h0⟩, ?_⟩
  rintro i m σ H ⟨rfl, hi, p⟩
  have q := hl i σ H hi p
  by_cases hlt : i < xs.length
  · refine .inr ⟨⟨xs, xs[i], q, by simp [hlt]⟩, Pv (i + 1), fun σ' H' p' => ⟨xs.length - (i + 1), by (first | lia | omega), rfl, hlt, p'⟩, fun x H' y => ?_⟩
    obtain ⟨e, y⟩ := y
    subst e
    exact hs i x σ _ (y xs q) p
  · have e : i = xs.length := by (first | lia | omega)
    subst e
    exact .inl ⟨⟨xs, q, Nat.le_refl _⟩, hd σ H p⟩
theorem for_range {lo : Int} {n : Nat} {g : TG} {tb : TS} {D : Ends} {σ : St} {H : Hp} (Pv : Nat → St → Hp → Prop) (h0 : Pv 0 σ H)
    (hs : ∀ i σ H, i < n → Pv i σ H → g (.int (lo + i)) σ H fun σ2 H2 => tb { D with nx := Pv (i + 1), ct := Pv (i + 1), bk := D.nx } σ2 H2) (hd : ∀ σ H, Pv n σ H → D.nx σ H) :
    ∃ W : Nat → Nat → St → Hp → Prop, (∃ m, W 0 m σ H) ∧ ∀ i m σ H, W i m σ H →
      ((Itr lo n).stop i H ∧ D.nx σ H) ∨ ((Itr lo n).go i H ∧ ∃ N : St → Hp → Prop, (∀ σ' H', N σ' H' → ∃ m', m' < m ∧ W (i + 1) m' σ' H') ∧ ∀ x H', (Itr lo n).yld i H x H' → g x σ H' fun σ2 H2 => tb { D with nx := N, ct := N, bk := D.nx } σ2 H2) := by
  refine ⟨fun i m σ H => m = n - i ∧ i ≤ n ∧ Pv i σ H, ⟨n, by simp, Nat.zero_le _, h0⟩, ?_⟩
  rintro i m σ H ⟨rfl, hi, p⟩
  by_cases hlt : i < n
  · refine .inr ⟨hlt, Pv (i + 1), fun σ' H' p' => ⟨n - (i + 1), by (first | lia | omega), rfl, hlt, p'⟩, fun x H' y => ?_⟩
    obtain ⟨e, y⟩ := y
    subst e y
    exact hs i σ _ hlt p
  · have e : i = n := by (first | lia | omega)
    subst e
    exact .inl ⟨Nat.le_refl _, hd σ H p⟩
end L2

namespace L2
open PySem PySem.Spec PyProof.Rows

noncomputable abbrev R2 := V → V → Hp → VK → Prop
noncomputable def OpR (X : Cx) (f : Value → Value → Sem Value) (r : R2) : Prop :=
  ∀ (pins : List (Addr × Obj)) (s : Shared) (σ : St) (H : Hp) (x y : V) (v u : Value) (Q : VK), Inv X pins σ H s → RelV x v → RelV y u → r x y H Q →
    wpAny (model X.prog X.w) X.A (f v u) (EP X pins σ Q) X.xe s
noncomputable def UnR (X : Cx) (f : Value → Sem Value) (r : V → Hp → VK → Prop) : Prop :=
  ∀ (pins : List (Addr × Obj)) (s : Shared) (σ : St) (H : Hp) (x : V) (v : Value) (Q : VK), Inv X pins σ H s → RelV x v → r x H Q →
    wpAny (model X.prog X.w) X.A (f v) (EP X pins σ Q) X.xe s
noncomputable def CallR (X : Cx) (f : Value) (r : List V → Hp → VK → Prop) : Prop :=
  ∀ (pins : List (Addr × Obj)) (s : Shared) (σ : St) (H : Hp) (xs : List V) (us : List Value) (Q : VK), Inv X pins σ H s → Vals xs us → r xs H Q →
    wpAny (model X.prog X.w) X.A (call f us) (EP X pins σ Q) X.xe s
noncomputable def TruR (X : Cx) (r : V → Hp → (Bool → Hp → Prop) → Prop) : Prop :=
  ∀ (pins : List (Addr × Obj)) (s : Shared) (σ : St) (H : Hp) (x : V) (v : Value) (Q : Bool → Hp → Prop), Inv X pins σ H s → RelV x v → r x H Q →
    wpAny (model X.prog X.w) X.A (truthy v) (TP X pins σ Q) X.xe s

noncomputable def tOp (r : R2) (ta tb : TE) : TE := fun σ H Q => ta σ H fun x H1 => tb σ H1 fun y H2 => r x y H2 Q
noncomputable def tUn (r : V → Hp → VK → Prop) (ta : TE) : TE := fun σ H Q => ta σ H fun x H1 => r x H1 Q
noncomputable def rI (C : Int → Int → Prop) (g : Int → Int → V) : R2 := fun x y H Q => ∃ i j, x = .int i ∧ y = .int j ∧ C i j ∧ Q (g i j) H
noncomputable def rI0 (g : Int → Int → V) : R2 := fun x y H Q => ∃ i j, x = .int i ∧ y = .int j ∧ Q (g i j) H
noncomputable def rU (g : Int → V) : V → Hp → VK → Prop := fun x H Q => ∃ i, x = .int i ∧ Q (g i) H

section
variable {X : Cx} {a b c : Expr} {ta tb tc : TE} {pos : Pos}

theorem binT (ha : PE X a ta) (hb : PE X b tb) {pins : List (Addr × Obj)} {s : Shared} {σ : St} {H : Hp} {R : V → V → Hp → Prop} (I : Inv X pins σ H s)
    (h : ta σ H fun x H1 => tb σ H1 fun y H2 => R x y H2) {Q : Value → Shared → Prop} {f : Value → Value → Sem Value}
    (hf : ∀ v u s2 x y H2, Inv X pins σ H2 s2 → RelV x v → RelV y u → R x y H2 → wpAny (model X.prog X.w) X.A (f v u) Q X.xe s2) :
    wpAny (model X.prog X.w) X.A (eval a X.env) (fun v s₁ => wpAny (model X.prog X.w) X.A (eval b X.env) (fun u s₂ => wpAny (model X.prog X.w) X.A (f v u) Q X.xe s₂) X.xe s₁) X.xe s := by
  refine thn (ha pins s σ H _ I h) fun v s1 hzz => ?_
  obtain ⟨x, H1, I1, r1, q1⟩ := hzz
  refine thn (hb pins s1 σ H1 _ I1 q1) fun u s2 hzz => ?_
  obtain ⟨y, H2, I2, r2, q2⟩ := hzz
  exact hf v u s2 x y H2 I2 r1 r2 q2

theorem pe_op {op : Operator} {r : R2} (ho : OpR X (binaryOp op) r) (ha : PE X a ta) (hb : PE X b tb) : PE X (.BinOp a op b pos) (tOp r ta tb) := by
  refine ⟨?_⟩
  intro pins s σ H Q I h
  exact wpAny_BinOp (binT ha hb I h fun v u s2 x y H2 I2 rx ry q => ho pins s2 σ H2 x y v u Q I2 rx ry q)
theorem opI {f : Value → Value → Sem Value} {C : Int → Int → Prop} {g : Int → Int → Int}
    (rule : ∀ (i j : Int) (t u : Tok) (s : Shared) (Q : Value → Shared → Prop) (E : Value → Shared → Prop), C i j → Q (.int (g i j) s.toks) { s with toks := s.toks + 1 } → wpAny (model X.prog X.w) X.A (f (.int i t) (.int j u)) Q E s) :
    OpR X f (rI C fun i j => .int (g i j)) := by
  intro pins s σ H x y v u Q I rx ry h
  obtain ⟨i, j, rfl, rfl, hc, q⟩ := h
  obtain ⟨t, rfl⟩ := rx
  obtain ⟨t', rfl⟩ := ry
  exact rule i j t t' s _ _ hc ⟨.int (g i j), H, I.tok _, ⟨_, rfl⟩, q⟩
theorem opI0 {f : Value → Value → Sem Value} {g : Int → Int → Int}
    (rule : ∀ (i j : Int) (t u : Tok) (s : Shared) (Q : Value → Shared → Prop) (E : Value → Shared → Prop), Q (.int (g i j) s.toks) { s with toks := s.toks + 1 } → wpAny (model X.prog X.w) X.A (f (.int i t) (.int j u)) Q E s) :
    OpR X f (rI0 fun i j => .int (g i j)) := by
  intro pins s σ H x y v u Q I rx ry h
  obtain ⟨i, j, rfl, rfl, q⟩ := h
  obtain ⟨t, rfl⟩ := rx
  obtain ⟨t', rfl⟩ := ry
  exact rule i j t t' s _ _ ⟨.int (g i j), H, I.tok _, ⟨_, rfl⟩, q⟩
theorem opB0 {f : Value → Value → Sem Value} {g : Int → Int → Bool}
    (rule : ∀ (i j : Int) (t u : Tok) (s : Shared) (Q : Value → Shared → Prop) (E : Value → Shared → Prop), Q (.bool (g i j)) s → wpAny (model X.prog X.w) X.A (f (.int i t) (.int j u)) Q E s) :
    OpR X f (rI0 fun i j => .bl (g i j)) := by
  intro pins s σ H x y v u Q I rx ry h
  obtain ⟨i, j, rfl, rfl, q⟩ := h
  obtain ⟨t, rfl⟩ := rx
  obtain ⟨t', rfl⟩ := ry
  exact rule i j t t' s _ _ ⟨.bl (g i j), H, I, rfl, q⟩

noncomputable def CDiv (i j : Int) : Prop := 0 < j ∧ j < 1073741824
noncomputable def CDivN (i j : Int) : Prop := j ≠ 0 ∧ j.natAbs < 1073741824
noncomputable def CPow (i j : Int) : Prop := 0 ≤ j ∧ j ≤ 1000000 ∧ i.natAbs < 2 ^ 64
noncomputable def CMul (i j : Int) : Prop := (-(2 ^ 64) < i ∧ i < 2 ^ 64) ∨ (-(2 ^ 64) < j ∧ j < 2 ^ 64)
theorem CMul.ok {i j : Int} (h : CMul i j) : IntMulOk i j := by
  rcases h with ⟨h1, h2⟩ | ⟨h1, h2⟩
  · exact .of_left (intBits_le_64 h1 h2)
  · exact .of_right (intBits_le_64 h1 h2)
theorem op_add : OpR X (binaryOp .Add) (rI0 fun i j => .int (i + j)) := opI0 fun _ _ _ _ _ _ _ q => add_int q
theorem op_sub : OpR X (binaryOp .Sub) (rI0 fun i j => .int (i - j)) := opI0 fun _ _ _ _ _ _ _ q => sub_int q
theorem op_mul : OpR X (binaryOp .Mult) (rI CMul fun i j => .int (i * j)) := opI fun _ _ _ _ _ _ _ hc q => mul_int q hc.ok
theorem op_mod : OpR X (binaryOp .Mod) (rI (fun _ j => 0 < j) fun i j => .int (i % j)) := opI fun i j _ _ _ _ _ hc q => by
  have h1 : (0 : Int) < j := hc
  exact mod_int' (by (first | lia | omega)) (by rw [Int.fmod_eq_emod_of_nonneg i (by (first | lia | omega))]; exact q)
theorem op_pow : OpR X (binaryOp .Pow) (rI CPow fun i j => .int (i ^ j.toNat)) := opI fun _ _ _ _ _ _ _ hc q => pow_int_small hc.1 hc.2.1 hc.2.2 q
end

noncomputable def scal : V → V → Bool
  | .non, .non => true | .non, .int _ => true | .int _, .non => true | .non, .bl _ => true | .bl _, .non => true | .non, .str _ => true | .str _, .non => true
  | .int _, .int _ => true | .bl _, .bl _ => true | .str _, .str _ => true | .byt _, .byt _ => true
  | .int _, .str _ => true | .str _, .int _ => true | .bl _, .str _ => true | .str _, .bl _ => true
  | _, _ => false
noncomputable def rEq : R2 := fun x y H Q => scal x y = true ∧ Q (.bl (decide (x = y))) H
noncomputable def rNe : R2 := fun x y H Q => scal x y = true ∧ Q (.bl (!decide (x = y))) H

theorem dec_int {i j : Int} : decide (V.int i = V.int j) = (i == j) := by
  rw [Bool.eq_iff_iff]
  simp
  exact ⟨fun h => by injection h, fun h => by rw [h]⟩
theorem dec_bl {i j : Bool} : decide (V.bl i = V.bl j) = (i == j) := by
  rw [Bool.eq_iff_iff]
  simp
  exact ⟨fun h => by injection h, fun h => by rw [h]⟩
theorem dec_str {i j : Str} : decide (V.str i = V.str j) = (i == j) := by
  rw [Bool.eq_iff_iff]
  simp
  exact ⟨fun h => by injection h, fun h => by rw [h]⟩
theorem dec_byt {i j : Array UInt8} : decide (V.byt i = V.byt j) = (i.toList == j.toList) := by
  rw [Bool.eq_iff_iff]
  cases i
  cases j
  simp
  exact ⟨fun h => by injection h with h; injection h, fun h => by rw [h]⟩

section
variable {X : Cx} {a b c : Expr} {ta tb tc : TE} {pos : Pos}
theorem fin_bl {pins : List (Addr × Obj)} {σ : St} {H : Hp} {s : Shared} {Q : VK} {k k' : Bool} (I : Inv X pins σ H s) (q : Q (.bl k) H) (e : k = k') : EP X pins σ Q (.bool k') s := by
  subst e
  exact ⟨.bl k, H, I, rfl, q⟩
theorem op_eq : OpR X (compareOp .Eq) rEq := by
  intro pins s σ H x y v u Q I rx ry h
  obtain ⟨hs, q⟩ := h
  cases x with
  | non =>
    cases rx
    cases y with
    | non => cases ry; exact PySem.EqNone.eq_none_none (fin_bl I q (by simp))
    | bl j => cases ry; exact PySem.EqNone.eq_none_bool (fin_bl I q (by simp))
    | int j => obtain ⟨t', rfl⟩ := ry; exact PySem.EqNone.eq_none_int (fin_bl I q (by simp))
    | str j => obtain ⟨t', rfl⟩ := ry; exact PySem.EqNone.eq_none_str (fin_bl I q (by simp))
    | _ => exact absurd (show false = true from hs) Bool.false_ne_true
  | bl i =>
    cases rx
    cases y with
    | non => cases ry; exact PySem.EqNone.eq_bool_none (fin_bl I q (by simp))
    | bl j => cases ry; exact eq_bool (fin_bl I q dec_bl)
    | str j => obtain ⟨t', rfl⟩ := ry; exact PySem.EqMixed.eq_bool_str (fin_bl I q (by simp))
    | _ => exact absurd (show false = true from hs) Bool.false_ne_true
  | int i =>
    obtain ⟨t, rfl⟩ := rx
    cases y with
    | non => cases ry; exact PySem.EqNone.eq_int_none (fin_bl I q (by simp))
    | int j => obtain ⟨t', rfl⟩ := ry; exact eq_int (fin_bl I q dec_int)
    | str j => obtain ⟨t', rfl⟩ := ry; exact PySem.EqMixed.eq_int_str (fin_bl I q (by simp))
    | _ => exact absurd (show false = true from hs) Bool.false_ne_true
  | str i =>
    obtain ⟨t, rfl⟩ := rx
    cases y with
    | non => cases ry; exact PySem.EqNone.eq_str_none (fin_bl I q (by simp))
    | bl j => cases ry; exact PySem.EqMixed.eq_str_bool (fin_bl I q (by simp))
    | int j => obtain ⟨t', rfl⟩ := ry; exact PySem.EqMixed.eq_str_int (fin_bl I q (by simp))
    | str j => obtain ⟨t', rfl⟩ := ry; exact eq_str (fin_bl I q dec_str)
    | _ => exact absurd (show false = true from hs) Bool.false_ne_true
  | byt i =>
    obtain ⟨t, rfl⟩ := rx
    cases y with
    | byt j => obtain ⟨t', rfl⟩ := ry; exact PySem.W.eq_bytes (fin_bl I q dec_byt)
    | _ => exact absurd (show false = true from hs) Bool.false_ne_true
  | _ => cases y <;> exact absurd (show false = true from hs) Bool.false_ne_true
theorem op_ne : OpR X (compareOp .NotEq) rNe := by
  intro pins s σ H x y v u Q I rx ry h
  obtain ⟨hs, q⟩ := h
  cases x with
  | non =>
    cases rx
    cases y with
    | non => cases ry; exact PySem.EqNone.ne_none_none (fin_bl I q (by simp))
    | bl j => cases ry; exact PySem.EqNone.ne_none_bool (fin_bl I q (by simp))
    | int j => obtain ⟨t', rfl⟩ := ry; exact PySem.EqNone.ne_none_int (fin_bl I q (by simp))
    | str j => obtain ⟨t', rfl⟩ := ry; exact PySem.EqNone.ne_none_str (fin_bl I q (by simp))
    | _ => exact absurd (show false = true from hs) Bool.false_ne_true
  | bl i =>
    cases rx
    cases y with
    | non => cases ry; exact PySem.EqNone.ne_bool_none (fin_bl I q (by simp))
    | bl j => cases ry; exact ne_bool (fin_bl I q (congrArg not dec_bl))
    | str j => obtain ⟨t', rfl⟩ := ry; exact PySem.EqMixed.ne_bool_str (fin_bl I q (by simp))
    | _ => exact absurd (show false = true from hs) Bool.false_ne_true
  | int i =>
    obtain ⟨t, rfl⟩ := rx
    cases y with
    | non => cases ry; exact PySem.EqNone.ne_int_none (fin_bl I q (by simp))
    | int j => obtain ⟨t', rfl⟩ := ry; exact ne_int (fin_bl I q (congrArg not dec_int))
    | str j => obtain ⟨t', rfl⟩ := ry; exact PySem.EqMixed.ne_int_str (fin_bl I q (by simp))
    | _ => exact absurd (show false = true from hs) Bool.false_ne_true
  | str i =>
    obtain ⟨t, rfl⟩ := rx
    cases y with
    | non => cases ry; exact PySem.EqNone.ne_str_none (fin_bl I q (by simp))
    | bl j => cases ry; exact PySem.EqMixed.ne_str_bool (fin_bl I q (by simp))
    | int j => obtain ⟨t', rfl⟩ := ry; exact PySem.EqMixed.ne_str_int (fin_bl I q (by simp))
    | str j => obtain ⟨t', rfl⟩ := ry; exact ne_str (fin_bl I q (congrArg not dec_str))
    | _ => exact absurd (show false = true from hs) Bool.false_ne_true
  | byt i =>
    obtain ⟨t, rfl⟩ := rx
    cases y with
    | byt j => obtain ⟨t', rfl⟩ := ry; exact PySem.W.ne_bytes (fin_bl I q (congrArg not dec_byt))
    | _ => exact absurd (show false = true from hs) Bool.false_ne_true
  | _ => cases y <;> exact absurd (show false = true from hs) Bool.false_ne_true

theorem op_lt : OpR X (compareOp .Lt) (rI0 fun i j => .bl (decide (i < j))) := opB0 fun _ _ _ _ _ _ _ q => lt_int q
theorem op_le : OpR X (compareOp .LtE) (rI0 fun i j => .bl (decide (i ≤ j))) := opB0 fun _ _ _ _ _ _ _ q => le_int q
theorem op_gt : OpR X (compareOp .Gt) (rI0 fun i j => .bl (decide (j < i))) := opB0 fun _ _ _ _ _ _ _ q => gt_int q
theorem op_ge : OpR X (compareOp .GtE) (rI0 fun i j => .bl (decide (j ≤ i))) := opB0 fun _ _ _ _ _ _ _ q => ge_int q
theorem op_notN : OpR X (compareOp .IsNot) (fun x y H Q => y = .non ∧ Q (.bl (!decide (x = .non))) H) := by
  intro pins s σ H x y v u Q I rx ry h
  obtain ⟨rfl, q⟩ := h
  cases ry
  refine isnot_none_gen (fin_bl I q ?_)
  cases x <;> first
    | (cases rx; rfl)
    | (obtain ⟨t, rfl⟩ := rx; rfl)

theorem op_notin_str : OpR X (compareOp .NotIn) (fun x y H Q => ∃ i j, x = .str i ∧ y = .str j ∧ Q (.bl (!(!(Builtin.Str.occurrences j i 0 j.length 1).isEmpty))) H) := by
  intro pins s σ H x y v u Q I rx ry h
  obtain ⟨i, j, rfl, rfl, q⟩ := h
  obtain ⟨t, rfl⟩ := rx
  obtain ⟨t', rfl⟩ := ry
  exact notIn_str (fin_bl I q rfl)
noncomputable def isObj : HO → Bool
  | .lst _ => true
  | .ins _ _ _ => true
  | _ => false
theorem nomark (b : Expr) {op : CmpOp} (h : op ≠ .In := by decide) (h2 : op ≠ .NotIn := by decide) : behindInMarks op b = false := by
  have e1 : (op == CmpOp.In) = false := by cases op <;> first | rfl | exact absurd rfl h
  have e2 : (op == CmpOp.NotIn) = false := by cases op <;> first | rfl | exact absurd rfl h2
  cases b <;> simp [behindInMarks, e1, e2]
theorem pe_cmpR {op : CmpOp} {r : R2} (ho : OpR X (compareOp op) r) (ha : PE X a ta) (hb : PE X b tb) (hm : behindInMarks op b = false) : PE X (.Compare a [op] [b] pos) (tOp r ta tb) := by
  refine ⟨?_⟩
  intro pins s σ H Q I h
  exact wpAny_Compare1 (binT ha hb I h fun v u s2 x y H2 I2 rx ry q => ho pins s2 σ H2 x y v u Q I2 rx ry q) hm
noncomputable def tTest (t : TE) : TT := fun σ H Q => t σ H fun x H' => ∃ k, x = .bl k ∧ Q k H'
theorem pt_cmpR {op : CmpOp} {r : R2} (ho : OpR X (compareOp op) r) (ha : PE X a ta) (hb : PE X b tb) (hm : behindInMarks op b = false) : PT X (.Compare a [op] [b] pos) (tTest (tOp r ta tb)) := by
  refine ⟨?_⟩
  intro pins s σ H Q I h
  refine wpAny_isTrue_Compare1 (thn (ha pins s σ H _ I h) fun v s1 ⟨x, H1, I1, r1, q1⟩ => thn (hb pins s1 σ H1 _ I1 q1) fun u s2 ⟨y, H2, I2, r2, q2⟩ =>
    thn (ho pins s2 σ H2 x y v u _ I2 r1 r2 q2) fun c s3 ⟨z, H3, I3, r3, k, e, q3⟩ => ?_) hm
  subst e
  cases r3
  exact wpAny_truthy_bool ⟨H3, I3, q3⟩
noncomputable def tChain (r r' : R2) (ta tb tc : TE) : TE := fun σ H Q => ta σ H fun x H1 => tb σ H1 fun y H2 => r x y H2 fun z H3 => ∃ k, z = .bl k ∧
  (if k = true then tc σ H3 fun w' H4 => r' y w' H4 Q else Q (.bl false) H3)
theorem pe_chain {op op' : CmpOp} {r r' : R2} (ho : OpR X (compareOp op) r) (ho' : OpR X (compareOp op') r') (ha : PE X a ta) (hb : PE X b tb) (hc : PE X c tc)
    (hm : lastMarks [op, op'] [b, c] = false := by with_unfolding_all rfl) : PE X (.Compare a [op, op'] [b, c] pos) (tChain r r' ta tb tc) := by
  refine ⟨?_⟩
  intro pins s σ H Q I h
  refine Compare_chain (thn (ha pins s σ H _ I h) fun v s1 ⟨x, H1, I1, r1, q1⟩ => chain_link (thn (hb pins s1 σ H1 _ I1 q1) fun u s2 ⟨y, H2, I2, r2, q2⟩ =>
    thn (ho pins s2 σ H2 x y v u _ I2 r1 r2 q2) fun d s3 ⟨z, H3, I3, r3, k, e, q3⟩ => ?_)) hm
  subst e
  cases r3
  refine wpAny_truthy_bool ?_
  cases k with
  | false => exact ite_ff ⟨.bl false, H3, I3, rfl, q3⟩
  | true => exact ite_tt (chain_last (thn (hc pins s3 σ H3 _ I3 q3) fun w' s4 ⟨z', H4, I4, r4, q4⟩ => ho' pins s4 σ H4 y z' u w' Q I4 r2 r4 q4))
noncomputable def TruV (K : PySem.W.Frag) (x : V) (H : Hp) (k : Bool) : Prop :=
  match x with
  | .non => k = false
  | .bl b => k = b
  | .int i => k = (i != 0)
  | .str y => y.length ≤ sizeLine ∧ k = ((y.length : Int) != 0)
  | .byt y => y.size ≤ sizeLine ∧ k = ((y.size : Int) != 0)
  | .ref p => (∃ xs, SqL K H p xs ∧ k = !xs.isEmpty) ∨ (∃ xs, SqT K H p xs ∧ k = !xs.isEmpty) ∨ ∃ kvs, H p = some (.dK kvs) ∧ k = !kvs.isEmpty
  | _ => False
theorem isEmpty_kv {κ : Type} {kvs : List (κ × V)} {vs : List (κ × Value)} (r : KV kvs vs) : (!vs.isEmpty) = !kvs.isEmpty := by
  cases r <;> rfl
theorem isEmpty_of {xs : List V} {its : List Value} (r : Vals xs its) : (!its.toArray.isEmpty) = !xs.isEmpty := by
  cases r <;> simp
theorem line63 : (sizeLine : Nat) < 2 ^ 63 := by rw [sizeLine_eq]; decide
theorem tru_ok : TruR X (fun x H Q => ∃ k, TruV X.K x H k ∧ Q k H) := by
  intro pins s σ H x v Q I rx h
  obtain ⟨k, e, q⟩ := h
  have hl := line63
  have hs : sizeLine = 16777216 := sizeLine_eq
  cases x with
  | non =>
    cases rx
    have e' : k = false := e
    subst e'
    exact truthy_none ⟨H, I, q⟩
  | bl b =>
    cases rx
    have e' : k = b := e
    subst e'
    exact wpAny_truthy_bool ⟨H, I, q⟩
  | int i =>
    obtain ⟨t, rfl⟩ := rx
    have e' : k = (i != 0) := e
    subst e'
    exact PySem.P.truthy_int ⟨H, I, q⟩
  | str y =>
    obtain ⟨t, rfl⟩ := rx
    obtain ⟨hy, e'⟩ : y.length ≤ sizeLine ∧ k = ((y.length : Int) != 0) := e
    subst e'
    exact PySem.P.truthy_str (by (first | lia | omega)) ⟨H, I.tok _, q⟩
  | byt y =>
    obtain ⟨t, rfl⟩ := rx
    obtain ⟨hy, e'⟩ : y.size ≤ sizeLine ∧ k = ((y.size : Int) != 0) := e
    subst e'
    exact PySem.W.truthy_bytes (by (first | lia | omega)) ⟨H, I.tok _, q⟩
  | ref p =>
    cases rx
    have e' : (∃ xs, SqL X.K H p xs ∧ k = !xs.isEmpty) ∨ (∃ xs, SqT X.K H p xs ∧ k = !xs.isEmpty) ∨ ∃ kvs, H p = some (.dK kvs) ∧ k = !kvs.isEmpty := e
    rcases e' with ⟨xs, hx, e'⟩ | ⟨xs, hx, e'⟩ | ⟨kvs, hx, e'⟩
    · subst e'
      obtain ⟨its, r, pl, hz⟩ := I.list hx
      have hlen := r.length
      exact wpAny_truthy_list pl.isList (by simp only [List.size_toArray]; (first | lia | omega)) ⟨H, I.tok _, by rw [isEmpty_of r]; exact q⟩
    · subst e'
      obtain ⟨its, r, pl, hz⟩ := I.tuple hx
      have hlen := r.length
      exact truthy_tuple pl (by simp only [List.size_toArray]; (first | lia | omega)) ⟨H, I.tok _, by rw [isEmpty_of r]; exact q⟩
    · subst e'
      obtain ⟨hz, hS, vs, r, m⟩ : kvs.length ≤ sizeLine ∧ (p == sysModules) = false ∧ ∃ vs, KV kvs vs ∧ s.heap.DictOf (mixKind X.prog X.w) p vs := I.hok p _ hx
      have hlen : kvs.length = vs.length := Paired.length r
      exact wpAny_truthy_dict hS m (by (first | lia | omega)) ⟨H, I.tok _, by rw [isEmpty_kv r]; exact q⟩
  | _ => exact (show False from e).elim
theorem pt_truth (ha : PE X a ta) (he : ∀ whole, isTrue a X.env whole = (do let v ← whole; standAt a.pos; holding [v] (truthy v))) :
    PT X a (fun σ H Q => ta σ H fun x H' => ∃ k, TruV X.K x H' k ∧ Q k H') := by
  refine ⟨?_⟩
  intro pins s σ H Q I h
  exact isTrue_plain (thn (ha pins s σ H _ I h) fun v s1 ⟨x, H1, I1, r1, q1⟩ => tru_ok pins s1 σ H1 x v Q I1 r1 q1) (he _)

theorem op_add_str : OpR X (binaryOp .Add) (fun x y H Q => ∃ i j, x = .str i ∧ y = .str j ∧ i.length + j.length ≤ sizeLine ∧ Q (.str (i ++ j)) H) := by
  intro pins s σ H x y v u Q I rx ry h
  obtain ⟨i, j, rfl, rfl, hz, q⟩ := h
  obtain ⟨t, rfl⟩ := rx
  obtain ⟨t', rfl⟩ := ry
  exact add_str (fun t' tk => ⟨.str (i ++ j), H, I.tok _, ⟨_, rfl⟩, q⟩) hz
noncomputable def PlainIxT (b : Expr) : Prop := ∀ o i, subscripted b false o i = operate [o, i] (getItem o i)
theorem vals1 {x : V} {us : List Value} (r : Vals [x] us) : ∃ u, us = [u] ∧ RelV x u := by
  cases r with
  | cons r1 r2 => cases r2; exact ⟨_, rfl, r1⟩
theorem vals2 {x y : V} {us : List Value} (r : Vals [x, y] us) : ∃ u w', us = [u, w'] ∧ RelV x u ∧ RelV y w' := by
  cases r with
  | cons r1 r2 =>
    cases r2 with
    | cons r3 r4 => cases r4; exact ⟨_, _, rfl, r1, r3⟩
theorem call_int1 : CallR X (.type "int") (fun xs H Q => (∃ i, xs = [.int i] ∧ Q (.int i) H) ∨ ∃ k, xs = [.bl k] ∧ Q (.int (if k then 1 else 0)) H) := by
  intro pins s σ H xs us Q I r h
  rcases h with ⟨i, rfl, q⟩ | ⟨k, rfl, q⟩
  · obtain ⟨u, rfl, t, rfl⟩ := vals1 r
    exact call_int_int ⟨.int i, H, I, ⟨_, rfl⟩, q⟩
  · obtain ⟨u, rfl, r1⟩ := vals1 r
    cases r1
    exact call_int_bool ⟨.int (if k then 1 else 0), H, I.tok _, ⟨_, rfl⟩, q⟩
theorem call_str_int : CallR X (.type "str") (fun xs H Q => ∃ i, xs = [.int i] ∧ i.natAbs.log2 < 1920 ∧ Q (.str (toString i)) H) := by
  intro pins s σ H xs us Q I r h
  obtain ⟨i, rfl, hz, q⟩ := h
  obtain ⟨u, rfl, t, rfl⟩ := vals1 r
  exact PySem.P.str_of_int hz ⟨.str _, H, I.tok _, ⟨_, rfl⟩, q⟩
noncomputable def LenV (K : PySem.W.Frag) (x : V) (H : Hp) (n : Nat) : Prop :=
  match x with
  | .str y => y.length ≤ sizeLine ∧ n = y.length
  | .byt y => y.size ≤ sizeLine ∧ n = y.size
  | .ref p => (∃ xs, SqL K H p xs ∧ n = xs.length) ∨ ∃ xs, SqT K H p xs ∧ n = xs.length
  | _ => False
end
end L2

namespace L2
open PySem PySem.Spec PyProof.Rows

structure ObjM (h : Heap) (x dx C : Addr) (mA : Str → Option Value) : Prop where
  obj : h.get? x = some (PySem.W.instObj C dx)
  ns : h.Ns1 dx mA
  ne : dx ≠ x

theorem lookIn_ns {h : Heap} {dx : Addr} {mA : Str → Option Value} (n : h.Ns1 dx mA) : ∃ od, h.get? dx = some od ∧ ∀ name, PySem.W.lookIn name od = some (mA name) := by
  obtain ⟨o, es, ep, ho, hd, hk, _, hm⟩ := n
  refine ⟨o, ho, fun name => ?_⟩
  have e := hm name
  unfold nsFind findBy at e
  rw [← Array.find?_toList] at e
  unfold PySem.W.lookIn
  rw [hd]
  dsimp only
  split
  · rename_i y q
    rw [q] at e
    exact congrArg some e
  · rename_i q
    rw [q] at e
    have a : es.toList.any (·.refKey) = false := by
      rw [List.any_eq_false]
      intro y hy
      obtain ⟨z, t, hkey⟩ := hk y (Array.mem_toList_iff.mp hy)
      simp [DictEntry.refKey, hkey]
    have a' : ¬ es.toList.any (·.refKey) = true := by rw [a]; exact Bool.false_ne_true
    rw [if_neg a']
    exact congrArg some e

theorem ObjM.look {h : Heap} {x dx C : Addr} {mA : Str → Option Value} (I : ObjM h x dx C mA) : ∃ od, PySem.W.InstAt h x (PySem.W.instObj C dx) C (some od) ∧ ∀ name, PySem.W.lookIn name od = some (mA name) :=
  let ⟨od, ho, hl⟩ := lookIn_ns I.ns
  ⟨od, ⟨I.obj, rfl, rfl, ho⟩, hl⟩

section
variable {prog : Program} {w : World} {A : Around} {E : Value → Shared → Prop} {s : Shared} {K : PySem.W.Frag} {x dx C f : Addr} {mA : Str → Option Value} {name : Str} {v : Value}

end

noncomputable def putF (f : Str) (v : V) : List (Str × V) → List (Str × V)
  | [] => [(f, v)]
  | (g, x) :: r => if g = f then (g, v) :: r else (g, x) :: putF f v r
theorem lookup_putF (f g : Str) (v : V) : ∀ fs : List (Str × V), (putF f v fs).lookup g = if g = f then some v else fs.lookup g
  | [] => by
    show List.lookup g [(f, v)] = _
    by_cases h : g = f
    · have hb : (g == f) = true := beq_iff_eq.mpr h
      simp only [List.lookup, hb, if_pos h]
    · have hb : (g == f) = false := beq_eq_false_iff_ne.mpr h
      simp only [List.lookup, hb, if_neg h]
  | (k, x) :: r => by
    have ih := lookup_putF f g v r
    rw [show putF f v ((k, x) :: r) = (if k = f then (k, v) :: r else (k, x) :: putF f v r) from rfl]
    by_cases hk : k = f
    · rw [if_pos hk]
      by_cases h : g = k
      · have hb : (g == k) = true := beq_iff_eq.mpr h
        simp only [List.lookup, hb, if_pos (h.trans hk)]
      · have hb : (g == k) = false := beq_eq_false_iff_ne.mpr h
        simp only [List.lookup, hb, if_neg (fun e : g = f => h (e.trans hk.symm))]
    · rw [if_neg hk]
      by_cases h : g = k
      · have hb : (g == k) = true := beq_iff_eq.mpr h
        simp only [List.lookup, hb, if_neg (fun e : g = f => hk (h.symm.trans e))]
      · have hb : (g == k) = false := beq_eq_false_iff_ne.mpr h
        simp only [List.lookup, hb]
        exact ih
theorem keys_putF (f : Str) (v : V) : ∀ fs : List (Str × V), f ∈ (putF f v fs).map (·.1) ∧ ∀ g, g ∈ fs.map (·.1) → g ∈ (putF f v fs).map (·.1)
  | [] => ⟨by simp [putF], fun g h => by simp at h⟩
  | (k, x) :: r => by
    obtain ⟨i1, i2⟩ := keys_putF f v r
    rw [show putF f v ((k, x) :: r) = (if k = f then (k, v) :: r else (k, x) :: putF f v r) from rfl]
    by_cases hk : k = f
    · rw [if_pos hk]
      subst hk
      exact ⟨by simp, fun g h => by simpa using h⟩
    · rw [if_neg hk]
      refine ⟨?_, fun g h => ?_⟩
      · rw [List.map_cons]
        exact List.mem_cons_of_mem _ i1
      · rw [List.map_cons] at h ⊢
        rcases List.mem_cons.mp h with e | e
        · exact List.mem_cons.mpr (.inl e)
        · exact List.mem_cons_of_mem _ (i2 g e)
theorem RelO.some_of {v : V} {o : Option Value} (r : RelO (some v) o) : ∃ u, o = some u ∧ RelV v u := by
  cases o with
  | none => exact (show False from r).elim
  | some u => exact ⟨u, rfl, r⟩
theorem handed_of {v : V} {u : Value} (r : RelV v u) : PySem.W.handedIn u = true := by
  cases v with
  | non => cases (show u = Value.none from r); rfl
  | bl b => cases (show u = Value.bool b from r); rfl
  | int i => obtain ⟨t, e⟩ := (show ∃ t, u = Value.int i t from r); cases e; rfl
  | str x => obtain ⟨t, e⟩ := (show ∃ t, u = Value.str x t from r); cases e; rfl
  | byt b => obtain ⟨t, e⟩ := (show ∃ t, u = Value.bytes b t from r); cases e; rfl
  | flt b => obtain ⟨t, e⟩ := (show ∃ t, u = Value.float b t from r); cases e; rfl
  | ref a => cases (show u = Value.ref a from r); rfl
  | ty n => cases (show u = Value.type n from r); rfl

section
variable {P : Program} {w : World} {H H' : Hp} {h h' : Heap} {a C dx : Addr} {fs fs' : List (Str × V)}
theorem ins_get (hok : HOk P w H h) (e : H a = some (.ins C dx fs)) : ∃ mA, ObjM h a dx C mA ∧ (∀ f, RelO (fs.lookup f) (mA f)) ∧ PySem.Within mA (fs.map (·.1)) ∧ fs.length ≤ 1000 ∧ H dx = some (.own a) := by
  obtain ⟨d, z, ne, ob, mA, n, r, q⟩ := (show ObjOk P w H h a (.ins C dx fs) from hok a _ e)
  exact ⟨mA, ⟨ob, n, ne⟩, r, q, z, d⟩
end

structure Cls (K : PySem.W.Frag) (C : Addr) : Prop where
  pg : PySem.W.plainGet K C Str.empty = true
  hd : PySem.W.hasDictIn K C = true
  po : PySem.W.plainOver K C = true
  sa : PySem.W.findIn K (.ref C) "__setattr__" = some (some (.builtin "object.__setattr__"))
theorem Cls.get {K : PySem.W.Frag} {C : Addr} (c : Cls K C) (f : Str) : PySem.W.plainGet K C f = true := c.pg
noncomputable def NoAttr (K : PySem.W.Frag) (C : Addr) (f : Str) : Prop := PySem.W.findIn K (.ref C) f = some none
structure Con (K : PySem.W.Frag) (C : Addr) (f : Str) (v : V) (u : Value) : Prop where
  at_ : PySem.W.findIn K (.ref C) f = some (some u)
  rel : RelV v u
  get : PySem.W.specialIn K u "__get__" = some none
  cp : PySem.W.copiedNames.contains f = false
structure Meth (K : PySem.W.Frag) (C : Addr) (m : Str) (f : Addr) : Prop where
  at_ : PySem.W.findIn K (.ref C) m = some (some (.ref f))
  fn : PySem.W.isFn K (.ref f) = true
  kp : PySem.W.keepIn K (.ref f) = true

section
variable {X : Cx} {pins : List (Addr × Obj)} {σ : St} {H : Hp} {s : Shared} {a C dx : Addr} {fs : List (Str × V)} {f : Str} {v : V} {A : Around} {E : Value → Shared → Prop}

theorem attr_of {prog : Program} {w : World} {env : Env} {e : Expr} {f : Str} {pos : Pos} {s : Shared} {Q : Value → Shared → Prop} (hb : attributeBase e f env (eval e env) = eval e env)
    (h : wpAny (model prog w) A (eval e env) (fun o s₁ => wpAny (model prog w) A (getAttr o f true) Q E s₁) E s) : wpAny (model prog w) A (eval (.Attribute e f pos) env) Q E s :=
  Attribute_any_ h (by rw [arm_eval_Attribute, hb])
end

noncomputable def tFld (K : PySem.W.Frag) (ta : TE) (f : Str) : TE := fun σ H Q => ta σ H fun x H1 => ∃ a C dx fs v, x = .ref a ∧ H1 a = some (.ins C dx fs) ∧ Cls K C ∧ NoAttr K C f ∧ fs.lookup f = some v ∧ Q v H1
noncomputable def tCon (K : PySem.W.Frag) (ta : TE) (f : Str) : TE := fun σ H Q => ta σ H fun x H1 => ∃ a C dx fs v u, x = .ref a ∧ H1 a = some (.ins C dx fs) ∧ Cls K C ∧ Con K C f v u ∧ fs.lookup f = none ∧ Q v H1
noncomputable def sFld (K : PySem.W.Frag) (ta tv : TE) (f : Str) : TS := fun D σ H => tv σ H fun y H1 => ta σ H1 fun x H2 => ∃ a C dx fs, x = .ref a ∧ H2 a = some (.ins C dx fs) ∧ Cls K C ∧ NoAttr K C f ∧ fs.length < 1000 ∧
  D.nx σ (upd H2 a (.ins C dx (putF f y fs)))
noncomputable def InOp (X : Cx) (op : Operator) (rd : V → V → Hp → VK → Prop) : Prop :=
  ∀ (pins : List (Addr × Obj)) (s : Shared) (σ : St) (H : Hp) (x y : V) (u v : Value) (Q : VK), Inv X pins σ H s → RelV x u → RelV y v → rd x y H Q → wpAny (model X.prog X.w) X.A (inplaceOp op u v) (EP X pins σ Q) X.xe s
noncomputable def sFldAug (K : PySem.W.Frag) (ta tv : TE) (rd : V → V → Hp → VK → Prop) (f : Str) : TS := fun D σ H => ta σ H fun x H1 => ∃ a C dx fs v, x = .ref a ∧ H1 a = some (.ins C dx fs) ∧ Cls K C ∧ NoAttr K C f ∧ fs.lookup f = some v ∧
  tv σ H1 fun y H2 => rd v y H2 fun z H3 => ∃ dx' fs', H3 a = some (.ins C dx' fs') ∧ fs'.length < 1000 ∧ D.nx σ (upd H3 a (.ins C dx' (putF f z fs')))

section
variable {X : Cx} {o e value : Expr} {f : Str} {pos pos' tpos : Pos} {ta tv : TE}
noncomputable def rAdd : V → V → Hp → VK → Prop := fun x y H Q => ∃ i j, x = .int i ∧ y = .int j ∧ Q (.int (i + j)) H
noncomputable def rSub : V → V → Hp → VK → Prop := fun x y H Q => ∃ i j, x = .int i ∧ y = .int j ∧ Q (.int (i - j)) H
end

section
variable {X : Cx} {pins : List (Addr × Obj)} {σ : St} {H : Hp} {s : Shared} {A : Around} {E : Value → Shared → Prop} {Q : Value → Shared → Prop} {c : Value} {b : Bool}
inductive TyOf (K : PySem.W.Frag) (H : Hp) : V → Value → Prop where
  | non : TyOf K H .non (.type "NoneType")
  | bl (x : Bool) : TyOf K H (.bl x) (.type "bool")
  | int (i : Int) : TyOf K H (.int i) (.type "int")
  | str (x : Str) : TyOf K H (.str x) (.type "str")
  | flt (x : UInt64) : TyOf K H (.flt x) (.type "float")
  | lst {a : Addr} {xs : List V} (e : H a = some (.lst xs)) : TyOf K H (.ref a) (.type "list")
  | frz {a : Addr} {o : Obj} {xs : List V} (e : H a = some (.frz o (.lst xs))) : TyOf K H (.ref a) (.type "list")
  | tup {a : Addr} {xs : List V} (e : H a = some (.tup xs)) : TyOf K H (.ref a) (.type "tuple")
  | dK {a : Addr} {kvs : List (Key × V)} (e : H a = some (.dK kvs)) : TyOf K H (.ref a) (.type "dict")
  | dT {a : Addr} {kvs : List (List Key × V)} (e : H a = some (.dT kvs)) : TyOf K H (.ref a) (.type "dict")
  | ins {a C dx : Addr} {fs : List (Str × V)} (e : H a = some (.ins C dx fs)) (cl : Cls K C) (ha : PySem.W.findIn K (.ref C) "__class__" = some (some (.builtin "object.__class__")))
      (hn : PySem.W.specialIn K (.builtin "object.__class__") "__get__" = some (some (.builtin "getset_descriptor.__get__"))) (htk : PySem.W.takesIn K (.builtin "object.__class__") = some true)
      (hm : PySem.W.mroIn K C (.type "object") = some true) : TyOf K H (.ref a) (.ref C)
theorem isinst_ok {x : V} {u t : Value} (I : Inv X pins σ H s) (rx : RelV x u) (ty : TyOf X.K H x t) (e : PySem.W.kitOne X.K t c = some b) (h : ∀ tk, Q (.bool b) { s with toks := tk }) :
    wpAny (model X.prog X.w) A (call (.builtin "isinstance") [u, c]) Q E s := by
  cases ty with
  | non => cases (show u = Value.none from rx); exact PySem.W.kia_one PySem.W.kitx_none I.kIn True.intro e (fun z => nomatch z) h
  | bl y => cases (show u = Value.bool y from rx); exact PySem.W.kia_one PySem.W.kitx_bool I.kIn True.intro e (fun z => nomatch z) h
  | int i => obtain ⟨t, q⟩ := (show ∃ t, u = Value.int i t from rx); cases q; exact PySem.W.kia_one PySem.W.kitx_int I.kIn True.intro e (fun z => nomatch z) h
  | str y => obtain ⟨t, q⟩ := (show ∃ t, u = Value.str y t from rx); cases q; exact PySem.W.kia_one PySem.W.kitx_str I.kIn True.intro e (fun z => nomatch z) h
  | flt y => obtain ⟨t, q⟩ := (show ∃ t, u = Value.float y t from rx); cases q; exact PySem.W.kia_one PySem.W.kitx_float I.kIn True.intro e (fun z => nomatch z) h
  | @lst a xs ea =>
    cases (show u = Value.ref a from rx)
    obtain ⟨_, _, n, _, h1⟩ := (show ObjOk X.prog X.w H s.heap a (.lst xs) from I.hok a _ ea)
    exact PySem.W.kia_one PySem.W.kitx_list I.kIn ⟨_, h1, rfl⟩ e (fun z => nomatch z) h
  | @frz a ob xs ea =>
    cases (show u = Value.ref a from rx)
    obtain ⟨_, _, _, n, _, h1⟩ := (show ObjOk X.prog X.w H s.heap a (.frz ob (.lst xs)) from I.hok a _ ea)
    exact PySem.W.kia_one PySem.W.kitx_list I.kIn ⟨_, h1, rfl⟩ e (fun z => nomatch z) h
  | @tup a xs ea =>
    cases (show u = Value.ref a from rx)
    obtain ⟨_, _, _, p⟩ := (show ObjOk X.prog X.w H s.heap a (.tup xs) from I.hok a _ ea)
    obtain ⟨o, h1, h2, _⟩ := p
    exact PySem.W.kia_one PySem.W.kitx_tuple I.kIn ⟨o, h1, h2⟩ e (fun z => nomatch z) h
  | @dK a kvs ea =>
    cases (show u = Value.ref a from rx)
    obtain ⟨_, _, vs, _, p⟩ := (show ObjOk X.prog X.w H s.heap a (.dK kvs) from I.hok a _ ea)
    obtain ⟨o, es, ep, h1, h2, _⟩ := p
    exact PySem.W.kia_one PySem.W.kitx_dict I.kIn ⟨o, h1, h2.1⟩ e (fun z => nomatch z) h
  | @dT a kvs ea =>
    cases (show u = Value.ref a from rx)
    obtain ⟨_, _, xs, _, o, es, ep, h1, h2, _⟩ := (show ObjOk X.prog X.w H s.heap a (.dT kvs) from I.hok a _ ea)
    exact PySem.W.kia_one PySem.W.kitx_dict I.kIn ⟨o, h1, h2.1⟩ e (fun z => nomatch z) h
  | @ins a C dx fs ea cl ha hn htk hm =>
    cases (show u = Value.ref a from rx)
    obtain ⟨mA, O, _⟩ := ins_get I.hok ea
    obtain ⟨od, J, _⟩ := O.look
    exact PySem.W.kia_one (PySem.W.kitx_own (cl.get _) cl.hd ha hn htk hm) I.kIn J e (fun z => nomatch z) h
end
end L2

namespace L2
open PySem PySem.Spec PyProof.Rows

structure Room (k : Nat) (A : Around) : Prop where
  hd : A.handled = none
  dp : A.depth + 3 * k + 5 < recursionLimit
  un : A.units + 16 * k + 200 < cLine
theorem Room.mono {j k : Nat} {A : Around} (r : Room k A) (h : j ≤ k) : Room j A := ⟨r.hd, by have := r.dp; (first | lia | omega), by have := r.un; (first | lia | omega)⟩
theorem Room.deeper {k : Nat} {A : Around} (r : Room (k + 1) A) (env : Env) : Room k (A.deeper env) :=
  ⟨r.hd, by have := r.dp; show A.depth + 1 + 3 * k + 5 < _; (first | lia | omega), by have := r.un; show A.units + 3 + 16 * k + 200 < _; (first | lia | omega)⟩
theorem make_depth {A : Around} {C : Addr} {us : List Value} {kw : List (Str × Value)} : (A.under (.builtin "type.__call__" ⟨.ref C :: us, kw⟩)).depth = A.depth + 1 := by
  first | rfl | simp [Around.under, Code.weight, Code.isCreation, Code.isGuard, Code.isCaller, Code.frames, Code.isFrame, guardIds]
theorem make_units {A : Around} {C : Addr} {us : List Value} {kw : List (Str × Value)} : (A.under (.builtin "type.__call__" ⟨.ref C :: us, kw⟩)).units = A.units + 1 := by
  first | rfl | simp [Around.under, Code.cUnits, Code.frames, Code.isFrame]
theorem Room.make {k : Nat} {A : Around} (r : Room (k + 1) A) (C : Addr) (us : List Value) (kw : List (Str × Value)) : Room k (A.under (.builtin "type.__call__" ⟨.ref C :: us, kw⟩)) :=
  ⟨r.hd, by have := r.dp; rw [make_depth]; (first | lia | omega), by have := r.un; rw [make_units]; (first | lia | omega)⟩
theorem Room.depth {k : Nat} {A : Around} (r : Room k A) : A.depth < recursionLimit := by have := r.dp; (first | lia | omega)
noncomputable def tNil : TA := fun _ H Q => Q [] H
noncomputable def tCons (ta : TE) (tr : TA) : TA := fun σ H Q => ta σ H fun x H1 => tr σ H1 fun xs H2 => Q (x :: xs) H2
section
variable {X : Cx} {e : Expr} {es : List Expr} {te : TE} {t : TA} {pos : Pos}
theorem pa_nil : PA X [] tNil := ⟨fun _ _ _ _ H Q I h => Calls.spliced_nil ⟨[], H, I, .nil, h⟩⟩
theorem pa_cons (ha : PE X e te) (hr : PA X es t) (hs : starEach (e :: es) X.env = (false, eval e X.env) :: starEach es X.env := by rfl) : PA X (e :: es) (tCons te t) := by
  refine ⟨?_⟩
  intro pos pins s σ H Q I h
  rw [hs]
  show wpAny _ _ (spliced ((false, eval e X.env) :: backTo pos (starEach es X.env))) _ _ s
  refine Calls.spliced_cons (thn (ha pins s σ H _ I h) fun u s1 hzz => ?_)
  obtain ⟨x, H1, I1, r1, q1⟩ := hzz
  exact thn (hr pos pins s1 σ H1 _ I1 q1) fun us s2 ⟨xs, H2, I2, r2, q2⟩ => ⟨x :: xs, H2, I2, .cons r1 r2, q2⟩

noncomputable def tTup (t : TA) : TE := fun σ H Q => t σ H fun xs H1 => xs.length ≤ sizeLine ∧ ∀ p, H1 p = none → Q (.ref p) (upd H1 p (.tup xs))
noncomputable def tLst (t : TA) : TE := fun σ H Q => t σ H fun xs H1 => xs.length ≤ sizeLine ∧ ∀ p, H1 p = none → Q (.ref p) (upd H1 p (.lst xs))
theorem pe_tup {x1} (h : PA X es t) : PE X (.Tuple es x1 pos) (tTup t) := by
  refine ⟨?_⟩
  intro pins s σ H Q I hq
  refine wpAny_Tuple_spliced (thn (h pos pins s σ H _ I hq) fun us s1 ⟨xs, H1, I1, r, z, q⟩ => ⟨by rw [← r.length]; exact z, ?_⟩)
  have hf : H1 s1.heap.objs.size = none := I1.hok.fresh (Nat.le_refl _)
  refine ⟨.ref s1.heap.objs.size, upd H1 s1.heap.objs.size (.tup xs), I1.laid (t' := s1.toks) (fun b u e => Heap.get?_push_of_some _ e) (Nat.le_refl _) ?_, rfl, q _ hf⟩
  exact ⟨z, us, r, ⟨_, Heap.get?_push_size _ rfl, rfl, _, rfl⟩⟩
theorem pe_lst (h : PA X es t) : PE X (.List es pos) (tLst t) := by
  refine ⟨?_⟩
  intro pins s σ H Q I hq
  refine wpAny_List_spliced (thn (h pos pins s σ H _ I hq) fun us s1 ⟨xs, H1, I1, r, z, q⟩ => ⟨by rw [← r.length]; exact z, ?_⟩)
  have hf : H1 s1.heap.objs.size = none := I1.hok.fresh (Nat.le_refl _)
  refine ⟨.ref s1.heap.objs.size, upd H1 s1.heap.objs.size (.lst xs), I1.laid (t' := s1.toks) (fun b u e => Heap.get?_push_of_some _ e) (Nat.le_refl _) ?_, rfl, q _ hf⟩
  exact ⟨z, us, 0, r, Heap.get?_push_size _ rfl⟩
end

noncomputable abbrev Sp := List V → Hp → VK → XK → Prop
noncomputable abbrev CXT := List Env → Hp → Shared → XK → Value → Shared → Prop

structure Env0 (P : Program) (w : World) (K : PySem.W.Frag) (mg : Str → Option Value) (base : Heap) (A : Around) (outer : List Env) (s : Shared) (H : Hp) : Prop where
  frames : A.frames = some outer
  mod : Mod K mg base
  bs : ∀ b o, base.get? b = some o → s.heap.get? b = some o ∧ H b = none
  bsz : base.objs.size ≤ s.heap.objs.size
  funs : s.heap.FunFrames base outer
  frf : ∀ b ∈ frs outer, H b = none
  hok : HOk P w H s.heap
  bare : AllBare s.gens
noncomputable def CE (outer : List Env) (P : Program) (w : World) (H : Hp) (s : Shared) (Q : VK) (u : Value) (s' : Shared) : Prop :=
  ∃ v H', s'.os = s.os ∧ AllBare s'.gens ∧ Un (frs outer) [] H H' s.heap s'.heap ∧ HOk P w H' s'.heap ∧ RelV v u ∧ Q v H'
noncomputable def CR (CX : CXT) (outer : List Env) (P : Program) (w : World) (H : Hp) (s : Shared) (Q : VK) (E : XK) (r : Result) (s' : Shared) : Prop :=
  match r with
  | .ok (.ret u) => CE outer P w H s Q u s'
  | .ok _ => False
  | .error e => CX outer H s E e s'
structure FnOk (P : Program) (w : World) (K : PySem.W.Frag) (mg : Str → Option Value) (base : Heap) (CX : CXT) (k : Nat) (f : Addr) (fd : FuncData) (ps : List Str) (sp : Sp) : Prop where
  len : ∀ vs H Q E, sp vs H Q E → vs.length = ps.length
  run : ∀ (A : Around) (outer : List Env) (s : Shared) (H : Hp) (args : Args) (us : List Value) (vs : List V) (Q : VK) (E : XK), Room k A → Env0 P w K mg base A outer s H → BindsTo s fd args (ps.zip us) → Vals vs us → sp vs H Q E →
    codeAny (model P w) A (.call (.ref f) args) (CR CX outer P w H s Q E) s
theorem Env0.make {P : Program} {w : World} {K : PySem.W.Frag} {mg : Str → Option Value} {base : Heap} {A : Around} {outer : List Env} {s : Shared} {H : Hp} (e : Env0 P w K mg base A outer s H) (C : Addr) (us : List Value) (kw : List (Str × Value)) :
    Env0 P w K mg base (A.under (.builtin "type.__call__" ⟨.ref C :: us, kw⟩)) outer s H := ⟨by first | exact e.frames | (simpa [Around.under, Code.envs, Code.isFrame, pushEnvs] using e.frames), e.mod, e.bs, e.bsz, e.funs, e.frf, e.hok, e.bare⟩
section
variable {X : Cx} {pins : List (Addr × Obj)} {σ : St} {H : Hp} {s s' : Shared}
theorem Inv.env0 (I : Inv X pins σ H s) : Env0 X.prog X.w X.K X.mg X.base X.A X.stack s H :=
  ⟨I.ok.frames, I.ok.mod, I.bs, Nat.le_trans I.ok.bsz I.sz, I.stack, I.stkFree, I.hok, I.bare⟩
theorem Inv.after {Q : VK} {u : Value} (I : Inv X pins σ H s) (h : CE X.stack X.prog X.w H s Q u s') : EP X pins σ Q u s' := by
  obtain ⟨v, H', os, bare, un, hok, r, q⟩ := h
  obtain ⟨hh, g, d, t, os'⟩ := s'
  obtain rfl : os' = s.os := os
  exact ⟨v, H', I.call (h' := hh) (g' := g) (d' := d) (t' := t) (ch := []) un hok bare (fun b z => absurd z (by simp)), r, q⟩
end

noncomputable def tCall (sp : Sp) (dvs : List V) (E : XK) (t : TA) : TE := fun σ H Q => t σ H fun vs H1 => sp (vs ++ dvs) H1 Q E
noncomputable def tMeth (C : Addr) (m : Str) (sp : Sp) (dvs : List V) (E : XK) (ta : TE) (t : TA) : TE := fun σ H Q => ta σ H fun x H1 => ∃ a dx fs, x = .ref a ∧ H1 a = some (.ins C dx fs) ∧ fs.lookup m = none ∧
  t σ H1 fun vs H2 => sp (x :: (vs ++ dvs)) H2 Q E
noncomputable def tMake (C : Addr) (sp : Sp) (dvs : List V) (E : XK) (t : TA) : TE := fun σ H Q => t σ H fun vs H1 => ∀ x dx, H1 x = none → H1 dx = none → dx ≠ x →
  sp (.ref x :: (vs ++ dvs)) (upd (upd H1 dx (.own x)) x (.ins C dx [])) (fun v H2 => v = .non ∧ Q (.ref x) H2) E

noncomputable def Binds (K : PySem.W.Frag) (fd : FuncData) (ps : List Str) (ds : List Value) : Prop :=
  ∀ (s : Shared) (us : List Value), K.In s.heap → (us ++ ds).length = ps.length → BindsTo s fd ⟨us, []⟩ (ps.zip (us ++ ds))
theorem Binds.all {K : PySem.W.Frag} {fd : FuncData} {ps : List Str} (h : ∀ us : List Value, us.length = ps.length → bindArgs fd ⟨us, []⟩ = pure (ps.zip us)) : Binds K fd ps [] := fun s us _ hl => by
  rw [List.append_nil] at hl ⊢
  exact .of_eq (h us hl)

noncomputable def Passes (CX : CXT) (X : Cx) (E : XK) : Prop := ∀ (pins : List (Addr × Obj)) (σ : St) (H : Hp) (s : Shared) (e : Value) (s' : Shared), Inv X pins σ H s → CX X.stack H s E e s' → X.xe e s'

section
variable {X : Cx} {CX : CXT} {k : Nat} {f C : Addr} {fd : FuncData} {ps : List Str} {sp : Sp} {dvs : List V} {ds : List Value} {E : XK} {x m : Str} {p pos apos : Pos} {e o : Expr} {es : List Expr} {ta : TE} {t : TA}

theorem run_fn {pins : List (Addr × Obj)} {σ : St} {H : Hp} {s : Shared} {Q : VK} {us : List Value} {vs : List V} (F : FnOk X.prog X.w X.K X.mg X.base CX k f fd ps sp) (hr : Room k X.A) (hb : Binds X.K fd ps ds) (hd : Vals dvs ds) (hx : Passes CX X E)
    (I : Inv X pins σ H s) (r : Vals vs us) (h : sp (vs ++ dvs) H Q E) : wpAny (model X.prog X.w) X.A (call (.ref f) us) (EP X pins σ Q) X.xe s := by
  have r2 : Vals (vs ++ dvs) (us ++ ds) := r.append hd
  have hl : (us ++ ds).length = ps.length := by rw [← r2.length]; exact F.len _ _ _ _ h
  refine wpAny_call (codeAny_mono (F.run X.A X.stack s H ⟨us, []⟩ (us ++ ds) (vs ++ dvs) Q E hr I.env0 (hb s us I.kIn hl) r2 h) fun r s' hq => ?_)
  cases r with
  | error e => exact hx pins σ H s e s' I hq
  | ok fl =>
    cases fl with
    | ret u => exact I.after hq
    | next => exact False.elim hq
    | brk => exact False.elim hq
    | cont => exact False.elim hq

theorem pe_call (F : FnOk X.prog X.w X.K X.mg X.base CX k f fd ps sp) (hr : Room k X.A) (hg : Gl X x) (hm : X.mg x = some (.ref f)) (hk : PySem.W.keepIn X.K (.ref f) = true) (hb : Binds X.K fd ps ds) (hd : Vals dvs ds) (hx : Passes CX X E)
    (ha : PA X (e :: es) t) (hdb : (x == ("__debug__" : Str)) = false := by decide) (he : starEach (e :: es) X.env = (false, eval e X.env) :: starEach es X.env := by rfl) (hpl : (backTo pos (starEach es X.env)).any (·.1) = false := by rfl) :
    PE X (.Call (.Name x p) (e :: es) [] pos) (tCall sp dvs E t) := by
  refine ⟨?_⟩
  intro pins s σ H Q I h
  refine wpAny_Call_Name_kw (ld_glob I hg hm ?_ hdb)
  refine PySem.W.callWith_K (h₀ := X.base) I.ok.mod.kin hk (thn (ha pos pins s σ H _ I h) fun us s1 ⟨vs, H1, I1, r, q⟩ => ⟨I1.kIn, ?_⟩) he hpl
  exact run_fn F hr hb hd hx I1 r q
structure Mk (K : PySem.W.Frag) (C f : Addr) : Prop where
  makes : PySem.W.makesIn K C = true
  init : PySem.W.findIn K (.ref C) "__init__" = some (some (.ref f))
  fn : PySem.W.isFn K (.ref f) = true
  kp : PySem.W.keepIn K (.ref C) = true

end

structure PK (X : Cx) (kws : List Keyword) (t : TA)  : Prop where
  go : ∀ (pos : Pos) (pins : List (Addr × Obj)) (s : Shared) (σ : St) (H : Hp) (Q : List V → Hp → Prop), Inv X pins σ H s → t σ H Q → wpAny (model X.prog X.w) X.A (evalAll ((backToKw pos (keywordEach kws X.env)).map (·.2))) (AP X pins σ Q) X.xe s
instance {X : Cx} {kws : List Keyword} {t : TA} : CoeFun (PK X kws t) (fun _ => ∀ (pos : Pos) (pins : List (Addr × Obj)) (s : Shared) (σ : St) (H : Hp) (Q : List V → Hp → Prop), Inv X pins σ H s → t σ H Q → wpAny (model X.prog X.w) X.A (evalAll ((backToKw pos (keywordEach kws X.env)).map (·.2))) (AP X pins σ Q) X.xe s) := ⟨PK.go⟩
section
variable {X : Cx} {CX : CXT} {k : Nat} {f C : Addr} {fd : FuncData} {ps ks : List Str} {sp : Sp} {E : XK} {x m : Str} {p pos apos kpos : Pos} {e o : Expr} {es : List Expr} {kws : List Keyword} {te ta : TE} {t tk : TA} {nm : Option Str}
structure KBinds (K : PySem.W.Frag) (fd : FuncData) (ps ks : List Str) (g : List Value → List Value → List Value) (gV : List V → List V → List V) : Prop where
  to : ∀ (s : Shared) (us ws : List Value), K.In s.heap → (g us ws).length = ps.length → BindsTo s fd ⟨us, ks.zip ws⟩ (ps.zip (g us ws))
  rel : ∀ {vs : List V} {us : List Value} {zs : List V} {ws : List Value}, Vals vs us → Vals zs ws → Vals (gV vs zs) (g us ws)
noncomputable def tCallK (sp : Sp) (gV : List V → List V → List V) (E : XK) (t tk : TA) : TE := fun σ H Q => t σ H fun vs H1 => tk σ H1 fun zs H2 => sp (gV vs zs) H2 Q E
variable {g : List Value → List Value → List Value} {gV : List V → List V → List V}
end

structure FnScope (N P : List Str) (sc : Scope) : Prop where
  kind : sc.kind = .function
  co : sc.isCoroutine = false
  gen : sc.isGenerator = false
  nd : N.Nodup
  pre : N.take P.length = P
  par : ∀ x ∈ P, sc.names.lookup x = some .local ∨ sc.names.lookup x = some .cell
  nofree : ∀ y ∈ sc.names, y.2 ≠ .free

theorem bindL_out {kindOf : Str → Option NameKind} {x : Str} : ∀ {binds : List (Str × Value)} {m : Str → Option Value}, (∀ v, (x, v) ∉ binds) → bindL kindOf binds m x = m x
  | [], _, _ => rfl
  | (n, v) :: r, m, h => by
    unfold bindL
    rw [bindL_out fun w hw => h w (List.mem_cons_of_mem _ hw)]
    split
    · have : x ≠ n := by rintro rfl; exact h v List.mem_cons_self
      simp [this]
    · rfl
theorem bindC_out {kindOf : Str → Option NameKind} {x : Str} : ∀ {binds : List (Str × Value)} {m : Str → Option Value}, (∀ v, (x, v) ∉ binds) → bindC kindOf binds m x = m x
  | [], _, _ => rfl
  | (n, v) :: r, m, h => by
    unfold bindC
    rw [bindC_out fun w hw => h w (List.mem_cons_of_mem _ hw)]
    split
    · rfl
    · have : x ≠ n := by rintro rfl; exact h v List.mem_cons_self
      simp [this]
theorem bindL_get {kindOf : Str → Option NameKind} {x : Str} {v : Value} : ∀ {P : List Str} {vs : List Value} {i : Nat} {m : Str → Option Value}, P.Nodup → P[i]? = some x → vs[i]? = some v → kindOf x = some .local →
    bindL kindOf (P.zip vs) m x = some v
  | [], _, _, _, _, h, _, _ => by simp at h
  | _ :: _, [], _, _, _, _, h, _ => by simp at h
  | p :: P, w :: vs, 0, m, nd, h1, h2, hk => by
    simp at h1 h2; subst h1; subst h2
    show bindL kindOf ((p, w) :: P.zip vs) m p = _
    unfold bindL
    rw [bindL_out fun v hv => (List.nodup_cons.mp nd).1 (List.of_mem_zip hv).1, if_pos hk]
    simp
  | p :: P, w :: vs, i + 1, m, nd, h1, h2, hk => by
    show bindL kindOf ((p, w) :: P.zip vs) m x = _
    unfold bindL
    exact bindL_get (i := i) (List.nodup_cons.mp nd).2 (by simpa using h1) (by simpa using h2) hk
theorem bindC_get {kindOf : Str → Option NameKind} {x : Str} {v : Value} : ∀ {P : List Str} {vs : List Value} {i : Nat} {m : Str → Option Value}, P.Nodup → P[i]? = some x → vs[i]? = some v → kindOf x ≠ some .local →
    bindC kindOf (P.zip vs) m x = some v
  | [], _, _, _, _, h, _, _ => by simp at h
  | _ :: _, [], _, _, _, _, h, _ => by simp at h
  | p :: P, w :: vs, 0, m, nd, h1, h2, hk => by
    simp at h1 h2; subst h1; subst h2
    show bindC kindOf ((p, w) :: P.zip vs) m p = _
    unfold bindC
    rw [bindC_out fun v hv => (List.nodup_cons.mp nd).1 (List.of_mem_zip hv).1, if_neg hk]
    simp
  | p :: P, w :: vs, i + 1, m, nd, h1, h2, hk => by
    show bindC kindOf ((p, w) :: P.zip vs) m x = _
    unfold bindC
    exact bindC_get (i := i) (List.nodup_cons.mp nd).2 (by simpa using h1) (by simpa using h2) hk

noncomputable def start (N : List Str) (vs : List V) : St := vs.map some ++ List.replicate (N.length - vs.length) none

noncomputable def cxOf (CX : CXT) (P : Program) (w : World) (K : PySem.W.Frag) (mg : Str → Option Value) (base : Heap) (N : List Str) (qual : Str) (scope : Scope) (f : Addr) (cd : Value) (A : Around) (outer : List Env) (s : Shared) (H : Hp) (E : XK) : Cx where
  prog := P
  w := w
  K := K
  mg := mg
  base := base
  A := A.deeper (envOfC qual scope s.heap.objs.size f cd)
  N := N
  s₀ := s
  H₀ := H
  env := envOfC qual scope s.heap.objs.size f cd
  outer := outer
  stack := envOfC qual scope s.heap.objs.size f cd :: outer
  ex := []
  calm := true
  fn := fun _ => true
  pn := []
  xe := fun e s' => wpAny (model P w) (A.deeper (envOfC qual scope s.heap.objs.size f cd)) (leaving (envOfC qual scope s.heap.objs.size f cd) e) (fun _ s'' => CX outer H s E e s'') (fun e' s'' => CX outer H s E e' s'') s'

theorem cell_has {sc : Scope} {n : Nat} {x : Str} (h : sc.names.lookup x = some .cell) : ∃ c, (cellsFrom n sc.names []).lookup x = some c := by
  have q := PySem.W.cellsFrom_some sc.names n [] (.inl h)
  exact Option.isSome_iff_exists.mp q

theorem inv_start {CX : CXT} {P : Program} {w : World} {K : PySem.W.Frag} {mg : Str → Option Value} {base : Heap} {N ps : List Str} {qual : Str} {scope : Scope} {f : Addr} {cd : Value} {A : Around} {outer : List Env} {s s1 : Shared} {H : Hp} {E : XK} {us : List Value} {vs : List V}
    (S : FnScope N ps scope) (hd : A.handled = none) (e0 : Env0 P w K mg base A outer s H) (hl : vs.length = ps.length) (r : Vals vs us)
    (x : InCallC s s.heap.objs.size (bindL (envOfC qual scope s.heap.objs.size f cd).kindOf (ps.zip us) fun _ => none) (cellsFrom (s.heap.objs.size + 1) scope.names []) (bindC (envOfC qual scope s.heap.objs.size f cd).kindOf (ps.zip us) fun _ => none) s1) :
    Inv (cxOf CX P w K mg base N qual scope f cd A outer s H E) [] (start N vs) H s1 := by
  have hpl : ps.length ≤ N.length := by have := congrArg List.length S.pre; rw [List.length_take] at this; (first | lia | omega)
  obtain ⟨h1, tk, rfl, hk⟩ := x.done
  have noA : ∀ b : Addr, b ∉ (cxOf CX P w K mg base N qual scope f cd A outer s H E).ex := fun b z => absurd (show b ∈ ([] : List Addr) from z) (by simp)
  refine ⟨⟨e0.mod, S.kind, rfl, rfl, Nat.le_refl _, fun y z c h1 h2 => ?_, fun y hy => ?_, fun y c _ h => ?_, fun _ => hd, Around.frames_deeper e0.frames, .inr ⟨rfl, rfl⟩, fun b z => absurd z (noA b), e0.bs, e0.bsz, fun b _ _ => noA b, fun b z => absurd z (noA b), e0.funs, e0.frf⟩,
    rfl, e0.bare, Un.kept hk, ⟨_, x.toInCall.ns, fun i y v h1 h2 h3 => ?_⟩, fun y c h => ⟨_, x.cell y c h⟩, e0.hok.fresh (Nat.le_refl _), fun y c h => ?_, fun p hp => absurd (show p ∈ ([] : List (Addr × Obj)) from hp) (by simp), e0.hok.kept hk, ?_⟩
  · exact name_of_addr x.apart (PySem.mem_of_lookup h1) (PySem.mem_of_lookup h2)
  · have hy : scope.names.lookup y = some .cell ∨ scope.names.lookup y = some .free := hy
    rcases hy with hy | hy
    · exact cell_has hy
    · exact absurd rfl (S.nofree _ (PySem.mem_of_lookup hy))
  · exact Nat.le_of_lt (x.above y c (PySem.mem_of_lookup h))
  · have hi : i < vs.length := by
      unfold start at h2
      by_cases hi : i < vs.length
      · exact hi
      · rw [List.getElem?_append_right (by simpa using hi)] at h2
        rw [List.getElem?_replicate] at h2
        split at h2 <;> cases h2
    have ha : vs[i]? = some v := by
      unfold start at h2
      rw [List.getElem?_append_left (by simpa using hi), List.getElem?_map] at h2
      cases e : vs[i]? with
      | none => rw [e] at h2; cases h2
      | some a => rw [e] at h2; cases h2; rfl
    obtain ⟨u, hu, rv⟩ := r.get ha
    have hp : ps[i]? = some y := by
      rw [← S.pre, List.getElem?_take_of_lt (by (first | lia | omega))]; exact h1
    have ndP : ps.Nodup := by rw [← S.pre]; exact S.nd.sublist (List.take_sublist _ _)
    refine ⟨u, rv, ?_⟩
    rcases S.par y (List.mem_of_getElem? hp) with k | k
    · exact .inl ⟨k, bindL_get ndP hp hu k⟩
    · obtain ⟨c, e⟩ := cell_has (n := s.heap.objs.size + 1) k
      refine .inr ⟨.inl k, c, e, ?_⟩
      have q := x.cell y c e
      rw [bindC_get ndP hp hu (by show scope.names.lookup y ≠ _; rw [k]; decide)] at q
      exact q
  · exact e0.hok.fresh (Nat.le_of_lt (x.above y c (PySem.mem_of_lookup h)))
  · unfold start
    show _ = N.length
    rw [List.length_append, List.length_map, List.length_replicate]
    (first | lia | omega)

theorem fn_of {CX : CXT} {P : Program} {w : World} {K : PySem.W.Frag} {mg : Str → Option Value} {base : Heap} {k : Nat} {f : Addr} {name qual : Str} {params : Arguments} {body : List Stmt} {scope : Scope} {dV kV doc pm cdv ct oc : Value} {an od : Option Addr}
    {osl : Array (Option Value)} {N ps : List Str} {sp : Sp} (lk : K.lookup f = some ⟨oc, od, .func (PySem.W.fnOf name qual params body scope dV kV doc pm an cdv ct), osl⟩) (hcd : PySem.W.codeIn K cdv qual = true) (S : FnScope N ps scope)
    (len : ∀ vs H Q E, sp vs H Q E → vs.length = ps.length)
    (hbody : ∀ (A : Around) (outer : List Env) (s : Shared) (H : Hp) (vs : List V) (Q : VK) (E : XK), Room k (A.deeper (envOfC qual scope s.heap.objs.size f cdv)) → sp vs H Q E →
      ∃ t, PSs (cxOf CX P w K mg base N qual scope f cdv A outer s H E) body t ∧ t { nx := fun _ H' => Q .non H', rt := Q } (start N vs) H) :
    FnOk P w K mg base CX (k + 1) f (PySem.W.fnOf name qual params body scope dV kV doc pm an cdv ct) ps sp := by
  refine ⟨len, fun A outer s H args us vs Q E hr e0 hb r hsp => ?_⟩
  have hl := len _ _ _ _ hsp
  have KX : K.In s.heap := e0.mod.kin.keeps fun b o e => (e0.bs b o e).1
  have lim : s.heap.NoLimit := e0.mod.nolimit.keeps fun b o e => (e0.bs b o e).1
  have hkind : ∀ y ∈ ps.zip us, scope.names.lookup y.1 = some .local ∨ (scope.names.lookup y.1 = some .cell ∧ ((cellsFrom (s.heap.objs.size + 1) scope.names []).lookup y.1).isSome = true) := fun ⟨n, v⟩ hy => by
    rcases S.par n (List.of_mem_zip hy).1 with q | q
    · exact .inl q
    · exact .inr ⟨q, PySem.W.cellsFrom_some _ _ _ (.inl q)⟩
  refine codeAny_call_function hr.depth (KX _ _ lk) rfl S.co S.gen rfl (PySem.W.codeRec_of KX hcd) (hb _ _ _ _ ?_)
  refine wpAny_newFunctionEnv_cells S.kind hkind fun env he s1 x => ?_
  subst he
  refine ⟨lim.keeps x.toInCall.keep, codeAny_func ?_⟩
  obtain ⟨t, ht, hq⟩ := hbody A outer s H vs Q E (hr.deeper _) hsp
  have I : Inv (cxOf CX P w K mg base N qual scope f cdv A outer s H E) [] (start N vs) H s1 := inv_start S hr.hd e0 hl r x
  refine wpAny_mono (ht [] s1 (start N vs) H _ I hq) (fun fl s' hs => ?_) fun e s' hs => hs
  have fin : ∀ {σ' : St} {H' : Hp} {v : V} {u : Value}, Inv (cxOf CX P w K mg base N qual scope f cdv A outer s H E) [] σ' H' s' → RelV v u → Q v H' → CE outer P w H s Q u s' :=
    fun {σ' H' v u} J rv q => ⟨v, H', J.os, J.bare, J.base, J.hok, rv, q⟩
  cases fl with
  | ret u =>
    obtain ⟨v, σ', H', J, rv, q⟩ := hs
    exact fin J rv q
  | next =>
    obtain ⟨σ', H', J, q⟩ := hs
    exact fin (v := V.non) (u := Value.none) J rfl q
  | brk =>
    obtain ⟨_, _, _, q⟩ := hs
    exact False.elim q
  | cont =>
    obtain ⟨_, _, _, q⟩ := hs
    exact False.elim q
end L2

namespace L2
open PySem PySem.Spec PyProof.Rows
section
variable {X : Cx} {x : Str} {p pos : Pos} {e : Expr} {es : List Expr} {t : TA} {id T : String} {r : List V → Hp → VK → Prop}

noncomputable def tCB (r : List V → Hp → VK → Prop) (t : TA) : TE := fun σ H Q => t σ H fun vs H1 => r vs H1 Q
theorem pe_callB (hc : CallR X (.builtin id) r) (hg : Gl X x) (hm : X.mg x = none) (hv : bootBuiltins x = some (.builtin id)) (ha : PA X (e :: es) t) (hn : x ≠ "__name__" := by decide) (hdb : (x == ("__debug__" : Str)) = false := by decide)
    (he : starEach (e :: es) X.env = (false, eval e X.env) :: starEach es X.env := by rfl) (hpl : (backTo pos (starEach es X.env)).any (·.1) = false := by rfl) : PE X (.Call (.Name x p) (e :: es) [] pos) (tCB r t) := by
  refine ⟨?_⟩
  intro pins s σ H Q I h
  refine wpAny_Call_Name_kw (ld_blt I hg hm hv ?_ hn hdb)
  exact PyProof.Rows.callWith_builtin1 (thn (ha pos pins s σ H _ I h) fun us s1 ⟨vs, H1, I1, r1, q1⟩ => hc pins s1 σ H1 vs us Q I1 r1 q1) he hpl
theorem pe_callTy (hc : CallR X (.type T) r) (hg : Gl X x) (hm : X.mg x = none) (hv : bootBuiltins x = some (.type T)) (ha : PA X (e :: es) t) (hn : x ≠ "__name__" := by decide) (hdb : (x == ("__debug__" : Str)) = false := by decide)
    (he : starEach (e :: es) X.env = (false, eval e X.env) :: starEach es X.env := by rfl) (hpl : (backTo pos (starEach es X.env)).any (·.1) = false := by rfl) : PE X (.Call (.Name x p) (e :: es) [] pos) (tCB r t) := by
  refine ⟨?_⟩
  intro pins s σ H Q I h
  refine wpAny_Call_Name_kw (ld_blt I hg hm hv ?_ hn hdb)
  exact PyProof.Rows.callWith_type1 (thn (ha pos pins s σ H _ I h) fun us s1 ⟨vs, H1, I1, r1, q1⟩ => hc pins s1 σ H1 vs us Q I1 r1 q1) he hpl
end
end L2

namespace HT
open PySem PyProof.Rows

noncomputable def lexLt : List Int → List Int → Bool
  | [], [] => false
  | [], _ :: _ => true
  | _ :: _, [] => false
  | x :: xs, y :: ys => if x = y then lexLt xs ys else decide (x < y)
section
open PySem.SeqAt
open PySem.AutoSeq1 (wpAny_loadPart')
open PySem.MeetsSeq PySem.MeetsSeq2 PySem.MeetsSeq3

end

section
variable {prog : Program} {w : World} {A : Around} {E : Value → Shared → Prop} {s : Shared}

noncomputable def sIx (n d : Nat) : Option Int → Nat
  | none => d
  | some v => if v < 0 then (v + (n : Int)).toNat else min v.toNat n
theorem sIx_none (n d : Nat) : sIx n d none = d := rfl
theorem sIx_nat (n d k : Nat) : sIx n d (some (k : Int)) = min k n := by
  show (if (k : Int) < 0 then ((k : Int) + (n : Int)).toNat else min (k : Int).toNat n) = min k n
  rw [if_neg (by (first | lia | omega)), Int.toNat_natCast]
end
end HT

namespace L2
open PySem PySem.Spec PyProof.Rows

noncomputable abbrev TO := St → Hp → (Option Int → Hp → Prop) → Prop
structure PO (X : Cx) (e : Option Expr) (t : TO)  : Prop where
  go : ∀ (pins : List (Addr × Obj)) (s : Shared) (σ : St) (H : Hp) (Q : Option Int → Hp → Prop), Inv X pins σ H s → t σ H Q →
    wpAny (model X.prog X.w) X.A (evalPart e X.env) (fun u s' => ∃ o H', Inv X pins σ H' s' ∧ IsPart u o ∧ Q o H') X.xe s
instance {X : Cx} {e : Option Expr} {t : TO} : CoeFun (PO X e t) (fun _ => ∀ (pins : List (Addr × Obj)) (s : Shared) (σ : St) (H : Hp) (Q : Option Int → Hp → Prop), Inv X pins σ H s → t σ H Q →
    wpAny (model X.prog X.w) X.A (evalPart e X.env) (fun u s' => ∃ o H', Inv X pins σ H' s' ∧ IsPart u o ∧ Q o H') X.xe s) := ⟨PO.go⟩
noncomputable def tNoPart : TO := fun _ H Q => Q none H
noncomputable def tPart (t : TE) : TO := fun σ H Q => t σ H fun x H1 => ∃ i, x = .int i ∧ Q (some i) H1

section
variable {X : Cx} {e : Expr} {te : TE} {lo hi : Option Expr} {tl th : TO} {pos p2 : Pos}

theorem po_none : PO X none tNoPart := by
  refine ⟨?_⟩
  intro pins s σ H Q I h
  rw [evalPart_none]
  exact wpAny_pure ⟨none, H, I, .none, h⟩
theorem po_some (h : PE X e te) : PO X (some e) (tPart te) := by
  refine ⟨?_⟩
  intro pins s σ H Q I hw
  rw [evalPart_some]
  refine thn (h pins s σ H _ I hw) fun u s1 hzz => ?_
  obtain ⟨x, H1, I1, r1, q1⟩ := hzz
  obtain ⟨i, rfl, q⟩ := q1
  obtain ⟨t, rfl⟩ := r1
  exact ⟨some i, H1, I1, .int i t, q⟩

noncomputable def SlR (X : Cx) (r : V → Option Int → Option Int → Hp → VK → Prop) : Prop :=
  ∀ (pins : List (Addr × Obj)) (s : Shared) (σ : St) (H : Hp) (x : V) (v vl vu : Value) (lo hi : Option Int) (sl : Addr) (Q : VK), Inv X pins σ H s → RelV x v → s.heap.IsSliceOf sl vl vu .none → IsPart vl lo → IsPart vu hi → r x lo hi H Q →
    ∃ T id, typeLookup (.type T) "__getitem__" = pure (some (.builtin id)) ∧ s.TypeIs v T ∧ wpAny (model X.prog X.w) X.A (getItem v (.ref sl)) (EP X pins σ Q) X.xe s
noncomputable def tSl (r : V → Option Int → Option Int → Hp → VK → Prop) (te : TE) (tl th : TO) : TE := fun σ H Q => te σ H fun x H1 => tl σ H1 fun l H2 => th σ H2 fun u H3 => r x l u H3 Q
theorem pe_slice {r : V → Option Int → Option Int → Hp → VK → Prop} (hr : SlR X r) (he : PE X e te) (hl : PO X lo tl) (hu : PO X hi th) : PE X (.Subscript e (.Slice lo hi none p2) pos) (tSl r te tl th) := by
  refine ⟨?_⟩
  intro pins s σ H Q I h
  refine Subscript_ (thn (he pins s σ H _ I h) fun v s1 hzz => ?_)
  obtain ⟨x, H1, I1, r1, q1⟩ := hzz
  refine wpAny_Slice (thn (hl pins s1 σ H1 _ I1 q1) fun vl s2 ⟨l, H2, I2, pl, q2⟩ => thn (hu pins s2 σ H2 _ I2 q2) fun vu s3 hzz => ?_)
  obtain ⟨u, H3, I3, pu, q3⟩ := hzz
  rw [evalPart_none]
  refine wpAny_pure ?_
  have I4 : Inv X pins σ H3 { s3 with heap := s3.heap.push { cls := .type "slice", data := .fields #[vl, vu, .none] } } := I3.kept (t' := s3.toks) fun b ob q => Heap.get?_push_of_some _ q
  obtain ⟨T, id, hT, ht, hg⟩ := hr pins { s3 with heap := s3.heap.push { cls := .type "slice", data := .fields #[vl, vu, .none] } } σ H3 x v vl vu l u s3.heap.objs.size Q I4 r1 (Heap.IsSliceOf.new ..) pl pu q3
  show wpAny (model X.prog X.w) X.A (subscriptTail e (.Slice lo hi none p2) v (.ref s3.heap.objs.size)) (EP X pins σ Q) X.xe { s3 with heap := s3.heap.push { cls := .type "slice", data := .fields #[vl, vu, .none] } }
  exact tail_any (ops := [.ref s3.heap.objs.size, v]) ht hT hg (by with_unfolding_all rfl)

noncomputable def cutV (xs : List V) (lo hi : Option Int) : List V := (xs.drop (HT.sIx xs.length 0 lo)).take (HT.sIx xs.length xs.length hi - HT.sIx xs.length 0 lo)
theorem cutV_length (xs : List V) (lo hi : Option Int) : (cutV xs lo hi).length ≤ xs.length := by
  unfold cutV
  rw [List.length_take, List.length_drop]
  (first | lia | omega)
noncomputable def rSlT (K : PySem.W.Frag) : V → Option Int → Option Int → Hp → VK → Prop := fun x lo hi H Q => ∃ a xs, x = .ref a ∧ SqT K H a xs ∧
  ¬ (HT.sIx xs.length 0 lo = 0 ∧ HT.sIx xs.length xs.length hi = xs.length) ∧ ∀ p, H p = none → Q (.ref p) (upd H p (.tup (cutV xs lo hi)))
noncomputable def rLtT (K : PySem.W.Frag) : R2 := fun x y H Q => ∃ a b ns ms, x = .ref a ∧ y = .ref b ∧ SqT K H a (ns.map V.int) ∧ SqT K H b (ms.map V.int) ∧ Q (.bl (HT.lexLt ns ms)) H
noncomputable def rCatT (K : PySem.W.Frag) : R2 := fun x y H Q => ∃ a b xs ys, x = .ref a ∧ y = .ref b ∧ SqT K H a xs ∧ SqT K H b ys ∧ xs ≠ [] ∧ xs.length + ys.length ≤ sizeLine ∧
  (ys = [] → Q (.ref a) H) ∧ (ys ≠ [] → ∀ p, H p = none → Q (.ref p) (upd H p (.tup (xs ++ ys))))
end
end L2

namespace L2
open PySem PySem.Spec PyProof.Rows

noncomputable def ixN (n : Nat) (i : Int) : Option Nat := if 0 ≤ i then (if i < n then some i.toNat else none) else if -(n : Int) ≤ i then some (i + n).toNat else none
noncomputable def atI {α : Type} (xs : List α) (i : Int) : Option α := (ixN xs.length i).bind fun j => xs[j]?
theorem ixN_seq {n : Nat} {i : Int} {j : Nat} (h : ixN n i = some j) : seqIndex? i n = some j ∧ j < n ∧ -(n : Int) ≤ i ∧ i < n := by
  unfold ixN at h
  by_cases h0 : 0 ≤ i
  · rw [if_pos h0] at h
    by_cases h1 : i < n
    · rw [if_pos h1] at h
      have e : i.toNat = j := Option.some.inj h
      exact ⟨by rw [seqIndex_of h0 h1, e], by (first | lia | omega), by (first | lia | omega), h1⟩
    · rw [if_neg h1] at h; cases h
  · rw [if_neg h0] at h
    by_cases h1 : -(n : Int) ≤ i
    · rw [if_pos h1] at h
      have e : (i + n).toNat = j := Option.some.inj h
      exact ⟨by rw [seqIndex_neg (by (first | lia | omega)) h1, e], by (first | lia | omega), h1, by (first | lia | omega)⟩
    · rw [if_neg h1] at h; cases h
theorem atI_get {α : Type} {xs : List α} {i : Int} {v : α} (h : atI xs i = some v) : ∃ j, seqIndex? i xs.length = some j ∧ xs[j]? = some v ∧ j < xs.length ∧ -(xs.length : Int) ≤ i ∧ i < xs.length := by
  unfold atI at h
  cases e : ixN xs.length i with
  | none => rw [e] at h; cases h
  | some j =>
    rw [e] at h
    obtain ⟨h1, h2, h3, h4⟩ := ixN_seq e
    exact ⟨j, h1, h, h2, h3, h4⟩
theorem atI_nat {α : Type} {xs : List α} {j : Nat} {v : α} (h : xs[j]? = some v) : atI xs (j : Int) = some v := by
  have hj : j < xs.length := (List.getElem?_eq_some_iff.mp h).1
  have e : ixN xs.length (j : Int) = some j := by
    unfold ixN
    rw [if_pos (by (first | lia | omega)), if_pos (by (first | lia | omega))]; simp
  unfold atI; rw [e]; exact h
noncomputable def PlainIx (b : Expr) : Prop := ∀ o i, subscripted b false o i = operate [o, i] (getItem o i)
noncomputable def IxR (X : Cx) (r : R2) : Prop :=
  ∀ (value slice : Expr) (pins : List (Addr × Obj)) (s : Shared) (σ : St) (H : Hp) (x y : V) (v u : Value) (Q : VK), Inv X pins σ H s → RelV x v → RelV y u → r x y H Q →
    subscripted slice false v u = operate [v, u] (getItem v u) → wpAny (model X.prog X.w) X.A (subscriptTail value slice v u) (EP X pins σ Q) X.xe s
noncomputable def MtR (X : Cx) (id : String) (r : V → List V → Hp → VK → Prop) : Prop :=
  ∀ (pins : List (Addr × Obj)) (s : Shared) (σ : St) (H : Hp) (x : V) (xs : List V) (v : Value) (us : List Value) (Q : VK), Inv X pins σ H s → RelV x v → Vals xs us → r x xs H Q →
    wpAny (model X.prog X.w) X.A (call (.builtin id) (v :: us)) (EP X pins σ Q) X.xe s
section
variable {X : Cx} {a b : Expr} {ta tb : TE} {pos : Pos}
theorem pe_ix {r : R2} (hr : IxR X r) (ha : PE X a ta) (hb : PE X b tb) (hs : PlainIx b) : PE X (.Subscript a b pos) (tOp r ta tb) := by
  refine ⟨?_⟩
  intro pins s σ H Q I h
  exact Subscript_ (binT ha hb I h fun v u s2 x y H2 I2 rx ry q => hr a b pins s2 σ H2 x y v u Q I2 rx ry q (hs _ _))

noncomputable def rIxL (K : PySem.W.Frag) : R2 := fun x y H Q => ∃ p xs i v, x = .ref p ∧ y = .int i ∧ SqL K H p xs ∧ atI xs i = some v ∧ Q v H
noncomputable def rIxT (K : PySem.W.Frag) : R2 := fun x y H Q => ∃ p xs i v, x = .ref p ∧ y = .int i ∧ SqT K H p xs ∧ atI xs i = some v ∧ Q v H
noncomputable def rIxS : R2 := fun x y H Q => ∃ z i c, x = .str z ∧ y = .int i ∧ z.length ≤ sizeLine ∧ atI z.cps.toList i = some c ∧ Q (.str ⟨#[c]⟩) H
theorem ix_list : IxR X (rIxL X.K) := by
  intro value slice pins s σ H x y v u Q I rx ry h hs
  obtain ⟨p, xs, i, z, rfl, rfl, hq, he, q⟩ := h
  cases rx
  obtain ⟨t, rfl⟩ := ry
  obtain ⟨its, r, pl, hz⟩ := I.list hq
  obtain ⟨j, h1, h2, h3, h4, h5⟩ := atI_get he
  obtain ⟨w, ew, rw'⟩ := r.get h2
  have hl := r.length
  have hn := line63
  have fin : EP X pins σ Q w s := ⟨z, H, I, rw', q⟩
  by_cases h0 : 0 ≤ i
  · have hj : i.toNat = j := by
      rw [seqIndex_of h0 h5] at h1
      exact Option.some.inj h1
    exact item_listR pl.isList h0 (by (first | lia | omega)) (by rw [hj]; simpa using ew) fin hs
  · have hj : (i + (its.toArray.size : Int)).toNat = j := by
      rw [seqIndex_neg (by (first | lia | omega)) h4] at h1
      rw [List.size_toArray, ← hl]
      exact Option.some.inj h1
    exact subscriptTail_builtinR (x := w) pl.isList.typeIs slot_list_getitem.lookup
      (wpAny_getItem_list_neg (Q := fun r s' => r = w ∧ EP X pins σ Q r s') pl.isList (by (first | lia | omega)) (by rw [List.size_toArray] <;> (first | lia | omega)) (by (first | lia | omega)) (by rw [hj]; simpa using ew) ⟨rfl, fin⟩) hs
theorem ix_str : IxR X rIxS := by
  intro value slice pins s σ H x y v u Q I rx ry h hs
  obtain ⟨z, i, c, rfl, rfl, hz, he, q⟩ := h
  obtain ⟨t, rfl⟩ := rx
  obtain ⟨t', rfl⟩ := ry
  obtain ⟨j, h1, h2, h3, h4, h5⟩ := atI_get he
  have hl : z.cps.toList.length = z.length := by simp [Str.length]
  rw [hl] at h1 h4 h5
  have hn := line63
  exact tail_any (typeIs_str s z t) slot_str_getitem.lookup (getItem_str (c := c) (by
    have e1 : decide (i < -(2 ^ 63 : Int)) = false := decide_eq_false (by (first | lia | omega))
    have e2 : decide (i ≥ 2 ^ 63) = false := decide_eq_false (by (first | lia | omega))
    rw [e1, e2, Bool.or_false]) (by rw [h1]; simpa using h2) ⟨.str ⟨#[c]⟩, H, I.tok _, ⟨_, rfl⟩, q⟩) hs
noncomputable def rIx (K : PySem.W.Frag) : R2 := fun x y H Q => rIxL K x y H Q ∨ rIxT K x y H Q ∨ rIxS x y H Q
theorem mapSeq_set (its : List Value) (n j : Nat) (u : Value) : Obj.mapSeq (·.setIfInBounds j u) { cls := .type "list", data := .seq its.toArray n } = { cls := .type "list", data := .seq (its.set j u).toArray n } := by
  simp [Obj.mapSeq]
theorem Inv.lst {pins : List (Addr × Obj)} {σ : St} {H : Hp} {s : Shared} {p : Addr} {xs : List V} (I : Inv X pins σ H s) (h : H p = some (.lst xs)) :
    ∃ (its : List Value) (n : Nat), Vals xs its ∧ s.heap.get? p = some { cls := .type "list", data := .seq its.toArray n } ∧ xs.length ≤ sizeLine := by
  obtain ⟨z, its, n, r, e⟩ := I.hok p _ h
  exact ⟨its, n, r, e, z⟩
theorem Inv.lstUpd {pins : List (Addr × Obj)} {σ : St} {H : Hp} {s : Shared} {p : Addr} {xs ys : List V} {its its' : List Value} {n n' : Nat} {f : Obj → Obj} (I : Inv X pins σ H s) (h : H p = some (.lst xs))
    (ho : s.heap.get? p = some { cls := .type "list", data := .seq its.toArray n }) (hf : f { cls := .type "list", data := .seq its.toArray n } = { cls := .type "list", data := .seq its'.toArray n' }) (r : Vals ys its') (hz : ys.length ≤ sizeLine) (t : Nat) :
    Inv X pins σ (upd H p (.lst ys)) { s with heap := s.heap.update p f, toks := t } := by
  have e : (s.heap.update p f).get? p = some { cls := .type "list", data := .seq its'.toArray n' } := by
    rw [Heap.get?_update_self f ho (by rw [hf] <;> rfl), hf]
  refine I.write (x := p) (e := p) (by rw [h]; trivial) (.inl rfl) (fun b u hb q => (Heap.get?_update_other _ _ (Ne.symm hb)).trans q) ⟨_, e⟩ ?_
  exact ⟨hz, its', n', r, e⟩
noncomputable def rSetL : V → V → V → Hp → (Hp → Prop) → Prop := fun o i v H Q => ∃ p xs k j, o = .ref p ∧ i = .int k ∧ H p = some (.lst xs) ∧ ixN xs.length k = some j ∧ Q (upd H p (.lst (xs.set j v)))
theorem set_list : PSet X rSetL := by
  intro pins s σ H o i v ov iv u Q I ro ri rv h
  obtain ⟨p, xs, k, j, rfl, rfl, hp, hj, q⟩ := h
  cases ro
  obtain ⟨t, rfl⟩ := ri
  obtain ⟨its, n, r, ho, hz⟩ := I.lst hp
  obtain ⟨h1, h2, h3, h4⟩ := ixN_seq hj
  have hl := r.length
  have hn := line63
  have I' : Inv X pins σ (upd H p (.lst (xs.set j v))) { s with heap := s.heap.update p (Obj.mapSeq (·.setIfInBounds j u)) } :=
    I.lstUpd hp ho (mapSeq_set its n j u) (r.set rv j) (by rw [List.length_set]; exact hz) s.toks
  by_cases h0 : 0 ≤ k
  · have hk : k.toNat = j := by
      rw [seqIndex_of h0 h4] at h1
      exact Option.some.inj h1
    exact PySem.W.ki_setAt ho h0 (by (first | lia | omega)) (by rw [List.size_toArray, ← hl]; exact h4) (by rw [hk]; exact ⟨_, I', q⟩)
  · have hk : (k + (its.toArray.size : Int)).toNat = j := by
      rw [seqIndex_neg (by (first | lia | omega)) h3] at h1
      rw [List.size_toArray, ← hl]
      exact Option.some.inj h1
    exact PySem.W.ki_setBack ho (by (first | lia | omega)) (by rw [List.size_toArray, ← hl]; exact h3) (by (first | lia | omega)) (by rw [hk]; exact ⟨_, I', q⟩)

theorem slice_bounds (lo hi : Option Int) (n : Nat) : (sliceBounds lo hi none n).1 = ((HT.sIx n 0 lo : Nat) : Int) ∧ (sliceBounds lo hi none n).2.1 = ((HT.sIx n n hi : Nat) : Int) ∧ (sliceBounds lo hi none n).2.2 = 1 := by
  refine ⟨?_, ?_, rfl⟩
  · cases lo with
    | none => simp [sliceBounds, HT.sIx]
    | some i =>
      simp only [sliceBounds, HT.sIx, Option.getD_none, show (1 : Int) > 0 by decide, if_true]
      by_cases h : i < 0
      · simp only [h, if_true] <;> (first | lia | omega)
      · simp only [h, if_false] <;> (first | lia | omega)
  · cases hi with
    | none => simp [sliceBounds, HT.sIx]
    | some i =>
      simp only [sliceBounds, HT.sIx, Option.getD_none, show (1 : Int) > 0 by decide, if_true]
      by_cases h : i < 0
      · simp only [h, if_true] <;> (first | lia | omega)
      · simp only [h, if_false] <;> (first | lia | omega)
theorem slicePick_cut (its : List Value) (lo hi : Option Int) : slicePick its.toArray lo hi none = ((its.drop (HT.sIx its.length 0 lo)).take (HT.sIx its.length its.length hi - HT.sIx its.length 0 lo)).toArray := by
  obtain ⟨h1, h2, h3⟩ := slice_bounds lo hi its.toArray.size
  unfold slicePick
  rw [h1, h2, h3]
  simp only [sliceRange_one, pick_run, List.size_toArray] <;> rfl
noncomputable def rSlL (K : PySem.W.Frag) : V → Option Int → Option Int → Hp → VK → Prop := fun x lo hi H Q => ∃ a xs, x = .ref a ∧ SqL K H a xs ∧ ∀ p, H p = none → Q (.ref p) (upd H p (.lst (cutV xs lo hi)))
theorem sl_list : SlR X (rSlL X.K) := by
  intro pins s σ H x v vl vu lo hi sl Q I rx hs pl pu h
  obtain ⟨a, xs, rfl, hx, q⟩ := h
  cases rx
  obtain ⟨its, r, ht, hz⟩ := I.list hx
  have hlen := r.length
  refine ⟨"list", _, slot_list_getitem.lookup, ht.isList.typeIs, ?_⟩
  refine wpAny_getItem_list_slice ht.isList hs pl pu .none (by simp) ?_ (by rw [List.size_toArray] <;> (first | lia | omega))
  rw [slicePick_cut, ← hlen]
  refine ⟨.ref s.heap.objs.size, _, I.laid (t' := s.toks) (o := .lst (cutV xs lo hi)) (fun b ob q => Heap.get?_push_of_some _ q) (Nat.le_refl _) ?_, rfl, q _ (I.hok.fresh (Nat.le_refl _))⟩
  exact ⟨Nat.le_trans (cutV_length xs lo hi) hz, _, 0, (r.drop (HT.sIx xs.length 0 lo)).take (HT.sIx xs.length xs.length hi - HT.sIx xs.length 0 lo), Heap.get?_push_size _ rfl⟩

noncomputable def flatV : V → Bool
  | .non => true
  | .bl _ => true
  | .int _ => true
  | .str _ => true
  | _ => false
noncomputable def eqV : V → V → Bool
  | .non, .non => true
  | .bl a, .bl b => a == b
  | .bl a, .int b => (if a then 1 else 0) == b
  | .int a, .bl b => a == (if b then 1 else 0)
  | .int a, .int b => a == b
  | .str a, .str b => a == b
  | _, _ => false
theorem eqAt_V {A : Around} {s : Shared} {y x : V} {u v : Value} (ry : RelV y u) (rx : RelV x v) (fy : flatV y = true) (fx : flatV x = true) : SeqAt.EqAt A s u v (eqV y x) := by
  cases y with
  | non =>
    cases ry
    cases x with
    | non => cases rx; exact SeqAt.EqAt.same _
    | bl b => cases rx; exact SeqAt.EqAt.none_bool b
    | int b => obtain ⟨t, rfl⟩ := rx; exact SeqAt.EqAt.none_int b t
    | str b => obtain ⟨t, rfl⟩ := rx; exact SeqAt.EqAt.none_str b t
    | _ => exact absurd (show false = true from fx) Bool.false_ne_true
  | bl a =>
    cases ry
    cases x with
    | non => cases rx; exact SeqAt.EqAt.bool_none a
    | bl b => cases rx; exact SeqAt.EqAt.bool_bool a b
    | int b => obtain ⟨t, rfl⟩ := rx; exact SeqAt.EqAt.bool_int a b t
    | str b => obtain ⟨t, rfl⟩ := rx; exact SeqAt.EqAt.bool_str a b t
    | _ => exact absurd (show false = true from fx) Bool.false_ne_true
  | int a =>
    obtain ⟨t', rfl⟩ := ry
    cases x with
    | non => cases rx; exact SeqAt.EqAt.int_none a t'
    | bl b => cases rx; exact SeqAt.EqAt.int_bool a t' b
    | int b => obtain ⟨t, rfl⟩ := rx; exact SeqAt.EqAt.int_int a t' b t
    | str b => obtain ⟨t, rfl⟩ := rx; exact SeqAt.EqAt.int_str a t' b t
    | _ => exact absurd (show false = true from fx) Bool.false_ne_true
  | str a =>
    obtain ⟨t', rfl⟩ := ry
    cases x with
    | non => cases rx; exact SeqAt.EqAt.str_none a t'
    | bl b => cases rx; exact SeqAt.EqAt.str_bool a t' b
    | int b => obtain ⟨t, rfl⟩ := rx; exact SeqAt.EqAt.str_int a t' b t
    | str b => obtain ⟨t, rfl⟩ := rx; exact SeqAt.EqAt.str_str a t' b t
    | _ => exact absurd (show false = true from fx) Bool.false_ne_true
  | _ => exact absurd (show false = true from fy) Bool.false_ne_true
noncomputable def eqU (x : V) (u : Value) : Bool := match u with
  | .none => eqV .non x
  | .bool b => eqV (.bl b) x
  | .int i _ => eqV (.int i) x
  | .str z _ => eqV (.str z) x
  | _ => false
theorem eqU_of {x y : V} {u : Value} (r : RelV y u) (f : flatV y = true) : eqU x u = eqV y x := by
  cases y with
  | non => cases r; rfl
  | bl b => cases r; rfl
  | int i => obtain ⟨t, rfl⟩ := r; rfl
  | str z => obtain ⟨t, rfl⟩ := r; rfl
  | _ => exact absurd (show false = true from f) Bool.false_ne_true
theorem any_eqU {x : V} : ∀ {xs : List V} {us : List Value}, Vals xs us → xs.all flatV = true → us.any (eqU x) = xs.any fun y => eqV y x
  | _, _, .nil, _ => rfl
  | y :: xs, u :: us, .cons r t, f => by
    rw [List.all_cons, Bool.and_eq_true] at f
    rw [List.any_cons, List.any_cons, eqU_of r f.1, any_eqU t f.2]
theorem mem_eqAt {A : Around} {s : Shared} {x : V} {v : Value} (rx : RelV x v) (fx : flatV x = true) : ∀ {xs : List V} {us : List Value}, Vals xs us → xs.all flatV = true → ∀ u ∈ us, SeqAt.EqAt A s u v (eqU x u)
  | _, _, .nil, _ => fun u hu => by cases hu
  | y :: xs, u :: us, .cons r t, f => fun u' hu => by
    rw [List.all_cons, Bool.and_eq_true] at f
    rcases List.mem_cons.mp hu with rfl | hu
    · rw [eqU_of r f.1]; exact eqAt_V r rx f.1 fx
    · exact mem_eqAt rx fx t f.2 u' hu
noncomputable def inV (x : V) (xs : List V) : Bool := xs.any fun y => eqV y x
noncomputable def rIn (K : PySem.W.Frag) (neg : Bool) : R2 := fun x y H Q => ∃ p xs, y = .ref p ∧ (SqL K H p xs ∨ SqT K H p xs) ∧ flatV x = true ∧ xs.all flatV = true ∧ Q (.bl (if neg then !inV x xs else inV x xs)) H
theorem op_in_seq : OpR X (compareOp .In) (rIn X.K false) := by
  intro pins s σ H x y v u Q I rx ry h
  obtain ⟨p, xs, rfl, hq, fx, fs, q⟩ := h
  cases ry
  rcases hq with hq | hq
  · obtain ⟨its, r, pl, hz⟩ := I.list hq
    refine SeqAt.in_listAt (eqU x) pl.isList (fun w hw => mem_eqAt rx fx r fs w (by simpa using hw)) ⟨.bl _, H, I, rfl, ?_⟩
    rw [show its.toArray.any (eqU x) = its.any (eqU x) by simp, any_eqU r fs]
    exact q
  · obtain ⟨its, r, pl, hz⟩ := I.tuple hq
    refine SeqAt.in_tupleAt (eqU x) pl (fun w hw => mem_eqAt rx fx r fs w (by simpa using hw)) ⟨.bl _, H, I, rfl, ?_⟩
    rw [show its.toArray.any (eqU x) = its.any (eqU x) by simp, any_eqU r fs]
    exact q
theorem op_notIn_seq : OpR X (compareOp .NotIn) (rIn X.K true) := by
  intro pins s σ H x y v u Q I rx ry h
  obtain ⟨p, xs, rfl, hq, fx, fs, q⟩ := h
  cases ry
  rcases hq with hq | hq
  · obtain ⟨its, r, pl, hz⟩ := I.list hq
    refine SeqAt.notIn_listAt (eqU x) pl.isList (fun w hw => mem_eqAt rx fx r fs w (by simpa using hw)) ⟨.bl _, H, I, rfl, ?_⟩
    rw [show its.toArray.any (eqU x) = its.any (eqU x) by simp, any_eqU r fs]
    exact q
  · obtain ⟨its, r, pl, hz⟩ := I.tuple hq
    refine SeqAt.notIn_tupleAt (eqU x) pl (fun w hw => mem_eqAt rx fx r fs w (by simpa using hw)) ⟨.bl _, H, I, rfl, ?_⟩
    rw [show its.toArray.any (eqU x) = its.any (eqU x) by simp, any_eqU r fs]
    exact q
theorem call_len_seq : CallR X (.builtin "len") (fun xs H Q => ∃ p ys, xs = [.ref p] ∧ (SqL X.K H p ys ∨ SqT X.K H p ys) ∧ Q (.int ys.length) H) := by
  intro pins s σ H xs us Q I r h
  obtain ⟨p, ys, rfl, hq, q⟩ := h
  obtain ⟨u, rfl, rx⟩ := vals1 r
  cases rx
  have hn := line63
  rcases hq with hq | hq
  · obtain ⟨its, r', pl, hz⟩ := I.list hq
    have hlen := r'.length
    exact Calls.call_len_list pl.isList (by simp only [List.size_toArray] <;> (first | lia | omega)) ⟨.int ys.length, H, I.tok _, ⟨s.toks + 1, by rw [List.size_toArray, hlen]⟩, q⟩
  · obtain ⟨its, r', pl, hz⟩ := I.tuple hq
    have hlen := r'.length
    exact len_tuple pl (by simp only [List.size_toArray] <;> (first | lia | omega)) ⟨.int ys.length, H, I.tok _, ⟨s.toks + 1, by rw [List.size_toArray, hlen]⟩, q⟩
theorem call_len_str : CallR X (.builtin "len") (fun xs H Q => ∃ z, xs = [.str z] ∧ z.length ≤ sizeLine ∧ Q (.int z.length) H) := by
  intro pins s σ H xs us Q I r h
  obtain ⟨z, rfl, hz, q⟩ := h
  obtain ⟨u, rfl, t, rfl⟩ := vals1 r
  have hn := line63
  exact len_str (by (first | lia | omega)) ⟨.int z.length, H, I.tok _, ⟨_, rfl⟩, q⟩
theorem call_tuple_of : CallR X (.type "tuple") (fun xs H Q => ∃ p ys, xs = [.ref p] ∧ ((SqL X.K H p ys ∧ ∀ l, H l = none → Q (.ref l) (upd H l (.tup ys))) ∨ (SqT X.K H p ys ∧ Q (.ref p) H))) := by
  intro pins s σ H xs us Q I r h
  obtain ⟨p, ys, rfl, h⟩ := h
  obtain ⟨u, rfl, rx⟩ := vals1 r
  cases rx
  rcases h with ⟨hq, q⟩ | ⟨hq, q⟩
  · obtain ⟨its, r', pl, hz⟩ := I.list hq
    have hlen := r'.length
    refine call_tuple_list pl.isList (fun h' kp => ?_) (by simp only [List.size_toArray] <;> (first | lia | omega))
    have I1 : Inv X pins σ H { s with heap := h' } := I.kept (t' := s.toks) kp
    have I2 : Inv X pins σ (upd H h'.objs.size (.tup ys)) { s with heap := h'.push { cls := .type "tuple", data := .seq its.toArray } } :=
      I1.laid (t' := s.toks) (fun b o e => Heap.get?_push_of_some _ e) (Nat.le_refl _) (show ObjOk X.prog X.w _ _ _ (.tup ys) from ⟨hz, its, r', IsTup.new _ _⟩)
    exact ⟨.ref h'.objs.size, _, I2, rfl, q _ (I1.hok.fresh (Nat.le_refl _))⟩
  · obtain ⟨its, r', pl, hz⟩ := I.tuple hq
    exact call_tuple_same pl ⟨.ref p, H, I, rfl, q⟩

noncomputable def tyV (K : PySem.W.Frag) (T : String) (x : V) (H : Hp) : Prop := match x with
  | .str _ => T = "str"
  | .int _ => T = "int"
  | .ref p => (T = "list" ∧ ∃ xs, SqL K H p xs) ∨ (T = "tuple" ∧ ∃ o, K.lookup p = some o ∧ o.cls = .type "tuple" ∧ o.dict = none) ∨
      (T = "dict" ∧ ((∃ kvs, H p = some (.dK kvs)) ∨ ∃ kvs, H p = some (.dT kvs))) ∨ (T = "set" ∧ ∃ S n, H p = some (.set S n))
  | _ => False
theorem tyV_is {pins : List (Addr × Obj)} {σ : St} {H : Hp} {s : Shared} {T : String} {x : V} {v : Value} (I : Inv X pins σ H s) (r : RelV x v) (ty : tyV X.K T x H) :
    s.TypeIs v T ∧ ∀ a, v = .ref a → ∃ ob, s.heap.get? a = some ob ∧ ob.dict = none := by
  cases x with
  | str z =>
    obtain ⟨t, rfl⟩ := r
    cases (show T = "str" from ty)
    exact ⟨typeIs_str s z t, fun _ e => nomatch e⟩
  | int i =>
    obtain ⟨t, rfl⟩ := r
    cases (show T = "int" from ty)
    exact ⟨typeIs_int s i t, fun _ e => nomatch e⟩
  | ref p =>
    cases r
    rcases ty with ⟨rfl, xs, hq⟩ | ⟨rfl, o, hk, hc, hd⟩ | ⟨rfl, hk⟩ | ⟨rfl, S, n, hk⟩
    · obtain ⟨its, _, pl, _⟩ := I.list hq
      refine ⟨pl.isList.typeIs, fun a e => ?_⟩
      cases e
      obtain ⟨o, n, e, c, hd, _⟩ := pl
      exact ⟨o, e, hd⟩
    · refine ⟨⟨o, I.kIn p o hk, hc⟩, fun a e => ?_⟩
      cases e
      exact ⟨o, I.kIn _ o hk, hd⟩
    · have z : ∃ o, s.heap.get? p = some o ∧ o.ExactDict := by
        rcases hk with ⟨kvs, hk⟩ | ⟨kvs, hk⟩
        · obtain ⟨_, _, _, _, o, _, _, e, ex, _⟩ := I.hok p _ hk
          exact ⟨o, e, ex⟩
        · obtain ⟨_, _, _, _, o, _, _, e, ex, _⟩ := I.hok p _ hk
          exact ⟨o, e, ex⟩
      obtain ⟨o, e, ex⟩ := z
      refine ⟨⟨o, e, ex.1⟩, fun a e2 => ?_⟩
      cases e2
      exact ⟨o, e, ex.2.1⟩
    · obtain ⟨o, _, _, _, e, ex, _⟩ := I.hok p _ hk
      refine ⟨⟨o, e, ex.1⟩, fun a e2 => ?_⟩
      cases e2
      exact ⟨o, e, ex.2.1⟩
  | _ => exact False.elim ty
noncomputable def tBM0 (K : PySem.W.Frag) (T : String) (r : V → List V → Hp → VK → Prop) (to : TE) : TE := fun σ H Q => to σ H fun x H1 => tyV K T x H1 ∧ r x [] H1 Q
noncomputable def tBM (K : PySem.W.Frag) (T : String) (r : V → List V → Hp → VK → Prop) (to : TE) (t : TA) : TE := fun σ H Q => to σ H fun x H1 => tyV K T x H1 ∧ t σ H1 fun xs H2 => r x xs H2 Q
variable {o e : Expr} {es : List Expr} {to : TE} {t : TA} {name : Str} {apos cpos : Pos} {T id : String} {r : V → List V → Hp → VK → Prop}
theorem pe_bm (pa : PlainAttrs T) (slot : Slot T name id) (hty : typeOf (.builtin id) = pure (.type "method_descriptor")) (hm : MtR X id r) (ho : PE X o to) (ha : PA X (e :: es) t)
    (hbase : attributeBase o name X.env (eval o X.env) = eval o X.env := by rfl)
    (hfew : ((backTo cpos (starEach (e :: es) X.env)).all (fun x => !x.1) && (backToKw cpos (keywordEach [] X.env)).all (fun x => x.1.isSome)
      && decide ((e :: es).length + ([] : List Keyword).length + (if ([] : List Keyword).isEmpty then 0 else 1) < 30)) = true := by rfl)
    (hline : (apos.endLine == cpos.line) = true := by rfl) (hs : starEach (e :: es) X.env = (false, eval e X.env) :: starEach es X.env := by rfl) (hplain : (backTo cpos (starEach es X.env)).any (·.1) = false := by rfl) :
    PE X (.Call (.Attribute o name apos) (e :: es) [] cpos) (tBM X.K T r to t) := by
  refine ⟨?_⟩
  intro pins s σ H Q I h
  refine wpAny_Call_method_late hbase hfew hline rfl (thn (ho pins s σ H _ I h) fun v s1 hzz => ?_)
  obtain ⟨x, H1, I1, r1, ty, q1⟩ := hzz
  obtain ⟨h1, h2⟩ := tyV_is I1 r1 ty
  refine ⟨T, id, pa, slot, hty, h1, h2, ?_⟩
  have hA := ha cpos pins s1 σ H1 _ I1 q1
  rw [hs] at hA ⊢
  refine Calls.callWith_builtin (by show (false || (backTo cpos (starEach es X.env)).any (·.1)) = false; rw [hplain] <;> rfl) (Calls.evalArgs_plain ?_)
  exact thn hA fun us s2 ⟨vs, H2, I2, r2, q2⟩ => hm pins s2 σ H2 x vs v us Q I2 r1 r2 q2
/- xs.append(e), list.index on a module's tuple .. are MtR facts of 06m -/
end
end L2

namespace L2
open PySem PySem.Spec PyProof.Rows

noncomputable def MtM (X : Cx) (id : String) (r : V → List V → Hp → VK → Prop) : Prop :=
  ∀ (pins : List (Addr × Obj)) (s : Shared) (σ : St) (H : Hp) (x : V) (xs : List V) (v : Value) (us : List Value) (Q : VK), Inv X pins σ H s → RelV x v → Vals xs us → r x xs H Q →
    wpAny (model X.prog X.w) X.A (call (.builtin id) (v :: us)) (EP X pins σ Q) X.xe s

theorem Vals.one : ∀ {x : V} {us : List Value}, Vals [x] us → ∃ u, us = [u] ∧ RelV x u
  | _, _, .cons r .nil => ⟨_, rfl, r⟩
theorem Vals.rep {xs : List V} {us : List Value} (h : Vals xs us) : ∀ k : Nat, Vals (List.replicate k xs).flatten (List.replicate k us).flatten
  | 0 => .nil
  | k + 1 => by
    rw [List.replicate_succ, List.replicate_succ, List.flatten_cons, List.flatten_cons]
    exact Vals.append h (Vals.rep h k)
theorem foldl_rep (its : List Value) : ∀ (k : Nat) (acc : List Value),
    List.foldl (fun x1 x2 => x1 ++ x2) acc.toArray (List.replicate k its.toArray) = (acc ++ (List.replicate k its).flatten).toArray
  | 0, acc => by simp
  | k + 1, acc => by
    have e : acc.toArray ++ its.toArray = (acc ++ its).toArray := by simp
    have e2 : (acc ++ its) ++ (List.replicate k its).flatten = acc ++ (List.replicate (k + 1) its).flatten := by
      rw [List.replicate_succ, List.flatten_cons, List.append_assoc]
    rw [← e2, ← foldl_rep its k (acc ++ its), ← e, List.replicate_succ, List.foldl_cons]

section
variable {X : Cx} {pins : List (Addr × Obj)} {σ : St} {H : Hp} {s : Shared} {l b : Addr} {xs ys zs : List V}

theorem Inv.lset {its its' : List Value} {n : Nat} {f : Array Value → Array Value} {t' : Nat} (I : Inv X pins σ H s) (hH : H l = some (.lst xs))
    (e : s.heap.get? l = some { cls := .type "list", data := .seq its.toArray n }) (hf : f its.toArray = its'.toArray) (hv : Vals ys its') (hz : ys.length ≤ sizeLine) :
    Inv X pins σ (upd H l (.lst ys)) { s with heap := s.heap.update l (Obj.mapSeq f), toks := t' } := by
  have q := PySem.IsL.update e f
  rw [hf] at q
  refine I.write (x := l) (e := l) (by rw [hH]; exact trivial) (.inl rfl) (fun b' u hb hu => (Heap.get?_update_other s.heap (Obj.mapSeq f) (Ne.symm hb)).trans hu) ⟨_, q⟩ ?_
  exact ⟨hz, its', _, hv, q⟩
theorem Inv.lnew {its : List Value} {t' : Nat} (I : Inv X pins σ H s) (hv : Vals ys its) (hz : ys.length ≤ sizeLine) :
    Inv X pins σ (upd H s.heap.objs.size (.lst ys)) { s with heap := s.heap.push { cls := .type "list", data := .seq its.toArray }, toks := t' } :=
  I.laid (fun _ _ q => Heap.get?_push_of_some _ q) (Nat.le_refl _) ⟨hz, its, 0, hv, Heap.get?_push_size _ rfl⟩
theorem Inv.fresh (I : Inv X pins σ H s) : H s.heap.objs.size = none := I.hok.fresh (Nat.le_refl _)
theorem Inv.lstM (I : Inv X pins σ H s) (hH : H l = some (.lst xs)) : xs.length ≤ sizeLine ∧ ∃ (its : List Value) (n : Nat), Vals xs its ∧ xs.length = its.length ∧ s.heap.get? l = some { cls := .type "list", data := .seq its.toArray n } := by
  obtain ⟨z, its, n, r, e⟩ := I.hok l _ hH
  exact ⟨z, its, n, r, r.length, e⟩

theorem notLongL {n : Nat} (h : n ≤ sizeLine) : Builtin.List.listTooLong n = false := by
  unfold Builtin.List.listTooLong
  exact decide_eq_false (by (first | lia | omega))
end

section
variable {X : Cx}

noncomputable def rAppend : V → List V → Hp → VK → Prop := fun x vs H Q => ∃ l xs y, x = .ref l ∧ vs = [y] ∧ H l = some (.lst xs) ∧ xs.length < sizeLine ∧ Q .non (upd H l (.lst (xs ++ [y])))
theorem mt_append : MtM X "list.append" rAppend := by
  intro pins s σ H x vs v us Q I rx rv h
  obtain ⟨l, xs, y, rfl, rfl, hH, hz, q⟩ := h
  cases rx
  obtain ⟨u, rfl, ru⟩ := rv.one
  obtain ⟨z, its, n, r, hl, e⟩ := I.lstM hH
  refine call_meets F.slot_list_append ⟨_, e, rfl⟩ F.entry_list_append (F.args_list_append_2 _ _) (PySem.list_append l its.toArray n u (by rw [List.size_toArray]; (first | lia | omega))) ⟨e, ?_⟩
  refine ⟨.non, _, I.lset (its' := its ++ [u]) hH e (by simp) (r.append (.cons ru .nil)) ?_, rfl, q⟩
  rw [List.length_append, List.length_singleton]
  (first | lia | omega)

noncomputable def rExtend : V → List V → Hp → VK → Prop := fun x vs H Q => ∃ l b xs zs, x = .ref l ∧ vs = [.ref b] ∧ H l = some (.lst xs) ∧ H b = some (.lst zs) ∧ xs.length + zs.length ≤ sizeLine ∧ Q .non (upd H l (.lst (xs ++ zs)))
theorem mt_extend : MtM X "list.extend" rExtend := by
  intro pins s σ H x vs v us Q I rx rv h
  obtain ⟨l, b, xs, zs, rfl, rfl, hH, hB, hz, q⟩ := h
  cases rx
  obtain ⟨u, rfl, ru⟩ := rv.one
  cases ru
  obtain ⟨z, its, n, r, hl, e⟩ := I.lstM hH
  obtain ⟨z2, its2, n2, r2, hl2, e2⟩ := I.lstM hB
  have hsz : its.toArray.size + its2.toArray.size ≤ sizeLine := by rw [List.size_toArray, List.size_toArray]; (first | lia | omega)
  have hlong : ¬ (!its.toArray.isEmpty && Builtin.List.listTooLong (its.toArray.size + its2.toArray.size)) = true := by
    rw [notLongL hsz, Bool.and_false]
    exact Bool.false_ne_true
  refine call_meets F.slot_list_extend ⟨_, e, rfl⟩ F.entry_list_extend (F.args_list_extend_2 _ _)
    (AutoSeq1.list_extend_list_list_0 l its.toArray n b its2.toArray n2 hlong (by rw [List.size_toArray]; (first | lia | omega)) (by (first | lia | omega))) ⟨e, e2, ?_⟩
  refine ⟨.non, _, I.lset (its' := its ++ its2) hH e (by simp) (r.append r2) ?_, rfl, q⟩
  rw [List.length_append]
  (first | lia | omega)

noncomputable def rPop : V → List V → Hp → VK → Prop := fun x vs H Q => ∃ l xs y, x = .ref l ∧ vs = [] ∧ H l = some (.lst xs) ∧ xs[xs.length - 1]? = some y ∧ Q y (upd H l (.lst xs.dropLast))
noncomputable def rPopAt : V → List V → Hp → VK → Prop := fun x vs H Q => ∃ l xs i k y, x = .ref l ∧ vs = [.int i] ∧ H l = some (.lst xs) ∧ -(2 ^ 63) ≤ i ∧ i < 2 ^ 63 ∧ seqIndex? i xs.length = some k ∧ xs[k]? = some y ∧ Q y (upd H l (.lst (xs.eraseIdx k)))
noncomputable def rReverse : V → List V → Hp → VK → Prop := fun x vs H Q => ∃ l xs, x = .ref l ∧ vs = [] ∧ H l = some (.lst xs) ∧ Q .non (upd H l (.lst xs.reverse))
noncomputable def rClear : V → List V → Hp → VK → Prop := fun x vs H Q => ∃ l xs, x = .ref l ∧ vs = [] ∧ H l = some (.lst xs) ∧ Q .non (upd H l (.lst []))
noncomputable def rCat : R2 := fun x y H Q => ∃ l b xs zs, x = .ref l ∧ y = .ref b ∧ H l = some (.lst xs) ∧ H b = some (.lst zs) ∧ xs.length + zs.length ≤ sizeLine ∧ ∀ p, H p = none → Q (.ref p) (upd H p (.lst (xs ++ zs)))
theorem op_cat : OpR X (binaryOp .Add) rCat := by
  intro pins s σ H x y v u Q I rx ry h
  obtain ⟨l, b, xs, zs, rfl, rfl, hH, hB, hz, q⟩ := h
  cases rx
  cases ry
  obtain ⟨z, its, n, r, hl, e⟩ := I.lstM hH
  obtain ⟨z2, its2, n2, r2, hl2, e2⟩ := I.lstM hB
  refine PySem.P.add_list e e2 ?_ (by rw [List.size_toArray, List.size_toArray]; (first | lia | omega))
  have ea : its.toArray ++ its2.toArray = (its ++ its2).toArray := by simp
  rw [ea]
  exact ⟨.ref _, _, I.lnew (t' := s.toks) (r.append r2) (by rw [List.length_append]; (first | lia | omega)), rfl, q _ I.fresh⟩
noncomputable def rRep : R2 := fun x y H Q => ∃ l k xs, x = .ref l ∧ y = .int k ∧ H l = some (.lst xs) ∧ -(2 ^ 63) ≤ k ∧ k < 2 ^ 63 ∧ xs.length * k.toNat ≤ sizeLine ∧
  ∀ p, H p = none → Q (.ref p) (upd H p (.lst (List.replicate k.toNat xs).flatten))
theorem len_rep {α : Type} (xs : List α) (k : Nat) : (List.replicate k xs).flatten.length = k * xs.length := by
  induction k with
  | zero => simp
  | succ k ih => rw [List.replicate_succ, List.flatten_cons, List.length_append, ih, Nat.succ_mul, Nat.add_comm]
theorem op_rep : OpR X (binaryOp .Mult) rRep := by
  intro pins s σ H x y v u Q I rx ry h
  obtain ⟨l, k, xs, rfl, rfl, hH, h1, h2, hz, q⟩ := h
  cases rx
  obtain ⟨t, rfl⟩ := ry
  obtain ⟨z, its, n, r, hl, e⟩ := I.lstM hH
  have hlen : its.toArray.size * k.toNat ≤ sizeLine := by rw [List.size_toArray, ← hl]; exact hz
  have hcap : ¬ its.toArray.size * k.toNat > (2 ^ 63 - 1) / 8 := by
    have : (sizeLine : Nat) ≤ (2 ^ 63 - 1) / 8 := by decide
    (first | lia | omega)
  have hfit : ¬ (!Builtin.List.listFitsIndex k) = true := by
    rw [fitsIndex_both h1 h2]
    exact Bool.false_ne_true
  have hlong : ¬ Builtin.List.listTooLong (its.toArray.size * k.toNat) = true := by
    rw [notLongL hlen]
    exact Bool.false_ne_true
  have hnew : List.foldl (fun x1 x2 => x1 ++ x2) #[] (List.replicate (if its.toArray.isEmpty = true then 0 else k.toNat) its.toArray) = (List.replicate k.toNat its).flatten.toArray := by
    have f0 : ∀ m : Nat, List.foldl (fun x1 x2 => x1 ++ x2) #[] (List.replicate m its.toArray) = (List.replicate m its).flatten.toArray := fun m => by
      have := foldl_rep its m []
      rw [List.nil_append] at this
      exact this
    rw [f0]
    cases its with
    | nil => simp
    | cons a r' => rw [if_neg (by simp)]
  refine wpAny_binaryOp_repeat_ref (T := "list") (U := "int") (by decide) ⟨_, e, rfl⟩ (fun s' => typeIs_int s' k t) noFill_list_mul F.fills_int_mul F.slot_int_rmul repeat_list F.slot_int_index.lookup
    (call_meets F.slot_int_rmul (typeIs_int s k t) F.entry_int_rmul (F.args_int_rmul_2 _ _) (int___rmul___int_list k t l its.toArray n)
      ⟨e, rfl, ⟨_, e, rfl⟩, call_meets F.slot_list_mul ⟨_, e, rfl⟩ F.entry_list_mul (F.args_list_mul_2 _ _) (AutoListH.list___mul___list_int_3 l its.toArray n k t hfit hcap hlong) ⟨e, ?_⟩⟩)
  rw [hnew]
  exact ⟨.ref _, _, I.lnew (t' := s.toks) (r.rep k.toNat) (by rw [len_rep, Nat.mul_comm]; exact hz), rfl, q _ I.fresh⟩

end

section
variable {prog : Program} {w : World} {A : Around} {E : Value → Shared → Prop} {s : Shared}
set_option maxRecDepth 100000 in
end

section
variable {X : Cx}
end
end L2

namespace Att
open PySem PySem.W PySem.Calls PyProof.Rows

theorem ints_of_wellAll {P : Params} {h : Heap} : ∀ (ns : List Int) (vs : List Value), WellAll P h vs (ns.map WData.int) → IntsAre vs ns := by
  intro ns
  induction ns with
  | nil =>
    intro vs w
    rw [List.map_nil] at w
    cases w
    exact .nil
  | cons n ns ih =>
    intro vs w
    rw [List.map_cons] at w
    cases w with
    | cons a b =>
      cases a
      exact .cons _ _ (ih _ b)

theorem script_of {l : OpenLaw} {n : Nat} (hn : l.most = some n) {P : Params} {h : Heap} {args : List WData} {vals : List Value}
    (hpre : l.row.toRowW.claim.pre args = true) (hwl : WellAll P h vals args) :
    ∃ a vs ns, vals = [Value.ref a] ∧ args = [WData.list (ns.map WData.int)] ∧ h.get? a = some { cls := .type "list", data := .seq vs.toArray } ∧ IntsAre vs ns ∧ ns.length ≤ n := by
  have hsh : WShape.hasAll [] args [.list .int] = true := (pre_splitW hpre).1
  have hc : l.pre.holds [] { args := args } = true := (pre_splitW hpre).2
  obtain ⟨d, r, rfl, h1, h2⟩ := hasAllW_cons hsh
  obtain rfl := hasAllW_nil h2
  obtain ⟨xs, rfl, h3⟩ := hasW_list h1
  obtain ⟨ns, rfl⟩ := items_int h3
  have hlen : ns.length ≤ n := by
    unfold OpenLaw.pre at hc
    have h4 : (WTm.not (.lt (.lit (.int (n : Int))) (.len (.arg 0)))).holds [] { args := [.list (ns.map .int)] } = true := by
      have h4 := (holds_andW hc).1
      rw [hn] at h4
      exact h4
    have h5 := condW_of h4 (w_not (w_lt w_lit (w_len_list (w_arg rfl))))
    rw [List.length_map] at h5
    refine Nat.le_of_not_lt fun q => ?_
    have q' : (n : Int) < ((ns.length : Nat) : Int) := by (first | lia | omega)
    first
      | (rw [decide_eq_true q'] at h5; exact absurd h5 (by decide))
      | (simp at h5; (first | lia | omega))
  cases hwl with
  | cons w1 w2 =>
    cases w2
    cases w1 with
    | list ho hall => exact ⟨_, _, ns, rfl, rfl, ho, ints_of_wellAll ns _ hall, hlen⟩

theorem post_true (l : OpenLaw) (args : List WData) : l.row.toRowW.claim.post args (.bool true) args = true :=
  postW_of (r := l.row.toRowW) (X := (true == true))
    (show WShape.has [] (.bool true) .bool = true by first | rfl | decide | simp [WShape.has, WShape.arms, WShape.armsAll])
    (show (WTm.eq .res (.lit (.bool true))).value [] { args := args, res := some (.bool true), after := args } = some (.bool (true == true)) from w_eq_bool (w_res rfl) w_lit) rfl

theorem attach_call {l : OpenLaw} {n : Nat} {q : Program} {loose : List Str} {XP : (Str → Option Value) → Heap → Prop} {YP : World → Heap → Prop} {d : DefRec}
    (hn : l.most = some n) (hdf : d.params.defaults = [])
    (call : ∀ (w : World) (s₀ s₁ : Shared) (mg mb : Str → Option Value) (fa : Addr) (o : Obj) (pm cd doc : Value) (a : Addr) (vs : List Value) (ns : List Int),
      Ground q loose [] XP w s₀ mg mb s₁.heap → YP w s₁.heap →
      s₁.heap.get? fa = some o → o.data = .func (docDef d.name d.params d.body d.scope pm cd doc) → s₁.heap.CodeRec cd d.name → mg d.name = some (.ref fa) →
      s₁.heap.get? a = some { cls := .type "list", data := .seq vs.toArray } → IntsAre vs ns → ns.length ≤ n → s₁.gens = #[] →
      codeAny (model l.prog w) callerA (.call (.ref fa) ⟨[.ref a], []⟩) (fun r s' => r = .ok (.ret (.bool true)) ∧ OldK s₁.heap s'.heap ∧ s'.os = s₁.os ∧ AllBare s'.gens) s₁) :
    WalkO q loose XP YP l.row.toRowW d [] (fun f vs => PySem.call f vs) := by
  intro w s₀ s₁ mg mb G Y fa o pm cd doc dV kV ho hd hcd hD hmg hg args vals as hpre hlay hrd hwl hlo
  obtain rfl : dV = .none := Dflts.none hD hdf
  obtain rfl : kV = .none := Dflts.noKw hD
  obtain ⟨a, vs, ns, rfl, rfl, hobj, hints, hlen⟩ := script_of hn hpre hwl
  refine enter_call (codeAny_mono (call w s₀ s₁ mg mb fa o pm cd doc a vs ns G Y ho (fd_plain hd) hcd hmg hobj hints hlen hg) fun r s' hq => ?_)
  obtain ⟨rfl, h2, h3, h4⟩ := hq
  exact ⟨.inl ⟨.bool true, .bool true, [], rfl, fun _ => rfl, .bool true, post_true l _, fun _ => ⟨List.Pairwise.nil, fun _ hm => (nomatch hm)⟩⟩, h2, h3, h4⟩

section
variable {prog : Program} {w : World} {A : Around} {E : Value → Shared → Prop} {s : Shared} {K : Frag}

noncomputable def noObjs (h : Heap) : Heap := { h with objs := #[] }
noncomputable def ledger (h : Heap) (L d : Addr) : List (Addr × Obj) := (List.range h.objs.size).filterMap fun a => if a = L ∨ a = d then none else (h.get? a).map fun o => (a, o)
end
end Att

namespace L2
open PySem PySem.Spec PyProof.Rows

theorem vals_ints : ∀ {vs : List Value} {ns : List Int}, IntsAre vs ns → Vals (ns.map V.int) vs
  | _, _, .nil => .nil
  | _, _, .cons n t h => .cons ⟨t, rfl⟩ (vals_ints h)

noncomputable def Only (H : Hp) : Prop := ∀ b, H b = none ∨ ∃ o xs, H b = some (.frz o (.lst xs))

theorem law_call {P : Program} {w : World} {K : PySem.W.Frag} {mg mb : Str → Option Value} {CX : CXT} {k : Nat} {fa a : Addr} {fd : FuncData} {x : Str} {sp : Sp} {s₁ : Shared} {vs : List Value} {ns : List Int}
    (KX : K.In s₁.heap) (hns : s₁.heap.Ns mainGlobals mg) (hb : s₁.heap.Ns builtinsNs mb) (hbb : ∀ x : Str, x ≠ "__name__" → mb x = bootBuiltins x) (hlim : s₁.heap.NoLimit) (hg : s₁.gens = #[])
    (ha : s₁.heap.get? a = some { cls := .type "list", data := .seq vs.toArray }) (hi : IntsAre vs ns) (hl : ns.length ≤ sizeLine) (hr : Room k callerA)
    (F : ∀ base : Heap, K.In base → base.Ns mainGlobals mg → FnOk P w K mg base CX k fa fd [x] sp) (hbind : ∀ (s : Shared) (u : Value), BindsTo s fd ⟨[u], []⟩ [(x, u)])
    (hsp : ∀ H : Hp, Only H → SqL K H a (ns.map V.int) → sp [.ref a] H (fun v _ => v = .bl true) fun _ _ _ => False)
    (hCX : ∀ H e s', CX [] H s₁ (fun _ _ _ => False) e s' → False) :
    codeAny (model P w) callerA (.call (.ref fa) ⟨[.ref a], []⟩) (fun r s' => r = .ok (.ret (.bool true)) ∧ OldK s₁.heap s'.heap ∧ s'.os = s₁.os ∧ AllBare s'.gens) s₁ := by
  have rv := vals_ints hi
  have lenV := hi.length
  have core : ∀ H : Hp, Only H → SqL K H a (ns.map V.int) → HOk P w H s₁.heap → (∀ b, H b ≠ none → b = a) → (H a ≠ none → K.lookup a = none) →
      codeAny (model P w) callerA (.call (.ref fa) ⟨[.ref a], []⟩) (fun r s' => r = .ok (.ret (.bool true)) ∧ OldK s₁.heap s'.heap ∧ s'.os = s₁.os ∧ AllBare s'.gens) s₁ := by
    intro H hO hS hok hA hK
    have base_of : ∀ {b : Addr} {o : Obj}, s₁.heap.get? b = some o → H b = none → (hidT s₁.heap H).get? b = some o := fun e n => hidT_get e n
    have noA : ∀ {b : Addr} {o : Obj} {es : Array DictEntry} {ep : Nat}, s₁.heap.get? b = some o → o.data = .dict es ep → H b = none := fun {b o es ep} e d => by
      cases q : H b with
      | none => rfl
      | some u =>
        have e' : b = a := hA b (by rw [q]; simp)
        subst e'
        rw [ha] at e; cases e
        have d' : Data.seq vs.toArray _ = Data.dict es ep := d
        cases d'
    have nsK : ∀ {b : Addr} {m : Str → Option Value}, s₁.heap.Ns b m → (hidT s₁.heap H).Ns b m := fun {b m} ⟨o, es, ep, e, d, r⟩ => ⟨o, es, ep, base_of e (noA e d), d, r⟩
    have hKb : K.In (hidT s₁.heap H) := fun b o e => base_of (KX b o e) (by
      cases q : H b with
      | none => rfl
      | some u =>
        have e' : b = a := hA b (by rw [q]; simp)
        subst e'
        rw [hK (by rw [q]; simp)] at e; cases e)
    have hM : Mod K mg (hidT s₁.heap H) := ⟨hKb, nsK hns, ⟨mb, nsK hb, hbb⟩, let ⟨mc, h1, h2⟩ := hlim; ⟨mc, nsK h1, h2⟩⟩
    have e0 : Env0 P w K mg (hidT s₁.heap H) callerA [] s₁ H := ⟨rfl, hM, fun b o e => of_hidT e, Nat.le_of_eq (hidT_size _ _), trivial, fun b hb => absurd (show b ∈ ([] : List Addr) from hb) (by simp), hok, .of_eq hg⟩
    refine codeAny_mono ((F _ hKb (nsK hns)).run callerA [] s₁ H ⟨[.ref a], []⟩ [.ref a] [.ref a] _ _ hr e0 (hbind s₁ (.ref a)) (.cons rfl .nil) (hsp H hO hS)) fun r s' h => ?_
    cases r with
    | error e => exact (hCX H e s' h).elim
    | ok fl =>
      cases fl with
      | next => exact False.elim h
      | brk => exact False.elim h
      | cont => exact False.elim h
      | ret u =>
        obtain ⟨v, H', os, bare, un, hok', r', q⟩ := h
        have q' : v = .bl true := q
        subst q'
        obtain rfl : u = Value.bool true := r'
        refine ⟨rfl, OldK.of_keep fun b o e => ?_, os, bare⟩
        cases q : H b with
        | none => exact un.keep b o e q (by intro z; exact absurd (show b ∈ ([] : List Addr) from z) (by simp)) (by simp)
        | some u =>
          rcases hO b with z | ⟨ob, xs, z⟩
          · rw [q] at z; cases z
          · have z2 := un.frzs b ob _ z
            obtain ⟨e1, _⟩ := hok b _ z
            obtain ⟨e2, _⟩ := hok' b _ z2
            rw [e] at e1; cases e1
            exact e2
  cases hk : K.lookup a with
  | some o =>
    have e := KX a o hk
    rw [ha] at e
    cases e
    refine core (fun _ => none) (fun _ => .inl rfl) (.inr ⟨_, vs.toArray, _, hk, rfl, rfl, rfl, by rw [List.size_toArray, lenV]; exact hl, by simpa using rv⟩) (fun b u z => by have z' : (none : Option HO) = some u := z; cases z') (fun b z => absurd rfl z) fun z => absurd rfl z
  | none =>
    refine core (fun b => if b = a then some (.frz { cls := .type "list", data := .seq vs.toArray } (.lst (ns.map V.int))) else none) (fun b => ?_) (.inl (.inr ⟨{ cls := .type "list", data := .seq vs.toArray }, if_pos rfl⟩)) (fun b u z => ?_) (fun b z => ?_) fun _ => hk
    · by_cases hb : b = a
      · exact .inr ⟨_, _, if_pos hb⟩
      · exact .inl (if_neg hb)
    · by_cases hb : b = a
      · have z' := (if_pos hb).symm.trans z
        cases z'
        subst hb
        exact ⟨ha, by rw [List.length_map]; exact hl, vs, _, rv, ha⟩
      · have z' := (if_neg hb).symm.trans z
        cases z'
    · by_cases hb : b = a
      · exact hb
      · exact absurd (if_neg hb) z
end L2

namespace L2
open PySem PySem.Spec PyProof.Rows

noncomputable abbrev KOf {K : PySem.W.Frag} {h : Heap} (_ : K.In h) : PySem.W.Frag := K

theorem walk_of {l : PySem.W.OpenLaw} {n k : Nat} {q : Program} {loose : List Str} {XP : (Str → Option Value) → Heap → Prop} {YP : World → Heap → Prop} {d : DefRec} {K : Params → PySem.W.Frag} {CX : World → CXT} {sp : World → Sp} {x : Str}
    (hn : l.most = some n) (hn2 : n ≤ sizeLine) (hdf : d.params.defaults = []) (hr : Room k callerA)
    (hY : ∀ (w : World) (h : Heap), YP w h → (K w.params).In h)
    (F : ∀ (w : World) (mg : Str → Option Value) (fa : Addr) (h : Heap), (K w.params).In h → h.Ns mainGlobals mg → mg d.name = some (.ref fa) →
      ∃ fd : FuncData, (∀ (s : Shared) (u : Value), BindsTo s fd ⟨[u], []⟩ [(x, u)]) ∧
        ∀ base : Heap, (K w.params).In base → base.Ns mainGlobals mg → FnOk l.prog w (K w.params) mg base (CX w) k fa fd [x] (sp w))
    (hsp : ∀ (w : World) (H : Hp) (a : Addr) (ns : List Int), ns.length ≤ n → Only H → SqL (K w.params) H a (ns.map V.int) → sp w [.ref a] H (fun v _ => v = .bl true) fun _ _ _ => False)
    (hCX : ∀ (w : World) (H : Hp) (s : Shared) (e : Value) (s' : Shared), CX w [] H s (fun _ _ _ => False) e s' → False) :
    PySem.W.WalkO q loose XP YP l.row.toRowW d [] (fun f vs => PySem.call f vs) := by
  refine Att.attach_call hn hdf fun w s₀ s₁ mg mb fa o pm cd doc a vs ns G Y ho hd hcd hmg hobj hints hlen hg => ?_
  have KX := hY w _ Y
  obtain ⟨fd, hb, hF⟩ := F w mg fa _ KX G.T.g hmg
  exact law_call KX G.T.g G.T.b G.T.builtins G.T.nolimit hg hobj hints (Nat.le_trans hlen hn2) hr hF hb (fun H hO hS => hsp w H a ns hlen hO hS) fun H e s' => hCX w H s₁ e s'
end L2


namespace L2
open PySem PySem.Spec PyProof.Rows

noncomputable def inClass (s : Stmt) (j : Nat) : Stmt := match s with
  | .ClassDef _ _ _ body _ _ _ _ _ _ _ => body.getD j (.Pass ⟨0, 0, 0, 0⟩)
  | _ => .Pass ⟨0, 0, 0, 0⟩
noncomputable def defArgs (s : Stmt) : Arguments := match s with
  | .FunctionDef _ a _ _ _ _ _ _ _ _ => a
  | _ => { posonlyargs := [], args := [], vararg := none, kwonlyargs := [], kw_defaults := [], kwarg := none, defaults := [] }
noncomputable def defBody (s : Stmt) : List Stmt := match s with
  | .FunctionDef _ _ b _ _ _ _ _ _ _ => b
  | _ => []
noncomputable def defScope (s : Stmt) : Scope := match s with
  | .FunctionDef _ _ _ _ _ _ sc _ _ _ => sc
  | _ => { kind := .function, names := [], isGenerator := false, isCoroutine := false }

noncomputable abbrev CX0 : CXT := fun _ _ _ _ _ _ => False
noncomputable abbrev E0 : XK := fun _ _ _ => False
structure Fun (K : PySem.W.Frag) (x qual : Str) (st : Stmt) (f : Addr) (fd : FuncData) : Prop where
  ex : ∃ (oc : Value) (od : Option Addr) (kV doc pm : Value) (an : Option Addr) (cdv ct : Value) (osl : Array (Option Value)),
    fd = PySem.W.fnOf x qual (defArgs st) (defBody st) (defScope st) .none kV doc pm an cdv ct ∧ K.lookup f = some ⟨oc, od, .func fd, osl⟩ ∧ PySem.W.codeIn K cdv qual = true
  kp : PySem.W.keepIn K (.ref f) = true
section
variable {P : Program} {w : World} {K : PySem.W.Frag} {mg : Str → Option Value} {base : Heap}
theorem Fun.binds {x qual : Str} {st : Stmt} {f : Addr} {fd : FuncData} {ps : List Str} (F : Fun K x qual st f fd)
    (h : ∀ (kV doc pm : Value) (an : Option Addr) (cdv ct : Value) (us : List Value), us.length = ps.length → bindArgs (PySem.W.fnOf x qual (defArgs st) (defBody st) (defScope st) .none kV doc pm an cdv ct) ⟨us, []⟩ = pure (ps.zip us)) : Binds K fd ps [] := by
  obtain ⟨oc, od, kV, doc, pm, an, cdv, ct, osl, rfl, lk, hcd⟩ := F.ex
  exact .all (h kV doc pm an cdv ct)
theorem fun_mk {x qual : Str} {st : Stmt} {f : Addr} {oc : Value} {od an : Option Addr} {osl : Array (Option Value)} {kV doc pm cdv ct : Value} (l : K.lookup f = some ⟨oc, od, .func (PySem.W.fnOf x qual (defArgs st) (defBody st) (defScope st) .none kV doc pm an cdv ct), osl⟩)
    (c : PySem.W.codeIn K cdv qual = true) (k : PySem.W.keepIn K (.ref f) = true) : Fun K x qual st f (PySem.W.fnOf x qual (defArgs st) (defBody st) (defScope st) .none kV doc pm an cdv ct) := ⟨⟨oc, od, kV, doc, pm, an, cdv, ct, osl, rfl, l, c⟩, k⟩
end
theorem small1000 {n : Nat} (h : n ≤ 1000) : n < sizeLine := Nat.lt_of_le_of_lt h (by decide)

section
variable {X : Cx}
theorem pv (i : Nat) {x : Str} {pos : Pos} (hN : X.N[i]? = some x := by rfl) (hv : Vis X.env.scope x := by first | exact Or.inl rfl | exact Or.inr (Or.inl rfl) | exact Or.inr (Or.inr rfl)) (hd : (x == ("__debug__" : Str)) = false := by decide)
    (hcd : (x == ("__classdict__" : Str)) = false := by decide) : PE X (.Name x pos) (tVar i) := pe_var hN hv hd hcd
end

theorem iteF {A B : Prop} (h : B) : if false = true then A else B := by
  rw [if_neg Bool.false_ne_true]
  exact h
theorem iteT {A B : Prop} (h : A) : if true = true then A else B := by
  rw [if_pos rfl]
  exact h
theorem ite2 {c A B : Prop} [Decidable c] (h1 : c → A) (h2 : ¬ c → B) : if c then A else B := by
  by_cases h : c
  · rw [if_pos h]
    exact h1 h
  · rw [if_neg h]
    exact h2 h
theorem iteNS {c A B : Prop} [Decidable c] (hc : c) (h : B) : if (!decide c) = true then A else B := by
  rw [decide_eq_true hc]
  exact iteF h

noncomputable def Same (H H' : Hp) : Prop := ∀ b o, H b = some o → H' b = some o
theorem Same.refl (H : Hp) : Same H H := fun _ _ h => h
theorem Same.trans {H H1 H2 : Hp} (a : Same H H1) (b : Same H1 H2) : Same H H2 := fun c o h => b c o (a c o h)
theorem Same.free {H H' : Hp} (e : Same H H') {l : Addr} (h : H' l = Option.none) : H l = Option.none := by
  cases q : H l with
  | none => rfl
  | some o =>
    rw [e l o q] at h
    cases h
theorem Same.seq {K : PySem.W.Frag} {H H' : Hp} {a : Addr} {xs : List V} (e : Same H H') (h : SqL K H a xs) : SqL K H' a xs := by
  rcases h with (h | ⟨o, h⟩) | h
  · exact .inl (.inl (e _ _ h))
  · exact .inl (.inr ⟨o, e _ _ h⟩)
  · exact .inr h

end L2

set_option Elab.async false
set_option linter.all false
set_option maxRecDepth 100000
namespace L2
open PySem PySem.Spec PyProof.Rows

theorem comp_turns {prog : Program} {w : World} {A : Around} {R : Result → Shared → Prop} {s : Shared} {elt target iter : Expr} {ifs : List Expr} {scope : Scope} {pos : Pos} {it acc : Value} {env : Env} (J : Nat → Shared → Prop)
    (turn : ∀ n s, J n s → wpAny (model prog w) A (pyNext it) (fun r s1 => match r with
      | none => R (.ok .next) s1
      | some v => wpAny (model prog w) A (letOwnedTupleGo target it v) (fun _ s1 => wpAny (model prog w) A (assign target env v) (fun _ s2 =>
          wpAny (model prog w) A (forIn ifs true fun c r => if r = true then do let ok ← isTrue c env (eval c env); pure (ForInStep.yield ok) else pure (ForInStep.yield r)) (fun ok s3 =>
            if ok = true then wpAny (model prog w) A (eval elt env) (fun x s4 =>
              wpAny (model prog w) A (call (.builtin "list.append") [acc, x]) (fun _ s5 => ∃ m, m < n ∧ J m s5) (fun _ _ => False) s4) (fun _ _ => False) s3
            else ∃ m, m < n ∧ J m s3) (fun _ _ => False) s2) (fun _ _ => False) s1) (fun _ _ => False) s1) (fun _ _ => False) s)
    (n : Nat) (h : J n s) :
    codeAny (model prog w) A (.compLoop (.ListComp elt [⟨target, iter, ifs, 0⟩] scope pos) 0 it acc env) R s := by
  refine codeAny_loop rfl J (fun n s hI => ?_) n h
  show wpAny _ A ((compTurn (.ListComp elt [⟨target, iter, ifs, 0⟩] scope pos) 0 it acc env).onRaise (fun x => do noteFrame x env; theTreesLotGoes x)) _ _ s
  refine wpAny_noted (wpAny_mono (E := fun _ _ => False) ?_ (fun _ _ q => q) fun _ _ q => q.elim)
  rw [compTurn_list]
  refine wpAny_bind (wpAny_standAt (wpAny_bind (thn (turn n s hI) fun r s1 h1 => ?_)))
  cases r with
  | none => exact wpAny_pure h1
  | some v =>
    refine wpAny_bind (thn h1 fun _ s1 h1 => ?_)
    refine wpAny_bind (thn h1 fun _ s2 h2 => wpAny_bind (thn h2 fun ok s3 h3 => ?_))
    cases ok with
    | false => exact wpAny_pure ⟨rfl, h3⟩
    | true => exact wpAny_bind (wpAny_bind (thn h3 fun x s4 h4 => wpAny_bind (thn h4 fun _ s5 h5 => wpAny_pure (wpAny_pure ⟨rfl, h5⟩))))

theorem closure_ok {env : Env} : ∀ (names : List (Str × NameKind)) (acc : List (Str × Addr)), (∀ y ∈ names, y.2 = .free → ∃ c, env.cells.lookup y.1 = some c) →
    ∃ cl : List (Str × Addr), (forIn names acc (fun (y : Str × NameKind) (r : List (Str × Addr)) => if (y.2 == NameKind.free) = true then do let a ← cellOf env y.1; pure (ForInStep.yield ((y.1, a) :: r)) else pure (ForInStep.yield r)) : Sem _) = pure cl ∧
      ∀ x, (∀ c, cl.lookup x = some c → acc.lookup x = some c ∨ env.cells.lookup x = some c) ∧ ((acc.lookup x).isSome = true ∨ (x, NameKind.free) ∈ names → (cl.lookup x).isSome = true)
  | [], acc, _ => ⟨acc, rfl, fun x => ⟨fun c h => .inl h, fun h => h.elim id fun z => nomatch z⟩⟩
  | (n, k) :: r, acc, hf => by
    by_cases hk : k = .free
    · subst hk
      obtain ⟨c, hc⟩ := hf (n, .free) List.mem_cons_self rfl
      obtain ⟨cl, e, q⟩ := closure_ok r ((n, c) :: acc) fun y hy => hf y (List.mem_cons_of_mem _ hy)
      refine ⟨cl, ?_, fun x => ⟨fun d hd => ?_, fun hx => ?_⟩⟩
      · rw [List.forIn_cons]
        have e1 : cellOf env n = pure c := by unfold cellOf; simp only [hc]
        simp only [beq_self_eq_true, if_true, e1]
        exact e
      · rcases (q x).1 d hd with z | z
        · by_cases hx : x = n
          · subst hx; rw [List.lookup_cons_self] at z; cases z; exact .inr hc
          · rw [List.lookup_cons, beq_eq_false_iff_ne.mpr hx] at z; exact .inl z
        · exact .inr z
      · refine (q x).2 ?_
        by_cases hxn : x = n
        · subst hxn; exact .inl (by rw [List.lookup_cons_self]; rfl)
        · rcases hx with z | z
          · exact .inl (by rw [List.lookup_cons, beq_eq_false_iff_ne.mpr hxn]; exact z)
          · rcases List.mem_cons.mp z with z | z
            · cases z; exact absurd rfl hxn
            · exact .inr z
    · obtain ⟨cl, e, q⟩ := closure_ok r acc fun y hy => hf y (List.mem_cons_of_mem _ hy)
      refine ⟨cl, ?_, fun x => ⟨(q x).1, fun hx => (q x).2 ?_⟩⟩
      · rw [List.forIn_cons]
        have hb : (k == NameKind.free) = false := by simpa using hk
        simp only [hb, Bool.false_eq_true, if_false]
        exact e
      · rcases hx with z | z
        · exact .inl z
        · rcases List.mem_cons.mp z with z | z
          · cases z; exact absurd rfl hk
          · exact .inr z
theorem closure_at {env : Env} {scope : Scope} (hf : ∀ y ∈ scope.names, y.2 = .free → ∃ c, env.cells.lookup y.1 = some c) :
    ∃ cl, closureFor scope env = pure cl ∧ (∀ x c, cl.lookup x = some c → env.cells.lookup x = some c) ∧ ∀ x, (x, NameKind.free) ∈ scope.names → ∃ c, cl.lookup x = some c := by
  obtain ⟨cl, e, q⟩ := closure_ok scope.names [] hf
  refine ⟨cl, ?_, fun x c h => ?_, fun x hx => Option.isSome_iff_exists.mp ((q x).2 (.inr hx))⟩
  · unfold closureFor
    exact (congrArg (· >>= fun r => pure r) e).trans rfl
  · rcases (q x).1 c h with z | z
    · simp at z
    · exact z

noncomputable abbrev Cx.comp (X : Cx) (N : List Str) (scope : Scope) (cl : List (Str × Addr)) (C : Addr) (fp : List Addr) (s : Shared) (H : Hp) : Cx :=
  { X with N := N, s₀ := s, H₀ := H, env := compEnvC scope cl C X.env, outer := X.stack, stack := X.stack, ex := fp, fn := fun _ => false, pn := [], xe := fun _ _ => False }

structure PTs (X : Cx) (ifs : List Expr) (t : TT)  : Prop where
  go : ∀ (pins : List (Addr × Obj)) (s : Shared) (σ : St) (H : Hp) (Q : Bool → Hp → Prop), Inv X pins σ H s → t σ H Q →
    wpAny (model X.prog X.w) X.A (forIn ifs true fun c r => if r = true then do let ok ← isTrue c X.env (eval c X.env); pure (ForInStep.yield ok) else pure (ForInStep.yield r)) (TP X pins σ Q) X.xe s
instance {X : Cx} {ifs : List Expr} {t : TT} : CoeFun (PTs X ifs t) (fun _ => ∀ (pins : List (Addr × Obj)) (s : Shared) (σ : St) (H : Hp) (Q : Bool → Hp → Prop), Inv X pins σ H s → t σ H Q →
    wpAny (model X.prog X.w) X.A (forIn ifs true fun c r => if r = true then do let ok ← isTrue c X.env (eval c X.env); pure (ForInStep.yield ok) else pure (ForInStep.yield r)) (TP X pins σ Q) X.xe s) := ⟨PTs.go⟩
noncomputable def tYes : TT := fun _ H Q => Q true H
theorem pts_nil {X : Cx} : PTs X [] tYes := ⟨fun _ _ _ H _ I h => wpAny_tests_nil ⟨H, I, h⟩⟩
noncomputable def compSt (own : Nat) (js : List Nat) (σ : St) : St := List.replicate own none ++ js.map fun j => (σ[j]?).join
noncomputable def CompGo (J : It) (p : Addr) (σ0 : St) (H0 : Hp) (g : TG) (tt : TT) (te : TE) (R : Hp → Prop) : Prop :=
  ∃ W : Nat → Nat → St → Hp → Prop, (∃ m, W 0 m σ0 H0) ∧ ∀ i m σ' H', W i m σ' H' →
    (J.stop i H' ∧ R H') ∨ (J.go i H' ∧ ∀ x H2, J.yld i H' x H2 → g x σ' H2 fun σ3 H3 => tt σ3 H3 fun b H4 =>
      if b = true then te σ3 H4 fun v H5 => ∃ ys, H5 p = some (.lst ys) ∧ ys.length < sizeLine ∧ ∃ m', m' < m ∧ W (i + 1) m' σ3 (upd H5 p (.lst (ys ++ [v])))
      else ∃ m', m' < m ∧ W (i + 1) m' σ3 H4)
noncomputable def tComp (wi : TI) (own : Nat) (js : List Nat) (g : TG) (tt : TT) (te : TE) : TE := fun σ H Q => wi σ H fun J H1 => ∀ p, H1 p = none → CompGo J p (compSt own js σ) (upd H1 p (.lst [])) g tt te (Q (.ref p))
inductive Frees (N : List Str) : List Str → List Nat → Prop where
  | nil : Frees N [] []
  | cons {y : Str} {j : Nat} {ys : List Str} {js : List Nat} (h : N[j]? = some y) (r : Frees N ys js) : Frees N (y :: ys) (j :: js)
theorem Frees.at {N : List Str} : ∀ {ys : List Str} {js : List Nat}, Frees N ys js → ∀ (i : Nat) (y : Str), ys[i]? = some y → ∃ j, js[i]? = some j ∧ N[j]? = some y
  | _, _, .nil, _, _, e => by simp at e
  | _, _, .cons (j := j) h _, 0, _, e => by simp at e; subst e; exact ⟨j, rfl, h⟩
  | _, _, .cons _ r, i + 1, y, e => by
    obtain ⟨j, h1, h2⟩ := r.at i y (by simpa using e)
    exact ⟨j, by simpa using h1, h2⟩
theorem Frees.length {N : List Str} : ∀ {ys : List Str} {js : List Nat}, Frees N ys js → ys.length = js.length
  | _, _, .nil => rfl
  | _, _, .cons _ r => by simp [r.length]
theorem lookup_map_names {f : Str → NameKind → NameKind} : ∀ {names : List (Str × NameKind)} {x : Str}, (names.map fun y => (y.1, f y.1 y.2)).lookup x = (names.lookup x).map (f x)
  | [], _ => rfl
  | (n, k) :: r, x => by
    by_cases h : x = n
    · subst h; rw [List.map_cons, List.lookup_cons_self, List.lookup_cons_self]; rfl
    · have hb : (x == n) = false := beq_eq_false_iff_ne.mpr h
      rw [List.map_cons, List.lookup_cons, List.lookup_cons, hb]
      exact lookup_map_names
noncomputable def relK (env : Env) (n : Str) (k : NameKind) : NameKind := if (k == .free && env.scope.kind == .function && env.kindOf n == some .cell) = true then .cell else k
theorem relabel_look (scope : Scope) (env : Env) (x : Str) : (relabel scope env).names.lookup x = (scope.names.lookup x).map (relK env x) := by
  have e : (relabel scope env).names = scope.names.map fun y => (y.1, relK env y.1 y.2) := by
    unfold relabel
    refine List.map_congr_left fun y _ => ?_
    obtain ⟨n, k⟩ := y
    show (if (k == .free && env.scope.kind == .function && env.kindOf n == some .cell) = true then (n, NameKind.cell) else (n, k)) = (n, relK env n k)
    unfold relK
    split <;> rfl
  rw [e, lookup_map_names]

section
variable {X : Cx} {elt target iter : Expr} {ifs : List Expr} {scope : Scope} {own ys : List Str} {js : List Nat} {wi : TI} {g : TG} {tt : TT} {te : TE} {pos : Pos}
theorem comp_block {pins : List (Addr × Obj)} {σ : St} {H : Hp} {s2 : Shared} {it : Addr} {fp : List Addr} {tn : Nat → Heap → Prop} {J : It} {Q : VK} {E : Value → Shared → Prop} {cl : List (Str × Addr)} {RR : Value → Addr → Result → Shared → Prop}
    (hc : X.calm = true) (I : Inv X pins σ H s2) (T : Turn X.prog X.w X.K target J fp it tn) (st : tn 0 s2.heap) (fpk : ∀ b ∈ fp, FpOk X pins H b)
    (hkind : scope.kind = .function) (hcell : ∀ y ∈ scope.names, y.2 ≠ .cell) (fr : Frees X.N ys js) (hys : ∀ y ∈ ys, X.env.kindOf y = some .cell)
    (hcl1 : ∀ x c, cl.lookup x = some c → X.env.cells.lookup x = some c) (hcl2 : ∀ x, (x, NameKind.free) ∈ scope.names → ∃ c, cl.lookup x = some c)
    (hvis : ∀ y ∈ ys, (relabel scope X.env).names.lookup y = some .cell)
    (hg : ∀ cl C fp s H, PG (X.comp (own ++ ys) scope cl C fp s H) target g) (ht : ∀ cl C fp s H, PTs (X.comp (own ++ ys) scope cl C fp s H) ifs tt) (he : ∀ cl C fp s H, PE (X.comp (own ++ ys) scope cl C fp s H) elt te)
    (h : ∀ p, H p = none → ∃ W : Nat → Nat → St → Hp → Prop, (∃ m, W 0 m (compSt own.length js σ) (upd H p (.lst []))) ∧ ∀ i m σ' H', W i m σ' H' →
      (J.stop i H' ∧ Q (.ref p) H') ∨ (J.go i H' ∧ ∀ x H2, J.yld i H' x H2 → g x σ' H2 fun σ3 H3 => tt σ3 H3 fun b H4 =>
        if b = true then te σ3 H4 fun v H5 => ∃ ys, H5 p = some (.lst ys) ∧ ys.length < sizeLine ∧ ∃ m', m' < m ∧ W (i + 1) m' σ3 (upd H5 p (.lst (ys ++ [v])))
        else ∃ m', m' < m ∧ W (i + 1) m' σ3 H4))
    (hRR : ∀ D C (H' : Hp) (s' : Shared), Inv X pins σ H' s' → Q (.ref D) H' → (∃ m, s'.heap.Ns C m) → H' C = none → C ≠ X.env.locals → X.s₀.heap.objs.size ≤ C → (∀ x c, X.env.cells.lookup x = some c → c ≠ C) → (∀ p ∈ X.pn ++ pins, p.1 ≠ C) → RR (.ref D) C (.ok .next) s') :
    wpAny (model X.prog X.w) X.A (newList []) (fun acc s3 => wpAny (model X.prog X.w) X.A (newFunctionEnv scope X.env.globals cl [] X.env.qual none .none (some X.env)) (fun cenv s4 =>
      codeAny (model X.prog X.w) X.A (.compStart (.ListComp elt [⟨target, iter, ifs, 0⟩] scope pos) 0 (.ref it) acc { cenv with scope := relabel scope X.env }) (RR acc cenv.locals) s4) E s3) E s2 := by
  refine wpAny_newObj_type (wpAny_newFunctionEnv hcell (by intro y hy; simp at hy) (fun h1 hns1 hsb1 => ?_) hkind)
  have hnp : H s2.heap.objs.size = none := I.hok.fresh (Nat.le_refl _)
  have I3 : Inv X pins σ (upd H s2.heap.objs.size (.lst [])) { s2 with heap := s2.heap.push { cls := .type "list", data := .seq ([] : List Value).toArray }, toks := s2.toks } :=
    I.lnew (its := []) (ys := []) .nil (Nat.zero_le _)
  obtain ⟨W, ⟨m0, w0⟩, turn⟩ := h _ hnp
  clear h
  generalize hH0 : upd H s2.heap.objs.size (.lst []) = H0 at I3 w0
  generalize hp : s2.heap.objs.size = p at *
  have eS : ({ s2 with heap := s2.heap.push { cls := .type "list", data := .seq ([] : List Value).toArray }, toks := s2.toks } : Shared) = { s2 with heap := s2.heap.push { cls := .type "list", data := .seq ([] : List Value).toArray } } := rfl
  rw [eS] at I3
  clear eS
  generalize hs3 : ({ s2 with heap := s2.heap.push { cls := .type "list", data := .seq ([] : List Value).toArray } } : Shared) = s3 at *
  have heap3 : s3.heap = s2.heap.push { cls := .type "list", data := .seq ([] : List Value).toArray } := by rw [← hs3]
  have old3 : ∀ b o, s2.heap.get? b = some o → s3.heap.get? b = some o := fun b o e => by rw [heap3]; exact Heap.get?_push_of_some _ e
  generalize hC : s3.heap.objs.size = C at *
  have st3 : tn 0 s3.heap := T.keep _ _ _ st fun b _ o e => old3 b o e
  have fp3 : ∀ b ∈ fp, b < C := fun b hb => by
    obtain ⟨o, e, _⟩ := T.obj _ _ st3 b hb
    have := Heap.lt_size e
    rw [hC] at this; exact this
  have nH0 : ∀ b ∈ fp, H0 b = none := fun b hb => by
    obtain ⟨o, e, _⟩ := T.obj _ _ st b hb
    rw [← hH0, upd_ne (fun z => by have := Heap.lt_size e; rw [hp, z] at this; exact Nat.lt_irrefl _ this)]
    exact (fpk b hb).1
  have old1 : ∀ b o, s3.heap.get? b = some o → h1.get? b = some o := fun b o e =>
    hsb1.extBut b o (fun z => by have := Heap.lt_size e; rw [hC, z] at this; exact Nat.lt_irrefl _ this) (Heap.get?_push_of_some _ e)
  have nstk : ∀ b ∈ fp, b ∉ frs X.stack := fun b hb z => by
    rcases List.mem_cons.mp (I.stkSub b z) with e | e
    · exact (fpk b hb).2.1 e
    · exact (fpk b hb).2.2.1 e
  have ncC : ∀ x c, X.env.cells.lookup x = some c → c ≠ C := fun x c e z => by
    obtain ⟨v, o, ho, _⟩ := I3.cell x c e
    have := Heap.lt_size ho
    rw [hC, z] at this; exact Nat.lt_irrefl _ this
  have LC : C ≠ X.env.locals := fun z => by have := I3.lt; rw [hC, z] at this; exact Nat.lt_irrefl _ this
  have sC : X.s₀.heap.objs.size ≤ C := by rw [← hC]; exact I3.sz
  have rl : ∀ x k, (compEnvC scope cl C X.env).kindOf x = some k → (k = .cell ∨ k = .free) → (x, NameKind.free) ∈ scope.names := fun x k e hk => by
    have e' : (relabel scope X.env).names.lookup x = some k := e
    rw [relabel_look] at e'
    cases q : scope.names.lookup x with
    | none => rw [q] at e'; cases e'
    | some k0 =>
      rw [q] at e'
      have m0 := PySem.mem_of_lookup q
      have n0 := hcell _ m0
      have : relK X.env x k0 = k := Option.some.inj e'
      unfold relK at this
      split at this
      · rename_i z
        have : k0 = .free := by
          simp only [Bool.and_eq_true, beq_iff_eq] at z
          exact z.1.1
        rw [← this]; exact m0
      · rcases hk with hk | hk
        · exact absurd (this.trans hk) n0
        · rw [← hk, ← this]; exact m0
  let Y := X.comp (own ++ ys) scope cl C fp s3 H0
  have okY : Y.Ok := by
    refine ⟨I.ok.mod, ?_, I.ok.glob, I.ok.blt, ?_, fun x y c e1 e2 => I.ok.inj x y c (hcl1 x c e1) (hcl1 y c e2), fun x hx => ?_, fun x c z => (nomatch z), I.ok.hd, I.ok.frames, .inl rfl, fun b hb => ⟨?_, fun x c e => (fpk b hb).2.2.2.2.1 x c (hcl1 x c e)⟩, fun b o e => I3.bs b o e, ?_, fun b o e hb => ?_, nstk, I3.stack, I3.stkFree⟩
    · exact hkind
    · exact Nat.le_of_eq hC
    · rcases hx with hx | hx
      · exact hcl2 x (rl x _ hx (.inl rfl))
      · exact hcl2 x (rl x _ hx (.inr rfl))
    · exact Nat.ne_of_lt (fp3 b hb)
    · exact Nat.le_trans I.ok.bsz I3.sz
    · rcases (fpk b hb).2.2.2.1 with z | z
      · exact I.ok.noex b o e z
      · exact absurd (Nat.lt_of_lt_of_le (Heap.lt_size e) (Nat.le_trans I.ok.bsz z)) (Nat.lt_irrefl _)
  have I4 : Inv Y [] (compSt own.length js σ) H0 { s3 with heap := h1, toks := s3.toks + ([] : List (Str × Value)).length } := by
    refine ⟨okY, rfl, I3.bare, Un.kept old1, ⟨_, hns1, fun i x v e1 e2 e3 => ?_⟩, fun x c e => ?_, ?_, fun x c e => I3.freeC x c (hcl1 x c e), fun p hp => absurd (show p ∈ ([] : List (Addr × Obj)) from hp) (by simp), I3.hok.kept old1, ?_⟩
    · have e1 : (own ++ ys)[i]? = some x := e1
      have hi : own.length ≤ i := Nat.le_of_not_lt fun lt => by
        unfold compSt at e2
        rw [List.getElem?_append_left (by simpa using lt), List.getElem?_replicate] at e2
        split at e2 <;> cases e2
      rw [List.getElem?_append_right hi] at e1
      obtain ⟨j, hj, hN⟩ := fr.at _ _ e1
      unfold compSt at e2
      rw [List.getElem?_append_right (by simpa using hi), List.length_replicate, List.getElem?_map, hj] at e2
      have e2 : (σ[j]?).join = some v := Option.some.inj e2
      have e2' : σ[j]? = some (some v) := by
        cases q : σ[j]? with
        | none => rw [q] at e2; cases e2
        | some z => rw [q] at e2; rw [show z = some v from e2]
      have my := List.mem_of_getElem? e1
      have hk := hys x my
      obtain ⟨m, hn, hl⟩ := I3.loc
      obtain ⟨u, r, q⟩ := hl j x v hN e2' (.inr (.inl hk))
      refine ⟨u, r, ?_⟩
      rcases q with ⟨k, _⟩ | ⟨_, c, e, z⟩
      · rw [hk] at k; cases k
      · obtain ⟨c', e'⟩ := hcl2 x (rl x _ (hvis x my) (.inl rfl))
        have : c' = c := by have := hcl1 x c' e'; rw [e] at this; exact (Option.some.inj this).symm
        subst this
        refine .inr ⟨?_, c', e', ?_⟩
        · exact .inl (hvis x my)
        · obtain ⟨o, ho, hd⟩ := z
          exact ⟨o, old1 _ _ ho, hd⟩
    · obtain ⟨v, o, ho, hd⟩ := I3.cell x c (hcl1 x c e)
      exact ⟨v, o, old1 _ _ ho, hd⟩
    · exact I3.hok.fresh (Nat.le_of_eq hC)
    · unfold compSt
      show _ = (own ++ ys).length
      rw [List.length_append, List.length_replicate, List.length_map, List.length_append, fr.length]
  have stat : ∀ {H' : Hp}, (∀ b ∈ fp, H' b = none) → ∀ b ∈ fp, FpOk Y [] H' b := fun hn b hb =>
    ⟨hn b hb, Nat.ne_of_lt (fp3 b hb), nstk b hb, .inl hb, fun x c e => (fpk b hb).2.2.2.2.1 x c (hcl1 x c e), fun p hp => absurd (show p ∈ ([] : List (Addr × Obj)) from hp) (by simp)⟩
  have fin : ∀ {σ' : St} {H' : Hp} {s' : Shared}, Inv Y [] σ' H' s' → Q (.ref p) H' → RR (.ref p) C (.ok .next) s' := fun {σ' H' s'} I' q => by
    have back : Inv X pins σ H' s' := I3.call' (ch := fp) I'.os I'.base I'.hok I'.bare fun b hb => ⟨(fpk b hb).2.2.2.1, (fpk b hb).2.1, (fpk b hb).2.2.2.2.1, (fpk b hb).2.2.2.2.2⟩
    obtain ⟨m, hn, _⟩ := I'.loc
    exact hRR p C H' s' back q ⟨m, hn⟩ I'.free LC sC ncC fun q hq z => by
      have := Heap.lt_size (I3.pin q hq).1
      rw [hC, z] at this; exact Nat.lt_irrefl _ this
  have loop : ∀ s4 : Shared, s4 = { s3 with heap := h1, toks := s3.toks + ([] : List (Str × Value)).length } →
      codeAny (model X.prog X.w) X.A (.compLoop (.ListComp elt [⟨target, iter, ifs, 0⟩] scope pos) 0 (.ref it) (.ref p) (compEnvC scope cl C X.env)) (RR (.ref p) C) s4 := by
    rintro s4 rfl
    refine comp_turns (fun n s' => ∃ i σ' H', Inv Y [] σ' H' s' ∧ tn i s'.heap ∧ (∀ b ∈ fp, H' b = none) ∧ W i n σ' H') ?_ m0 ⟨0, _, _, I4, T.keep _ _ _ st3 fun b _ o e => old1 b o e, nH0, w0⟩
    rintro n s5 ⟨i, σ5, H5, I5, st5, fr5, w5⟩
    rcases turn i n σ5 H5 w5 with ⟨stop, qn⟩ | ⟨go, step⟩
    · refine thn (T.done Y rfl rfl rfl hc i [] s5 σ5 H5 (fun _ _ => False) I5 (stat fr5) st5 stop) fun r s6 hzz => ?_
      obtain ⟨hr, I6⟩ := hzz
      subst hr
      exact fin I6 qn
    · refine thn (T.item Y rfl rfl rfl hc i [] s5 σ5 H5 (fun _ _ => False) I5 (stat fr5) st5 go) fun r s6 hzz => ?_
      obtain ⟨u, hr, h6⟩ := hzz
      subst hr
      refine thn h6 fun _ s7 hzz => ?_
      obtain ⟨x, H7, I7, r7, y7, st7, fr7⟩ := hzz
      have I7' := I7.pinned (stat fr7) (T.obj _ _ st7)
      have again : ∀ {σ9 : St} {H9 : Hp} {s9 : Shared} {m' : Nat}, Inv Y ([] ++ pinsAt fp s7.heap) σ9 H9 s9 → m' < n → W (i + 1) m' σ9 H9 → ∃ m, m < n ∧ ∃ i σ' H', Inv Y [] σ' H' s9 ∧ tn i s9.heap ∧ (∀ b ∈ fp, H' b = none) ∧ W i m σ' H' := fun {σ9 H9 s9 m'} I9 hm w9 => by
        refine ⟨m', hm, i + 1, σ9, H9, I9.unpinned, T.keep _ _ _ st7 fun b hb o e => (I9.pin (b, o) (List.mem_append_right _ (List.mem_append_right _ (mem_pinsAt hb e)))).1, fun b hb => ?_, w9⟩
        obtain ⟨o, e, d⟩ := T.obj _ _ st7 b hb
        exact (I9.pin (b, o) (List.mem_append_right _ (List.mem_append_right _ (mem_pinsAt hb e)))).2.1
      refine thn (hg cl C fp s3 H0 _ s7 σ5 H7 x u _ I7' r7 (step x H7 y7)) fun _ s8 hzz => ?_
      obtain ⟨σ8, H8, I8, q8⟩ := hzz
      refine thn (ht cl C fp s3 H0 _ s8 σ8 H8 _ I8 q8) fun b s9 hzz => ?_
      obtain ⟨H9, I9, q9⟩ := hzz
      cases b with
      | false =>
        obtain ⟨m', hm, w9⟩ := q9
        exact again I9 hm w9
      | true =>
        refine thn (he cl C fp s3 H0 _ s9 σ8 H9 _ I9 q9) fun y s10 hzz => ?_
        obtain ⟨v, H10, I10, r10, zs, e10, z10, m', hm, w10⟩ := hzz
        refine thn (mt_append (X := Y) _ s10 σ8 H10 (.ref p) [v] (.ref p) [y] (fun _ H' => H' = upd H10 p (.lst (zs ++ [v]))) I10 rfl (.cons r10 .nil) ⟨p, zs, v, rfl, rfl, e10, z10, rfl⟩) fun _ s11 hzz => ?_
        obtain ⟨_, H11, I11, _, q11⟩ := hzz
        subst q11
        exact again I11 hm w10
  have st4 : tn 0 h1 := T.keep _ _ _ st3 fun b _ o e => old1 b o e
  exact codeAny_compStart_list (loop _ rfl) (T.self _ 0 _ _ _ st4 (loop _ rfl))
end

section
variable {X : Cx} {elt target iter : Expr} {ifs : List Expr} {scope : Scope} {own ys : List Str} {js : List Nat} {wi : TI} {g : TG} {tt : TT} {te : TE} {pos : Pos}
structure CompSc (X : Cx) (scope : Scope) (ys : List Str) : Prop where
  kind : scope.kind = .function
  cell : ∀ y ∈ scope.names, y.2 ≠ .cell
  loc : ∀ y ∈ scope.names, y.2 = .local → scope.names.lookup y.1 = some .local
  free : ∀ y ∈ scope.names, y.2 = .free → X.env.kindOf y.1 = some .cell
  cap : ∀ y ∈ ys, X.env.kindOf y = some .cell
  vis : ∀ y ∈ ys, (relabel scope X.env).names.lookup y = some .cell
noncomputable def compScB (sc scope : Scope) (ys : List Str) : Bool :=
  scope.kind == .function && sc.kind == .function && (scope.names.all fun y => y.2 != .cell && (y.2 != .local || scope.names.lookup y.1 == some .local) && (y.2 != .free || sc.names.lookup y.1 == some .cell)) &&
    ys.all fun y => sc.names.lookup y == some .cell && scope.names.lookup y == some .free
theorem compSc_of {sc : Scope} (hsc : X.env.scope = sc) (h : compScB sc scope ys = true) : CompSc X scope ys := by
  unfold compScB at h
  simp only [Bool.and_eq_true, List.all_eq_true, beq_iff_eq, bne_iff_ne, Bool.or_eq_true, ne_eq] at h
  obtain ⟨⟨⟨h1, h0⟩, h2⟩, h3⟩ := h
  subst hsc
  refine ⟨h1, fun y hy => (h2 y hy).1.1, fun y hy e => ?_, fun y hy e => ?_, fun y hy => (h3 y hy).1, fun y hy => ?_⟩
  · rcases (h2 y hy).1.2 with z | z
    · exact absurd e z
    · exact z
  · rcases (h2 y hy).2 with z | z
    · exact absurd e z
    · exact z
  · rw [relabel_look, (h3 y hy).2]
    show some (relK X.env y .free) = _
    have z : X.env.kindOf y = some .cell := (h3 y hy).1
    unfold relK
    rw [z, h0]
    rfl
theorem pe_comp (hc : X.calm = true) (hi : PI X target iter wi) (S : CompSc X scope ys) (fr : Frees X.N ys js)
    (hg : ∀ cl C fp s H, PG (X.comp (own ++ ys) scope cl C fp s H) target g) (ht : ∀ cl C fp s H, PTs (X.comp (own ++ ys) scope cl C fp s H) ifs tt) (he : ∀ cl C fp s H, PE (X.comp (own ++ ys) scope cl C fp s H) elt te)
    (hs : ∀ x, foldedSetIterable iter X.env x = pure x := by intro _; rfl) : PE X (.ListComp elt [⟨target, iter, ifs, 0⟩] scope pos) (tComp wi own.length js g tt te) := by
  refine ⟨?_⟩
  intro pins s σ H Q I h
  rw [eval_ListComp]
  obtain ⟨cl, e, c1, c2⟩ := closure_at (env := X.env) (scope := scope) fun y hy hf => I.ok.has y.1 (.inl (S.free y hy hf))
  refine wpAny_comprehension_free (use := none) rfl hs e S.kind S.loc (thn (hi pins s σ H _ I h) fun v s1 h1 => thn h1 fun itv s2 h2 => ?_)
  obtain ⟨it, fp, tn, J, H2, e, I2, T, st2, f2, q2⟩ := h2
  subst e
  refine comp_block (Q := Q) (RR := fun acc C => compPost (model X.prog X.w) X.A X.xe none (EP X pins σ Q) acc C) hc I2 T st2 f2 S.kind S.cell fr S.cap c1 c2 S.vis hg ht he q2 ?_
  intro D C H' s' I' q hm n1 n2 n3 n4 n5
  obtain ⟨m, hn⟩ := hm
  exact ⟨m, hn, fun h' hs' => ⟨.ref D, H', I'.turned (fun b o hb e => (hs'.2 b hb).trans e) n1 n2 (.inr n3) n4 n5, rfl, q⟩⟩
end
end L2

set_option Elab.async false
set_option linter.all false
set_option maxRecDepth 100000
namespace L2
open PySem PySem.Spec PyProof.Rows
section
variable {X : Cx} {x : Str} {p pos : Pos} {e : Expr} {es : List Expr} {t : TA}

noncomputable def GInt (mg : Str → Option Value) (x : Str) (i : Int) : Prop := ∃ t, mg x = some (.int i t)
theorem pe_gint {i : Int} (hg : Gl X x) (hm : GInt X.mg x i) (hd : (x == ("__debug__" : Str)) = false := by decide) : PE X (.Name x pos) (tC (.int i)) := by
  obtain ⟨t, hm⟩ := hm
  exact pe_glob (v := .int i) hg hm ⟨t, rfl⟩ hd
theorem pe_gref {a : Addr} (hg : Gl X x) (hm : X.mg x = some (.ref a)) (hd : (x == ("__debug__" : Str)) = false := by decide) : PE X (.Name x pos) (tC (.ref a)) := pe_glob (v := .ref a) hg hm rfl hd

structure Cal (P : Program) (w : World) (K : PySem.W.Frag) (mg : Str → Option Value) (base : Heap) (CX : CXT) (k : Nat) (x : Str) (ps : List Str) (sp : Sp) : Prop where
  ex : ∃ f fd, FnOk P w K mg base CX k f fd ps sp ∧ mg x = some (.ref f) ∧ PySem.W.keepIn K (.ref f) = true ∧ Binds K fd ps []
theorem pe_callC {CX : CXT} {k n : Nat} {ps : List Str} {sp : Sp} {E : XK} (C : Cal X.prog X.w X.K X.mg X.base CX k x ps sp) (hr : Room n X.A) (hg : Gl X x) (ha : PA X (e :: es) t) (hx : Passes CX X E) (hk : k ≤ n := by first | decide | (first | lia | omega)) (hdb : (x == ("__debug__" : Str)) = false := by decide)
    (he : starEach (e :: es) X.env = (false, eval e X.env) :: starEach es X.env := by rfl) (hpl : (backTo pos (starEach es X.env)).any (·.1) = false := by rfl) : PE X (.Call (.Name x p) (e :: es) [] pos) (tCall sp [] E t) := by
  obtain ⟨f, fd, F, hm, kp, hb⟩ := C.ex
  exact pe_call F (hr.mono hk) hg hm kp hb .nil hx ha hdb he hpl
inductive Consts : List Expr → List V → Prop where
  | nil : Consts [] []
  | int {i j pos es vs} (r : Consts es vs) : Consts (.Constant (.int i) j pos :: es) (.int i :: vs)
  | str {x j pos es vs} (r : Consts es vs) : Consts (.Constant (.str x) j pos :: es) (.str x :: vs)
theorem pa_consts : ∀ {es : List Expr} {vs : List V}, Consts es vs → PA X es (fun _ H Q => Q vs H)
  | _, _, .nil => ⟨fun pos pins s σ H Q I h => pa_nil pos pins s σ H Q I h⟩
  | _, _, .int r => ⟨fun pos pins s σ H Q I h => pa_cons pe_int (pa_consts r) (by rfl) pos pins s σ H Q I h⟩
  | _, _, .str r => ⟨fun pos pins s σ H Q I h => pa_cons pe_str (pa_consts r) (by rfl) pos pins s σ H Q I h⟩

noncomputable def rIsi (K : PySem.W.Frag) : List V → Hp → VK → Prop := fun xs H Q =>
  (∃ x n t b, xs = [x, .ty n] ∧ TyOf K H x t ∧ PySem.W.kitOne K t (.type n) = some b ∧ Q (.bl b) H) ∨ ∃ x C t b, xs = [x, .ref C] ∧ TyOf K H x t ∧ PySem.W.kitOne K t (.ref C) = some b ∧ Q (.bl b) H
theorem call_isiK (K : PySem.W.Frag) (hK : X.K = K) : CallR X (.builtin "isinstance") (rIsi K) := by
  subst hK
  intro pins s σ H xs us Q I r h
  rcases h with ⟨x, n, t, b, rfl, ty, e, q⟩ | ⟨x, C, t, b, rfl, ty, e, q⟩
  · obtain ⟨u, w', rfl, ru, rw'⟩ := vals2 r
    cases rw'
    exact isinst_ok I ru ty e fun tk => ⟨.bl b, H, I.tok tk, rfl, q⟩
  · obtain ⟨u, w', rfl, ru, rw'⟩ := vals2 r
    cases rw'
    exact isinst_ok I ru ty e fun tk => ⟨.bl b, H, I.tok tk, rfl, q⟩
theorem call_isi : CallR X (.builtin "isinstance") (rIsi X.K) := call_isiK X.K rfl

theorem ix_listK (K : PySem.W.Frag) (hK : X.K = K) : IxR X (rIxL K) := hK ▸ ix_list
theorem rslice_isPart {v : Value} {o : Option Int} (p : IsPart v o) : ∃ l : Option (Int × Tok), v = partValue l ∧ l.map (·.1) = o := by
  cases p with
  | none => exact ⟨none, rfl, rfl⟩
  | int i t => exact ⟨some (i, t), rfl, rfl⟩
noncomputable def rSlS : V → Option Int → Option Int → Hp → VK → Prop := fun x lo hi H Q => ∃ z, x = .str z ∧ z.length ≤ sizeLine ∧ Q (.str (Txt.slice z lo hi)) H
theorem sl_str : SlR X rSlS := by
  intro pins s σ H x v vl vu lo hi sl Q I rx hs pl pu h
  obtain ⟨z, rfl, hz, q⟩ := h
  obtain ⟨t, rfl⟩ := (show ∃ t, v = Value.str z t from rx)
  obtain ⟨l, rfl, rfl⟩ := rslice_isPart pl
  obtain ⟨u, rfl, rfl⟩ := rslice_isPart pu
  refine ⟨"str", _, F.slot_str_getitem.lookup, typeIs_str s z t, wpAny_getItem_str_slice (l := l) (u := u) (st := none) hs rfl ?_⟩
  unfold sliceMade Txt.slice at *
  split
  · rename_i c
    have c' : ((1 : Int) == 1 && (Builtin.Str.strSliceIndices (l.map (·.1)) (u.map (·.1)) 1 z.length).length == z.length) = true := c
    rw [if_pos c'] at q
    exact ⟨.str z, H, I, ⟨t, rfl⟩, q⟩
  · rename_i c
    have c' : ¬ ((1 : Int) == 1 && (Builtin.Str.strSliceIndices (l.map (·.1)) (u.map (·.1)) 1 z.length).length == z.length) = true := c
    have le := Txt.slice_le z (l.map (·.1)) (u.map (·.1))
    unfold Txt.slice at le
    rw [if_neg c'] at q le
    exact ⟨Nat.le_trans le hz, .str _, H, I.tok _, ⟨_, rfl⟩, q⟩

theorem strsAre_of : ∀ {ys : List Str} {us : List Value}, Vals (ys.map V.str) us → StrsAre us ys
  | [], _, .nil => .nil
  | y :: ys, _, .cons r t => by
    obtain ⟨k, rfl⟩ := (show ∃ t, _ = Value.str y t from r)
    exact .cons y k (strsAre_of t)
noncomputable def rJoin (K : PySem.W.Frag) : V → List V → Hp → VK → Prop := fun x vs H Q => ∃ z l ys, x = .str z ∧ vs = [.ref l] ∧ SqL K H l (ys.map V.str) ∧ (ys.map (·.length)).sum + ys.length * z.length ≤ 16777216 ∧ Q (.str (Txt.join z ys)) H
theorem mt_join : MtR X "str.join" (rJoin X.K) := by
  intro pins s σ H x vs v us Q I rx rv h
  obtain ⟨z, l, ys, rfl, rfl, hl, hz, q⟩ := h
  obtain ⟨t, rfl⟩ := (show ∃ t, v = Value.str z t from rx)
  obtain ⟨u, rfl, ru⟩ := rv.one
  cases ru
  obtain ⟨its, r, pl, hsz⟩ := I.list hl
  exact join_list pl.isList (by simpa using strsAre_of r) hz fun t' k => ⟨.str _, H, I.tok k, ⟨t', rfl⟩, q⟩

noncomputable def FirstAt (xs : List V) (y : V) (j : Nat) : Prop := (∃ z, xs[j]? = some z ∧ eqV z y = true) ∧ ∀ (m : Nat) (z : V), m < j → xs[m]? = some z → eqV z y = false
noncomputable def rIndex (S : Hp → Addr → List V → Prop) : V → List V → Hp → VK → Prop := fun x vs H Q => ∃ l xs y j, x = .ref l ∧ vs = [y] ∧ S H l xs ∧ flatV y = true ∧ xs.all flatV = true ∧ FirstAt xs y j ∧ Q (.int (j : Nat)) H
theorem first_items {xs : List V} {its : List Value} {y : V} {j : Nat} (r : Vals xs its) (fx : xs.all flatV = true) (f : FirstAt xs y j) :
    ∃ hj : j < its.length, eqU y its[j] = true ∧ ∀ m (hm : m < its.length), m < j → eqU y its[m] = false := by
  obtain ⟨⟨z, hz, ez⟩, hno⟩ := f
  have fz : ∀ {m : Nat} {z : V}, xs[m]? = some z → flatV z = true := fun {m z} h => List.all_eq_true.mp fx z (List.mem_of_getElem? h)
  obtain ⟨u, hu, ru⟩ := r.get hz
  obtain ⟨hj, eu⟩ := List.getElem?_eq_some_iff.mp hu
  refine ⟨hj, ?_, fun m hm hlt => ?_⟩
  · rw [eu, eqU_of ru (fz hz)]; exact ez
  · have hm' : m < xs.length := by rw [r.length]; exact hm
    have hx : xs[m]? = some xs[m] := List.getElem?_eq_getElem hm'
    obtain ⟨u', hu', ru'⟩ := r.get hx
    obtain ⟨_, eu'⟩ := List.getElem?_eq_some_iff.mp hu'
    rw [eu', eqU_of ru' (fz hx)]
    exact hno m _ hlt hx
theorem tuple_indexAt (l : Addr) (items : Array Value) (n : Nat) (dd : Option Addr) (sl : Array (Option Value)) (x : Value) (e : Value → Bool) (j : Nat) (hj : j < items.size)
    (hit : e items[j] = true) (hno : ∀ m (hm : m < items.size), m < j → e items[m] = false) :
    Meets (Builtin.«tuple.index» ⟨[.ref l, x], []⟩)
      (fun A R s => s.heap.get? l = some { cls := .type "tuple", dict := dd, data := .seq items n, slots := sl } ∧ (∀ y, y ∈ items → SeqAt.EqAt A.in1 s y x (e y)) ∧ R (.ok (.ret (.int j s.toks))) { s with toks := s.toks + 1 }) := by
  intro prog w A R s h
  obtain ⟨hp, g, d, tk, os⟩ := s; obtain ⟨hl, he, h⟩ := h
  unfold Builtin.«tuple.index»
  simp only [Std.Legacy.Range.forIn_eq_forIn_range']
  wp_walk using AutoSeq1.wpAny_loadPart' hl, wpAny_forIn_list _ (fun rest b s' => b.1 = none ∧ s' = ⟨hp, g, d, tk, os⟩ ∧ ∃ i, i ≤ j ∧ rest = List.range' i (items.size - i)) _
  case turn =>
    rintro i rest b s' ⟨hb, rfl, i', hi', hr⟩
    have hlt : i' < items.size := by (first | lia | omega)
    obtain ⟨q, hq⟩ : ∃ q, items.size - i' = q + 1 := ⟨items.size - i' - 1, by (first | lia | omega)⟩
    rw [hq, List.range'_succ] at hr
    injection hr with hi hrest
    subst hi
    rw [Array.getElem?_eq_getElem hlt]
    refine wpAny_bind (he _ (Array.getElem_mem hlt) prog w _ _ ?_)
    by_cases hij : i = j
    · subst hij
      rw [hit]
      wp_walk
      exact h
    · rw [hno i hlt (by (first | lia | omega))]
      wp_walk
      exact ⟨rfl, rfl, i + 1, by (first | lia | omega), by rw [hrest, show items.size - (i + 1) = q by (first | lia | omega)]⟩
  case fin =>
    rintro b s' ⟨_, _, i', hi', hr⟩
    exfalso
    have := congrArg List.length hr
    rw [List.length_range'] at this
    simp at this
    (first | lia | omega)
  exact ⟨rfl, rfl, 0, Nat.zero_le _, by simp [Std.Legacy.Range.size]⟩
theorem mt_indexT : MtR X "tuple.index" (rIndex (SqT X.K)) := by
  intro pins s σ H x vs v us Q I rx rv h
  obtain ⟨l, xs, y, j, rfl, rfl, hl, fy, fx, fa, q⟩ := h
  cases rx
  obtain ⟨u, rfl, ru⟩ := rv.one
  obtain ⟨its, r, pl, hsz⟩ := I.tuple hl
  obtain ⟨hj, h1, h2⟩ := first_items r fx fa
  obtain ⟨⟨cls, dd, data, sl⟩, ho, hc, n, hd⟩ := pl
  simp only at hc hd
  subst hc hd
  refine call_meets F.slot_tuple_index ⟨_, ho, rfl⟩ F.entry_tuple_index (F.args_tuple_index_2 _ _)
    (tuple_indexAt l its.toArray n dd sl u (eqU y) j (by simpa using hj) (by simpa using h1) (by simpa using h2)) ⟨ho, fun w hw => mem_eqAt ru fy r fx w (by simpa using hw), ?_⟩
  exact ⟨.int j, H, I.tok _, ⟨_, rfl⟩, q⟩
end
end L2

set_option Elab.async false
set_option linter.all false
set_option maxRecDepth 100000
namespace L2
open PySem PySem.Spec PyProof.Rows
theorem bt_len : bootBuiltins "len" = some (.builtin "len") := PySem.boot_len
theorem bt_isinstance : bootBuiltins "isinstance" = some (.builtin "isinstance") := by decide +kernel
theorem bt_int : bootBuiltins "int" = some (.type "int") := by decide +kernel
theorem bt_bool : bootBuiltins "bool" = some (.type "bool") := by decide +kernel
theorem bt_str : bootBuiltins "str" = some (.type "str") := by decide +kernel
theorem bt_list : bootBuiltins "list" = some (.type "list") := by decide +kernel
theorem bt_tuple : bootBuiltins "tuple" = some (.type "tuple") := by decide +kernel
theorem bt_ValueError : bootBuiltins "ValueError" = some (.type "ValueError") := by decide +kernel
theorem small {n : Nat} (h : n ≤ 1000) : n ≤ sizeLine := Nat.le_of_lt (small1000 h)
theorem same_new {H : Hp} {p : Addr} (h : H p = none) (o : HO) : Same H (upd H p o) := fun b u q => by rw [upd_ne (ne_of_none q h)]; exact q

noncomputable def Scr (K : PySem.W.Frag) (H : Hp) (a : Addr) (ns : List Int) : Prop :=
  (∃ o, H a = some (.frz o (.lst (ns.map V.int)))) ∨
    ∃ (o : Obj) (its : Array Value) (n : Nat), K.lookup a = some o ∧ o.cls = .type "list" ∧ o.dict = none ∧ o.data = .seq its n ∧ its.size ≤ sizeLine ∧ Vals (ns.map V.int) its.toList
theorem Scr.sq {K : PySem.W.Frag} {H : Hp} {a : Addr} {ns : List Int} (h : Scr K H a ns) : SqL K H a (ns.map V.int) := by
  rcases h with h | h
  · exact .inl (.inr h)
  · exact .inr h
theorem Scr.of {K : PySem.W.Frag} {H : Hp} {a : Addr} {ns : List Int} (hO : Only H) (h : SqL K H a (ns.map V.int)) : Scr K H a ns := by
  rcases h with (h | h) | h
  · rcases hO a with z | ⟨o, xs, z⟩
    · rw [h] at z; cases z
    · rw [h] at z; cases z
  · exact .inl h
  · exact .inr h
noncomputable def Keep (st : Addr) (H H' : Hp) : Prop := ∀ b o, b ≠ st → H b = some o → H' b = some o
theorem Keep.refl (st : Addr) (H : Hp) : Keep st H H := fun _ _ _ e => e
theorem Keep.trans {st : Addr} {H H1 H2 : Hp} (a : Keep st H H1) (b : Keep st H1 H2) : Keep st H H2 := fun c o n e => b c o n (a c o n e)
theorem Keep.same {st : Addr} {H H1 : Hp} (a : Same H H1) : Keep st H H1 := fun c o _ e => a c o e
theorem Keep.upd {st : Addr} {H : Hp} {o : HO} : Keep st H (upd H st o) := fun c u n e => by rw [upd_ne n]; exact e
noncomputable def Draw (K : PySem.W.Frag) (H : Hp) (st : Addr) : Prop := ∃ a ns k c, H st = some (.lst [.ref a, .int k, .int c]) ∧ Scr K H a ns ∧ ns.length ≤ 63 ∧ 0 ≤ k ∧ 0 ≤ c
structure Drawn (K : PySem.W.Frag) (st : Addr) (H H' : Hp) : Prop where
  draw : Draw K H' st
  keep : Keep st H H'
noncomputable def spMixed : Sp := fun vs H Q _ => ∃ c k : Int, vs = [.int c, .int k] ∧ ∀ r : Int, 0 ≤ r → Q (.int r) H
noncomputable def spTake (K : PySem.W.Frag) : Sp := fun vs H Q _ => ∃ (st : Addr) (many : Int), vs = [.ref st, .int many] ∧ 0 < many ∧ many < 1073741824 ∧ Draw K H st ∧ ∀ (r : Int) (H' : Hp), 0 ≤ r → r < many → Drawn K st H H' → Q (.int r) H'
noncomputable def spLaw (K : PySem.W.Frag) : Sp := fun vs H Q _ => ∃ (a : Addr) (ns : List Int), vs = [.ref a] ∧ Scr K H a ns ∧ ns.length ≤ 63 ∧ ∀ H', Q (.bl true) H'
theorem atI_int {ns : List Int} {k : Int} (h0 : 0 ≤ k) (h : k < (ns.length : Int)) : ∃ v : Int, atI (ns.map V.int) k = some (.int v) := by
  have hk : k.toNat < ns.length := by (first | lia | omega)
  have q : atI (ns.map V.int) ((k.toNat : Nat) : Int) = some (.int ns[k.toNat]) := atI_nat (by rw [List.getElem?_map, List.getElem?_eq_getElem hk] <;> rfl)
  rw [show ((k.toNat : Nat) : Int) = k by (first | lia | omega)] at q
  exact ⟨_, q⟩

noncomputable def CompW (n : Nat) (fs : St) (Pv : Nat → List V → Hp → Prop) (i m : Nat) (σ : St) (H : Hp) : Prop := i ≤ n ∧ m = n - i ∧ (∃ v, σ = v :: fs) ∧ ∃ ys, Pv i ys H
theorem kit_of {K : PySem.W.Frag} {t : Value} {n : String} {b : Bool} (h : PySem.W.subIn K t (.type n) = some b) (h1 : (t == Value.type n) = false := by decide) (h2 : PySem.W.kitMeta n = true := by decide +kernel) : PySem.W.kitOne K t (.type n) = some b := by
  unfold PySem.W.kitOne PySem.W.kitCls
  rw [h1]
  simp only [Bool.false_eq_true, if_false, h2, if_true]
  exact h
theorem kit_self {K : PySem.W.Frag} {t : Value} (h : (t == t) = true := by decide) : PySem.W.kitOne K t t = some true := by
  unfold PySem.W.kitOne
  rw [if_pos h]
theorem sqT_of {K : PySem.W.Frag} {a : Addr} {its : Array Value} {n : Nat} {sl : Array (Option Value)} {dd : Option Addr} {xs : List V} (h : K.lookup a = some ⟨.type "tuple", dd, .seq its n, sl⟩) (hz : its.size ≤ sizeLine) (r : Vals xs its.toList) (H : Hp) : SqT K H a xs :=
  .inr ⟨_, its, n, h, rfl, rfl, hz, r⟩
noncomputable def absVs : List Value → List V
  | [] => []
  | u :: r => (absV u).getD .non :: absVs r
end L2

set_option Elab.async false
set_option linter.all false
set_option maxRecDepth 100000
namespace L2
open PySem PySem.Spec PySem.W PyProof.Rows
section
variable {prog : Program} {w : World} {A : Around} {K : Frag} {E : Value → Shared → Prop} {h : Heap} {g : Array GenState} {d : PySem.Drawn} {t : Nat} {os : OsState} {R : Result → Shared → Prop}
variable {nm q : Str} {C N f : Addr} {bs bm bmB : List Value} {hdct : Bool} {sn : List Str} {sub : List Value} {ab : Bool} {col : Option Bool} {dd : Option Addr} {k0 k1 k2 k3 k5 : Option Value} {B newId initId : String}
noncomputable abbrev excObj (C tp : Addr) : Obj := { cls := .ref C, data := .fields #[.ref tp, .none, .none, .none, .bool false, .none] }
noncomputable abbrev excHeap (h : Heap) (C : Addr) (rest : List Value) : Heap := (h.push { cls := .type "tuple", data := .seq rest.toArray }).push (excObj C h.objs.size)
theorem exc_make (X : K.In h) (hC : h.get? C = some (excClassObj nm q C N bs bm hdct sn sub ab col dd k0 k1 k2 k3 k5 newId)) (F : ExcBaseFacts B newId initId bmB) (T : OwnTail h bmB bm)
    (hi : findIn K (.ref C) "__init__" = some (some (.ref f))) (hf : typeIn K (.ref f) = some (.type "function")) {rest : List Value} (hrest : rest.length ≤ sizeLine)
    (hq : codeAny (model prog w) (A.under (.builtin "type.__call__" ⟨.ref C :: rest, []⟩)) (.call (.ref f) ⟨.ref (h.objs.size + 1) :: rest, []⟩) (InitBack (h.objs.size + 1) R) ⟨excHeap h C rest, g, d, t, os⟩) :
    codeAny (model prog w) A (.call (.ref C) ⟨rest, []⟩) R ⟨h, g, d, t, os⟩ := by
  have f1 := tc_lookup
  have f2 := tc_bind (.ref C)
  have hT : (⟨h, g, d, t, os⟩ : Shared).TypeIs (.ref C) "type" := ⟨_, hC, rfl⟩
  refine codeAny_of_tree ?_
  show wpAny _ _ (callAny (.ref C) _) _ _ _
  repeat (any_goals (first | assumption | with_reducible refine wpAny_loadPart_at hC ?_ | wp_step))
  refine ⟨rfl, ?_⟩
  refine codeAny_call_builtin_at (Code.quiet_builtin _ (by decide +kernel)) entry_typeCall (wpAny_check_type_call_sub hC ?_)
  repeat (first | with_reducible refine wpAny_loadPart_at hC ?_ | with_reducible refine wpAny_madeBy_exc hC ?_ | wp_step)
  refine codeAny_call_builtin_code (Code.quiet_builtin _ F.quiet) (wpAny_check_new_subT F T hC ?_)
  refine codeAny_exc_new_subT F T hC ?_ hrest
  show wpAny _ _ _ _ _ _
  have k : ∀ b o, h.get? b = some o → (excHeap h C rest).get? b = some o := fun b o e => Heap.get?_push_of_some _ (Heap.get?_push_of_some _ e)
  have hx : (excHeap h C rest).get? (h.objs.size + 1) = some (excObj C h.objs.size) := by heap_get
  have t1 : Looks (model prog w) (excHeap h C rest) (typeOf (.ref (h.objs.size + 1))) (.ref C) := (Looks.ld hx).andThen .now
  have hcC : (Value.ref C :: bm).contains (.ref C) = true := by simp
  have i1 := (looks_findIn (M := model prog w) X hi).keeps k
  have b1 := (bind_fn (M := model prog w) X (.ref (h.objs.size + 1)) hf).keeps k
  have s1 : Looks (model prog w) (excHeap h C rest) (isSubtype (.ref C) (.ref C)) true := by
    intro A' Q' E' s' kk hq'
    obtain ⟨h', g', d', t', os'⟩ := s'
    refine wpAny_isSubtype_exc (kk _ _ (k _ _ hC)) ?_
    rw [hcC]; exact hq'
  have n1 : Looks (model prog w) (excHeap h C rest) (isInstance (.ref (h.objs.size + 1)) (.ref C)) true := t1.andThen s1
  refine wpAny_bind (n1.at ?_)
  have c1 : Looks (model prog w) (excHeap h C rest) (specialOf (.ref (h.objs.size + 1)) "__init__") (some (.ref f)) := t1.andThen i1
  unfold callSpecial?
  repeat (first | with_reducible refine wpAny_call ?_ | lk)
  refine codeAny_mono hq fun r s' z => ?_
  rcases r with e | (v | _ | _ | _) <;> first | exact z | exact z.elim | skip
  obtain ⟨rfl, z⟩ := z
  exact wpAny_pure (wpAny_pure z)

structure ExCls (K : Frag) (C : Addr) : Prop where
  cd : ∃ cd, clsIn K C = some cd ∧ cd.hasDict = true ∧ ∀ self, refuseLoop self "__setattr__" cd.mro = pure ()
  obj : mroIn K C (.type "object") = some true
  base : mroIn K C (.type "BaseException") = some true
  sa : findIn K (.ref C) "__setattr__" = some (some (.builtin "object.__setattr__"))
  ga : findIn K (.ref C) "__getattribute__" = some (some (.builtin "BaseException.__getattribute__"))
  noHook : findIn K (.ref C) "__getattr__" = some none

section
variable {s : Shared} {x : Addr} {ox : Obj} {od : Option Obj} {name : Str} {v : Value} {expr : Bool} {Q : Value → Shared → Prop}
theorem exc_getattr (X : K.In s.heap) (I : InstAt s.heap x ox C od) (Ec : ExCls K C) (hf : findObj K C od name = some (.value v)) (hh : handedIn v = true) (hq : Q v { s with toks := s.toks + 1 }) :
    wpAny (model prog w) A (getAttr (.ref x) name expr) Q E s := by
  obtain ⟨h, g, d, t, os⟩ := s
  have L0 := I.type (M := model prog w)
  have L1 := looks_findIn (M := model prog w) X Ec.ga
  have L2' := looks_findIn (M := model prog w) X Ec.noHook
  have L3 := looks_find (M := model prog w) X I hf
  have Lb : Looks (model prog w) h (isInstance (.ref x) (.type "BaseException")) true := L0.andThen (looks_mroIn X Ec.base)
  have f3 := F.excAttr_ValueError.ga.bind (.ref x)
  have hx0 : (expr && onTheHeap (Value.builtin "BaseException.__getattribute__")) = false := by cases expr <;> rfl
  have hk : builtinKind "BaseException.__getattribute__" = some .slot := by decide +kernel
  have hsplit : splitId "BaseException.__getattribute__" = some ("BaseException", "__getattribute__") := by decide +kernel
  unfold getAttr getAttrBy
  refine wpAny_bind (wpAny_mkText (wpAny_holding (wpAny_bind (L0.at (wpAny_bind (L1.at ?_))))))
  show wpAny _ _ (getAttrByItsOwn _ _ _ _ _ _) _ _ _
  unfold getAttrByItsOwn
  refine wpAny_bind (L2'.at (wpAny_bind (wpAny_attempt (wpAny_holding ?_))))
  unfold callGetattribute
  rw [hx0]
  unfold boundAndCalled
  show wpAny _ _ (bindSpecial _ _ >>= _) _ _ _
  rw [f3]
  refine wpAny_bind (wpAny_pure (wpAny_call (codeAny_call_builtin F.excAttr_ValueError.ga.plain F.entry_bexc_ga (@check_slot (model prog w) _ _ _ "BaseException.__getattribute__" "BaseException" "__getattribute__" (.ref x) [.str name t] [] _ hk hsplit Lb (F.args_bexc_ga _ _) ?_))))
  refine wpAny_bind (wpAny_pure (wpAny_bind (wpAny_pure (wpAny_bind (L0.at (wpAny_bind (L3.at ?_)))))))
  refine wpAny_pure ?_
  show wpAny _ _ (handedOut v) _ _ _
  rw [handedOut_of hh]; exact wpAny_pure hq
theorem exc_osa {tk : Tok} {R : Result → Shared → Prop} (X : K.In s.heap) (I : InstAt s.heap x ox C od) (Ec : ExCls K C) (ha : findIn K (.ref C) name = some none)
    (hq : wpAny (model prog w) A.in1 (PySem.Builtin.ObjectAttr.storeInOwnDict (.ref x) (.ref C) (.str name tk) name v false)
      (fun fin s' => match fin with | .done f => R (.ok f) s' | .again c' => c'.quiet = true ∧ codeAny (model prog w) A c' R s') (fun e s' => R (.error e) s') s) :
    codeAny (model prog w) A (.call (.builtin "object.__setattr__") ⟨[.ref x, .str name tk, v], []⟩) R s := by
  have SF := PySem.F.store_object
  obtain ⟨cd, hc, hd, hp⟩ := Ec.cd
  have sub : Looks (model prog w) s.heap (isInstance (.ref x) (.type "object")) true := I.type.andThen (looks_mroIn X Ec.obj)
  refine codeAny_call_builtin SF.slot.plain SF.entry (@check_slot (model prog w) _ _ s "object.__setattr__" "object" "__setattr__" (.ref x) [.str name tk, v] [] _ SF.kind SF.split sub (SF.args (.ref x) (.str name tk) v) ?_)
  have hm : Looks (model prog w) s.heap (mroOf (.ref C)) cd.mro := (looks_clsIn X hc).andThen .now
  rw [osa_eq, refuse_eq]
  refine wpAny_bind (wpAny_bind (I.type.here (wpAny_bind (hm.here ?_))))
  rw [hp]
  exact wpAny_pure (wpAny_bind (I.type.here (wpAny_bind ((looks_findIn X ha).here (wpAny_bind (wpAny_pure hq))))))
theorem exc_set_new {vs : Array Value} {Qu : Unit → Shared → Prop} (X : K.In s.heap) (hx : s.heap.get? x = some ox) (hcl : ox.cls = .ref C) (hdi : ox.dict = none) (hda : ox.data = .fields vs) (Ec : ExCls K C) (ha : findIn K (.ref C) name = some none)
    (hq : ∀ h', h'.Ns1 s.heap.objs.size (fun y => if y = name then some v else none) → h'.get? x = some { ox with dict := some s.heap.objs.size } → (∀ b o, b ≠ x → s.heap.get? b = some o → h'.get? b = some o) → Qu () { s with heap := h', toks := s.toks + 2 }) :
    wpAny (model prog w) A (setAttr (.ref x) name v) Qu E s := by
  have I : InstAt s.heap x ox C none := ⟨hx, hcl, by unfold notCls; rw [hda], by rw [hdi]; trivial⟩
  obtain ⟨cd, hc, hd, hp⟩ := id Ec.cd
  refine set_plain X I Ec.sa (exc_osa (s := { s with toks := s.toks + 1 }) X I Ec ha ?_)
  have hxlt := Heap.lt_size hx
  clear I
  obtain ⟨oc, odi, oda, osl⟩ := ox
  dsimp only at hcl hdi hda
  subst hcl hdi hda
  refine wpAny_bind (wpAny_pure (wpAny_bind (wpAny_bind (wpAny_loadPart hx (wpAny_bind (Looks.here (s := { s with toks := s.toks + 1 }) (looks_clsIn X hc) ?_))))))
  rw [hd]
  show wpAny _ _ (alloc { cls := Value.type "dict", data := Data.dict #[] } >>= _) _ _ _
  refine wpAny_bind (wpAny_alloc (wpAny_bind ?_))
  have hx1 := Heap.get?_push_of_some (h := s.heap) ({ cls := Value.type "dict", data := Data.dict #[] } : Obj) hx
  refine wpAny_update hx1 (wpAny_pure ?_)
  have ne : s.heap.objs.size ≠ x := Nat.ne_of_gt hxlt
  have hx2 := Heap.get?_update_self (fun o : Obj => { o with dict := some s.heap.objs.size }) hx1 rfl
  have hd2 : ((s.heap.push ({ cls := Value.type "dict", data := Data.dict #[] } : Obj)).update x fun o => { o with dict := some s.heap.objs.size }).Ns1 s.heap.objs.size (fun _ => none) := by
    refine ⟨_, #[], _, (Heap.get?_update_other _ _ (Ne.symm ne)).trans (Heap.get?_push_size _ rfl), rfl, fun e he => by simp at he, List.Pairwise.nil, fun n => rfl⟩
  refine wpAny_bind (wpAny_pure (wpAny_bind ?_))
  refine wpAny_nsSet1 (s := { s with heap := (s.heap.push ({ cls := Value.type "dict", data := Data.dict #[] } : Obj)).update x fun o => { o with dict := some s.heap.objs.size }, toks := s.toks + 1 }) hd2 fun h' hn2 hs2 => ?_
  have w0 : PySem.Within (fun _ : Str => (none : Option Value)) [] := fun n hn => by first | cases hn | exact absurd rfl hn | simp at hn
  obtain ⟨oD, esD, epD, hoD, hdD, hcD⟩ := hn2.count (PySem.Within.cons name v w0)
  refine wpAny_bind (wpAny_lookBehind hoD (by rw [hdD]; exact pastItsLine_dict (Nat.le_trans hcD (show 1 ≤ sizeLine + 1 by decide))) ?_)
  refine wpAny_pure (hq _ hn2 ((hs2.2 _ (Ne.symm ne)).trans hx2) fun b o hb e => ?_)
  have hbs : b ≠ s.heap.objs.size := Nat.ne_of_lt (Heap.lt_size e)
  exact (hs2.2 _ hbs).trans ((Heap.get?_update_other _ _ (Ne.symm hb)).trans (Heap.get?_push_of_some _ e))
theorem exc_set_more {vs : Array Value} {dx : Addr} {mA : Str → Option Value} {ns : List Str} {Qu : Unit → Shared → Prop} (X : K.In s.heap) (hx : s.heap.get? x = some ox) (hcl : ox.cls = .ref C) (hdi : ox.dict = some dx) (hda : ox.data = .fields vs) (hn : s.heap.Ns1 dx mA)
    (hw : PySem.Within mA ns) (hsz : ns.length < sizeLine) (Ec : ExCls K C) (ha : findIn K (.ref C) name = some none)
    (hq : ∀ h', h'.Ns1 dx (fun y => if y = name then some v else mA y) → Heap.SameBut dx s.heap h' → Qu () { s with heap := h', toks := s.toks + 2 }) :
    wpAny (model prog w) A (setAttr (.ref x) name v) Qu E s := by
  obtain ⟨od, hod, _⟩ := lookIn_ns hn
  have I : InstAt s.heap x ox C (some od) := ⟨hx, hcl, by unfold notCls; rw [hda], by rw [hdi]; exact hod⟩
  obtain ⟨cd, hc, hd, hp⟩ := id Ec.cd
  refine set_plain X I Ec.sa (exc_osa (s := { s with toks := s.toks + 1 }) X I Ec ha ?_)
  clear I
  obtain ⟨oc, odi, oda, osl⟩ := ox
  dsimp only at hcl hdi hda
  subst hcl hdi hda
  refine wpAny_bind (wpAny_pure (wpAny_bind (wpAny_bind (wpAny_loadPart hx (wpAny_bind (Looks.here (s := { s with toks := s.toks + 1 }) (looks_clsIn X hc) ?_))))))
  rw [hd]
  refine wpAny_pure (a := some dx) (wpAny_bind (wpAny_pure (wpAny_bind ?_)))
  refine wpAny_nsSet1 (s := { s with toks := s.toks + 1 }) hn fun h' hn2 hs2 => ?_
  obtain ⟨oD, esD, epD, hoD, hdD, hcD⟩ := hn2.count (PySem.Within.cons name v hw)
  refine wpAny_bind (wpAny_lookBehind hoD (by rw [hdD]; exact pastItsLine_dict (Nat.le_trans hcD (by rw [List.length_cons]; (first | lia | omega)))) ?_)
  exact wpAny_pure (hq _ hn2 hs2)
end
end
end L2

set_option Elab.async false
set_option linter.all false
set_option maxRecDepth 100000
namespace L2
open PySem PySem.Spec PyProof.Rows
noncomputable def ExO (x C : Addr) (od : Option Addr) : HO := .ext fun h => ∃ o vs, h.get? x = some o ∧ o.cls = .ref C ∧ o.dict = od ∧ o.data = .fields vs ∧ 6 ≤ vs.size
noncomputable def ExN (x C : Addr) (od : Option Addr) : HO := .ext fun h => ∃ o vs, h.get? x = some o ∧ o.cls = .ref C ∧ o.dict = od ∧ o.data = .fields vs ∧ 6 ≤ vs.size ∧ vs[1]? = some .none
noncomputable def XdO (dx : Addr) (fs : List (Str × V)) : HO := .ext fun h => ∃ mA, h.Ns1 dx mA ∧ (∀ f, RelO (fs.lookup f) (mA f)) ∧ PySem.Within mA (fs.map (·.1))
section
variable {P : Program} {w : World} {H : Hp} {h : Heap} {x C dx : Addr} {od : Option Addr} {fs : List (Str × V)}
theorem ExO.ok {o : Obj} {vs : Array Value} (e : h.get? x = some o) (hc : o.cls = .ref C) (hd : o.dict = od) (hf : o.data = .fields vs) (hz : 6 ≤ vs.size) : ObjOk P w H h x (ExO x C od) :=
  ⟨⟨o, vs, e, hc, hd, hf, hz⟩, ⟨o, e⟩, fun h1 h2 ⟨o, vs, e, r⟩ k => ⟨o, vs, k o e, r⟩⟩
theorem ExN.ok {o : Obj} {vs : Array Value} (e : h.get? x = some o) (hc : o.cls = .ref C) (hd : o.dict = od) (hf : o.data = .fields vs) (hz : 6 ≤ vs.size) (h1 : vs[1]? = some .none) : ObjOk P w H h x (ExN x C od) :=
  ⟨⟨o, vs, e, hc, hd, hf, hz, h1⟩, ⟨o, e⟩, fun g1 g2 ⟨o, vs, e, r⟩ k => ⟨o, vs, k o e, r⟩⟩
theorem ExN.get (ok : HOk P w H h) (e : H x = some (ExN x C od)) : ∃ o vs, h.get? x = some o ∧ o.cls = .ref C ∧ o.dict = od ∧ o.data = .fields vs ∧ 6 ≤ vs.size ∧ vs[1]? = some .none := (ok x _ e).1
theorem ExO.get (ok : HOk P w H h) (e : H x = some (ExO x C od)) : ∃ o vs, h.get? x = some o ∧ o.cls = .ref C ∧ o.dict = od ∧ o.data = .fields vs ∧ 6 ≤ vs.size := (ok x _ e).1
theorem XdO.ok {mA : Str → Option Value} (n : h.Ns1 dx mA) (r : ∀ f, RelO (fs.lookup f) (mA f)) (wi : PySem.Within mA (fs.map (·.1))) : ObjOk P w H h dx (XdO dx fs) := by
  obtain ⟨o, es, ep, e, q⟩ := id n
  exact ⟨⟨mA, n, r, wi⟩, ⟨o, e⟩, fun h1 h2 ⟨mA, n, r⟩ k => ⟨mA, n.at k, r⟩⟩
theorem XdO.get (ok : HOk P w H h) (e : H dx = some (XdO dx fs)) : ∃ mA, h.Ns1 dx mA ∧ (∀ f, RelO (fs.lookup f) (mA f)) ∧ PySem.Within mA (fs.map (·.1)) := (ok dx _ e).1
end

noncomputable def tFldX (K : PySem.W.Frag) (ta : TE) (f : Str) : TE := fun σ H Q => ta σ H fun y H1 => ∃ a C d fs v, y = .ref a ∧ H1 a = some (ExO a C (some d)) ∧ H1 d = some (XdO d fs) ∧ ExCls K C ∧ NoAttr K C f ∧ fs.lookup f = some v ∧ Q v H1
noncomputable def sFldX (K : PySem.W.Frag) (ta tv : TE) (f : Str) : TS := fun D σ H => tv σ H fun y H1 => ta σ H1 fun u H2 => ∃ a C od, u = .ref a ∧ H2 a = some (ExN a C od) ∧ ExCls K C ∧ NoAttr K C f ∧
  ((od = none ∧ ∀ d, H2 d = none → D.nx σ (upd (upd H2 d (XdO d [(f, y)])) a (ExN a C (some d)))) ∨ ∃ d fs, od = some d ∧ H2 d = some (XdO d fs) ∧ fs.length < 1000 ∧ D.nx σ (upd H2 d (XdO d (putF f y fs))))
section
variable {X : Cx} {o e value : Expr} {f : Str} {pos pos' : Pos} {ta tv : TE}
theorem pe_fldX (he : PE X e ta) (hb : attributeBase e f X.env (eval e X.env) = eval e X.env := by rfl) : PE X (.Attribute e f pos) (tFldX X.K ta f) := by
  refine ⟨?_⟩
  intro pins s σ H Q I h
  refine attr_of hb (thn (he pins s σ H _ I h) fun u s1 hzz => ?_)
  obtain ⟨y, H1, I1, r1, a, C, d, fs, v, hy, ha, hd, ec, na, l, q⟩ := hzz
  subst hy
  cases r1
  obtain ⟨ox, vs, gx, hcl, hdi, hda, _⟩ := ExO.get I1.hok ha
  obtain ⟨mA, n, r, wi⟩ := XdO.get I1.hok hd
  obtain ⟨od, hod, hl⟩ := lookIn_ns n
  have J : PySem.W.InstAt s1.heap a ox C (some od) := ⟨gx, hcl, by unfold PySem.W.notCls; rw [hda], by rw [hdi]; exact hod⟩
  obtain ⟨u, eu, ru⟩ := RelO.some_of (by have := r f; rw [l] at this; exact this)
  obtain ⟨cd, hc, hdd, _⟩ := ec.cd
  refine exc_getattr I1.kIn J ec (v := u) ?_ (handed_of ru) ⟨v, H1, I1.tok _, ru, q⟩
  unfold PySem.W.findObj
  rw [hc, Option.bind_some, na, Option.bind_some]
  simp only [Option.bind_some, PySem.W.ownOf, hdd, if_true, hl, eu]
theorem Inv.excDict {pins : List (Addr × Obj)} {σ : St} {H : Hp} {s : Shared} {h' : Heap} {a C : Addr} {oa ob : HO} {t' : Nat} (I : Inv X pins σ H s) (ha : H a = some (ExN a C none))
    (keep : ∀ b o, b ≠ a → s.heap.get? b = some o → h'.get? b = some o) (hat : ∃ o, h'.get? a = some o) (hoa : ObjOk X.prog X.w (upd (upd H s.heap.objs.size ob) a oa) h' a oa) (hob : ObjOk X.prog X.w (upd (upd H s.heap.objs.size ob) a oa) h' s.heap.objs.size ob) :
    Inv X pins σ (upd (upd H s.heap.objs.size ob) a oa) { s with heap := h', toks := t' } := by
  have hd : H s.heap.objs.size = none := I.fresh
  have nda : a ≠ s.heap.objs.size := ne_of_none ha hd
  have off : ∀ b u, H b = some u → u ≠ ExN a C none → b ≠ a ∧ b ≠ s.heap.objs.size := fun b u e ne => ⟨fun z => by rw [z, ha] at e; exact ne (Option.some.inj e).symm, ne_of_none e hd⟩
  have up : ∀ b, b ≠ a → b ≠ s.heap.objs.size → upd (upd H s.heap.objs.size ob) a oa b = H b := fun b h1 h2 => by rw [upd_ne h1, upd_ne h2]
  refine I.un ⟨fun b o e n _ _ => keep b o (fun z => by rw [z, ha] at n; cases n) e, fun b o e n _ _ => ⟨o.slots, keep b o (fun z => by rw [z, ha] at n; cases n) e⟩, fun b o e n _ => ?_, fun b o e _ => ?_, fun b xs e => ?_, fun b o xs e => ?_, fun b ps e => ?_⟩ fun b u e => ?_
  · rw [up b (fun z => by rw [z, ha] at n; cases n) (Nat.ne_of_lt (Heap.lt_size e))]; exact n
  · by_cases z : b = a
    · subst z; exact hat
    · exact ⟨o, keep b o z e⟩
  · obtain ⟨h1, h2⟩ := off b _ e (by intro z; cases z)
    rw [up b h1 h2]; exact e
  · obtain ⟨h1, h2⟩ := off b _ e (by intro z; cases z)
    rw [up b h1 h2]; exact e
  · obtain ⟨h1, h2⟩ := off b _ e (by intro z; cases z)
    exact ⟨#[], by rw [up b h1 h2, e]; simp⟩
  · by_cases z : b = a
    · subst z; rw [upd_same] at e; cases e; exact hoa
    · rw [upd_ne z] at e
      by_cases z2 : b = s.heap.objs.size
      · subst z2; rw [upd_same] at e; cases e; exact hob
      · rw [upd_ne z2] at e
        refine (I.hok b u e).stay (fun c v hc q => keep c v ?_ q) (fun c q => ?_) fun c xs q => ?_
        · rcases hc with hc | hc
          · rw [hc]; exact z
          · exact (off c _ hc (by intro z; cases z)).1
        · obtain ⟨h1, h2⟩ := off c _ q (by intro z; cases z)
          rw [up c h1 h2]; exact q
        · obtain ⟨h1, h2⟩ := off c _ q (by intro z; cases z)
          rw [up c h1 h2]; exact q
theorem ps_fldX (ha : PE X o ta) (hv : PE X value tv) (hs : swapsWith value (some (.Attribute o f pos')) pos.line X.env = pure false := by rfl) : PS X (.Assign [.Attribute o f pos'] value pos) (sFldX X.K ta tv f) := by
  refine ⟨?_⟩
  intro pins s σ H D I h
  refine plainObj_wpAny_Assign_Attribute (thn (hv pins s σ H _ I h) fun u s1 ⟨y, H1, I1, ry, q⟩ => thn (ha pins s1 σ H1 _ I1 q) fun ov s2 ⟨x, H2, I2, rx, a, C, od, ex, ea, ec, na, q2⟩ => ?_) hs
  subst ex
  obtain rfl : ov = Value.ref a := rx
  obtain ⟨ox, vs, gx, hcl, hdi, hda, hz, h1⟩ := ExN.get I2.hok ea
  rcases q2 with ⟨rfl, q2⟩ | ⟨d, fs, rfl, hd, hl, q2⟩
  · refine exc_set_new I2.kIn gx hcl hdi hda ec na fun h' hn hx' keep => ?_
    refine ⟨σ, _, I2.excDict ea keep ⟨_, hx'⟩ (ExN.ok hx' hcl rfl hda hz h1) (XdO.ok hn (fun g => ?_) fun g hg => ?_), q2 _ I2.fresh⟩
    · show RelO ([(f, y)].lookup g) (if g = f then some u else none)
      by_cases z : g = f
      · subst z; rw [List.lookup_cons_self, if_pos rfl]; exact ry
      · rw [List.lookup_cons, beq_eq_false_iff_ne.mpr z, if_neg z]; exact True.intro
    · by_cases z : g = f
      · subst z; simp
      · exact absurd (show (if g = f then some u else none) = none by rw [if_neg z]) hg
  · obtain ⟨mA, n, r, wi⟩ := XdO.get I2.hok hd
    refine exc_set_more I2.kIn gx hcl hdi hda n wi (by rw [List.length_map, sizeLine_eq]; (first | lia | omega)) ec na fun h' hn sb => ?_
    refine ⟨σ, _, I2.write (x := d) (e := d) (by rw [hd]; exact True.intro) (.inl rfl) (fun b q hb z => (sb.2 b hb).trans z) (let ⟨o, _, _, e', _⟩ := hn; ⟨o, e'⟩) (XdO.ok hn (fun g => ?_) fun g hg => ?_), q2⟩
    · show RelO ((putF f y fs).lookup g) (if g = f then some u else mA g)
      rw [lookup_putF]
      by_cases q : g = f
      · rw [if_pos q, if_pos q]; exact ry
      · rw [if_neg q, if_neg q]; exact r g
    · by_cases q : g = f
      · rw [q]; exact (keys_putF f y fs).1
      · refine (keys_putF f y fs).2 g (wi g fun z => hg ?_)
        show (if g = f then some u else mA g) = none
        rw [if_neg q]; exact z
end

noncomputable def Ours (X : Cx) (pins : List (Addr × Obj)) (H : Hp) (T : Addr) : Prop := H T = none ∧ X.s₀.heap.objs.size ≤ T ∧ T ≠ X.env.locals ∧ ∀ p ∈ X.pn ++ pins, p.1 ≠ T
noncomputable def Tb (X : Cx) (pins : List (Addr × Obj)) (H : Hp) (x : Addr) (h : Heap) : Prop :=
  ∃ oe vs, h.get? x = some oe ∧ oe.data = .fields vs ∧ (vs[1]? = some .none ∨ ∃ T oT ts fl, vs[1]? = some (.ref T) ∧ T ≠ x ∧ Ours X pins H T ∧ h.get? T = some oT ∧ oT.data = .fields ts ∧ ts[3]? = some fl ∧ (fl = .none ∨ fl = rawInt X.env.locals))
noncomputable def TbAt (X : Cx) (pins : List (Addr × Obj)) (H : Hp) (x : Addr) (fl : Value) (h : Heap) : Prop :=
  ∃ oe vs T oT ts, h.get? x = some oe ∧ oe.data = .fields vs ∧ vs[1]? = some (.ref T) ∧ T ≠ x ∧ Ours X pins H T ∧ h.get? T = some oT ∧ oT.data = .fields ts ∧ ts[3]? = some fl
theorem TbAt.tb {X : Cx} {pins : List (Addr × Obj)} {H : Hp} {x : Addr} {fl : Value} {h : Heap} (t : TbAt X pins H x fl h) (hf : fl = .none ∨ fl = rawInt X.env.locals) : Tb X pins H x h := by
  obtain ⟨oe, vs, T, oT, ts, e, d, h1, r1, r2, r3, r4, r5⟩ := t
  exact ⟨oe, vs, e, d, .inr ⟨T, oT, ts, fl, h1, r1, r2, r3, r4, r5, hf⟩⟩
section
variable {X : Cx} {pins : List (Addr × Obj)} {σ : St} {H : Hp} {s : Shared} {h' : Heap} {x C : Addr} {od : Option Addr}
theorem Inv.flight (I : Inv X pins σ H s) (hx : H x = some (ExO x C od)) {ch : List Addr} (hch : ∀ b ∈ ch, Ours X pins H b) (ncell : ∀ b ∈ ch, ∀ y c, X.env.cells.lookup y = some c → c ≠ b)
    (keep : ∀ b o, b ≠ x → b ∉ ch → b ∉ frs X.stack → s.heap.get? b = some o → h'.get? b = some o) (slot : ∀ b o, b ≠ x → b ∉ ch → s.heap.get? b = some o → ∃ sl, h'.get? b = some { o with slots := sl })
    (hx' : ∃ o vs, h'.get? x = some o ∧ o.cls = .ref C ∧ o.dict = od ∧ o.data = .fields vs ∧ 6 ≤ vs.size) : Inv X pins σ H { s with heap := h' } := by
  have nx : ∀ b, H b = none → b ≠ x := fun b n z => by rw [z, hx] at n; cases n
  have nst : ∀ b, b ≠ X.env.locals → b ∉ X.fs → b ∉ frs X.stack := fun b h1 h2 z => (List.mem_cons.mp (I.stkSub b z)).elim h1 h2
  have nch : ∀ b u, H b = some u → b ∉ ch := fun b u e z => by rw [(hch b z).1] at e; cases e
  have nfr : ∀ b u, H b = some u → b ∉ frs X.stack := fun b u e z => by rw [I.stkFree b z] at e; cases e
  refine I.step (g' := s.gens) (d' := s.drawn) (t' := s.toks) (ch := ch) (fun b hb => ⟨.inr (hch b hb).2.1, (hch b hb).2.2.1, ncell b hb, (hch b hb).2.2.2⟩)
    (fun b o hL hf hc e n => keep b o (nx b n) hc (nst b hL hf) e) (fun b o hL hf hc e n => slot b o (nx b n) hc e) (fun b o hc e n => n) (fun b o hc e => ?_) (fun _ _ e => e) (fun _ _ _ e => e) (fun b ps e => ⟨#[], by rw [e]; simp⟩) (fun m hm => ?_) (fun b u e => ?_) I.bare
  · by_cases z : b = x
    · subst z; obtain ⟨o, _, g, _⟩ := hx'; exact ⟨o, g⟩
    · obtain ⟨sl, q⟩ := slot b o z hc e; exact ⟨_, q⟩
  · obtain ⟨o, es, ep, ho, hd, r⟩ := hm
    obtain ⟨sl, q⟩ := slot _ o (nx _ I.free) (fun z => (hch _ z).2.2.1 rfl) ho
    exact ⟨_, es, ep, q, hd, r⟩
  · by_cases z : b = x
    · subst z; rw [hx] at e; cases e
      obtain ⟨o, vs, g, r1, r2, r3, r4⟩ := hx'
      exact ExO.ok g r1 r2 r3 r4
    · refine (I.hok b u e).stay (fun c v hc q => ?_) (fun _ q => q) fun _ _ q => q
      rcases hc with hc | hc
      · rw [hc] at q ⊢; exact keep b v z (nch b u e) (nfr b u e) q
      · exact keep c v (fun z2 => by rw [z2, hx] at hc; cases hc) (nch c _ hc) (nfr c _ hc) q

theorem Ours.ncell {T : Addr} {oT : Obj} {ts : Array Value} (I : Inv X pins σ H s) (g : s.heap.get? T = some oT) (d : oT.data = .fields ts) : ∀ b ∈ [T], ∀ y c, X.env.cells.lookup y = some c → c ≠ b := fun b hb y c e z => by
  rw [List.mem_singleton.mp hb] at z
  obtain ⟨v, o, ho, hd⟩ := I.cell y c e
  rw [z, g] at ho; cases ho; rw [d] at hd; cases hd
theorem fly_entry {M : Model} {A : Around} {E : Value → Shared → Prop} {Q : Unit → Shared → Prop} {head : Value} {hadNext : Bool} (I : Inv X pins σ H s) (hst : X.stack = X.env :: X.outer) (hfr : X.env.frame = some X.env.locals) (hA : A.frames = some X.stack)
    (hx : H x = some (ExO x C od)) (hq : ∀ s', Inv X pins σ H s' → TbAt X pins H x (rawInt X.env.locals) s'.heap → Q () s') :
    wpAny M A (do let a ← frameOf X.env; let pl ← entryPlaceOf X.env.locals hadNext; let b ← EntryCells.newEntry head a .none (rawInt X.env.locals) .none pl; setField (.ref x) 1 b) Q E s := by
  have hl : s.heap.FunFrames X.base (X.env :: X.outer) := hst ▸ I.stack
  refine wpAny_bind (wpAny_frameOf_fun (hst ▸ hA) hl hfr fun h1 hs1 => ?_)
  refine wpAny_bind (wpAny_entryPlaceOf fun pl hpl => ?_)
  unfold EntryCells.newEntry newFields
  refine wpAny_bind (wpAny_newObj_type ?_ (hpl.sizeOk5 _ _ _ _ _))
  obtain ⟨ox, vs, gx, hcl, hdi, hda, hz⟩ := ExO.get I.hok hx
  have hxf : x ∉ (X.env :: X.outer).filterMap (·.frame) := fun hm => by
    obtain ⟨_, o, ho, hnf⟩ := hl.mem hm
    rw [gx] at ho; cases ho; exact hnf vs hda
  have gx1 : h1.get? x = some ox := (hs1.2.1 x hxf).trans gx
  generalize hob : ({ cls := .type "traceback", dict := none, data := .fields ([head, .ref X.env.locals, .none, rawInt X.env.locals, .none] ++ (if pl.isEmpty then List.replicate 6 Value.none else pl)).toArray } : Obj) = ob
  have gx2 := Heap.get?_push_of_some (h := h1) ob gx1
  have hz1 : 1 < vs.size := by (first | lia | omega)
  refine wpAny_setField gx2 hda hz1 ?_
  have sz : h1.objs.size = s.heap.objs.size := hs1.1
  have hd3 := Obj.data_mapFields hda (·.setIfInBounds 1 (Value.ref h1.objs.size))
  have gx3 := Heap.get?_update_self (Obj.mapFields (·.setIfInBounds 1 (Value.ref h1.objs.size))) gx2 (Obj.isFreed_of_fields hd3)
  have hTx : h1.objs.size ≠ x := Nat.ne_of_gt (Heap.lt_size gx1)
  have gT : (h1.push ob).get? h1.objs.size = some ob := Heap.get?_push_size _ (by rw [← hob]; rfl)
  have hT : H h1.objs.size = none := by rw [sz]; exact I.fresh
  have keep : ∀ b o, b ≠ x → h1.get? b = some o → ((h1.push ob).update x (Obj.mapFields (·.setIfInBounds 1 (Value.ref h1.objs.size)))).get? b = some o := fun b o hb e => by
    rw [Heap.get?_update_other _ _ (Ne.symm hb)]; exact Heap.get?_push_of_some _ e
  have I' : Inv X pins σ H { s with heap := (h1.push ob).update x (Obj.mapFields (·.setIfInBounds 1 (Value.ref h1.objs.size))) } := by
    refine I.flight hx (ch := []) (fun b hb => (nomatch hb)) (fun b hb => (nomatch hb)) (fun b o hb _ hf e => keep b o hb ((hs1.2.1 b (by rw [← hst]; exact hf)).trans e)) (fun b o hb _ e => ?_) ⟨_, _, gx3, (Obj.cls_mapFields _ _).trans hcl, ?_, hd3, by simp; exact hz⟩
    · obtain ⟨sl, q⟩ := hs1.2.2 b o e
      exact ⟨sl, keep b _ hb q⟩
    · obtain ⟨oc, odi, oda, osl⟩ := ox
      simp only at hda
      subst hda
      exact hdi
  refine hq _ I' ⟨_, _, h1.objs.size, ob, _, gx3, hd3, by simp [hz1], hTx, ⟨hT, ?_, ?_, fun p hp z => ?_⟩, ?_, by rw [← hob], ?_⟩
  · rw [sz]; exact I.sz
  · rw [sz]; exact Nat.ne_of_gt I.lt
  · have := Heap.lt_size (I.pin p hp).1
    rw [z, sz] at this; exact Nat.lt_irrefl _ this
  · rw [Heap.get?_update_other _ _ (Ne.symm hTx)]; exact gT
  · first | (simp; done) | (rcases hpl with rfl | ⟨_, _, _, _, _, _, _, rfl⟩ <;> simp)
theorem fly_note {M : Model} {A : Around} {E : Value → Shared → Prop} {Q : Unit → Shared → Prop} (I : Inv X pins σ H s) (hst : X.stack = X.env :: X.outer) (hfr : X.env.frame = some X.env.locals) (hA : A.frames = some X.stack)
    (hx : H x = some (ExO x C od)) (tb : Tb X pins H x s.heap) (hq : ∀ s', Inv X pins σ H s' → TbAt X pins H x (rawInt X.env.locals) s'.heap → Q () s') : wpAny M A (noteFrame (.ref x) X.env) Q E s := by
  obtain ⟨oe, vs, ge, hd, h1⟩ := tb
  unfold noteFrame
  simp only [hfr]
  rcases h1 with h1 | ⟨T, oT, ts, fl, h1, hTx, ours, gT, dT, h3, hfl⟩
  · refine wpAny_bind (wpAny_field ge hd h1 ?_)
    rw [if_neg (by decide)]
    exact fly_entry I hst hfr hA hx hq
  · refine wpAny_bind (wpAny_field ge hd h1 ?_)
    rw [if_pos (show (Value.ref T != Value.none) = true from by simp)]
    refine wpAny_bind (wpAny_field gT dT h3 ?_)
    rcases hfl with rfl | rfl
    · rw [if_neg (show ¬ ((Value.none == rawInt X.env.locals) = true) from by simp [rawInt])]
      refine wpAny_bind (wpAny_setField gT dT (Array.getElem?_eq_some_iff.mp h3).1 ?_)
      have other : ∀ b, b ≠ T → (s.heap.update T (Obj.mapFields (·.setIfInBounds 3 Value.none))).get? b = s.heap.get? b := fun b hb => Heap.get?_update_other _ _ (Ne.symm hb)
      obtain ⟨ox, ws, gx, r⟩ := ExO.get I.hok hx
      have I' : Inv X pins σ H { s with heap := s.heap.update T (Obj.mapFields (·.setIfInBounds 3 Value.none)) } := by
        refine I.flight hx (ch := [T]) (fun b hb => by rw [List.mem_singleton.mp hb]; exact ours) (Ours.ncell I gT dT) (fun b o hb hc _ e => (other b fun z => hc (by simp [z])).trans e) (fun b o hb hc e => ⟨o.slots, (other b fun z => hc (by simp [z])).trans e⟩) ⟨ox, ws, (other x (Ne.symm hTx)).trans gx, r⟩
      exact fly_entry I' hst hfr hA hx hq
    · rw [if_pos (show (rawInt X.env.locals == rawInt X.env.locals) = true from by simp)]
      exact wpAny_pure (hq s I ⟨oe, vs, T, oT, ts, ge, hd, h1, hTx, ours, gT, dT, h3⟩)
theorem fly_set {M : Model} {A : Around} {E : Value → Shared → Prop} {Q : Unit → Shared → Prop} {fl : Value} {to : Option Addr} (I : Inv X pins σ H s) (hx : H x = some (ExO x C od)) (tb : TbAt X pins H x fl s.heap)
    (hq : ∀ s', Inv X pins σ H s' → TbAt X pins H x (to.elim Value.none fun f => rawInt f) s'.heap → Q () s') : wpAny M A (setFlight (.ref x) to) Q E s := by
  obtain ⟨oe, vs, T, oT, ts, ge, hd, h1, hTx, ours, gT, dT, h3⟩ := tb
  unfold setFlight
  refine wpAny_bind (wpAny_field ge hd h1 ?_)
  rw [if_pos (show (Value.ref T != Value.none) = true from by simp)]
  have hsz3 := (Array.getElem?_eq_some_iff.mp h3).1
  refine wpAny_setField gT dT hsz3 (hq _ ?_ ?_)
  · obtain ⟨ox, ws, gx, r⟩ := ExO.get I.hok hx
    exact I.flight hx (ch := [T]) (fun b hb => by rw [List.mem_singleton.mp hb]; exact ours) (Ours.ncell I gT dT) (fun b o hb hc _ e => (Heap.get?_update_other _ _ (fun z => hc (by simp [z]))).trans e) (fun b o hb hc e => ⟨o.slots, (Heap.get?_update_other _ _ (fun z => hc (by simp [z]))).trans e⟩) ⟨ox, ws, (Heap.get?_update_other _ _ hTx).trans gx, r⟩
  · exact ⟨oe, vs, T, _, _, (Heap.get?_update_other _ _ hTx).trans ge, hd, h1, hTx, ours, Heap.get?_update_self _ gT (Obj.isFreed_of_fields (Obj.data_mapFields dT _)), Obj.data_mapFields dT _, by simp [hsz3]⟩
end

noncomputable def CXE (P : Program) (w : World) : CXT := fun outer H s E e s' => ∃ x C d H', e = .ref x ∧ s'.os = s.os ∧ AllBare s'.gens ∧ Un (frs outer) [] H H' s.heap s'.heap ∧ HOk P w H' s'.heap ∧ H' x = some (ExO x C d) ∧
  (∃ oe vs T oT ts, s'.heap.get? x = some oe ∧ oe.data = .fields vs ∧ vs[1]? = some (.ref T) ∧ T ≠ x ∧ H' T = none ∧ s.heap.objs.size ≤ T ∧ s'.heap.get? T = some oT ∧ oT.data = .fields ts ∧ ts[3]? = some .none) ∧ E (.ref C) d H'
theorem cxe_none {P : Program} {w : World} {outer : List Env} {H : Hp} {s : Shared} {e : Value} {s' : Shared} (h : CXE P w outer H s (fun _ _ _ => False) e s') : False := by
  obtain ⟨_, _, _, _, _, _, _, _, _, _, _, z⟩ := h
  exact z
noncomputable def FlyW (X : Cx) (E : XK) : Value → Shared → Prop := fun e s1 => ∃ x C d pins σ H, e = .ref x ∧ Inv X pins σ H s1 ∧ H x = some (ExO x C d) ∧ Tb X pins H x s1.heap ∧ E (.ref C) d H
noncomputable abbrev Cx.exc (X : Cx) (E : XK) : Cx := X.wish (FlyW X E)
section
variable {X : Cx} {E : XK}
theorem passN {P : Program} {w : World} : Passes (CXE P w) X E0 := fun _ _ _ _ _ _ _ h => (cxe_none h).elim
theorem cxe_fly {pins : List (Addr × Obj)} {σ : St} {H : Hp} {s s' : Shared} {e : Value} (I : Inv X pins σ H s) (h : CXE X.prog X.w X.stack H s E e s') : FlyW X E e s' := by
  obtain ⟨x, C, d, H', rfl, ho, hg, u, hok, hx, ⟨oe, vs, T, oT, ts, ge, hd, h1, hTx, hT, lo, gT, dT, h3⟩, q⟩ := h
  have I' : Inv X pins σ H' s' := I.call' (ch := []) ho u hok hg fun b z => (nomatch z)
  refine ⟨x, C, d, pins, σ, H', rfl, I', hx, ⟨oe, vs, ge, hd, .inr ⟨T, oT, ts, .none, h1, hTx, ⟨hT, Nat.le_trans I.sz lo, Nat.ne_of_gt (Nat.lt_of_lt_of_le I.lt lo), fun p hp z => ?_⟩, gT, dT, h3, .inl rfl⟩⟩, q⟩
  have := Heap.lt_size (I.pin p hp).1
  rw [z] at this
  exact absurd (Nat.lt_of_lt_of_le this lo) (Nat.lt_irrefl _)
theorem passX : Passes (CXE X.prog X.w) (X.exc E) E := fun pins σ H s e s' I h => cxe_fly I.unwish h
theorem fly_leave {e : Value} {s1 : Shared} {E' : Value → Shared → Prop} (hst : X.stack = X.env :: X.outer) (hfr : X.env.frame = some X.env.locals) (hex : X.ex = []) (h : FlyW X E e s1) :
    wpAny (model X.prog X.w) X.A (leaving X.env e) (fun _ s'' => CXE X.prog X.w X.outer X.H₀ X.s₀ E e s'') E' s1 := by
  obtain ⟨x, C, d, pins, σ, H, rfl, I, hx, tb, q⟩ := h
  unfold leaving
  refine wpAny_bind (fly_note I hst hfr I.ok.frames hx tb fun s2 I2 t2 => fly_set (to := none) I2 hx t2 fun s3 I3 t3 => ?_)
  obtain ⟨oe, vs, T, oT, ts, ge, hd, h1, hTx, ours, gT, dT, h3⟩ := t3
  have b := I3.base
  rw [hex] at b
  exact ⟨x, C, d, H, rfl, I3.os, I3.bare, b, I3.hok, hx, ⟨oe, vs, T, oT, ts, ge, hd, h1, hTx, ours.1, ours.2.1, gT, dT, h3⟩, q⟩
theorem own_fly (hst : X.stack = X.env :: X.outer) (hfr : X.env.frame = some X.env.locals) : PassesOwn (model X.prog X.w) X.A X.env (FlyW X E) := fun e s1 h => by
  obtain ⟨x, C, d, pins, σ, H, rfl, I, hx, tb, q⟩ := h
  refine fly_note I hst hfr I.ok.frames hx tb fun s2 I2 t2 => ?_
  have t2' := t2
  obtain ⟨oe, vs, T, oT, ts, ge, hd, h1, hTx, ours, gT, dT, h3⟩ := t2
  unfold cameBackBy
  refine wpAny_bind (wpAny_field ge hd h1 ?_)
  rw [if_neg (show ¬ ((Value.ref T == Value.none) = true) from by simp)]
  rw [hfr]
  exact fly_set (to := some X.env.locals) I2 hx t2' fun s3 I3 t3 => ⟨x, C, d, pins, σ, H, rfl, I3, hx, t3.tb (.inr rfl), q⟩
end
section
variable {P : Program} {w : World} {K : PySem.W.Frag} {mg : Str → Option Value} {base : Heap}
theorem Fun.okN {CX : CXT} {x qual : Str} {st : Stmt} {f : Addr} {fd : FuncData} {N ps : List Str} {k : Nat} {sp : Sp} (F : Fun K x qual st f fd) (S : FnScope N ps (defScope st)) (len : ∀ vs H Q E, sp vs H Q E → vs.length = ps.length)
    (hbody : ∀ (cdv : Value) (A : Around) (outer : List Env) (s : Shared) (H : Hp) (vs : List V) (Q : VK) (E : XK), Room k (A.deeper (envOfC qual (defScope st) s.heap.objs.size f cdv)) → sp vs H Q E →
      ∃ t, PSs (cxOf CX P w K mg base N qual (defScope st) f cdv A outer s H E).nox (defBody st) t ∧ t { nx := fun _ H' => Q .non H', rt := Q } (start N vs) H) : FnOk P w K mg base CX (k + 1) f fd ps sp := by
  obtain ⟨oc, od, kV, doc, pm, an, cdv, ct, osl, rfl, lk, hcd⟩ := F.ex
  refine fn_of lk hcd S len fun A outer s H vs Q E hr hsp => ?_
  obtain ⟨t, h, q⟩ := hbody cdv A outer s H vs Q E hr hsp
  exact ⟨t, h.nox, q⟩
theorem Fun.okX {x qual : Str} {st : Stmt} {f : Addr} {fd : FuncData} {N ps : List Str} {k : Nat} {sp : Sp} (F : Fun K x qual st f fd) (S : FnScope N ps (defScope st)) (len : ∀ vs H Q E, sp vs H Q E → vs.length = ps.length)
    (hbody : ∀ (cdv : Value) (A : Around) (outer : List Env) (s : Shared) (H : Hp) (vs : List V) (Q : VK) (E : XK), Room k (A.deeper (envOfC qual (defScope st) s.heap.objs.size f cdv)) → sp vs H Q E →
      ∃ t, PSs ((cxOf (CXE P w) P w K mg base N qual (defScope st) f cdv A outer s H E).exc E) (defBody st) t ∧ t { nx := fun _ H' => Q .non H', rt := Q } (start N vs) H) : FnOk P w K mg base (CXE P w) (k + 1) f fd ps sp := by
  obtain ⟨oc, od, kV, doc, pm, an, cdv, ct, osl, rfl, lk, hcd⟩ := F.ex
  refine fn_of lk hcd S len fun A outer s H vs Q E hr hsp => ?_
  obtain ⟨t, h, q⟩ := hbody cdv A outer s H vs Q E hr hsp
  refine ⟨t, ⟨fun pins s1 σ H1 D I hw => ?_⟩, q⟩
  refine wpAny_mono (h pins s1 σ H1 D (I.wish _) hw) (fun fl s2 hs => hs.unwish) fun e s2 fl => ?_
  exact fly_leave rfl rfl rfl fl
end
end L2

set_option Elab.async false
set_option linter.all false
set_option maxRecDepth 100000
namespace L2
open PySem PySem.Spec PyProof.Rows
noncomputable abbrev bmValue : List Value := [.type "ValueError", .type "Exception", .type "BaseException", .type "object"]
structure ExMk (K : PySem.W.Frag) (C f : Addr) : Prop where
  cls : ∃ (B nw ini : String) (bmB : List Value), ExcBaseFacts B nw ini bmB ∧ bmB.contains (.type "BaseException") = true ∧ ∃ nm q N bs bm hdct sn sub ab col dd k0 k1 k2 k3 k5, K.lookup C = some (excClassObj nm q C N bs bm hdct sn sub ab col dd k0 k1 k2 k3 k5 nw) ∧ ∀ h, K.In h → OwnTail h bmB bm
  init : PySem.W.findIn K (.ref C) "__init__" = some (some (.ref f))
  fn : PySem.W.typeIn K (.ref f) = some (.type "function")
  kp : PySem.W.keepIn K (.ref C) = true
  ec : ExCls K C
theorem ExMk.ofValue {K : PySem.W.Frag} {C f : Addr} (h : ∃ nm q N bs bm hdct sn sub ab col dd k0 k1 k2 k3 k5, K.lookup C = some (excClassObj nm q C N bs bm hdct sn sub ab col dd k0 k1 k2 k3 k5 "ValueError.__new__") ∧ ∀ h, K.In h → OwnTail h bmValue bm)
    (i : PySem.W.findIn K (.ref C) "__init__" = some (some (.ref f))) (fn : PySem.W.typeIn K (.ref f) = some (.type "function")) (kp : PySem.W.keepIn K (.ref C) = true) (ec : ExCls K C) : ExMk K C f :=
  ⟨⟨_, _, _, bmValue, F.excBase_ValueError, by decide, h⟩, i, fn, kp, ec⟩
section
variable {X : Cx} {pins : List (Addr × Obj)} {σ : St} {H : Hp} {s : Shared}
theorem Inv.excMade (I : Inv X pins σ H s) (C : Addr) (us : List Value) : Inv X pins σ (upd H (s.heap.objs.size + 1) (ExN (s.heap.objs.size + 1) C none)) { s with heap := excHeap s.heap C us } := by
  have gx : (excHeap s.heap C us).get? (s.heap.objs.size + 1) = some (excObj C s.heap.objs.size) := by heap_get
  refine I.laid (t' := s.toks) (fun b o e => Heap.get?_push_of_some _ (Heap.get?_push_of_some _ e)) (Nat.le_succ _) (ExN.ok gx rfl rfl rfl (show 6 ≤ 6 by decide) rfl)
theorem run_exc {CX : CXT} {k : Nat} {f C : Addr} {fd : FuncData} {ps : List Str} {sp : Sp} {E : XK} {Q : Addr → Hp → Prop} {us : List Value} {vs : List V} (M : ExMk X.K C f) (G : FnOk X.prog X.w X.K X.mg X.base CX k f fd ps sp) (hr : Room (k + 1) X.A) (hb : Binds X.K fd ps [])
    (hx : Passes CX X E) (I : Inv X pins σ H s) (r : Vals vs us) (hz : us.length ≤ sizeLine)
    (h : ∀ x, H x = none → sp (.ref x :: vs) (upd H x (ExN x C none)) (fun v H2 => v = .non ∧ Q x H2) E) :
    wpAny (model X.prog X.w) X.A (call (.ref C) us) (fun u s' => ∃ x H', u = .ref x ∧ Inv X pins σ H' s' ∧ Q x H') X.xe s := by
  have hq := h (s.heap.objs.size + 1) (I.hok.fresh (Nat.le_succ _))
  have I2 := I.excMade C us
  have r2 : Vals (V.ref (s.heap.objs.size + 1) :: vs) (Value.ref (s.heap.objs.size + 1) :: us) := .cons rfl r
  have hl : (Value.ref (s.heap.objs.size + 1) :: us ++ []).length = ps.length := by
    have e := r2.length
    rw [G.len _ _ _ _ hq] at e
    rw [List.append_nil]
    exact e.symm
  obtain ⟨_, _, _, bmB, BF, hcb, nm, q, N, bs, bm, hdct, sn, sub, ab, col, dd, k0, k1, k2, k3, k5, hC, T⟩ := M.cls
  have KI := I.kIn
  have bd := hb { s with heap := excHeap s.heap C us } (Value.ref (s.heap.objs.size + 1) :: us) I2.kIn hl
  rw [List.append_nil] at bd
  obtain ⟨hh, g, d, t, os⟩ := s
  refine wpAny_call (exc_make KI (KI _ _ hC) BF (T _ KI) M.init M.fn hz (codeAny_mono (G.run _ X.stack _ _ ⟨Value.ref (hh.objs.size + 1) :: us, []⟩ _ _ _ E (hr.make C us []) (I2.env0.make C us []) bd r2 hq) fun r s' hq' => ?_))
  cases r with
  | error e => exact hx pins σ _ _ e s' I2 hq'
  | ok fl =>
    cases fl with
    | ret u =>
      obtain ⟨v, H', I3, rv, ev, q3⟩ := I2.after hq'
      subst ev
      exact ⟨rv, hh.objs.size + 1, H', rfl, I3, q3⟩
    | next => exact False.elim hq'
    | brk => exact False.elim hq'
    | cont => exact False.elim hq'
theorem raise_stmt {M : Model} {A : Around} {E : Value → Shared → Prop} {env : Env} {xs : Sem Value} {Q : Flow → Shared → Prop} {K : PySem.W.Frag} {C : Addr} {s : Shared} {f : Addr} (hM : ExMk K C f) (hh : A.handled = none)
    (h : wpAny M A xs (fun v s1 => ∃ x oe vs, v = .ref x ∧ K.In s1.heap ∧ s1.heap.get? x = some oe ∧ oe.cls = .ref C ∧ oe.data = .fields vs ∧ vs[1]? = some .none ∧ E (.ref x) s1) E s) :
    wpAny M A (raiseStmt env (some xs) none) Q E s := by
  obtain ⟨_, _, _, bmB, BF, hcb, nm, q, N, bs, bm, hdct, sn, sub, ab, col, dd, k0, k1, k2, k3, k5, hC, T⟩ := hM.cls
  unfold raiseStmt
  refine wpAny_bind (thn h fun v s1 h1 => ?_)
  obtain ⟨x, oe, vs, rfl, KI, ge, hcl, hd, h1, hE⟩ := h1
  have hC1 := KI _ _ hC
  have hcB : (Value.ref C :: bm).contains (.type "BaseException") = true := by rw [List.contains_cons, (T _ KI).hasType hcb, Bool.or_true]
  obtain ⟨hp, g, d, tk, os⟩ := s1
  repeat (first | (with_reducible refine wpAny_loadPart_at ge ?_; try rw [hcl]) | with_reducible refine wpAny_loadPart_at hC1 ?_ | (with_reducible refine wpAny_isSubtype_exc hC1 ?_; rw [hcB]) | with_reducible refine wpAny_field ge hd h1 ?_ | wp_step)
  exact wpAny_raiseNew_none hh hE
theorem Inv.excFlies {x C d : Addr} (I : Inv X pins σ H s) (hx : H x = some (ExN x C (some d))) : Inv X pins σ (upd H x (ExO x C (some d))) s := by
  obtain ⟨o, vs, g, r1, r2, r3, r4, r5⟩ := ExN.get I.hok hx
  exact I.write (h' := s.heap) (t' := s.toks) (x := x) (e := x) (by rw [hx]; exact True.intro) (.inl rfl) (fun _ _ _ q => q) ⟨o, g⟩ (ExO.ok g r1 r2 r3 r4)
end
noncomputable def tRaise (C : Addr) (sp : Sp) (E : XK) (t : TA) : TS := fun _ σ H => t σ H fun vs H1 => vs.length ≤ sizeLine ∧ ∀ x, H1 x = none →
  sp (.ref x :: vs) (upd H1 x (ExN x C none)) (fun v H2 => v = .non ∧ ∃ d, H2 x = some (ExN x C (some d)) ∧ E (.ref C) (some d) (upd H2 x (ExO x C (some d)))) E
section
variable {X : Cx} {E : XK} {k : Nat} {f C : Addr} {fd : FuncData} {ps : List Str} {sp : Sp} {x : Str} {np cpos pos : Pos} {e : Expr} {es : List Expr} {t : TA}
theorem ps_raise (M : ExMk X.K C f) (G : FnOk X.prog X.w X.K X.mg X.base (CXE X.prog X.w) k f fd ps sp) (hr : Room (k + 1) X.A) (hg : Gl (X.exc E) x) (hm : X.mg x = some (.ref C)) (hb : Binds X.K fd ps []) (ha : PA (X.exc E) (e :: es) t) (hc : X.calm = true := by rfl)
    (hdb : (x == ("__debug__" : Str)) = false := by decide) (he : starEach (e :: es) X.env = (false, eval e X.env) :: starEach es X.env := by rfl) (hpl : (backTo cpos (starEach es X.env)).any (·.1) = false := by rfl) :
    PS (X.exc E) (.Raise (some (.Call (.Name x np) (e :: es) [] cpos)) none pos) (tRaise C sp E t) := by
  refine ⟨?_⟩
  intro pins s σ H D I h
  have cal : wpAny (model X.prog X.w) X.A (eval (.Call (.Name x np) (e :: es) [] cpos) X.env) (fun v s1 => ∃ y oe vs, v = .ref y ∧ X.K.In s1.heap ∧ s1.heap.get? y = some oe ∧ oe.cls = .ref C ∧ oe.data = .fields vs ∧ vs[1]? = some .none ∧ FlyW X E (.ref y) s1) (FlyW X E) s := by
    refine wpAny_Call_Name_kw (ld_glob (X := X.exc E) I hg hm ?_ hdb)
    refine PySem.W.callWith_K (h₀ := X.base) I.ok.mod.kin M.kp (thn (ha cpos pins s σ H _ I h) fun us s1 ⟨vs, H1, I1, r, hz, q⟩ => ⟨I1.kIn, ?_⟩) he hpl
    refine thn (run_exc (X := X.exc E) (Q := fun y H2 => ∃ d, H2 y = some (ExN y C (some d)) ∧ E (.ref C) (some d) (upd H2 y (ExO y C (some d)))) M G hr hb passX I1 r (by have := r.length; rw [List.nil_append]; (first | lia | omega)) q) fun v s2 ⟨y, H2, ev, I2, d, hy, qe⟩ => ?_
    · subst ev
      obtain ⟨o, ws, g, r1, r2, r3, r4, r5⟩ := ExN.get I2.hok hy
      exact ⟨y, o, ws, rfl, I2.kIn, g, r1, r3, r5, y, C, some d, pins, σ, _, rfl, I2.unwish.excFlies hy, upd_same, ⟨o, ws, g, r3, .inl r5⟩, qe⟩
  show wpAny _ _ (exec (.Raise (some (.Call (.Name x np) (e :: es) [] cpos)) none pos) X.env) _ _ _
  rw [arm_exec_Raise]
  refine wpAny_bind (wpAny_standAt (raise_stmt (K := X.K) M (I.ok.hd hc) ?_))
  exact wpAny_bind (thn cal fun v s1 h1 => wpAny_bind (wpAny_standAt (wpAny_pure h1)))
end
end L2

set_option Elab.async false
set_option linter.all false
set_option maxRecDepth 100000
namespace L2
open PySem PySem.Spec PyProof.Rows
section
variable {X : Cx} {pins : List (Addr × Obj)} {σ : St} {H : Hp} {s : Shared}
theorem name_gone {M : Model} {A : Around} {E : Value → Shared → Prop} {i : Nat} {n : Str} {pos : Pos} {Q : Unit → Shared → Prop} (I : Inv X pins σ H s) (hN : X.N.Nodup) (hi : X.N[i]? = some n) (hl : X.env.scope.names.lookup n = some .local)
    (h : ∀ s', Inv X pins (σ.set i none) H s' → Q () s') : wpAny M A (do bindName X.env n .none; unbindBehindTheSuite X.env n pos) Q E s := by
  obtain ⟨m, hn, hlk⟩ := id I.loc
  have hcls : (X.env.scope.kind == .class || (X.env.scope.kind == .module && X.env.locals != X.env.globals)) = false := by rw [I.ok.kind]; rfl
  have hiσ : i < σ.length := by rw [I.len]; exact (List.getElem?_eq_some_iff.mp hi).1
  refine wpAny_nameGoes_keeps hl hn hcls fun h' v hn' hs => h _ ?_
  have neL : ∀ b o, X.s₀.heap.get? b = some o → b ≠ X.env.locals := fun b o e => Nat.ne_of_lt (Nat.lt_of_lt_of_le (Heap.lt_size e) I.ok.above)
  refine ⟨I.ok, I.os, I.bare, ⟨fun b o e n hb hx => (hs.2 b (neL b o e)).trans (I.base.keep b o e n hb hx), fun b o e n hb hx => ?_, I.base.free, fun b o e hx => ?_, I.base.tups, I.base.frzs, I.base.tbls⟩, ⟨_, hn', fun j y v' e1 e2 e3 => ?_⟩, fun y c e => ?_, I.free, I.freeC, fun p hp => ?_, fun b u e => ?_, by simpa using I.len⟩
  · obtain ⟨sl, e1⟩ := I.base.slot b o e n hb hx
    exact ⟨sl, (hs.2 b (neL b o e)).trans e1⟩
  · obtain ⟨o', e1⟩ := I.base.there b o e hx
    exact ⟨o', (hs.2 b (neL b o e)).trans e1⟩
  · by_cases hj : j = i
    · subst hj
      rw [List.getElem?_set_self hiσ] at e2
      cases e2
    · rw [List.getElem?_set_ne (Ne.symm hj)] at e2
      obtain ⟨u', r', q⟩ := hlk j y v' e1 e2 e3
      refine ⟨u', r', ?_⟩
      rcases q with ⟨k, e⟩ | ⟨k, c, e, z⟩
      · refine .inl ⟨k, ?_⟩
        have : y ≠ n := fun e => hj (nodup_ix hN e1 (e ▸ hi))
        simp [this, e]
      · exact .inr ⟨k, c, e, z.sameBut hs (I.cne y c e)⟩
  · obtain ⟨w', z⟩ := I.cell y c e
    exact ⟨w', z.sameBut hs (I.cne y c e)⟩
  · obtain ⟨e, n, ne, nf, d⟩ := I.pin p hp
    exact ⟨(hs.2 p.1 ne).trans e, n, ne, nf, d⟩
  · refine (I.hok b u e).stay (fun c w' hc q => (hs.2 c ?_).trans q) (fun _ q => q) fun _ _ q => q
    rintro rfl
    rcases hc with rfl | hc
    · rw [I.free] at e; cases e
    · rw [I.free] at hc; cases hc
noncomputable abbrev Cx.mark (X : Cx) (v : Value) : Cx := { X with A := X.A.mark (some v), calm := false, xe := fun _ _ => False }
theorem Inv.mark (I : Inv X pins σ H s) (v : Value) : Inv (X.mark v) pins σ H s :=
  ⟨⟨I.ok.mod, I.ok.kind, I.ok.glob, I.ok.blt, I.ok.above, I.ok.inj, I.ok.has, I.ok.cab, fun z => (nomatch z), I.ok.frames, I.ok.stk, I.ok.exf, I.ok.bs, I.ok.bsz, I.ok.noex, I.ok.exfs, I.ok.funs, I.ok.frf⟩, I.os, I.bare, I.base, I.loc, I.cell, I.free, I.freeC, I.pin, I.hok, I.len⟩
theorem Inv.unmark {v : Value} (hd : X.calm = true → X.A.handled = none) (I : Inv (X.mark v) pins σ H s) : Inv X pins σ H s :=
  ⟨⟨I.ok.mod, I.ok.kind, I.ok.glob, I.ok.blt, I.ok.above, I.ok.inj, I.ok.has, I.ok.cab, hd, I.ok.frames, I.ok.stk, I.ok.exf, I.ok.bs, I.ok.bsz, I.ok.noex, I.ok.exfs, I.ok.funs, I.ok.frf⟩, I.os, I.bare, I.base, I.loc, I.cell, I.free, I.freeC, I.pin, I.hok, I.len⟩
noncomputable abbrev Cx.pinned (X : Cx) (pn : List (Addr × Obj)) : Cx := { X with pn := pn }
theorem Inv.topin (I : Inv X pins σ H s) : Inv (X.pinned (X.pn ++ pins)) [] σ H s :=
  ⟨⟨I.ok.mod, I.ok.kind, I.ok.glob, I.ok.blt, I.ok.above, I.ok.inj, I.ok.has, I.ok.cab, I.ok.hd, I.ok.frames, I.ok.stk, I.ok.exf, I.ok.bs, I.ok.bsz, I.ok.noex, I.ok.exfs, I.ok.funs, I.ok.frf⟩, I.os, I.bare, I.base, I.loc, I.cell, I.free, I.freeC, fun p hp => I.pin p (by rw [List.append_nil] at hp; exact hp), I.hok, I.len⟩
theorem Inv.unpin {pins' : List (Addr × Obj)} (I : Inv (X.pinned (X.pn ++ pins)) pins' σ H s) : Inv X pins σ H s :=
  ⟨⟨I.ok.mod, I.ok.kind, I.ok.glob, I.ok.blt, I.ok.above, I.ok.inj, I.ok.has, I.ok.cab, I.ok.hd, I.ok.frames, I.ok.stk, I.ok.exf, I.ok.bs, I.ok.bsz, I.ok.noex, I.ok.exfs, I.ok.funs, I.ok.frf⟩, I.os, I.bare, I.base, I.loc, I.cell, I.free, I.freeC, fun p hp => I.pin p (List.mem_append_left _ hp), I.hok, I.len⟩
end
structure Mch (K : PySem.W.Frag) (C CE : Addr) : Prop where
  sub : PySem.W.subIn K (.ref C) (.ref CE) = some true
  ty : PySem.W.typeIn K (.ref CE) = some (.type "type")
  cl : (PySem.W.clsIn K CE).isSome = true
  base : PySem.W.subIn K (.ref CE) (.type "BaseException") = some true
theorem exc_matches {M : Model} {A : Around} {E : Value → Shared → Prop} {K : PySem.W.Frag} {s : Shared} {x C CE : Addr} {oe : Obj} {Q : Bool → Shared → Prop} (KI : K.In s.heap) (m : Mch K C CE) (ge : s.heap.get? x = some oe) (hcl : oe.cls = .ref C) (hq : Q true s) :
    wpAny M A (excMatches (.ref x) (.ref CE)) Q E s := by
  obtain ⟨h, g, d, t, os⟩ := s
  have kc : PySem.W.kitCls K (.ref C) (.ref CE) = some true := by
    unfold PySem.W.kitCls
    simp only [m.cl, m.ty, beq_self_eq_true, Bool.and_self, if_true]
    exact m.sub
  obtain ⟨L1, L2', L3⟩ := PySem.W.kit_cls (M := M) (h := h) KI kc
  have L4 := PySem.W.looks_subIn (M := M) (h := h) KI m.base
  have L5 : PySem.W.Looks M h (typeOf (.ref x)) (.ref C) := hcl ▸ (PySem.W.Looks.ld ge).andThen .now
  have L6 : PySem.W.Looks M h (isInstance (.ref CE) (.type "tuple")) false := L1.andThen (PySem.W.Looks.of_pure tc_notTuple)
  have L7 : PySem.W.Looks M h (isExcClass (.ref CE)) true := L2'.andThen L4
  unfold excMatches
  refine wpAny_bind (L6.at (wpAny_bind (wpAny_pure (wpAny_bind ?_))))
  show wpAny M A (forIn [Value.ref CE] PUnit.unit _) _ E _
  simp only [List.forIn_cons, List.forIn_nil]
  refine wpAny_bind (wpAny_bind (L7.at ?_))
  refine wpAny_pure (wpAny_pure (wpAny_bind (L5.at (wpAny_bind (wpAny_bind (wpAny_bind (L3.at ?_)))))))
  exact wpAny_pure (wpAny_pure (wpAny_pure hq))

noncomputable def behind (D : Ends) (i : Nat) : Ends := { nx := fun σ H => D.nx (σ.set i none) H, rt := D.rt, bk := fun σ H => D.bk (σ.set i none) H, ct := fun σ H => D.ct (σ.set i none) H }
noncomputable def tTry (K : PySem.W.Frag) (N i : Nat) (CE : Addr) (tb : XK → TS) (th : TS) : TS := fun D σ H =>
  tb (fun cls dx H1 => ∃ C d, cls = .ref C ∧ dx = some d ∧ Mch K C CE ∧ ∀ (x : Addr) (σ1 : St), H1 x = some (ExO x C (some d)) → σ1.length = N → th (behind D i) (σ1.set i (some (.ref x))) H1) D σ H
section
variable {X : Cx}
end
end L2

set_option Elab.async false
set_option linter.all false
set_option maxRecDepth 100000
namespace L2
open PySem PySem.Spec PyProof.Rows
noncomputable def EqD (K : PySem.W.Frag) (H : Hp) : Nat → V → V → Prop
  | 0, x, y => flatV x = true ∧ x = y
  | n + 1, x, y => (flatV x = true ∧ x = y) ∨ ∃ a b xs ys, x = .ref a ∧ y = .ref b ∧ ((SqL K H a xs ∧ SqL K H b ys) ∨ (SqT K H a xs ∧ SqT K H b ys)) ∧ Paired (EqD K H n) xs ys
theorem eqV_same : ∀ {x : V}, flatV x = true → eqV x x = true
  | .non, _ => rfl
  | .bl b, _ => beq_self_eq_true b
  | .int i, _ => beq_self_eq_true i
  | .str z, _ => beq_self_eq_true z
theorem Paired.get {α β : Type} {F : α → β → Prop} : ∀ {xs : List α} {ys : List β}, Paired F xs ys → ∀ (j : Nat) (x : α) (y : β), xs[j]? = some x → ys[j]? = some y → F x y
  | _, _, .nil, j, x, y, h, _ => by simp at h
  | _, _, .cons r t, 0, x, y, h, q => by simp at h q; subst h; subst q; exact r
  | _, _, .cons r t, j + 1, x, y, h, q => Paired.get t j x y (by simpa using h) (by simpa using q)
theorem Paired.len {α β : Type} {F : α → β → Prop} : ∀ {xs : List α} {ys : List β}, Paired F xs ys → xs.length = ys.length
  | _, _, .nil => rfl
  | _, _, .cons _ t => by simp [Paired.len t]
theorem Paired.imp {α β : Type} {F G : α → β → Prop} (h : ∀ x y, F x y → G x y) : ∀ {xs : List α} {ys : List β}, Paired F xs ys → Paired G xs ys
  | _, _, .nil => .nil
  | _, _, .cons r t => .cons (h _ _ r) (Paired.imp h t)
theorem all_true (n : Nat) : (List.range n).all (fun _ => true) = true := List.all_eq_true.mpr fun _ _ => rfl
section
variable {X : Cx} {pins : List (Addr × Obj)} {σ : St} {H : Hp} {s : Shared}
theorem vals_pair {K : PySem.W.Frag} {xs ys : List V} {us vs : List Value} {R : V → V → Prop} (p : Paired R xs ys) (r : Vals xs us) (q : Vals ys vs) (P : Value → Value → Prop) (h : ∀ x y u v, R x y → RelV x u → RelV y v → P u v) :
    us.toArray.size = vs.toArray.size ∧ ∀ j (h1 : j < us.toArray.size) (h2 : j < vs.toArray.size), P us.toArray[j] vs.toArray[j] := by
  refine ⟨?_, fun j h1 h2 => ?_⟩
  · have e1 := r.length; have e2 := q.length; have e3 := Paired.len p
    simp only [List.size_toArray]; (first | lia | omega)
  · have l1 : j < us.length := by simpa using h1
    have l2 : j < vs.length := by simpa using h2
    have e1 := r.length; have e2 := q.length
    have g1 : xs[j]? = some xs[j] := List.getElem?_eq_getElem (by (first | lia | omega))
    have g2 : ys[j]? = some ys[j] := List.getElem?_eq_getElem (by (first | lia | omega))
    simp only [List.getElem_toArray]
    exact h _ _ _ _ (Paired.get p j _ _ g1 g2) (Paired.get r j _ _ g1 (List.getElem?_eq_getElem l1)) (Paired.get q j _ _ g2 (List.getElem?_eq_getElem l2))
theorem eqD_at (I : Inv X pins σ H s) : ∀ (n : Nat) (x y : V) (u v : Value) (A : Around), EqD X.K H n x y → RelV x u → RelV y v → A.units + n ≤ cLine → SeqAt.EqAt A s u v true
  | 0, x, y, u, v, A, ⟨f, e⟩, ru, rv, _ => by subst e; rw [← eqV_same f]; exact eqAt_V ru rv f f
  | n + 1, x, y, u, v, A, .inl ⟨f, e⟩, ru, rv, _ => by subst e; rw [← eqV_same f]; exact eqAt_V ru rv f f
  | n + 1, x, y, u, v, A, .inr ⟨a, b, xs, ys, ex, ey, hs, p⟩, ru, rv, hu => by
    subst ex ey
    cases ru; cases rv
    by_cases hab : a = b
    · subst hab; exact SeqAt.EqAt.same _
    refine SeqAt.EqAt.of_refs hab ?_
    rcases hs with ⟨ha, hb⟩ | ⟨ha, hb⟩
    · obtain ⟨us, r, pa, _⟩ := I.list ha
      obtain ⟨vs, q, pb, _⟩ := I.list hb
      obtain ⟨sz, he⟩ := vals_pair (K := X.K) p r q (fun u v => SeqAt.EqAt A.in1 s u v true) fun x y u v e ru rv => eqD_at I n x y u v A.in1 e ru rv (by show A.units + 1 + n ≤ _; (first | lia | omega))
      have := SeqAt.RcAt.lists (e := fun _ => true) pa.isList pb.isList sz (by (first | lia | omega)) he
      rwa [all_true] at this
    · obtain ⟨us, r, pa, _⟩ := I.tuple ha
      obtain ⟨vs, q, pb, _⟩ := I.tuple hb
      obtain ⟨sz, he⟩ := vals_pair (K := X.K) p r q (fun u v => SeqAt.EqAt A.in1 s u v true) fun x y u v e ru rv => eqD_at I n x y u v A.in1 e ru rv (by show A.units + 1 + n ≤ _; (first | lia | omega))
      have := SeqAt.RcAt.tuples (e := fun _ => true) pa pb (by (first | lia | omega)) he
      rw [all_true, sz, beq_self_eq_true] at this
      exact this
noncomputable def rEqD (K : PySem.W.Frag) (k : Bool) : R2 := fun x y H Q => ∃ a b xs ys n, x = .ref a ∧ y = .ref b ∧ ((SqL K H a xs ∧ SqL K H b ys) ∨ (SqT K H a xs ∧ SqT K H b ys)) ∧ Paired (EqD K H n) xs ys ∧ n ≤ 100 ∧ Q (.bl k) H
theorem op_neD {k : Nat} (hr : Room k X.A) : OpR X (compareOp .NotEq) (rEqD X.K false) := by
  intro pins s σ H x y v u Q I rx ry h
  obtain ⟨a, b, xs, ys, n, rfl, rfl, hs, p, hn, q⟩ := h
  cases rx; cases ry
  have hu := hr.un
  rcases hs with ⟨ha, hb⟩ | ⟨ha, hb⟩
  · obtain ⟨us, r, pa, _⟩ := I.list ha
    obtain ⟨vs, q', pb, _⟩ := I.list hb
    obtain ⟨sz, he⟩ := vals_pair (K := X.K) p r q' (fun u v => SeqAt.EqAt X.A.in1 s u v true) fun x y u v e ru rv => eqD_at I n x y u v X.A.in1 e ru rv (by show X.A.units + 1 + n ≤ _; (first | lia | omega))
    have := SeqAt.RcNeAt.lists (e := fun _ => true) pa.isList pb.isList sz (by (first | lia | omega)) he
    rw [all_true] at this
    exact this _ _ _ _ ⟨.bl false, H, I, rfl, q⟩
  · obtain ⟨us, r, pa, _⟩ := I.tuple ha
    obtain ⟨vs, q', pb, _⟩ := I.tuple hb
    obtain ⟨sz, he⟩ := vals_pair (K := X.K) p r q' (fun u v => SeqAt.EqAt X.A.in1 s u v true) fun x y u v e ru rv => eqD_at I n x y u v X.A.in1 e ru rv (by show X.A.units + 1 + n ≤ _; (first | lia | omega))
    have := SeqAt.RcNeAt.tuples (e := fun _ => true) pa pb (by (first | lia | omega)) he
    rw [all_true, sz, beq_self_eq_true] at this
    exact this _ _ _ _ ⟨.bl false, H, I, rfl, q⟩
theorem EqD.ints {K : PySem.W.Frag} {H : Hp} : ∀ (ns : List Int), Paired (EqD K H 0) (ns.map V.int) (ns.map V.int)
  | [] => .nil
  | n :: r => .cons ⟨rfl, rfl⟩ (EqD.ints r)
noncomputable def CDivB (i j : Int) : Prop := 0 < j ∧ j.natAbs.log2 < 8000
theorem op_fdivB : OpR X (binaryOp .FloorDiv) (rI CDivB fun i j => .int (i / j)) := opI fun i j _ _ _ _ _ hc q => by
  rw [← Int.fdiv_eq_ediv_of_nonneg i (by have := hc.1; (first | lia | omega))] at q
  exact floordiv_int (by have := hc.1; (first | lia | omega)) q (.inl (PyProof.noPylong_of_log2 (by have := hc.2; (first | lia | omega))))
noncomputable def tCut (t : TS) : TS := fun D σ H => ∃ P : St → Hp → Prop, t { D with nx := P } σ H ∧ ∀ σ' H', P σ' H' → D.nx σ' H'
theorem ps_cut {st : Stmt} {t : TS} (h : PS X st t) : PS X st (tCut t) := by
  refine ⟨?_⟩
  intro pins s σ H D I hw
  obtain ⟨P, h1, h2⟩ := hw
  refine wpAny_mono (h pins s σ H _ I h1) (fun f s' q => ?_) fun _ _ z => z
  cases f with
  | next => obtain ⟨σ1, H1, I1, q⟩ := q; exact ⟨σ1, H1, I1, h2 _ _ q⟩
  | brk => exact q
  | cont => exact q
  | ret u => exact q
structure CalM (P : Program) (w : World) (K : PySem.W.Frag) (mg : Str → Option Value) (base : Heap) (CX : CXT) (k : Nat) (C : Addr) (m : Str) (ps : List Str) (sp : Sp) : Prop where
  ex : ∃ f fd, FnOk P w K mg base CX k f fd ps sp ∧ Cls K C ∧ Meth K C m f ∧ Binds K fd ps []
end
section
variable {X : Cx} {o e : Expr} {es : List Expr} {m : Str} {apos pos : Pos} {ta : TE} {t : TA} {E : XK} {C : Addr}
theorem pe_fldXK {f : Str} {te : TE} (K : PySem.W.Frag) (hK : X.K = K) (he : PE X e te) (hb : attributeBase e f X.env (eval e X.env) = eval e X.env := by rfl) : PE X (.Attribute e f pos) (tFldX K te f) := by
  subst hK
  exact pe_fldX he hb
structure CalK (P : Program) (w : World) (K : PySem.W.Frag) (mg : Str → Option Value) (base : Heap) (CX : CXT) (k : Nat) (x : Str) (C : Addr) (ps : List Str) (sp : Sp) : Prop where
  ex : ∃ f fd, Mk K C f ∧ FnOk P w K mg base CX k f fd ps sp ∧ mg x = some (.ref C) ∧ Binds K fd ps []
structure CalX (P : Program) (w : World) (K : PySem.W.Frag) (mg : Str → Option Value) (base : Heap) (k : Nat) (x : Str) (C : Addr) (ps : List Str) (sp : Sp) : Prop where
  ex : ∃ f fd, ExMk K C f ∧ FnOk P w K mg base (CXE P w) k f fd ps sp ∧ mg x = some (.ref C) ∧ Binds K fd ps []
theorem ps_raiseC {x : Str} {np cpos : Pos} {k n : Nat} {ps : List Str} {sp : Sp} (G : CalX X.prog X.w X.K X.mg X.base k x C ps sp) (hr : Room n X.A) (hg : Gl (X.exc E) x) (ha : PA (X.exc E) (e :: es) t) (hc : X.calm = true := by rfl) (hk : k + 1 ≤ n := by first | decide | (first | lia | omega))
    (hdb : (x == ("__debug__" : Str)) = false := by decide) (he : starEach (e :: es) X.env = (false, eval e X.env) :: starEach es X.env := by rfl) (hpl : (backTo cpos (starEach es X.env)).any (·.1) = false := by rfl) :
    PS (X.exc E) (.Raise (some (.Call (.Name x np) (e :: es) [] cpos)) none pos) (tRaise C sp E t) := by
  obtain ⟨f, fd, M, F, hm, hb⟩ := G.ex
  exact ps_raise M F (hr.mono hk) hg hm hb ha hc hdb he hpl
end
end L2

set_option Elab.async false
set_option linter.all false
set_option maxRecDepth 100000
namespace L2
open PySem
noncomputable abbrev Bad := Nat × Str
noncomputable abbrev Hds := List (Int × Int)
inductive Nd where
  | mk (kind : Int) (place : Nat) (own : List Int) (parts : List Nd)
noncomputable def takeM (ns : List Int) (p : Nat) : Except Bad Int := match ns[p]? with
  | some n => .ok n
  | none => .error (p, "end")
noncomputable def withinM (ns : List Int) (p : Nat) (lo hi : Int) : Except Bad Int := match ns[p]? with
  | some n => if n < lo ∨ hi < n then .error (p, "range") else .ok n
  | none => .error (p, "end")
noncomputable def headsM (ns : List Int) : Nat → Int → Nat → Except Bad Hds
  | 0, _, _ => .ok []
  | n + 1, most, p => match withinM ns p 0 most with
    | .error b => .error b
    | .ok a => match withinM ns (p + 1) a 12 with
      | .error b => .error b
      | .ok c => match headsM ns n 4 (p + 2) with
        | .error b => .error b
        | .ok r => .ok ((a, c) :: r)
noncomputable def headsAllM (ns : List Int) : Except Bad Hds := match withinM ns 0 1 16 with
  | .error b => .error b
  | .ok n => headsM ns n.toNat 0 1
noncomputable def oneM (r : Except Bad Int) : Except Bad (List Int) := match r with
  | .ok n => .ok [n]
  | .error b => .error b
noncomputable def ownM (ns : List Int) (heads : Hds) (boxes k : Int) (p : Nat) : Except Bad (List Int) :=
  if k = 0 then oneM (takeM ns p) else if k = 1 ∨ k = 2 then oneM (withinM ns p 0 (boxes - 1)) else if k = 3 then oneM (withinM ns p 1 12) else if k = 4 then oneM (withinM ns p 2 12) else if k = 6 then oneM (withinM ns p 0 ((heads.length : Int) - 1)) else .ok []
noncomputable def partsN : List Int := [1, 2, 2, 2, 2, 2, 2, 2, 2, 2, 3, 1, 0]
noncomputable def dueM (heads : Hds) (k : Int) (own : List Int) : Int :=
  if k = 0 ∨ k = 1 then 0 else if k = 2 then 1 else if k = 3 then own.headD 0 else if k = 4 then 1 + own.headD 0 else if k = 5 then 2 else if k = 6 then (heads.getD (own.headD 0).toNat (0, 0)).1 else partsN.getD (k - 7).toNat 0
noncomputable def partsM (f : Nat → Except Bad (Nd × Nat)) : Nat → Nat → Except Bad (List Nd × Nat)
  | 0, p => .ok ([], p)
  | n + 1, p => match f p with
    | .error b => .error b
    | .ok a => match partsM f n a.2 with
      | .error b => .error b
      | .ok r => .ok (a.1 :: r.1, r.2)
noncomputable def nodeM (ns : List Int) (heads : Hds) (boxes : Int) : Nat → Nat → Except Bad (Nd × Nat)
  | 0, p => .error (p, "deep")
  | d + 1, p => match withinM ns p 0 19 with
    | .error b => .error b
    | .ok k => match ownM ns heads boxes k (p + 1) with
      | .error b => .error b
      | .ok own => match partsM (nodeM ns heads boxes d) (dueM heads k own).toNat (p + 1 + own.length) with
        | .error b => .error b
        | .ok r => .ok (.mk k p own r.1, r.2)
noncomputable def bodiesM (ns : List Int) (heads : Hds) : Hds → Nat → Except Bad (List Nd × Nat)
  | [], p => .ok ([], p)
  | h :: r, p => match nodeM ns heads h.2 10 p with
    | .error b => .error b
    | .ok a => match bodiesM ns heads r a.2 with
      | .error b => .error b
      | .ok z => .ok (a.1 :: z.1, z.2)
noncomputable def functionsM (ns : List Int) : Except Bad (Hds × List Nd) := match headsAllM ns with
  | .error b => .error b
  | .ok hs => match bodiesM ns hs hs (1 + 2 * hs.length) with
    | .error b => .error b
    | .ok r => if r.2 < ns.length then .error (r.2, "over") else .ok (hs, r.1)
noncomputable def NodeAt (H : Hp) : Nat → V → Nd → Prop
  | 0, _, _ => False
  | d + 1, v, .mk k p own ps => ∃ t o q vs, v = .ref t ∧ H t = some (.tup [.int k, .int p, .ref o, .ref q]) ∧ H o = some (.tup (own.map V.int)) ∧ H q = some (.tup vs) ∧ Paired (NodeAt H d) vs ps
noncomputable def FnAt (H : Hp) (v : V) (f : (Int × Int) × Nd) : Prop := ∃ t b, v = .ref t ∧ H t = some (.tup [.int f.1.1, .int f.1.2, b]) ∧ NodeAt H 10 b f.2
noncomputable def FnsAt (H : Hp) (l : Addr) (r : Hds × List Nd) : Prop := ∃ rs, H l = some (.lst rs) ∧ r.1.length = r.2.length ∧ Paired (FnAt H) rs (r.1.zip r.2)
noncomputable def HeadAt (H : Hp) (v : V) (h : Int × Int) : Prop := ∃ t, v = .ref t ∧ H t = some (.tup [.int h.1, .int h.2])
noncomputable def HeadsAt (H : Hp) (hd : Addr) (hs : Hds) : Prop := ∃ rs, H hd = some (.lst rs) ∧ Paired (HeadAt H) rs hs
noncomputable def LookO (CL dx a : Addr) (p : Nat) : HO := .ins CL dx [("numbers", .ref a), ("place", .int p)]
noncomputable def Tups (H H' : Hp) : Prop := ∀ b xs, H b = some (.tup xs) → H' b = some (.tup xs)
noncomputable def Tells {α : Type} (r : Except Bad α) (ok : α → Prop) (bad : Nat → Str → Prop) : Prop := (∀ a, r = .ok a → ok a) ∧ ∀ p w, r = .error (p, w) → bad p w
noncomputable def Fails (CN lk : Addr) (H : Hp) (E : XK) (p : Nat) (w : Str) : Prop := ∀ d H', Keep lk H H' → H' d = some (XdO d [("place", .int p), ("word", .str w)]) → E (.ref CN) (some d) H'
noncomputable def Looks (CL : Addr) (H : Hp) (lk dx a : Addr) (p : Nat) (ns : List Int) : Prop := H lk = some (LookO CL dx a p) ∧ H a = some (.lst (ns.map V.int))
noncomputable def spInitX (C : Addr) : Sp := fun vs H Q _ => ∃ x y z, vs = [.ref x, y, z] ∧ H x = some (ExN x C none) ∧
  ∀ d H', d ≠ x → H d = none → (∀ b o, b ≠ x → H b = some o → H' b = some o) → H' x = some (ExN x C (some d)) → H' d = some (XdO d [("place", y), ("word", z)]) → Q .non H'
noncomputable def spInitL (CL : Addr) : Sp := fun vs H Q _ => ∃ x dx a, vs = [.ref x, .ref a] ∧ H x = some (.ins CL dx []) ∧ ∀ H', Keep x H H' → H' x = some (LookO CL dx a 0) → Q .non H'
noncomputable def spWhole : Sp := fun vs H Q _ => ∃ i : Int, vs = [.int i] ∧ Q (.bl true) H
noncomputable def spTk (CL CN : Addr) : Sp := fun vs H Q E => ∃ lk dx a p ns, vs = [.ref lk] ∧ Looks CL H lk dx a p ns ∧ Tells (takeM ns p) (fun n => Q (.int n) (upd H lk (LookO CL dx a (p + 1)))) (Fails CN lk H E)
noncomputable def spWithin (CL CN : Addr) : Sp := fun vs H Q E => ∃ lk dx a p ns lo hi, vs = [.ref lk, .int lo, .int hi] ∧ Looks CL H lk dx a p ns ∧ Tells (withinM ns p lo hi) (fun n => Q (.int n) (upd H lk (LookO CL dx a (p + 1)))) (Fails CN lk H E)
noncomputable def spHeads (CL CN : Addr) : Sp := fun vs H Q E => ∃ lk dx a ns, vs = [.ref lk] ∧ Looks CL H lk dx a 0 ns ∧
  Tells (headsAllM ns) (fun hs => ∀ hd H', Keep lk H H' → H' lk = some (LookO CL dx a (1 + 2 * hs.length)) → HeadsAt H' hd hs → Q (.ref hd) H') (Fails CN lk H E)
noncomputable def spOwn (CL CN : Addr) : Sp := fun vs H Q E => ∃ lk dx a p ns hd hs boxes k, vs = [.ref lk, .int k, .ref hd, .int boxes] ∧ Looks CL H lk dx a p ns ∧ HeadsAt H hd hs ∧
  Tells (ownM ns hs boxes k p) (fun own => ∀ t H', Keep lk H H' → H' lk = some (LookO CL dx a (p + own.length)) → H' t = some (.tup (own.map V.int)) → Q (.ref t) H') (Fails CN lk H E)
noncomputable def OwnOk (heads : Hds) (k : Int) (own : List Int) : Prop := 0 ≤ k ∧ k ≤ 19 ∧ (k = 3 ∨ k = 4 ∨ k = 6 → ∃ n, own = [n] ∧ 0 ≤ n ∧ (k = 6 → n < heads.length) ∧ (k ≠ 6 → n ≤ 12))
noncomputable def HdsOk (hs : Hds) : Prop := ∀ h ∈ hs, 0 ≤ h.1 ∧ h.1 ≤ 4
noncomputable def spDue : Sp := fun vs H Q _ => ∃ k t own hd hs, vs = [.int k, .ref t, .ref hd] ∧ H t = some (.tup (own.map V.int)) ∧ HeadsAt H hd hs ∧ OwnOk hs k own ∧ Q (.int (dueM hs k own)) H
noncomputable def spNode (CL CN : Addr) (d : Nat) : Sp := fun vs H Q E => ∃ lk dx a p ns hd hs boxes, vs = [.ref lk, .ref hd, .int boxes, .int (11 - (d : Int))] ∧ Looks CL H lk dx a p ns ∧ HeadsAt H hd hs ∧ HdsOk hs ∧
  Tells (nodeM ns hs boxes d p) (fun r => ∀ v H', Keep lk H H' → H' lk = some (LookO CL dx a r.2) → NodeAt H' d v r.1 → Q v H') (Fails CN lk H E)
noncomputable def spFns (CN : Addr) : Sp := fun vs H Q E => ∃ a ns, vs = [.ref a] ∧ H a = some (.lst (ns.map V.int)) ∧
  Tells (functionsM ns) (fun r => ∀ l H', Same H H' → H l = none → FnsAt H' l r → Q (.ref l) H') (fun p w => ∀ d H', Same H H' → H' d = some (XdO d [("place", .int p), ("word", .str w)]) → E (.ref CN) (some d) H')
noncomputable def spWrong : Sp := fun vs H Q _ => ∃ a ns, vs = [.ref a] ∧ H a = some (.lst (ns.map V.int)) ∧
  Tells (functionsM ns) (fun _ => ∀ H', Same H H' → Q .non H') (fun p w => ∀ t H', Same H H' → H' t = some (.tup [.int (p : Nat), .str w]) → Q (.ref t) H')
noncomputable def joinM {α : Type} (done : List α) (r : Except Bad (List α)) : Except Bad (List α) := match r with
  | .ok r => .ok (done ++ r)
  | .error b => .error b
noncomputable def joinP {α : Type} (done : List α) (r : Except Bad (List α × Nat)) : Except Bad (List α × Nat) := match r with
  | .ok r => .ok (done ++ r.1, r.2)
  | .error b => .error b
theorem raised {C lk : Addr} {H H1 : Hp} {E E' : XK} {p : Nat} {w : Str} (f : Fails C lk H E p w) (k : Keep lk H H1) : ∀ x, H1 x = none →
    spInitX C [.ref x, .int (p : Int), .str w] (upd H1 x (ExN x C none)) (fun v H2 => v = .non ∧ ∃ d, H2 x = some (ExN x C (some d)) ∧ E (.ref C) (some d) (upd H2 x (ExO x C (some d)))) E' := by
  intro x hx
  refine ⟨x, _, _, rfl, upd_same, fun d H' dx hd kp ex ed => ⟨rfl, d, ex, f d _ (fun b o nb e => ?_) ?_⟩⟩
  · have e1 := k b o nb e
    have nx : b ≠ x := ne_of_none e1 hx
    rw [upd_ne nx]
    exact kp b o nx (by rw [upd_ne nx]; exact e1)
  · rw [upd_ne dx]; exact ed
end L2

set_option Elab.async false
set_option linter.all false
set_option maxRecDepth 100000
namespace L2
open PySem
noncomputable def Sub (ns : List Int) : Nat → List Int → Prop
  | _, [] => True
  | p, z :: zs => ns[p]? = some z ∧ Sub ns (p + 1) zs
noncomputable def OwnFit (hs : Hds) (boxes k : Int) (own : List Int) : Prop :=
  (k = 0 ∧ ∃ n, own = [n]) ∨ ((k = 1 ∨ k = 2) ∧ ∃ n, own = [n] ∧ 0 ≤ n ∧ n ≤ boxes - 1) ∨ (k = 3 ∧ ∃ n, own = [n] ∧ 1 ≤ n ∧ n ≤ 12) ∨ (k = 4 ∧ ∃ n, own = [n] ∧ 2 ≤ n ∧ n ≤ 12) ∨ (k = 6 ∧ ∃ n, own = [n] ∧ 0 ≤ n ∧ n ≤ (hs.length : Int) - 1) ∨ ((k = 5 ∨ 7 ≤ k) ∧ own = [])
noncomputable def PN (hs : Hds) (boxes : Int) (d : Nat) (zs : List Int) : Prop := ∀ ns p, Sub ns p zs → ∃ nd, nodeM ns hs boxes d p = .ok (nd, p + zs.length)
noncomputable def PP (hs : Hds) (boxes : Int) (d n : Nat) (zs : List Int) : Prop := ∀ ns p, Sub ns p zs → ∃ nds, partsM (nodeM ns hs boxes d) n p = .ok (nds, p + zs.length)
noncomputable def Leaf (boxes : Int) (zs : List Int) : Prop := (∃ x, zs = [1, x] ∧ 0 ≤ x ∧ x < boxes) ∨ zs = [19] ∨ ∃ n, zs = [0, n]
structure HdsGood (hs : Hds) : Prop where
  lo : 1 ≤ hs.length
  hi : hs.length ≤ 16
  all : ∀ (i : Nat) (h : Int × Int), hs[i]? = some h → 0 ≤ h.1 ∧ h.1 ≤ 4 ∧ h.1 ≤ h.2 ∧ h.2 ≤ 12 ∧ (i = 0 → h.1 = 0)
noncomputable def flat : Hds → List Int
  | [] => []
  | h :: r => h.1 :: h.2 :: flat r
noncomputable def PB (hs todo : Hds) (zs : List Int) : Prop := ∀ ns p, Sub ns p zs → ∃ nds, nds.length = todo.length ∧ bodiesM ns hs todo p = .ok (nds, p + zs.length)
noncomputable def SheetOk (ns : List Int) : Prop := ns.length ≤ 100000 ∧ ∃ r, functionsM ns = .ok r
noncomputable def tableN : List Int := [0, 0, 0, 0, 0, 2, 0, 1, 2, 2, 2, 2, 2, 2, 2, 2, 2, 3, 1, 0]
noncomputable def spTakeB (K : PySem.W.Frag) : Sp := fun vs H Q _ => ∃ (st : Addr) (many : Int), vs = [.ref st, .int many] ∧ 0 < many ∧ many < 2 ^ 256 ∧ Draw K H st ∧ ∀ (r : Int) (H' : Hp), 0 ≤ r → r < many → Drawn K st H H' → Q (.int r) H'
theorem divB {j : Int} (h0 : 0 < j) (h1 : j < 2 ^ 256) : CDivB i j := by
  refine ⟨h0, ?_⟩
  have : j.natAbs.log2 < 256 := (Nat.log2_lt (by (first | lia | omega))).mpr (by (first | lia | omega))
  (first | lia | omega)
noncomputable def spHeadsL (K : PySem.W.Frag) : Sp := fun vs H Q _ => ∃ st, vs = [.ref st] ∧ Draw K H st ∧ ∀ hd H' hs, Drawn K st H H' → HeadsAt H' hd hs → HdsGood hs → Q (.ref hd) H'
noncomputable def spNumber (K : PySem.W.Frag) : Sp := fun vs H Q _ => ∃ st, vs = [.ref st] ∧ Draw K H st ∧ ∀ (n : Int) H', Drawn K st H H' → Q (.int n) H'
noncomputable def spLeaf (K : PySem.W.Frag) : Sp := fun vs H Q _ => ∃ st boxes, vs = [.ref st, .int boxes] ∧ boxes ≤ 12 ∧ Draw K H st ∧ ∀ l zs H', Drawn K st H H' → H l = none → H' l = some (.lst (zs.map V.int)) → Leaf boxes zs → Q (.ref l) H'
noncomputable def spHead (K : PySem.W.Frag) : Sp := fun vs H Q _ => ∃ st hd hs boxes, vs = [.ref st, .ref hd, .int boxes] ∧ boxes ≤ 12 ∧ Draw K H st ∧ HeadsAt H hd hs ∧ HdsGood hs ∧
  ∀ t l k own many H', Drawn K st H H' → H l = none → H' t = some (.tup [.ref l, .int many]) → H' l = some (.lst (((k :: own : List Int)).map V.int)) → own.length ≤ 1 → 0 ≤ k → k ≤ 19 → (k < 3 ∧ own = [] ∨ OwnFit hs boxes k own ∧ (k < 3 → own ≠ []) ∧ many = dueM hs k own) → 0 ≤ many → many ≤ 13 → Q (.ref t) H'
noncomputable def Keep2 (st rm : Addr) (H H' : Hp) : Prop := ∀ b o, b ≠ st → b ≠ rm → H b = some o → H' b = some o
noncomputable def spNodeL (K : PySem.W.Frag) (d : Nat) : Sp := fun vs H Q _ => ∃ st hd hs boxes rm r, vs = [.ref st, .ref hd, .int boxes, .int (11 - (d : Int)), .ref rm] ∧ 1 ≤ d ∧ d ≤ 10 ∧ boxes ≤ 12 ∧ Draw K H st ∧ HeadsAt H hd hs ∧ HdsGood hs ∧ H rm = some (.lst [.int (r : Nat)]) ∧ r ≤ 1000 ∧ rm ≠ hd ∧
  ∀ l zs (r' : Nat) H', Keep2 st rm H H' → Draw K H' st → H' rm = some (.lst [.int r']) → r' ≤ r → zs.length + 2 * r' ≤ 2 + 2 * r → H' l = some (.lst (zs.map V.int)) → H l = none → PN hs boxes d zs → Q (.ref l) H'
noncomputable def spSheet (K : PySem.W.Frag) : Sp := fun vs H Q _ => ∃ st most, vs = [.ref st, .int most] ∧ 0 < most ∧ most ≤ 1000 ∧ Draw K H st ∧ ∀ l ns H', Drawn K st H H' → H' l = some (.lst (ns.map V.int)) → SheetOk ns → Q (.ref l) H'
noncomputable def CW (n : Nat) (Pv : Nat → St → Hp → Prop) (i m : Nat) (σ : St) (H : Hp) : Prop := i ≤ n ∧ m = n - i ∧ Pv i σ H
theorem CW.next {n : Nat} {Pv : Nat → St → Hp → Prop} {i : Nat} {σ : St} {H : Hp} (hi : i < n) (h : Pv (i + 1) σ H) : ∃ m', m' < n - i ∧ CW n Pv (i + 1) m' σ H := ⟨n - (i + 1), by (first | lia | omega), by (first | lia | omega), rfl, h⟩
theorem comp_lst {K : PySem.W.Frag} {a p : Addr} {xs : List V} {g : TG} {tt : TT} {te : TE} {R : Hp → Prop} {σ0 : St} {H0 : Hp} (Pv : Nat → St → Hp → Prop) (h0 : Pv 0 σ0 H0) (hl : ∀ i σ H, i ≤ xs.length → Pv i σ H → SqL K H a xs)
    (hs : ∀ i x σ H, i < xs.length → xs[i]? = some x → Pv i σ H → g x σ H fun σ3 H3 => tt σ3 H3 fun b H4 =>
      if b = true then te σ3 H4 fun v H5 => ∃ ys, H5 p = some (.lst ys) ∧ ys.length < sizeLine ∧ ∃ m', m' < xs.length - i ∧ CW xs.length Pv (i + 1) m' σ3 (upd H5 p (.lst (ys ++ [v])))
      else ∃ m', m' < xs.length - i ∧ CW xs.length Pv (i + 1) m' σ3 H4)
    (hd : ∀ σ H, Pv xs.length σ H → R H) : CompGo (Itl K a) p σ0 H0 g tt te R := by
  refine ⟨CW xs.length Pv, ⟨_, Nat.zero_le _, rfl, h0⟩, fun i m σ' H' w => ?_⟩
  obtain ⟨hi, rfl, hp⟩ := w
  have q := hl i σ' H' hi hp
  by_cases hlt : i < xs.length
  · refine .inr ⟨⟨xs, xs[i], q, by simp [hlt]⟩, fun x H2 y => ?_⟩
    obtain ⟨e, y⟩ := y
    subst e
    exact hs i x σ' _ hlt (y xs q) hp
  · have e : i = xs.length := by (first | lia | omega)
    subst e
    exact .inl ⟨⟨xs, q, Nat.le_refl _⟩, hd σ' H' hp⟩
noncomputable def tableM : List Int := [0, 0, 1, 0, 0, 2, 0, 1, 2, 2, 2, 2, 2, 2, 2, 2, 2, 3, 1, 0]
end L2

set_option Elab.async false
set_option linter.all false
set_option maxRecDepth 100000
namespace L2
open PySem PySem.Spec PyProof.Rows PySem.W
theorem ns_ok {K : Frag} {N : Addr} {c : Value} {d : Option Addr} {es : Array DictEntry} {n : Nat} {sl : Array (Option Value)} (h : K.lookup N = some ⟨c, d, .dict es n, sl⟩) (q : (es.toList.all fun e => match e.key with | .str _ _ => true | _ => false) = true) : nsOkIn K N = true := by
  unfold nsOkIn
  rw [h]
  rw [Array.all_toList] at q
  exact q
theorem exc_tail {K : Frag} {CE nsC : Addr} {c : Value} {dd : Option Addr} {cd : ClassData} {sl : Array (Option Value)} (h : K.lookup CE = some ⟨c, dd, .cls cd, sl⟩) (hn : cd.ns = nsC) (ok : nsOkIn K nsC = true) (ni : nsIn K nsC "__init__" = some none) (h' : Heap) (X : K.In h') : OwnTail h' bmValue (.ref CE :: bmValue) := by
  subst hn
  exact .own (X _ _ h) (.of_isNs (isNs_of_in X ok)) (nsMap_none_of_in X ok ni) .base
theorem exc_cd {K : Frag} {C CE N : Addr} {nm q : Str} {bs : List Value} {sn : List Str} {sub : List Value} {ab : Bool} {col : Option Bool} {dd : Option Addr} {k0 k1 k2 k3 k5 : Option Value} {newId : String} (h : K.lookup C = some (excClassObj nm q C N bs (.ref CE :: bmValue) true sn sub ab col dd k0 k1 k2 k3 k5 newId)) :
    ∃ cd, clsIn K C = some cd ∧ cd.hasDict = true ∧ ∀ self, refuseLoop self "__setattr__" cd.mro = pure () := by
  refine ⟨_, by unfold clsIn; rw [h], rfl, fun self => ?_⟩
  show refuseLoop self "__setattr__" (.ref C :: .ref CE :: bmValue) = _
  rw [refuseLoop_ref, refuseLoop_ref]
  exact F.store_ValueError.passes self
theorem cxOf_K {CX : CXT} {P : Program} {w : World} {K : PySem.W.Frag} {mg : Str → Option Value} {base : Heap} {N : List Str} {qual : Str} {scope : Scope} {f : Addr} {cd : Value} {A : Around} {outer : List Env} {s : Shared} {H : Hp} {E : XK} :
    (cxOf CX P w K mg base N qual scope f cd A outer s H E).K = K := rfl
noncomputable def sAt (l : List Stmt) (k : Nat) : Stmt := l.getD k (.Pass ⟨0, 0, 0, 0⟩)
noncomputable def inBody : Stmt → List Stmt
  | .For _ _ b _ _ => b
  | .While _ b _ _ => b
  | .If _ b _ _ => b
  | _ => []
noncomputable def inElse : Stmt → List Stmt
  | .If _ _ e _ => e
  | _ => []
end L2

set_option Elab.async false
set_option linter.all false
set_option maxRecDepth 100000
namespace L2
open PySem PySem.Spec PyProof.Rows
namespace Rv
theorem owner : Manifest.owners.lookup (String.ofList ['d', 'e', 's', 'r', 'e', 'v', 'e', 'r'].reverse) = some Manifest.sig_reversed := by kernel_rfl
theorem slot_init : Slot "reversed" "__init__" "object.__init__" :=
  .of (owner := "object") (n := "__init__") (by rw [typeLookup_type, builtinLookup_eq_fast]; kernel_rfl) (by decide +kernel) (by decide +kernel) (by decide +kernel)
    (by first | exact .inl (by decide +kernel) | exact .inr (by decide +kernel)) (by rw [isSubtype_type]; kernel_rfl)
theorem called : TypeCalled "reversed" "reversed.__new__" "object.__init__" :=
  ⟨by decide +kernel, by decide +kernel, ⟨_, _, F.mro_reversed⟩, F.made_reversed, by decide +kernel, by rw [isSubtype_type]; kernel_rfl, slot_init⟩
end Rv
end L2

set_option Elab.async false
set_option linter.all false
set_option maxRecDepth 100000
namespace L2
open PySem PySem.Spec PyProof.Rows
section
variable {prog : Program} {w : World} {A : Around} {E : Value → Shared → Prop} {s : Shared}
noncomputable def revT (l : Addr) (i : Int) : Obj := { cls := .type "reversed", data := .fields #[.ref l, rawInt i] }
noncomputable def IsRevT (h : Heap) (a l : Addr) (i : Int) : Prop := ∃ o, h.get? a = some o ∧ o.cls = .type "reversed" ∧ o.data = .fields #[.ref l, rawInt i]
end
noncomputable def Itv (K : PySem.W.Frag) (a : Addr) (n : Nat) : It :=
  ⟨fun i H => ∃ xs x, SqT K H a xs ∧ xs.length = n ∧ xs.reverse[i]? = some x, fun i H x H' => H' = H ∧ ∀ xs, SqT K H a xs → xs.reverse[i]? = some x, fun i H => (∃ xs, SqT K H a xs ∧ xs.length = n) ∧ n ≤ i⟩
noncomputable def iRev (K : PySem.W.Frag) (ta : TA) : TI := fun σ H R => ta σ H fun vs H1 => ∃ a xs, vs = [.ref a] ∧ SqT K H1 a xs ∧ R (Itv K a xs.length) H1
end L2

set_option Elab.async false
set_option linter.all false
set_option maxRecDepth 100000
namespace L2
open PySem
mutual
noncomputable def pre : Nd → List Nd
  | .mk k p own ps => .mk k p own ps :: preL ps
noncomputable def preL : List Nd → List Nd
  | [] => []
  | a :: r => pre a ++ preL r
end
noncomputable def spNodesIn : Sp := fun vs H Q _ => ∃ v nd, vs = [v] ∧ NodeAt H 10 v nd ∧ (pre nd).length ≤ 1000000 ∧ ∀ l us H', Same H H' → H l = none → H' l = some (.lst us) → Paired (NodeAt H' 10) us (pre nd) → Q (.ref l) H'
noncomputable def spNodes (CN : Addr) : Sp := fun vs H Q E => ∃ a ns, vs = [.ref a] ∧ H a = some (.lst (ns.map V.int)) ∧ ns.length ≤ 1000000 ∧
  Tells (functionsM ns) (fun r => ∀ l us H', Same H H' → H l = none → H' l = some (.lst us) → Paired (NodeAt H' 10) us (preL r.2) → Q (.ref l) H') (fun p w => ∀ d H', Same H H' → H' d = some (XdO d [("place", .int p), ("word", .str w)]) → E (.ref CN) (some d) H')
theorem Paired.append {α β : Type} {F : α → β → Prop} : ∀ {xs zs : List α} {ys ws : List β}, Paired F xs ys → Paired F zs ws → Paired F (xs ++ zs) (ys ++ ws)
  | _, _, _, _, .nil, q => q
  | _, _, _, _, .cons r t, q => .cons r (Paired.append t q)
theorem Same.fresh {H H' : Hp} {p : Addr} {o : HO} (s : Same H H') (h : H p = none) : Same H (upd H' p o) := fun b u e => by rw [upd_ne (ne_of_none e h)]; exact s b u e
section
open PySem.Spec PyProof.Rows
variable {X : Cx} {e : Expr} {st : Option Expr} {te : TE} {ts : TO} {p2 pos : Pos}
noncomputable def tRevL (K : PySem.W.Frag) (te : TE) (ts : TO) : TE := fun σ H Q => te σ H fun x H1 => ts σ H1 fun k H2 => k = some (-1) ∧ ∃ a xs, x = .ref a ∧ SqL K H2 a xs ∧ ∀ p, H2 p = none → Q (.ref p) (upd H2 p (.lst xs.reverse))
noncomputable def rNeNil (K : PySem.W.Frag) : R2 := fun x y H Q => ∃ a b xs, x = .ref a ∧ y = .ref b ∧ SqL K H a xs ∧ SqL K H b [] ∧ Q (.bl (!xs.isEmpty)) H
end
noncomputable def Cov (ns : List Int) : Nat → List Nd → Nat → Prop
  | p, [], z => p = z
  | p, .mk k q own _ :: r, z => q = p ∧ ns[p]? = some k ∧ Sub ns (p + 1) own ∧ Cov ns (p + 1 + own.length) r z
end L2

set_option Elab.async false
set_option linter.all false
set_option maxRecDepth 100000
namespace L2
open PySem
noncomputable def stackM (ns : List Int) (hs : Hds) : List (Nat × Int) → Nat → Except Bad Nat
  | [], p => .ok p
  | x :: r, p => match nodeM ns hs x.2 x.1 p with
    | .error b => .error b
    | .ok a => stackM ns hs r a.2
noncomputable def wrongM (ns : List Int) : Option Bad := match functionsM ns with
  | .error b => some b
  | .ok _ => none
noncomputable def Lim (hs : Hds) (boxes k lo hi : Int) : Prop := (k = 1 ∨ k = 2) ∧ lo = 0 ∧ hi = boxes - 1 ∨ (k = 3 ∨ k = 4) ∧ lo = k - 2 ∧ hi = 12 ∨ ¬ (k = 1 ∨ k = 2 ∨ k = 3 ∨ k = 4) ∧ lo = 0 ∧ hi = (hs.length : Int) - 1
end L2

set_option Elab.async false
set_option linter.all false
set_option maxRecDepth 100000
namespace L2
open PySem PySem.Spec PyProof.Rows
noncomputable def Itd (lo : Int) (n : Nat) : It := ⟨fun i _ => i < n, fun i H x H' => H' = H ∧ x = .int (lo - i), fun i _ => n ≤ i⟩
noncomputable def iDown (ta : TA) : TI := fun σ H R => ta σ H fun vs H1 => ∃ i j : Int, vs = [.int i, .int j, .int (-1)] ∧ (-(2 ^ 62) ≤ i ∧ i < 2 ^ 62 ∧ -(2 ^ 62) ≤ j ∧ j < 2 ^ 62) ∧ R (Itd i (i - j).toNat) H1
end L2

set_option Elab.async false
set_option linter.all false
set_option maxRecDepth 100000
namespace L2
open PySem PySem.Spec PyProof.Rows
theorem small_step {a b c : Int} (hc : c = 2 ∨ c = 3) (ha : -(2 ^ 62) ≤ a) (ha' : a < 2 ^ 62) (hb : -(2 ^ 62) ≤ b) (hb' : b < 2 ^ 62) : Builtin.Range.small a b c = true := by
  unfold Builtin.Range.small Builtin.Range.rangeSize
  rcases hc with e | e <;> subst e <;> simp only [Builtin.Range.rangeFitsLong, Bool.and_eq_true, Bool.or_eq_true, decide_eq_true_eq, beq_iff_eq, show ((2 : Int) > 0) by decide, show ((3 : Int) > 0) by decide, if_true] <;> split <;> (first | lia | omega)
noncomputable def Itp (lo c : Int) (n : Nat) : It := ⟨fun i _ => i < n, fun i H x H' => H' = H ∧ x = .int (lo + i * c), fun i _ => n ≤ i⟩
theorem turn_step {P : Program} {w : World} {K : PySem.W.Frag} {tg : Expr} (it : Addr) (lo c : Int) (n : Nat) : Turn P w K tg (Itp lo c n) [it] it (fun i h => IsRangeIter h it (lo + (i : Nat) * c) ((n : Int) - (i : Nat)) c) where
  mem := by simp
  obj := fun i h st b hb => by
    have e : b = it := by simpa using hb
    subst e
    exact ⟨_, st, fun v z => by
      have z' : Data.fields _ = Data.cell v := z
      cases z'⟩
  keep := fun i h h' st k => k it (by simp) _ st
  item := by
    intro X hP hw hK hc i pins s σ H E I hf st hg
    subst hP hw hK
    obtain ⟨f0, f1, f2, f3, f4, f5⟩ := hf it (by simp)
    have W := Walks.range (prog := X.prog) (w := X.w) (I.ok.hd hc) it lo c n
    refine W.item i s _ _ hg st fun v h' tk hv st' kk => ?_
    obtain ⟨t, rfl⟩ := hv
    have I1 : Inv X pins σ H { s with heap := h', toks := tk } := I.turned (fun b o hb e => kk b o (by simpa using hb) e) f0 f1 f3 f4 f5
    refine ⟨_, rfl, go_of (s := { s with heap := h', toks := tk }) (n := "range_iterator") st' rfl rfl (by decide) ⟨.int (lo + i * c), H, I1, ⟨t, rfl⟩, ⟨rfl, rfl⟩, st', fun b hb => (hf b hb).1⟩⟩
  done := by
    intro X hP hw hK hc i pins s σ H E I hf st hg
    subst hP hw hK
    obtain ⟨f0, f1, f2, f3, f4, f5⟩ := hf it (by simp)
    exact wpAny_pyNext_range_end (I.ok.hd hc) st (by have : n ≤ i := hg; (first | lia | omega)) fun h' eb => ⟨rfl, I.turned (t' := s.toks) (fun b o hb e => eb b o hb e) f0 f1 f3 f4 f5⟩
  self := fun _ _ _ _ _ st h => wpAny_pyIter_rangeiter st h
noncomputable def iStep (ta : TA) : TI := fun σ H R => ta σ H fun vs H1 => ∃ (i j c : Int) (n : Nat), vs = [.int i, .int j, .int c] ∧ (-(2 ^ 62) ≤ i ∧ i < 2 ^ 62 ∧ -(2 ^ 62) ≤ j ∧ j < 2 ^ 62) ∧ (c = 2 ∨ c = 3) ∧ Builtin.Range.rangeSize i j c = (n : Int) ∧ R (Itp i c n) H1
theorem pi_step {X : Cx} {tg a b c : Expr} {ta : TA} {p pos : Pos} (hg : Gl X "range") (hm : X.mg "range" = none) (ha : PA X [a, b, c] ta) (hs : starEach [a, b, c] X.env = (false, eval a X.env) :: starEach [b, c] X.env := by rfl) (hpl : (backTo pos (starEach [b, c] X.env)).any (·.1) = false := by rfl) :
    PI X tg (.Call (.Name "range" p) [a, b, c] [] pos) (iStep ta) := by
  refine ⟨?_⟩
  intro pins s σ H R I h
  refine Call_ (ld_blt I hg hm boot_range (PyProof.Rows.callWith_type1 (thn (ha pos pins s σ H _ I h) fun us s1 ⟨vs, H1, I1, r1, q1⟩ => ?_) hs hpl))
  obtain ⟨i, j, c, n, e, ⟨q1, q2, q3, q4⟩, hc, hn, q⟩ := q1
  subst e
  cases r1 with
  | cons r rr =>
    cases rr with
    | cons r' rr =>
      cases rr with
      | cons r'' rr =>
        cases rr
        obtain ⟨t, rfl⟩ := r
        obtain ⟨t', rfl⟩ := r'
        obtain ⟨t'', rfl⟩ := r''
        refine call_range_3 (by (first | lia | omega)) ?_ (.inl (PyProof.noPylong_small (by (first | lia | omega))))
        refine wpAny_pyIter_range (IsRange.new ..) (small_step hc q1 q2 q3 q4) ?_
        have I2 : Inv X pins σ H1 { s1 with heap := s1.heap.push { cls := .type "range", data := .fields #[.int i t, .int j t', .int c t''] }, toks := s1.toks } := I1.kept fun b o e => Heap.get?_push_of_some _ e
        refine ⟨_, [_], _, _, H1, rfl, I2.kept (t' := s1.toks) fun b o e => Heap.get?_push_of_some _ e, turn_step _ i c n, ?_, fun b hb => ?_, q⟩
        · have e1 : i + ((0 : Nat) : Int) * c = i := by simp
          show IsRangeIter _ _ (i + ((0 : Nat) : Int) * c) ((n : Int) - ((0 : Nat) : Int)) c
          rw [e1, Int.natCast_zero, Int.sub_zero, ← hn]
          exact Heap.get?_push_size _ rfl
        · have e := List.mem_singleton.mp hb
          subst e
          exact I2.fpOk (Nat.le_refl _) (I2.hok.fresh (Nat.le_refl _))
theorem comp_step {lo c : Int} {n : Nat} {g : TG} {tt : TT} {te : TE} {R : Hp → Prop} {p : Addr} {σ0 : St} {H0 : Hp} (Pv : Nat → St → Hp → Prop) (h0 : Pv 0 σ0 H0)
    (hs : ∀ i σ H, i < n → Pv i σ H → g (.int (lo + (i : Nat) * c)) σ H fun σ3 H3 => tt σ3 H3 fun b H4 =>
      if b = true then te σ3 H4 fun v H5 => ∃ ys, H5 p = some (.lst ys) ∧ ys.length < sizeLine ∧ ∃ m', m' < n - i ∧ CW n Pv (i + 1) m' σ3 (upd H5 p (.lst (ys ++ [v])))
      else ∃ m', m' < n - i ∧ CW n Pv (i + 1) m' σ3 H4)
    (hd : ∀ σ H, Pv n σ H → R H) : CompGo (Itp lo c n) p σ0 H0 g tt te R := by
  refine ⟨CW n Pv, ⟨_, Nat.zero_le _, rfl, h0⟩, fun i m σ' H' w => ?_⟩
  obtain ⟨hi, rfl, hp⟩ := w
  by_cases hlt : i < n
  · refine .inr ⟨hlt, fun x H2 y => ?_⟩
    obtain ⟨e, y⟩ := y
    subst e y
    exact hs i σ' _ hlt hp
  · have e : i = n := by (first | lia | omega)
    subst e
    exact .inl ⟨Nat.le_refl _, hd σ' H' hp⟩
end L2

set_option Elab.async false
set_option linter.all false
set_option maxRecDepth 100000
namespace L2
open PySem PySem.Spec PyProof.Rows
theorem range_all : ∀ (bs : List Bool), (List.range bs.length).all (fun i => bs.getD i true) = bs.all id := by
  intro bs
  rw [Bool.eq_iff_iff, List.all_eq_true, List.all_eq_true]
  constructor
  · intro h b hb
    obtain ⟨i, hi⟩ := List.mem_iff_getElem?.mp hb
    have hl := (List.getElem?_eq_some_iff.mp hi).1
    have := h i (List.mem_range.mpr hl)
    rw [List.getD_eq_getElem?_getD, hi] at this
    exact this
  · intro h i hi
    have hl := List.mem_range.mp hi
    have e := List.getElem?_eq_getElem hl
    rw [List.getD_eq_getElem?_getD, e]
    exact h _ (List.getElem_mem hl)
section
variable {X : Cx}
theorem call_all (hc : X.calm = true) : CallR X (.builtin "all") (fun xs H Q => ∃ (p : Addr) (bs : List Bool), xs = [.ref p] ∧ SqL X.K H p (bs.map V.bl) ∧ Q (.bl (bs.all id)) H) := by
  intro pins s σ H xs us Q I r h
  obtain ⟨p, bs, rfl, hq, q⟩ := h
  obtain ⟨u, rfl, ru⟩ := vals1 r
  cases ru
  obtain ⟨its, rv, pl, hz⟩ := I.list hq
  have hlen := rv.length
  rw [List.length_map] at hlen
  refine call_all_walk (wpAny_pyIter_list pl.isList ?_)
  have hp : p < s.heap.objs.size := by
    obtain ⟨o, ho, _⟩ := pl.isList
    exact Heap.lt_size ho
  refine ⟨s.heap.objs.size, [s.heap.objs.size, p], [s.heap.objs.size], its.toArray.size, _, _, fun i => bs.getD i true, rfl, Walks.list (A := X.A.in1) (I.ok.hd hc) _ p (Nat.ne_of_lt hp) its.toArray, ⟨⟨_, Heap.get?_push_size _ rfl, rfl, rfl⟩, pl.isList.at fun o e => Heap.get?_push_of_some _ e⟩, ?_, fun h' tk hk => ?_⟩
  · intro i v s1 Q1 E1 hv h1
    have hv' : its[i]? = some v := by simpa using hv
    have hi : i < bs.length := by
      have := (List.getElem?_eq_some_iff.mp hv').1
      (first | lia | omega)
    have eb : (bs.map V.bl)[i]? = some (.bl bs[i]) := by rw [List.getElem?_map, List.getElem?_eq_getElem hi] <;> rfl
    have rel := Paired.get rv i _ _ eb hv'
    obtain rfl : v = Value.bool bs[i] := rel
    have : bs.getD i true = bs[i] := by rw [List.getD_eq_getElem?_getD, List.getElem?_eq_getElem hi] <;> rfl
    have h2 : Q1 (bs.getD i true) s1 := h1
    rw [this] at h2
    exact wpAny_pure h2
  · have e : (List.range its.toArray.size).all (fun i => bs.getD i true) = bs.all id := by
      rw [List.size_toArray, ← hlen]; exact range_all bs
    rw [e]
    refine ⟨.bl (bs.all id), H, I.kept (t' := tk) fun b o eb => hk b o ?_ (Heap.get?_push_of_some _ eb), rfl, q⟩
    intro z
    have := Heap.lt_size eb
    rw [List.mem_singleton.mp z] at this
    exact Nat.lt_irrefl _ this
noncomputable def rIsiT (K : PySem.W.Frag) : List V → Hp → VK → Prop := fun xs H Q => ∃ (a tp : Addr) (ns : List String) (b : Bool) (T : String), xs = [.ref a, .ref tp] ∧ H tp = some (.tup (ns.map V.ty)) ∧ ((T = "list" ∧ ∃ ys, SqL K H a ys) ∨ (T = "tuple" ∧ ∃ ys, SqT K H a ys)) ∧ PySem.W.kitAny K (.type T) (ns.map Value.type) = some b ∧ Q (.bl b) H
theorem vals_ty : ∀ {ns : List String} {us : List Value}, Vals (ns.map V.ty) us → us = ns.map Value.type
  | [], _, .nil => rfl
  | n :: ns, _, .cons h t => by
    rw [vals_ty t, List.map_cons]
    congr 1
theorem call_isiT : CallR X (.builtin "isinstance") (rIsiT X.K) := by
  intro pins s σ H xs us Q I r h
  obtain ⟨a, tp, ns, b, T, rfl, ht, hx, e, q⟩ := h
  obtain ⟨u, w', rfl, ru, rw'⟩ := vals2 r
  cases ru; cases rw'
  obtain ⟨_, its2, r2, p⟩ := (show ObjOk X.prog X.w H s.heap tp (.tup (ns.map V.ty)) from I.hok tp _ ht)
  obtain ⟨⟨oc, od, oda, osl⟩, h1, h2, n2, h3⟩ := p
  dsimp only at h2 h3
  subst h2 h3
  have hv := vals_ty r2
  subst hv
  rcases hx with ⟨rfl, ys, hq⟩ | ⟨rfl, ys, hq⟩
  · obtain ⟨its, rv, pl, hz⟩ := I.list hq
    obtain ⟨o, ho, hcl⟩ := pl.isList
    exact PySem.W.kia_tup PySem.W.kitx_list I.kIn ⟨o, ho, hcl.1⟩ h1 e (fun z => nomatch z) fun tk => ⟨.bl b, H, I.tok tk, rfl, q⟩
  · obtain ⟨its, rv, pl, hz⟩ := I.tuple hq
    obtain ⟨o, ho, hcl, _⟩ := pl
    exact PySem.W.kia_tup PySem.W.kitx_tuple I.kIn ⟨o, ho, hcl⟩ h1 e (fun z => nomatch z) fun tk => ⟨.bl b, H, I.tok tk, rfl, q⟩
end
end L2

set_option Elab.async false
set_option linter.all false
set_option maxRecDepth 100000
namespace L2
open PySem PySem.Spec PyProof.Rows
theorem bt_enumerate : bootBuiltins "enumerate" = some (.type "enumerate") := by decide +kernel
theorem Inv.turned2 {X : Cx} {pins : List (Addr × Obj)} {σ : St} {H : Hp} {s : Shared} {h' : Heap} {t' : Nat} {e it : Addr} (I : Inv X pins σ H s) (k : ∀ b o, b ≠ e → b ≠ it → s.heap.get? b = some o → h'.get? b = some o) (f : FpOk X pins H e) (g : FpOk X pins H it) :
    Inv X pins σ H { s with heap := h', toks := t' } := by
  obtain ⟨a0, a1, a2, a3, a4, a5⟩ := f
  obtain ⟨b0, b1, b2, b3, b4, b5⟩ := g
  have ne1 : ∀ b u, H b = some u → b ≠ e := fun b u q z => by rw [z, a0] at q; cases q
  have ne2 : ∀ b u, H b = some u → b ≠ it := fun b u q z => by rw [z, b0] at q; cases q
  have out : ∀ {b : Addr}, b ∉ [e, it] → b ≠ e ∧ b ≠ it := fun {b} hc => ⟨fun z => hc (by simp [z]), fun z => hc (by simp [z])⟩
  refine I.step (g' := s.gens) (d' := s.drawn) (ch := [e, it]) (fun b hb => ?_) (fun b o _ _ hc q _ => k b o (out hc).1 (out hc).2 q) (fun b o _ _ hc q _ => ⟨o.slots, k b o (out hc).1 (out hc).2 q⟩) (fun _ _ _ _ n => n)
    (fun b o hc q => ⟨o, k b o (out hc).1 (out hc).2 q⟩) (fun _ _ q => q) (fun _ _ _ q => q) (fun b ps q => ⟨#[], by rw [q]; simp⟩) (fun m hm => ?_) (fun b u q => ?_) I.bare
  · rcases List.mem_cons.mp hb with z | z
    · rw [z]; exact ⟨a3, a1, a4, a5⟩
    · rw [List.mem_singleton.mp z]; exact ⟨b3, b1, b4, b5⟩
  · obtain ⟨o, es, ep, ho, r⟩ := hm
    exact ⟨o, es, ep, k _ o (Ne.symm a1) (Ne.symm b1) ho, r⟩
  · refine (I.hok b u q).stay (fun c v hc x => k c v ?_ ?_ x) (fun _ x => x) fun _ _ x => x
    · rcases hc with z | z
      · rw [z]; exact ne1 b u q
      · exact ne1 c _ z
    · rcases hc with z | z
      · rw [z]; exact ne2 b u q
      · exact ne2 c _ z
noncomputable def Ite (K : PySem.W.Frag) (a : Addr) : It :=
  ⟨fun i H => ∃ xs x, SqL K H a xs ∧ xs[i]? = some x, fun i H y H' => ∃ t x, y = .ref t ∧ H t = none ∧ H' = upd H t (.tup [.int (i : Nat), x]) ∧ ∀ xs, SqL K H a xs → xs[i]? = some x, fun i H => ∃ xs, SqL K H a xs ∧ xs.length ≤ i⟩
theorem turn_enum {P : Program} {w : World} {K : PySem.W.Frag} {elts : List Expr} {x1 : Nat} {pos : Pos} (a e it : Addr) (hne : e ≠ it) :
    Turn P w K (.Tuple elts x1 pos) (Ite K a) [e, it] e (fun i h => (∃ old, IsEnum h e it (i : Nat) old) ∧ h.IsListIter it a i) where
  mem := by simp
  obj := fun i h st b hb => by
    obtain ⟨⟨old, he⟩, o, e1, c, d⟩ := st
    rcases List.mem_cons.mp hb with z | z
    · subst z; exact ⟨_, he, fun v z => by cases z⟩
    · rw [List.mem_singleton.mp z]; exact ⟨o, e1, fun v z => by rw [d] at z; cases z⟩
  keep := fun i h h' st k => ⟨⟨_, k e (by simp) _ st.1.choose_spec⟩, st.2.at fun o q => k it (by simp) o q⟩
  item := by
    intro X hP hw hK hc i pins s σ H E I hf st hg
    subst hP hw hK
    obtain ⟨xs, x, hq, hx⟩ := hg
    obtain ⟨its, rv, p, hz⟩ := I.list hq
    obtain ⟨u, hu, ru⟩ := rv.get hx
    obtain ⟨⟨old, he⟩, hit⟩ := st
    have fe := hf e (by simp)
    have fi := hf it (by simp)
    refine wpAny_pyNext_enum_item he hit p.isList (x := u) (by simpa using hu) hne fun h' out hit' htup hsz hk => ?_
    have elt : e < s.heap.objs.size := Heap.lt_size he
    have ilt : it < s.heap.objs.size := by
      obtain ⟨o, ho, _⟩ := hit
      exact Heap.lt_size ho
    refine ⟨.ref s.heap.objs.size, rfl, wpAny_letOwnedTupleGo_enum out fun h'' he'' hs'' => ?_⟩
    have fresh := I.hok.fresh (Nat.le_refl s.heap.objs.size)
    have I1 := I.laid (a := s.heap.objs.size) (o := .tup [.int (i : Nat), x]) (h' := s.heap.push { cls := .type "tuple", data := .seq #[.int (i : Nat) s.toks, u] }) (t' := s.toks) (fun b o q => Heap.get?_push_of_some _ q) (Nat.le_refl _)
      ⟨small (show 2 ≤ 1000 by decide), [.int (i : Nat) s.toks, u], .cons ⟨_, rfl⟩ (.cons ru .nil), IsTup.new _ _⟩
    have fe' : FpOk X pins (upd H s.heap.objs.size (.tup [.int (i : Nat), x])) e := ⟨by rw [upd_ne (Nat.ne_of_lt elt)]; exact fe.1, fe.2⟩
    have fi' : FpOk X pins (upd H s.heap.objs.size (.tup [.int (i : Nat), x])) it := ⟨by rw [upd_ne (Nat.ne_of_lt ilt)]; exact fi.1, fi.2⟩
    have I2 := I1.turned2 (h' := h'') (t' := s.toks + 1) (fun b o hbe hbi q => ?_) fe' fi'
    · refine ⟨.ref s.heap.objs.size, _, I2, rfl, ⟨s.heap.objs.size, x, rfl, fresh, rfl, fun ys hy => by rw [I.list_inj hy hq]; exact hx⟩, ⟨⟨u, he''⟩, hit'.at fun o q => (hs''.2 it (Ne.symm hne)).trans q⟩, fun b hb => ?_⟩
      rcases List.mem_cons.mp hb with z | z
      · rw [z]; exact fe'.1
      · rw [List.mem_singleton.mp z]; exact fi'.1
    · rw [hs''.2 b hbe]
      by_cases hb : b = s.heap.objs.size
      · subst hb
        rw [htup]
        rw [← q]
        exact (Heap.get?_push_size _ rfl).symm
      · refine hk b o hbe hbi ?_
        rcases Heap.get?_push_cases q with ⟨z, _⟩ | z
        · exact absurd z hb
        · exact z
  done := by
    intro X hP hw hK hc i pins s σ H E I hf st hg
    subst hP hw hK
    obtain ⟨xs, hq, hx⟩ := hg
    obtain ⟨its, rv, p, hz⟩ := I.list hq
    obtain ⟨⟨old, he⟩, hit⟩ := st
    have hl := rv.length
    obtain ⟨f0, f1, f2, f3, f4, f5⟩ := hf it (by simp)
    exact wpAny_pyNext_enum_end (I.ok.hd hc) he hit p.isList (by simp; (first | lia | omega)) fun h' eb => ⟨rfl, I.turned (t' := s.toks) (fun b o hb q => eb b o hb q) f0 f1 f3 f4 f5⟩
  self := fun _ _ _ _ _ st h => by
    obtain ⟨⟨old, he⟩, _⟩ := st
    exact wpAny_pyIter_enum he h
noncomputable def iEnum (K : PySem.W.Frag) (ta : TA) : TI := fun σ H R => ta σ H fun vs H1 => ∃ a xs, vs = [.ref a] ∧ SqL K H1 a xs ∧ R (Ite K a) H1
theorem pi_enum {X : Cx} {elts : List Expr} {x1 : Nat} {tpos : Pos} {l : Expr} {ta : TA} {p pos : Pos} (hg : Gl X "enumerate") (hm : X.mg "enumerate" = none) (ha : PA X [l] ta) (hs : starEach [l] X.env = [(false, eval l X.env)] := by rfl) : PI X (.Tuple elts x1 tpos) (.Call (.Name "enumerate" p) [l] [] pos) (iEnum X.K ta) := by
  refine ⟨?_⟩
  intro pins s σ H R I h
  refine Call_ (ld_blt I hg hm bt_enumerate (PyProof.Rows.callWith_type1 (thn (ha pos pins s σ H _ I h) fun us s1 ⟨vs, H1, I1, r1, q1⟩ => ?_) hs rfl))
  obtain ⟨a, xs, e, hq, q⟩ := q1
  subst e
  obtain ⟨u, rfl, ru⟩ := vals1 r1
  cases ru
  obtain ⟨its, rv, pl, hz⟩ := I1.list hq
  refine call_enumerate_list pl.isList fun h' he hit hsz hk => ?_
  refine wpAny_pyIter_enum (s := { s1 with heap := h' }) he ?_
  have I2 : Inv X pins σ H1 { s1 with heap := h' } := I1.kept (t' := s1.toks) hk
  refine ⟨_, [s1.heap.objs.size + 1, s1.heap.objs.size], _, _, H1, rfl, I2, turn_enum a (s1.heap.objs.size + 1) s1.heap.objs.size (Nat.succ_ne_self _), ⟨⟨_, he⟩, hit⟩, fun b hb => ?_, q⟩
  rcases List.mem_cons.mp hb with z | z
  · rw [z]; exact I1.fpOk (Nat.le_succ _) (I1.hok.fresh (Nat.le_succ _))
  · rw [List.mem_singleton.mp z]; exact I1.fpOk (Nat.le_refl _) (I1.hok.fresh (Nat.le_refl _))
theorem for_enum {K : PySem.W.Frag} {a : Addr} {xs : List V} {g : TG} {tb : TS} {D : Ends} {σ : St} {H : Hp} (Pv : Nat → St → Hp → Prop) (h0 : Pv 0 σ H) (hl : ∀ i σ H, i ≤ xs.length → Pv i σ H → SqL K H a xs)
    (hs : ∀ i x σ H t, xs[i]? = some x → Pv i σ H → H t = none → g (.ref t) σ (upd H t (.tup [.int (i : Nat), x])) fun σ2 H2 => tb { D with nx := Pv (i + 1), ct := Pv (i + 1), bk := D.nx } σ2 H2) (hd : ∀ σ H, Pv xs.length σ H → D.nx σ H) :
    ∃ W : Nat → Nat → St → Hp → Prop, (∃ m, W 0 m σ H) ∧ ∀ i m σ H, W i m σ H →
      ((Ite K a).stop i H ∧ D.nx σ H) ∨ ((Ite K a).go i H ∧ ∃ N : St → Hp → Prop, (∀ σ' H', N σ' H' → ∃ m', m' < m ∧ W (i + 1) m' σ' H') ∧ ∀ x H', (Ite K a).yld i H x H' → g x σ H' fun σ2 H2 => tb { D with nx := N, ct := N, bk := D.nx } σ2 H2) := by
  refine ⟨fun i m σ H => m = xs.length - i ∧ i ≤ xs.length ∧ Pv i σ H, ⟨xs.length, by simp, Nat.zero_le _, h0⟩, ?_⟩
  rintro i m σ H ⟨rfl, hi, p⟩
  have q := hl i σ H hi p
  by_cases hlt : i < xs.length
  · refine .inr ⟨⟨xs, xs[i], q, List.getElem?_eq_getElem hlt⟩, Pv (i + 1), fun σ' H' p' => ⟨xs.length - (i + 1), by (first | lia | omega), rfl, hlt, p'⟩, fun y H' yd => ?_⟩
    obtain ⟨t, x, rfl, ht, rfl, hx⟩ := yd
    exact hs i x σ H t (hx xs q) p ht
  · have e : i = xs.length := by (first | lia | omega)
    subst e
    exact .inl ⟨⟨xs, q, Nat.le_refl _⟩, hd σ H p⟩
end L2

set_option Elab.async false
set_option linter.all false
set_option maxRecDepth 100000
namespace L2
open PySem PySem.Spec PyProof.Rows

section
variable {κ : Type} [DecidableEq κ]
noncomputable def valV (kvs : List (κ × V)) (k : κ) : Option V := (kvs.find? fun kv => decide (kv.1 = k)).map (·.2)
noncomputable def putK (kvs : List (κ × V)) (k : κ) (v : V) : List (κ × V) :=
  if (kvs.any fun kv => decide (kv.1 = k)) = true then kvs.map (fun kv => if kv.1 = k then (kv.1, v) else kv) else kvs ++ [(k, v)]
noncomputable def dropK (kvs : List (κ × V)) (k : κ) : List (κ × V) := kvs.filter fun kv => decide (kv.1 ≠ k)

end


noncomputable abbrev KT (H : Hp) : List (List Key × V) → List (List Key × Addr × Value) → Prop := Paired fun p q => p.1 = q.1 ∧ H q.2.1 = some (.tup (p.1.map kV)) ∧ RelV p.2 q.2.2
section
variable {P : Program} {w : World} {H : Hp} {h : Heap} {a : Addr}
end

noncomputable def DGet (H : Hp) (a : Addr) (y : V) (r : Option V) : Prop :=
  (∃ kvs k, Rd H a (.dK kvs) ∧ y = kV k ∧ r = valV kvs k) ∨ ∃ kvs k b, Rd H a (.dT kvs) ∧ y = .ref b ∧ H b = some (.tup (k.map kV)) ∧ r = valV kvs k
noncomputable def DPut (H : Hp) (a : Addr) (y v : V) (H' : Hp) : Prop :=
  (∃ kvs k, H a = some (.dK kvs) ∧ y = kV k ∧ kvs.length < sizeLine ∧ H' = upd H a (.dK (putK kvs k v))) ∨
  ∃ kvs k b, H a = some (.dT kvs) ∧ y = .ref b ∧ H b = some (.tup (k.map kV)) ∧ kvs.length < sizeLine ∧ H' = upd H a (.dT (putK kvs k v))
section
variable {X : Cx} {pins : List (Addr × Obj)} {σ : St} {H : Hp} {s : Shared} {a : Addr} {y v : V} {u r : Value} {o : Option V} {A : Around} {E : Value → Shared → Prop}

theorem Inv.big (I : Inv X pins σ H s) : sysModules < s.heap.objs.size := by
  have h : mainGlobals < s.heap.objs.size := (I.mod.glob.keeps I.bk).lt
  exact Nat.lt_trans (by decide) h

end

section
variable {X : Cx} {pins : List (Addr × Obj)} {σ : St} {H : Hp} {s : Shared} {a : Addr} {kvs : List (Key × V)} {k : Key} {u : Value} {A : Around} {E : Value → Shared → Prop}
end


noncomputable def NoSl (i : Expr) : Prop := ∀ ov iv, subscripted i false ov iv = operate [ov, iv] (getItem ov iv)
noncomputable def tDGet (td ty : TE) : TE := fun σ H Q => td σ H fun x H1 => ty σ H1 fun y H2 => ∃ a v, x = .ref a ∧ DGet H2 a y (some v) ∧ Q v H2
noncomputable def tDIn (ty td : TE) : TE := fun σ H Q => ty σ H fun y H1 => td σ H1 fun x H2 => ∃ a o, x = .ref a ∧ DGet H2 a y o ∧ Q (.bl o.isSome) H2
noncomputable def tDNotIn (ty td : TE) : TE := fun σ H Q => ty σ H fun y H1 => td σ H1 fun x H2 => ∃ a o, x = .ref a ∧ DGet H2 a y o ∧ Q (.bl (!o.isSome)) H2
noncomputable def sDPut (td ty tv : TE) : TS := fun D σ H => tv σ H fun v H1 => td σ H1 fun x H2 => ty σ H2 fun y H3 => ∃ a H4, x = .ref a ∧ DPut H3 a y v H4 ∧ D.nx σ H4
noncomputable def sDAug (td ty tv : TE) (rd : V → V → Hp → VK → Prop) : TS := fun D σ H => td σ H fun x H1 => ty σ H1 fun y H2 => ∃ a v, x = .ref a ∧ DGet H2 a y (some v) ∧
  tv σ H2 fun y2 H3 => rd v y2 H3 fun z H4 => ∃ H5, DPut H4 a y z H5 ∧ D.nx σ H5
noncomputable def sDDel (td ty : TE) : TS := fun D σ H => td σ H fun x H1 => ty σ H1 fun y H2 => ∃ a kvs k, x = .ref a ∧ H2 a = some (.dK kvs) ∧ y = kV k ∧ (valV kvs k).isSome = true ∧ D.nx σ (upd H2 a (.dK (dropK kvs k)))

section
variable {X : Cx} {o i e value : Expr} {pos pos' tpos : Pos} {td ty tv : TE}
end


theorem dk_empty {P : Program} {w : World} {H : Hp} (h : Heap) (hb : sysModules < h.objs.size) : ObjOk P w H (h.push { cls := .type "dict", data := .dict #[] }) h.objs.size (.dK []) :=
  ⟨Nat.zero_le _, beq_eq_false_iff_ne.mpr (Ne.symm (Nat.ne_of_lt hb)), [], .nil, Heap.DictOf.new h⟩
noncomputable def tDNewK : TE := fun _ H Q => ∀ p, H p = none → Q (.ref p) (upd H p (.dK []))
noncomputable def tDNewT : TE := fun _ H Q => ∀ p, H p = none → Q (.ref p) (upd H p (.dT []))
section
variable {X : Cx} {pos : Pos}
theorem pe_dnewK : PE X (.Dict [] [] pos) tDNewK := ⟨fun pins s σ H Q I h =>
  wpAny_Dict_empty ⟨.ref s.heap.objs.size, _, I.laid (a := s.heap.objs.size) (o := .dK []) (t' := s.toks) (fun _ _ q => Heap.get?_push_of_some _ q) (Nat.le_refl _) (dk_empty s.heap I.big), rfl, h _ (I.hok.fresh (Nat.le_refl _))⟩⟩
end

noncomputable def tPairs : List (TE × TE) → St → Hp → (List (V × V) → Hp → Prop) → Prop
  | [], _, H, Q => Q [] H
  | (tk, tv) :: r, σ, H, Q => tk σ H fun x H1 => tv σ H1 fun y H2 => tPairs r σ H2 fun ps H3 => Q ((x, y) :: ps) H3
noncomputable abbrev VV : List (V × V) → List (Value × Value) → Prop := Paired fun p q => RelV p.1 q.1 ∧ RelV p.2 q.2
noncomputable def PPs (X : Cx) (pos : Pos) (keys : List (Option Expr)) (values : List Expr) (trs : List (TE × TE)) : Prop :=
  ∀ (pins : List (Addr × Obj)) (s : Shared) (σ : St) (H : Hp) (Q : List (V × V) → Hp → Prop), Inv X pins σ H s → tPairs trs σ H Q →
    wpAny (model X.prog X.w) X.A (evalPairs (pairTrees keys values X.env pos)) (fun vs s' => ∃ ps H', Inv X pins σ H' s' ∧ VV ps vs ∧ Q ps H') X.xe s
noncomputable def mergeK (kvs more : List (Key × V)) : List (Key × V) := more.foldl (fun acc kv => putK acc kv.1 kv.2) kvs
noncomputable def tDisp (trs : List (TE × TE)) : TE := fun σ H Q => ∀ p, H p = none → tPairs trs σ (upd H p (.dK [])) fun ps H2 => H2 p = some (.dK []) ∧ ∃ kvs : List (Key × V), ps = kvs.map (fun kv => (kV kv.1, kv.2)) ∧ kvs.length ≤ 15 ∧ Q (.ref p) (upd H2 p (.dK (mergeK [] kvs)))
structure M1 (X : Cx) (o : Expr) (m : Str) (apos : Pos) (e : Expr) (cpos : Pos) : Prop where
  base : attributeBase o m X.env (eval o X.env) = eval o X.env
  few : ((backTo cpos (starEach [e] X.env)).all (fun x => !x.1) && (backToKw cpos (keywordEach [] X.env)).all (fun x => x.1.isSome)
    && decide (([e] : List Expr).length + ([] : List Keyword).length + (if ([] : List Keyword).isEmpty then 0 else 1) < 30)) = true
  line : (apos.endLine == cpos.line) = true
  trees : backTo cpos (starEach [e] X.env) = [(false, eval e X.env)]
structure M2 (X : Cx) (o : Expr) (m : Str) (apos : Pos) (e f : Expr) (cpos : Pos) : Prop where
  base : attributeBase o m X.env (eval o X.env) = eval o X.env
  few : ((backTo cpos (starEach [e, f] X.env)).all (fun x => !x.1) && (backToKw cpos (keywordEach [] X.env)).all (fun x => x.1.isSome)
    && decide (([e, f] : List Expr).length + ([] : List Keyword).length + (if ([] : List Keyword).isEmpty then 0 else 1) < 30)) = true
  line : (apos.endLine == cpos.line) = true
  trees : backTo cpos (starEach [e, f] X.env) = [(false, eval e X.env), (false, eval f X.env)]

noncomputable def IsD (H : Hp) (a : Addr) : Prop := (∃ kvs, Rd H a (.dK kvs)) ∨ ∃ kvs, Rd H a (.dT kvs)
section
variable {X : Cx} {pins : List (Addr × Obj)} {σ : St} {H : Hp} {s : Shared} {a : Addr} {y d : V} {u r : Value} {o : Option V} {A : Around} {E : Value → Shared → Prop}
end

noncomputable def tDGet1 (td ty : TE) : TE := fun σ H Q => td σ H fun x H1 => ∃ a, x = .ref a ∧ IsD H1 a ∧ ty σ H1 fun y H2 => ∃ o, DGet H2 a y o ∧ Q (o.getD .non) H2
noncomputable def tDGet2 (td ty tx : TE) : TE := fun σ H Q => td σ H fun x H1 => ∃ a, x = .ref a ∧ IsD H1 a ∧ ty σ H1 fun y H2 => tx σ H2 fun z H3 => ∃ o, DGet H3 a y o ∧ Q (o.getD z) H3
noncomputable def tDPop1 (td ty : TE) : TE := fun σ H Q => td σ H fun x H1 => ∃ a, x = .ref a ∧ IsD H1 a ∧ ty σ H1 fun y H2 => ∃ kvs k v, H2 a = some (.dK kvs) ∧ y = kV k ∧ valV kvs k = some v ∧ Q v (upd H2 a (.dK (dropK kvs k)))
noncomputable def tDPop2 (td ty tx : TE) : TE := fun σ H Q => td σ H fun x H1 => ∃ a, x = .ref a ∧ IsD H1 a ∧ ty σ H1 fun y H2 => tx σ H2 fun z H3 => ∃ kvs k, H3 a = some (.dK kvs) ∧ y = kV k ∧
  (∀ v, valV kvs k = some v → Q v (upd H3 a (.dK (dropK kvs k)))) ∧ (valV kvs k = none → Q z H3)
section
variable {X : Cx} {o e f : Expr} {apos cpos : Pos} {td ty tx : TE}
end

section
variable {X : Cx} {pins : List (Addr × Obj)} {σ : St} {H : Hp} {s : Shared} {a : Addr} {kvs : List (Key × V)} {A : Around} {E : Value → Shared → Prop}
end


section
variable {X : Cx} {pins : List (Addr × Obj)} {σ : St} {H : Hp} {s : Shared} {a : Addr} {y : V} {u : Value} {A : Around} {E : Value → Shared → Prop}
end
end L2
namespace L2
open PySem PySem.Spec PyProof.Rows
section
variable {X : Cx}
end
end L2

set_option Elab.async false
set_option linter.all false
set_option maxRecDepth 100000
namespace L2
open PySem PySem.Spec PyProof.Rows
section
variable {X : Cx}
noncomputable def CMulB (i j : Int) : Prop := i.natAbs < 2 ^ 2000 ∧ j.natAbs < 2 ^ 2000
theorem op_mulB : OpR X (binaryOp .Mult) (rI CMulB fun i j => .int (i * j)) := opI fun i j _ _ _ _ _ hc q => by
  refine mul_int q ?_
  exact IntMulOk.of_le (PyProof.Rows.intBits_le hc.1) (PyProof.Rows.intBits_le hc.2) (by decide)
noncomputable def CDivZ (i j : Int) : Prop := j ≠ 0 ∧ j.natAbs < 2 ^ 2000
end
noncomputable abbrev stD (a : Addr) (k c : Int) : List (Key × V) := [(.inr "script", .ref a), (.inr "at", .int k), (.inr "left", .int c)]
noncomputable def DrawD (K : PySem.W.Frag) (H : Hp) (st : Addr) : Prop := ∃ a ns k c, H st = some (.dK (stD a k c)) ∧ Scr K H a ns ∧ ns.length ≤ 63 ∧ 0 ≤ k ∧ 0 ≤ c
structure DrawnD (K : PySem.W.Frag) (st : Addr) (H H' : Hp) : Prop where
  draw : DrawD K H' st
  keep : Keep st H H'
noncomputable def spBegin (K : PySem.W.Frag) : Sp := fun vs H Q _ => ∃ (a : Addr) (ns : List Int), vs = [.ref a] ∧ Scr K H a ns ∧ ns.length ≤ 63 ∧ ∀ st H', H st = none → Same H H' → DrawD K H' st → Q (.ref st) H'
noncomputable def spTakeD (K : PySem.W.Frag) : Sp := fun vs H Q _ => ∃ (st : Addr) (many : Int), vs = [.ref st, .int many] ∧ 0 < many ∧ many < 1073741824 ∧ DrawD K H st ∧ ∀ (r : Int) (H' : Hp), 0 ≤ r → r < many → DrawnD K st H H' → Q (.int r) H'
noncomputable def spIntD (K : PySem.W.Frag) (B : Int → Prop) : Sp := fun vs H Q _ => ∃ (st : Addr), vs = [.ref st] ∧ DrawD K H st ∧ ∀ (r : Int) (H' : Hp), B r → DrawnD K st H H' → Q (.int r) H'
theorem inV_ints (k : Int) : ∀ ns : List Int, inV (.int k) (ns.map V.int) = decide (k ∈ ns)
  | [] => rfl
  | n :: r => by
    have ih := inV_ints k r
    unfold inV at ih ⊢
    rw [List.map_cons, List.any_cons, ih]
    by_cases h : n = k
    · subst h; simp [eqV]
    · have h2 : ¬ k = n := fun z => h z.symm
      simp [eqV, h, h2]
theorem vt {a b : Int} (c : decide (V.int a = V.int b) = true) : a = b := by
  have := of_decide_eq_true c
  injection this
theorem vf {a b : Int} (c : ¬ decide (V.int a = V.int b) = true) : a ≠ b := fun e => c (decide_eq_true (by rw [e]))
theorem df {c : Prop} [Decidable c] (h : ¬ decide c = true) : ¬ c := of_decide_eq_false (Bool.eq_false_iff.mpr h)
theorem atI_mem {ns : List Int} {k : Int} (h0 : 0 ≤ k) (h : k < (ns.length : Int)) : ∃ v : Int, v ∈ ns ∧ atI (ns.map V.int) k = some (.int v) := by
  have hk : k.toNat < ns.length := by (first | lia | omega)
  have q : atI (ns.map V.int) ((k.toNat : Nat) : Int) = some (.int ns[k.toNat]) := atI_nat (by rw [List.getElem?_map, List.getElem?_eq_getElem hk] <;> rfl)
  rw [show ((k.toNat : Nat) : Int) = k by (first | lia | omega)] at q
  exact ⟨_, List.getElem_mem hk, q⟩
end L2

set_option Elab.async false
set_option linter.all false
set_option maxRecDepth 100000
namespace L2
open PySem
theorem bt_all : bootBuiltins "all" = some (.builtin "all") := by decide +kernel
theorem sl_listK {X : Cx} (K : PySem.W.Frag) (hK : X.K = K) : SlR X (rSlL K) := hK ▸ sl_list
theorem call_tuple_ofK {X : Cx} (K : PySem.W.Frag) (hK : X.K = K) : CallR X (.type "tuple") (fun xs H Q => ∃ p ys, xs = [.ref p] ∧ ((SqL K H p ys ∧ ∀ l, H l = none → Q (.ref l) (upd H l (.tup ys))) ∨ (SqT K H p ys ∧ Q (.ref p) H))) := hK ▸ call_tuple_of
theorem chain_le {ta tb tc : TE} {σ : St} {H : Hp} {Q : VK} (x y z : Int) (ha : ∀ R : VK, R (.int x) H → ta σ H R) (hb : ∀ R : VK, R (.int y) H → tb σ H R) (hc : ∀ R : VK, R (.int z) H → tc σ H R) (h : ∀ r : Bool, (r = true ↔ x ≤ y ∧ y ≤ z) → Q (.bl r) H) :
    tChain (rI0 fun i j => V.bl (decide (i ≤ j))) (rI0 fun i j => V.bl (decide (i ≤ j))) ta tb tc σ H Q := by
  refine ha _ (hb _ ⟨x, y, rfl, rfl, _, rfl, ite2 (fun c => ?_) (fun c => ?_)⟩)
  · exact hc _ ⟨y, z, rfl, rfl, h _ ⟨fun e => ⟨of_decide_eq_true c, of_decide_eq_true e⟩, fun e => decide_eq_true e.2⟩⟩
  · exact h _ ⟨fun e => (nomatch e), fun e => absurd e.1 (df c)⟩
theorem chain_lt {ta tb tc : TE} {σ : St} {H : Hp} {Q : VK} (x y z : Int) (ha : ∀ R : VK, R (.int x) H → ta σ H R) (hb : ∀ R : VK, R (.int y) H → tb σ H R) (hc : ∀ R : VK, R (.int z) H → tc σ H R) (h : ∀ r : Bool, (r = true ↔ x ≤ y ∧ y < z) → Q (.bl r) H) :
    tChain (rI0 fun i j => V.bl (decide (i ≤ j))) (rI0 fun i j => V.bl (decide (i < j))) ta tb tc σ H Q := by
  refine ha _ (hb _ ⟨x, y, rfl, rfl, _, rfl, ite2 (fun c => ?_) (fun c => ?_)⟩)
  · exact hc _ ⟨y, z, rfl, rfl, h _ ⟨fun e => ⟨of_decide_eq_true c, of_decide_eq_true e⟩, fun e => decide_eq_true e.2⟩⟩
  · exact h _ ⟨fun e => (nomatch e), fun e => absurd e.1 (df c)⟩
theorem rangeSize_grp {n k : Nat} (hk : k = 2 ∨ k = 3) : Builtin.Range.rangeSize 0 (n : Int) (k : Int) = (((n + (k - 1)) / k : Nat) : Int) := by
  unfold Builtin.Range.rangeSize
  rcases hk with rfl | rfl <;> split <;> (first | lia | omega)
noncomputable def RowOk (op n nf nr : Int) : Prop :=
  op = 0 ∨ (op = 1 ∨ op = 2) ∧ 0 ≤ n ∧ n < 12 ∨ (op = 4 ∨ op = 5) ∧ 0 ≤ n ∧ n < nr ∨ op = 6 ∧ 0 ≤ n ∧ n < nf ∨ op = 10 ∧ 8 ≤ n ∧ n ≤ 19 ∨ op = 11 ∧ 2 ≤ n ∧ n ≤ 12 ∨ (op = 3 ∨ op = 7 ∨ op = 8 ∨ op = 9) ∧ n = 0
noncomputable def HeadOk (s p b fn nr : Int) : Prop := 0 ≤ s ∧ s < nr ∧ 0 ≤ p ∧ p ≤ 4 ∧ (fn = 0 → p = 0) ∧ p ≤ b ∧ b ≤ 12
noncomputable def grp (k : Nat) (ns : List Int) : List (List Int) := (List.range ((ns.length + (k - 1)) / k)).map fun i => (ns.drop (i * k)).take k
noncomputable def TupAt (H : Hp) (v : V) (zs : List Int) : Prop := ∃ t, v = .ref t ∧ H t = some (.tup (zs.map V.int))
noncomputable def GrpAt (H : Hp) (l : Addr) (gs : List (List Int)) : Prop := ∃ rs, H l = some (.lst rs) ∧ Paired (TupAt H) rs gs
theorem cut_ints (ns : List Int) (a b : Nat) : cutV (ns.map V.int) (some (a : Int)) (some (b : Int)) = ((ns.drop a).take (b - a)).map V.int := by
  unfold cutV
  rw [HT.sIx_nat, HT.sIx_nat, List.length_map, List.map_take, List.map_drop]
  by_cases h : a ≤ ns.length
  · rw [Nat.min_eq_left h]
    by_cases h2 : b ≤ ns.length
    · rw [Nat.min_eq_left h2]
    · rw [Nat.min_eq_right (by (first | lia | omega)), List.take_of_length_le (by simp), List.take_of_length_le (by simp; (first | lia | omega))]
  · have e1 : ((ns.map V.int).drop (min a ns.length)) = [] := List.drop_of_length_le (by simp; (first | lia | omega))
    have e2 : ((ns.map V.int).drop a) = [] := List.drop_of_length_le (by simp; (first | lia | omega))
    rw [e1, e2, List.take_nil, List.take_nil]
theorem cut_to_end (ns : List Int) (a : Nat) : cutV (ns.map V.int) (some (a : Int)) none = (ns.drop a).map V.int := by
  unfold cutV
  rw [HT.sIx_nat, HT.sIx_none, List.length_map, List.map_drop]
  by_cases h : a ≤ ns.length
  · rw [Nat.min_eq_left h, List.take_of_length_le (by simp)]
  · rw [Nat.min_eq_right (by (first | lia | omega)), List.drop_of_length_le (by simp), List.drop_of_length_le (by simp; (first | lia | omega))]
    simp
theorem grp_len (k : Nat) (ns : List Int) : (grp k ns).length = (ns.length + (k - 1)) / k := by unfold grp; simp
theorem grp_next {k i : Nat} {ns : List Int} (h : i < (ns.length + (k - 1)) / k) : (grp k ns).take (i + 1) = (grp k ns).take i ++ [(ns.drop (i * k)).take k] := by
  have e : (grp k ns)[i]? = some ((ns.drop (i * k)).take k) := by
    unfold grp
    rw [List.getElem?_map, List.getElem?_range h] <;> rfl
  rw [List.take_succ, e] <;> rfl
theorem TupAt.upd {H : Hp} {v : V} {zs : List Int} {p : Addr} {xs : List V} {o : HO} (h : TupAt H v zs) (hp : H p = some (.lst xs)) : TupAt (upd H p o) v zs := by
  obtain ⟨t, rfl, e⟩ := h
  have ne : t ≠ p := fun z => by rw [z, hp] at e; cases e
  exact ⟨t, rfl, by rw [upd_ne ne]; exact e⟩
theorem TupAt.same {H H' : Hp} {v : V} {zs : List Int} (h : TupAt H v zs) (s : Same H H') : TupAt H' v zs := by
  obtain ⟨t, rfl, e⟩ := h
  exact ⟨t, rfl, s _ _ e⟩
theorem GrpAt.same {H H' : Hp} {l : Addr} {gs : List (List Int)} (h : GrpAt H l gs) (s : Same H H') : GrpAt H' l gs := by
  obtain ⟨rs, e, p⟩ := h
  exact ⟨rs, s _ _ e, p.mono fun _ _ x => x.same s⟩
noncomputable def headNums (ns : List Int) : List Int := (ns.drop 1).take (3 * (ns.headD 0).toNat)
noncomputable def rowNums (ns : List Int) : List Int := ns.drop (1 + 3 * (ns.headD 0).toNat)
theorem head_cut {ns ms : List Int} {n : Int} (e : ns = n :: ms) (hn : 0 ≤ n) : cutV (ns.map V.int) (some 1) (some (1 + 3 * n)) = (headNums ns).map V.int := by
  have h := cut_ints ns 1 (1 + 3 * n.toNat)
  rw [show ((1 + 3 * n.toNat : Nat) : Int) = 1 + 3 * n by (first | lia | omega), show ((1 : Nat) : Int) = 1 from rfl, Nat.add_sub_cancel_left] at h
  rw [h, e] <;> rfl
theorem row_cut {ns ms : List Int} {n : Int} (e : ns = n :: ms) (hn : 0 ≤ n) : cutV (ns.map V.int) (some (1 + 3 * n)) none = (rowNums ns).map V.int := by
  have h := cut_to_end ns (1 + 3 * n.toNat)
  rw [show ((1 + 3 * n.toNat : Nat) : Int) = 1 + 3 * n by (first | lia | omega)] at h
  rw [h, e] <;> rfl
theorem at_zero {ns ms : List Int} {n : Int} (e : ns = n :: ms) : atI (ns.map V.int) 0 = some (.int n) := by
  have := atI_nat (xs := ns.map V.int) (j := 0) (v := .int n) (by rw [e] <;> rfl)
  exact this
theorem mul3 {n : Int} (h : 0 ≤ n) (h' : n ≤ 16) : CMul 3 n := by
  unfold CMul
  have : n.natAbs ≤ 16 := by (first | lia | omega)
  (first | lia | omega)
noncomputable def isHead (g : List Int) (i nr : Nat) : Prop := ∃ s p b, g = [s, p, b] ∧ HeadOk s p b i nr
noncomputable def isRow (g : List Int) (nf nr : Nat) : Prop := ∃ op n, g = [op, n] ∧ RowOk op n nf nr
structure CodeOk (ns : List Int) : Prop where
  big : ∃ n ms, ns = n :: ms ∧ 1 ≤ n ∧ n ≤ 16 ∧ 3 * n + 2 ≤ ms.length ∧ (ms.length - 3 * n.toNat) % 2 = 0
  heads : ∀ i g, (grp 3 (headNums ns))[i]? = some g → isHead g i ((rowNums ns).length / 2)
  rows : ∀ g ∈ grp 2 (rowNums ns), isRow g (ns.headD 0).toNat ((rowNums ns).length / 2)
theorem Paired.yonder {α β : Type} {F : α → β → Prop} : ∀ {xs : List α} {ys : List β}, Paired F xs ys → ∀ {j : Nat} {x : α}, xs[j]? = some x → ∃ y, ys[j]? = some y ∧ F x y
  | _, _, .nil, j, x, h => by cases h
  | _, _, .cons r t, 0, x, h => by cases h; exact ⟨_, rfl, r⟩
  | _, _, .cons r t, j + 1, x, h => Paired.yonder t (by simpa using h)
theorem grp_get {k i : Nat} {ns g : List Int} (hk : k = 2 ∨ k = 3) (hd : ns.length % k = 0) (h : (grp k ns)[i]? = some g) : g.length = k := by
  unfold grp at h
  rw [List.getElem?_map] at h
  by_cases hi : i < (ns.length + (k - 1)) / k
  · rw [List.getElem?_range hi] at h
    cases h
    rw [List.length_take, List.length_drop]
    rcases hk with rfl | rfl <;> (first | lia | omega)
  · rw [List.getElem?_eq_none (by simp; (first | lia | omega))] at h
    cases h
theorem len3 {g : List Int} (h : g.length = 3) : ∃ a b c, g = [a, b, c] := match g, h with
  | [a, b, c], _ => ⟨a, b, c, rfl⟩
theorem len2 {g : List Int} (h : g.length = 2) : ∃ a b, g = [a, b] := match g, h with
  | [a, b], _ => ⟨a, b, rfl⟩
theorem all_snoc {bs : List Bool} {b : Bool} : (bs ++ [b]).all id = true ↔ bs.all id = true ∧ b = true := by simp
noncomputable def spIsHead : Sp := fun vs H Q _ => ∃ t s p b fn nr, vs = [.ref t, .int fn, .int nr] ∧ H t = some (.tup [.int s, .int p, .int b]) ∧ ∀ r, (r = true ↔ HeadOk s p b fn nr) → Q (.bl r) H
noncomputable def spIsRow : Sp := fun vs H Q _ => ∃ t op n nf nr, vs = [.ref t, .int nf, .int nr] ∧ H t = some (.tup [.int op, .int n]) ∧ ∀ r H', Same H H' → (r = true ↔ RowOk op n nf nr) → Q (.bl r) H'
noncomputable def spAlone : Sp := fun vs H Q _ => ∃ op : Int, vs = [.int op] ∧ ∀ r H', Same H H' → (r = true ↔ op = 3 ∨ op = 7 ∨ op = 8 ∨ op = 9) → Q (.bl r) H'
noncomputable def spGrouped : Sp := fun vs H Q _ => ∃ (a : Addr) (ns : List Int) (k : Nat), vs = [.ref a, .int k] ∧ (k = 2 ∨ k = 3) ∧ H a = some (.lst (ns.map V.int)) ∧ ns.length ≤ 1000000 ∧ ∀ l H', Same H H' → H l = none → GrpAt H' l (grp k ns) → Q (.ref l) H'
noncomputable def spHeadsIn : Sp := fun vs H Q _ => ∃ (a : Addr) (ns : List Int), vs = [.ref a] ∧ H a = some (.lst (ns.map V.int)) ∧ ns.length ≤ 1000000 ∧ (∃ n ms, ns = n :: ms ∧ 0 ≤ n ∧ n ≤ 16) ∧ ∀ l H', Same H H' → H l = none → GrpAt H' l (grp 3 (headNums ns)) → Q (.ref l) H'
noncomputable def spRowsIn : Sp := fun vs H Q _ => ∃ (a : Addr) (ns : List Int), vs = [.ref a] ∧ H a = some (.lst (ns.map V.int)) ∧ ns.length ≤ 1000000 ∧ (∃ n ms, ns = n :: ms ∧ 0 ≤ n ∧ n ≤ 16) ∧ ∀ l H', Same H H' → H l = none → GrpAt H' l (grp 2 (rowNums ns)) → Q (.ref l) H'
noncomputable def spWholes : Sp := fun vs H Q _ => ∃ (a : Addr) (ns : List Int), vs = [.ref a] ∧ H a = some (.lst (ns.map V.int)) ∧ ns.length ≤ 1000000 ∧ ∀ H', Same H H' → Q (.bl true) H'
noncomputable def spIsCode : Sp := fun vs H Q _ => ∃ (a : Addr) (ns : List Int), vs = [.ref a] ∧ H a = some (.lst (ns.map V.int)) ∧ ns.length ≤ 1000000 ∧ ∀ r H', Same H H' → (r = true ↔ CodeOk ns) → Q (.bl r) H'
end L2

set_option Elab.async false
set_option linter.all false
set_option maxRecDepth 100000
namespace L2
open PySem PySem.Spec PyProof.Rows
inductive Tr where
  | mk (kind : Int) (own : List Int) (parts : List Tr)
mutual
noncomputable def preT : Tr → List Tr
  | .mk k own ps => .mk k own ps :: preTs ps
noncomputable def preTs : List Tr → List Tr
  | [] => []
  | a :: r => preT a ++ preTs r
end
mutual
noncomputable def nums : Tr → List Int
  | .mk k own ps => k :: (own ++ numsL ps)
noncomputable def numsL : List Tr → List Int
  | [] => []
  | a :: r => nums a ++ numsL r
end
noncomputable def headN : Tr → List Int
  | .mk k own _ => k :: own
mutual
theorem nums_pre : ∀ t : Tr, (preT t).flatMap headN = nums t
  | .mk k own ps => by
    rw [preT, List.flatMap_cons, nums_preL ps, nums]; rfl
theorem nums_preL : ∀ ts : List Tr, (preTs ts).flatMap headN = numsL ts
  | [] => by simp [preTs, numsL]
  | a :: r => by rw [preTs, List.flatMap_append, nums_pre a, nums_preL r, numsL]
end
mutual
theorem pre_nums : ∀ t : Tr, (preT t).length ≤ (nums t).length
  | .mk k own ps => by
    have := pre_numsL ps
    simp [preT, nums]; (first | lia | omega)
theorem pre_numsL : ∀ ts : List Tr, (preTs ts).length ≤ (numsL ts).length
  | [] => by simp [preTs, numsL]
  | a :: r => by
    have := pre_nums a
    have := pre_numsL r
    simp [preTs, numsL]; (first | lia | omega)
end
noncomputable def TrAt (H : Hp) : Nat → V → Tr → Prop
  | 0, _, _ => False
  | d + 1, v, .mk k own ps => ∃ t pl o q vs, v = .ref t ∧ H t = some (.tup [.int k, .int pl, .ref o, .ref q]) ∧ H o = some (.tup (own.map V.int)) ∧ H q = some (.tup vs) ∧ Paired (TrAt H d) vs ps
mutual
noncomputable def bare : Nd → Tr
  | .mk k _ own ps => .mk k own (bareL ps)
noncomputable def bareL : List Nd → List Tr
  | [] => []
  | a :: r => bare a :: bareL r
end
noncomputable abbrev Fn := (Int × Int) × Tr
noncomputable def FTAt (H : Hp) (d : Nat) (v : V) (f : Fn) : Prop := ∃ t b, v = .ref t ∧ H t = some (.tup [.int f.1.1, .int f.1.2, b]) ∧ TrAt H d b f.2
noncomputable def headsW (fs : List Fn) : List Int := fs.flatMap fun f => [f.1.1, f.1.2]
noncomputable def bodiesW (fs : List Fn) : List Int := fs.flatMap fun f => nums f.2
noncomputable def wr (fs : List Fn) : List Int := (fs.length : Int) :: (headsW fs ++ bodiesW fs)
section

theorem list_extend_tup (l : Addr) (items : Array Value) (n : Nat) (b : Addr) (items2 : Array Value) (n2 : Nat) (dd : Option Addr) (sl : Array (Option Value)) (hs0 : ¬(!items.isEmpty && Builtin.List.listTooLong (items.size + items2.size)) = true) (hs1 : items.size ≤ sizeLine) (hs2 : items.size + items2.size ≤ sizeLine + 1) :
    Meets (Builtin.«list.extend» ⟨[.ref l, .ref b], []⟩) (fun _ R s => s.heap.get? l = some { cls := .type "list", dict := none, data := .seq items n, slots := #[] } ∧ s.heap.get? b = some ⟨.type "tuple", dd, .seq items2 n2, sl⟩ ∧ R (.ok (.ret Value.none)) { s with heap := s.heap.update l (Obj.mapSeq fun x => x ++ items2), toks := s.toks }) :=
  .of_wp fun _ _ _ _ σs hyp => by
    obtain ⟨σh, σg, σd, σt, σo⟩ := σs
    obtain ⟨atL, atB, fin⟩ := hyp
    have r1 := AutoSeq1.idx_int
    have r2 := AutoSeq1.sub_tuple_tuple
    have r3 := AutoSeq1.sub_list_list
    have r4 := AutoSeq1.sub_tuple_list
    have r5 := AutoSeq1.sub_list_tuple
    have fits : (items ++ items2).size ≤ sizeLine + 1 := by simpa using hs2
    wp_walk using (wpAny_updateSeq atL rfl (hz := hs1) (_hz' := fits)), AutoSeq1.wpAny_loadPart' atL, AutoSeq1.wpAny_loadPart' atB
    exact ⟨_, rfl, fin⟩
end
section
variable {X : Cx}
noncomputable def rExtendT : V → List V → Hp → VK → Prop := fun x vs H Q => ∃ l b xs zs, x = .ref l ∧ vs = [.ref b] ∧ H l = some (.lst xs) ∧ H b = some (.tup zs) ∧ xs.length + zs.length ≤ sizeLine ∧ Q .non (upd H l (.lst (xs ++ zs)))
theorem mt_extendT : MtM X "list.extend" rExtendT := by
  intro pins s σ H x vs v us Q I rx rv h
  obtain ⟨l, b, xs, zs, rfl, rfl, hH, hB, hz, q⟩ := h
  cases rx
  obtain ⟨u, rfl, ru⟩ := rv.one
  cases ru
  obtain ⟨z, its, n, r, hl, e⟩ := I.lstM hH
  obtain ⟨_, its2, r2, p⟩ := (show ObjOk X.prog X.w H s.heap b (.tup zs) from I.hok b _ hB)
  obtain ⟨⟨oc, od, oda, osl⟩, h1, h2, n2, h3⟩ := p
  dsimp only at h2 h3
  subst h2 h3
  have hl2 := r2.length
  have hsz : its.toArray.size + its2.toArray.size ≤ sizeLine := by rw [List.size_toArray, List.size_toArray]; (first | lia | omega)
  have hlong : ¬ (!its.toArray.isEmpty && Builtin.List.listTooLong (its.toArray.size + its2.toArray.size)) = true := by
    rw [notLongL hsz, Bool.and_false]
    exact Bool.false_ne_true
  refine call_meets F.slot_list_extend ⟨_, e, rfl⟩ F.entry_list_extend (F.args_list_extend_2 _ _)
    (list_extend_tup l its.toArray n b its2.toArray n2 od osl hlong (by rw [List.size_toArray]; (first | lia | omega)) (by (first | lia | omega))) ⟨e, h1, ?_⟩
  refine ⟨.non, _, I.lset (its' := its ++ its2) hH e (by simp) (r.append r2) ?_, rfl, q⟩
  rw [List.length_append]
  (first | lia | omega)
end
noncomputable def fnsOf (r : Hds × List Nd) : List Fn := r.1.zip (bareL r.2)
mutual
noncomputable def okT : Tr → Prop
  | .mk k own ps => (k = 3 ∨ k = 4 → own ≠ []) ∧ okTs ps
noncomputable def okTs : List Tr → Prop
  | [] => True
  | a :: r => okT a ∧ okTs r
end
noncomputable def okF (fs : List Fn) : Prop := ∀ f ∈ fs, okT f.2
end L2

set_option Elab.async false
set_option linter.all false
set_option maxRecDepth 100000
namespace L2
open PySem PySem.Spec PyProof.Rows
section
variable {X : Cx} {tg : Expr}
noncomputable def Sq (K : PySem.W.Frag) (H : Hp) (a : Addr) (xs : List V) : Prop := SqL K H a xs ∨ SqT K H a xs
noncomputable def iSeq (K : PySem.W.Frag) (tl : TE) : TI := fun σ H R => tl σ H fun x H1 => ∃ a, x = .ref a ∧ ((∃ xs, SqL K H1 a xs) ∧ R (Itl K a) H1 ∨ (∃ xs, SqT K H1 a xs) ∧ R (Itt K a) H1)
theorem pi_seq {l : Expr} {tl : TE} (hl : PE X l tl) : PI X tg l (iSeq X.K tl) := by
  refine ⟨?_⟩
  intro pins s σ H R I h
  refine thn (hl pins s σ H _ I h) fun v s1 hzz => ?_
  obtain ⟨x, H1, I1, r1, q1⟩ := hzz
  obtain ⟨a, e, q⟩ := q1
  subst e
  cases r1
  rcases q with ⟨⟨xs, hq⟩, q⟩ | ⟨⟨xs, hq⟩, q⟩
  · obtain ⟨its, rv, p, hz⟩ := I1.list hq
    refine wpAny_pyIter_list p.isList ?_
    refine ⟨s1.heap.objs.size, [s1.heap.objs.size], _, _, H1, rfl, I1.kept (t' := s1.toks) fun b o e => Heap.get?_push_of_some _ e, turn_list a _, ⟨_, Heap.get?_push_size _ rfl, rfl, rfl⟩, fun b hb => ?_, q⟩
    have e : b = s1.heap.objs.size := by simpa using hb
    subst e
    exact I1.fpOk (Nat.le_refl _) (I1.hok.fresh (Nat.le_refl _))
  · obtain ⟨its, rv, p, hz⟩ := I1.tuple hq
    refine wpAny_pyIter_tuple (show s1.heap.IsTuple a its.toArray from p) ?_
    refine ⟨s1.heap.objs.size, [s1.heap.objs.size], _, _, H1, rfl, I1.kept (t' := s1.toks) fun b o e => Heap.get?_push_of_some _ e, turn_tuple a _, ⟨_, Heap.get?_push_size _ rfl, rfl, rfl⟩, fun b hb => ?_, q⟩
    have e : b = s1.heap.objs.size := by simpa using hb
    subst e
    exact I1.fpOk (Nat.le_refl _) (I1.hok.fresh (Nat.le_refl _))
noncomputable def rExtendU : V → List V → Hp → VK → Prop := fun x vs H Q => rExtend x vs H Q ∨ rExtendT x vs H Q
theorem mt_extendU : MtM X "list.extend" rExtendU := by
  intro pins s σ H x vs v us Q I rx rv h
  rcases h with h | h
  · exact mt_extend pins s σ H x vs v us Q I rx rv h
  · exact mt_extendT pins s σ H x vs v us Q I rx rv h
end
noncomputable abbrev Wk (J : It) (g : TG) (tb : TS) (D : Ends) (σ : St) (H : Hp) : Prop := ∃ W : Nat → Nat → St → Hp → Prop, (∃ m, W 0 m σ H) ∧ ∀ i m σ H, W i m σ H →
      (J.stop i H ∧ D.nx σ H) ∨ (J.go i H ∧ ∃ N : St → Hp → Prop, (∀ σ' H', N σ' H' → ∃ m', m' < m ∧ W (i + 1) m' σ' H') ∧ ∀ x H', J.yld i H x H' → g x σ H' fun σ2 H2 => tb { D with nx := N, ct := N, bk := D.nx } σ2 H2)
theorem Same.seqT {K : PySem.W.Frag} {H H' : Hp} {a : Addr} {xs : List V} (e : Same H H') (h : SqT K H a xs) : SqT K H' a xs := by
  rcases h with (h | ⟨o, h⟩) | h
  · exact .inl (.inl (e _ _ h))
  · exact .inl (.inr ⟨o, e _ _ h⟩)
  · exact .inr h
theorem for_seq {K : PySem.W.Frag} {a : Addr} {xs : List V} {g : TG} {tb : TS} {D : Ends} {σ : St} {H0 H : Hp} (hq : Sq K H0 a xs) (Pv : Nat → St → Hp → Prop) (h0 : Pv 0 σ H) (hl : ∀ i σ H', i ≤ xs.length → Pv i σ H' → Same H0 H')
    (hs : ∀ i x σ H, xs[i]? = some x → Pv i σ H → g x σ H fun σ2 H2 => tb { D with nx := Pv (i + 1), ct := Pv (i + 1), bk := D.nx } σ2 H2) (hd : ∀ σ H, Pv xs.length σ H → D.nx σ H) :
    (∃ xs, SqL K H a xs) ∧ Wk (Itl K a) g tb D σ H ∨ (∃ xs, SqT K H a xs) ∧ Wk (Itt K a) g tb D σ H := by
  rcases hq with hq | hq
  · exact .inl ⟨⟨xs, (hl 0 _ _ (Nat.zero_le _) h0).seq hq⟩, for_list Pv h0 (fun i σ' H' hi p => (hl i σ' H' hi p).seq hq) hs hd⟩
  · exact .inr ⟨⟨xs, Same.seqT (hl 0 _ _ (Nat.zero_le _) h0) hq⟩, for_tup Pv h0 (fun i σ' H' hi p => Same.seqT (hl i σ' H' hi p) hq) hs hd⟩
noncomputable def SeqI (H : Hp) (v : V) (zs : List Int) : Prop := ∃ t, v = .ref t ∧ (H t = some (.lst (zs.map V.int)) ∨ H t = some (.tup (zs.map V.int)))
theorem SeqI.same {H H' : Hp} {v : V} {zs : List Int} (h : SeqI H v zs) (s : Same H H') : SeqI H' v zs := by
  obtain ⟨t, rfl, e | e⟩ := h
  · exact ⟨t, rfl, .inl (s _ _ e)⟩
  · exact ⟨t, rfl, .inr (s _ _ e)⟩
theorem Sq.same {K : PySem.W.Frag} {H H' : Hp} {a : Addr} {xs : List V} (e : Same H H') (h : Sq K H a xs) : Sq K H' a xs := h.imp (e.seq ·) (Same.seqT e ·)
noncomputable def spHeadsOf : Sp := fun vs H Q _ => ∃ (a : Addr) (ns : List Int), vs = [.ref a] ∧ H a = some (.lst (ns.map V.int)) ∧ ns.length ≤ 1000000 ∧ CodeOk ns ∧ ∀ l H', Same H H' → H l = none → GrpAt H' l (grp 3 (headNums ns)) → Q (.ref l) H'
noncomputable def spRowsOf : Sp := fun vs H Q _ => ∃ (a : Addr) (ns : List Int), vs = [.ref a] ∧ H a = some (.lst (ns.map V.int)) ∧ ns.length ≤ 1000000 ∧ CodeOk ns ∧ ∀ l H', Same H H' → H l = none → GrpAt H' l (grp 2 (rowNums ns)) → Q (.ref l) H'
noncomputable def spJoined (K : PySem.W.Frag) : Sp := fun vs H Q _ => ∃ (a : Addr) (gs : List (List Int)) (xs : List V) (k : Nat), vs = [.ref a, .int k] ∧ Sq K H a xs ∧ Paired (SeqI H) xs gs ∧ (∀ g ∈ gs, g.length = k) ∧ gs.length ≤ 1000 ∧ k ≤ 3 ∧
  ∀ l H', Same H H' → H l = none → H' l = some (.lst (gs.flatten.map V.int)) → Q (.ref l) H'
noncomputable def codeL (hs rs : List (List Int)) : List Int := (hs.length : Int) :: (hs.flatten ++ rs.flatten)
noncomputable def spCodeOf (K : PySem.W.Frag) : Sp := fun vs H Q _ => ∃ (a b : Addr) (hs rs : List (List Int)) (xs ys : List V), vs = [.ref a, .ref b] ∧ Sq K H a xs ∧ Paired (SeqI H) xs hs ∧ (∀ g ∈ hs, g.length = 3) ∧ hs.length ≤ 1000 ∧ Sq K H b ys ∧ Paired (SeqI H) ys rs ∧ (∀ g ∈ rs, g.length = 2) ∧ rs.length ≤ 1000 ∧ CodeOk (codeL hs rs) ∧
  ∀ l H', Same H H' → H l = none → H' l = some (.lst ((codeL hs rs).map V.int)) → Q (.ref l) H'
theorem fl_take {gs : List (List Int)} {i : Nat} {g : List Int} (h : gs[i]? = some g) : (gs.take (i + 1)).flatten = (gs.take i).flatten ++ g := by
  rw [List.take_succ, h, List.flatten_append]
  simp
theorem fl_len {k : Nat} : ∀ {gs : List (List Int)}, (∀ g ∈ gs, g.length = k) → gs.flatten.length = gs.length * k
  | [], _ => by simp
  | g :: gs, h => by
    rw [List.flatten_cons, List.length_append, h g (List.mem_cons_self ..), fl_len (fun x hx => h x (List.mem_cons_of_mem _ hx)), List.length_cons, Nat.add_mul, Nat.one_mul, Nat.add_comm]
end L2

set_option Elab.async false
set_option linter.all false
set_option maxRecDepth 100000
namespace L2
open PySem PySem.Spec PyProof.Rows
structure RowsAt (H : Hp) (rp : Addr) (rs : List Addr) (rows : List (List Int)) : Prop where
  here : H rp = some (.lst (rs.map V.ref))
  nd : rs.Nodup
  len : rs.length = rows.length
  row : ∀ (n : Nat) (r : Addr) (xs : List Int), rs[n]? = some r → rows[n]? = some xs → H r = some (.lst (xs.map V.int))
noncomputable def KeepL (as : List Addr) (H H' : Hp) : Prop := ∀ b o, b ∉ as → H b = some o → H' b = some o
noncomputable abbrev G100 : Int := 10000000000000000000000000000000000000000000000000000000000000000000000000000000000000000000000000000
noncomputable def wV (v : Int) : List V := if v ≥ G100 ∨ v ≤ -G100 then [.str "great", .int 0] else [.non, .int v]
noncomputable def reckV (k a b : Int) : List V :=
  if k = 8 then wV (a + b) else if k = 9 then wV (a - b) else if k = 10 then wV (a * b) else if k = 13 then [.non, .int (if a < b then 1 else 0)] else if k = 14 then [.non, .int (if a = b then 1 else 0)]
  else if b = 0 then [.str "zero", .int 0] else if k = 11 then [.non, .int (a.fdiv b)] else [.non, .int (a.fmod b)]
noncomputable def rowM (k v0 v1 v2 : Int) (rows : List (List Int)) : List V × List (List Int) :=
  if v0 < 0 ∨ v0 ≥ rows.length then ([.str "row", .int 0], rows)
  else if k = 18 then ([.non, .int (rows.getD v0.toNat []).length], rows)
  else if k = 15 then ([.non, .int v1], rows.set v0.toNat (rows.getD v0.toNat [] ++ [v1]))
  else if v1 < 0 ∨ v1 ≥ (rows.getD v0.toNat []).length then ([.str "place", .int 0], rows)
  else if k = 17 then ([.non, .int v2], rows.set v0.toNat ((rows.getD v0.toNat []).set v1.toNat v2))
  else ([.non, .int ((rows.getD v0.toNat []).getD v1.toNat 0)], rows)
noncomputable def worthM (k v0 v1 v2 : Int) (rows : List (List Int)) : List V × List (List Int) :=
  if k = 19 then ([.non, .int rows.length], rows ++ [[]]) else if k ≥ 15 then rowM k v0 v1 v2 rows else (reckV k v0 v1, rows)
noncomputable def arity (k : Int) : Nat := if k = 19 then 0 else if k = 18 then 1 else if k = 17 then 3 else 2
noncomputable def spDWithin : Sp := fun vs H Q _ => ∃ v : Int, vs = [.int v] ∧ ∀ p H', H p = none → H' = upd H p (.tup (wV v)) → Q (.ref p) H'
noncomputable def spReck : Sp := fun vs H Q _ => ∃ k a b : Int, vs = [.int k, .int a, .int b] ∧ a.natAbs < 2 ^ 2000 ∧ b.natAbs < 2 ^ 2000 ∧ ∀ p H', H p = none → H' = upd H p (.tup (reckV k a b)) → Q (.ref p) H'
structure Deed (H H' : Hp) (p rp : Addr) (rs rs' : List Addr) (o : List V × List (List Int)) : Prop where
  new : H p = none
  told : H' p = some (.tup o.1)
  rows : RowsAt H' rp rs' o.2
  keep : KeepL (rp :: rs) H H'
  more : rs' = rs ∨ ∃ q, H q = none ∧ q ≠ p ∧ rs' = rs ++ [q]
noncomputable def spRow : Sp := fun vs H Q _ => ∃ (k v0 v1 v2 : Int) (vp rp : Addr) (vals : List Int) (rs : List Addr) (rows : List (List Int)), vs = [.int k, .ref vp, .ref rp] ∧ H vp = some (.lst (vals.map V.int)) ∧
  vals = [v0, v1, v2].take (arity k) ∧ 15 ≤ k ∧ k ≤ 18 ∧ vp ∉ rp :: rs ∧ RowsAt H rp rs rows ∧ (∀ xs ∈ rows, xs.length < sizeLine) ∧ ∀ p H', Deed H H' p rp rs rs (rowM k v0 v1 v2 rows) → Q (.ref p) H'
noncomputable def spWorth : Sp := fun vs H Q _ => ∃ (k v0 v1 v2 : Int) (vp rp : Addr) (vals : List Int) (rs : List Addr) (rows : List (List Int)), vs = [.int k, .ref vp, .ref rp] ∧ H vp = some (.lst (vals.map V.int)) ∧
  vals = [v0, v1, v2].take (arity k) ∧ 8 ≤ k ∧ k ≤ 19 ∧ vp ∉ rp :: rs ∧ RowsAt H rp rs rows ∧ (∀ xs ∈ rows, xs.length < sizeLine) ∧ rows.length < sizeLine ∧ (k ≤ 14 → v0.natAbs < 2 ^ 2000 ∧ v1.natAbs < 2 ^ 2000) ∧
  ∀ p H' rs', Deed H H' p rp rs rs' (worthM k v0 v1 v2 rows) → Q (.ref p) H'
noncomputable def IsV (v : V) (o : List V) : Prop := (∃ z, v = .str z ∧ o = [.str z, .int 0]) ∨ ∃ i, v = .int i ∧ o = [.non, .int i]
structure Deed2 (H H' : Hp) (v : V) (rp : Addr) (rs rs' : List Addr) (o : List V × List (List Int)) : Prop where
  told : IsV v o.1
  rows : RowsAt H' rp rs' o.2
  keep : KeepL (rp :: rs) H H'
  more : rs' = rs ∨ ∃ q, H q = none ∧ rs' = rs ++ [q]
noncomputable def spDeed : Sp := fun vs H Q _ => ∃ (k v0 v1 v2 : Int) (vp rp : Addr) (vals : List Int) (rs : List Addr) (rows : List (List Int)), vs = [.int k, .ref vp, .ref rp] ∧ H vp = some (.lst (vals.map V.int)) ∧
  vals = [v0, v1, v2].take (arity k) ∧ 8 ≤ k ∧ k ≤ 19 ∧ vp ∉ rp :: rs ∧ RowsAt H rp rs rows ∧ (∀ xs ∈ rows, xs.length < sizeLine) ∧ rows.length < sizeLine ∧ (k ≤ 14 → v0.natAbs < 2 ^ 2000 ∧ v1.natAbs < 2 ^ 2000) ∧
  ∀ v H' rs', Deed2 H H' v rp rs rs' (worthM k v0 v1 v2 rows) → Q v H'
end L2

set_option Elab.async false
set_option linter.all false
set_option maxRecDepth 100000
namespace L2
open PySem
noncomputable def Pen (K : PySem.W.Frag) (H : Hp) (st : Addr) : Prop := ∃ a ns k c t, H st = some (.lst [.ref a, .int k, .int c, .int t]) ∧ Scr K H a ns ∧ ns.length ≤ 63 ∧ 0 ≤ k ∧ 0 ≤ c
structure Penned (K : PySem.W.Frag) (st : Addr) (H H' : Hp) : Prop where
  pen : Pen K H' st
  keep : Keep st H H'
noncomputable def spPen (K : PySem.W.Frag) : Sp := fun vs H Q _ => ∃ (a : Addr) (ns : List Int), vs = [.ref a] ∧ Scr K H a ns ∧ ns.length ≤ 63 ∧ ∀ st H', H st = none → Same H H' → Pen K H' st → Q (.ref st) H'
noncomputable def spTake4 (K : PySem.W.Frag) : Sp := fun vs H Q _ => ∃ (st : Addr) (many : Int), vs = [.ref st, .int many] ∧ 0 < many ∧ many < 1073741824 ∧ Pen K H st ∧ ∀ (r : Int) (H' : Hp), 0 ≤ r → r < many → Penned K st H H' → Q (.int r) H'
noncomputable def spInt4 (K : PySem.W.Frag) (B : Int → Prop) : Sp := fun vs H Q _ => ∃ (st : Addr), vs = [.ref st] ∧ Pen K H st ∧ ∀ (r : Int) (H' : Hp), B r → Penned K st H H' → Q (.int r) H'
end L2
namespace L2
open PySem
noncomputable def needT : List Int := [2, 2, 2, 2, 2, 2, 2, 2, 2, 3, 1, 0]
noncomputable def needT2 : List Int := [0, 0, 1, 1, 0, 1, 0, 1, 1, 0, 0, 1]
noncomputable def Heads3 (hs : List (List Int)) : Prop := ∀ g ∈ hs, g.length = 3
structure OpFit (op n nf : Int) : Prop where
  lo : 0 ≤ op
  hi : op ≤ 11
  call : op = 6 → 0 ≤ n ∧ n < nf
  deed : op = 10 → 8 ≤ n ∧ n ≤ 19
noncomputable def spNeeds : Sp := fun vs H Q _ => ∃ (op n : Int) (hd : Addr) (hs : List (List Int)), vs = [.int op, .int n, .ref hd] ∧ GrpAt H hd hs ∧ Heads3 hs ∧ OpFit op n hs.length ∧ ∀ (r : Int) H', Same H H' → Q (.int r) H'
noncomputable def spRow4 (K : PySem.W.Frag) : Sp := fun vs H Q _ => ∃ (st hd : Addr) (h many : Int) (hs : List (List Int)), vs = [.ref st, .int h, .int many, .ref hd] ∧ Pen K H st ∧ 0 < many ∧ many ≤ 24 ∧ GrpAt H hd hs ∧ Heads3 hs ∧ 1 ≤ hs.length ∧ hs.length ≤ 16 ∧ hd ≠ st ∧
  ∀ t op n H', Penned K st H H' → H' t = some (.tup [.int op, .int n]) → RowOk op n hs.length many → Q (.ref t) H'
noncomputable def spHeight : Sp := fun vs H Q _ => ∃ (op n h : Int) (hd : Addr) (hs : List (List Int)), vs = [.int op, .int n, .ref hd, .int h] ∧ GrpAt H hd hs ∧ Heads3 hs ∧ OpFit op n hs.length ∧ ∀ (r : Int) H', Same H H' → Q (.int r) H'
theorem inI {k : Int} {ns : List Int} (c : (if false = true then !inV (.int k) (ns.map V.int) else inV (.int k) (ns.map V.int)) = true) : k ∈ ns := by
  have e : inV (.int k) (ns.map V.int) = true := c
  rw [inV_ints] at e
  exact of_decide_eq_true e
theorem inN {k : Int} {ns : List Int} (c : ¬ (if false = true then !inV (.int k) (ns.map V.int) else inV (.int k) (ns.map V.int)) = true) : k ∉ ns := by
  intro h
  refine c ?_
  show inV (.int k) (ns.map V.int) = true
  rw [inV_ints]
  exact decide_eq_true h
theorem mem2 {k a b : Int} : k ∈ [a, b] ↔ k = a ∨ k = b := by simp
theorem mem3 {k a b c : Int} : k ∈ [a, b, c] ↔ k = a ∨ k = b ∨ k = c := by simp
end L2
namespace L2
open PySem
theorem GrpAt.put {H : Hp} {l p : Addr} {gs : List (List Int)} {xs ys : List V} (h : GrpAt H l gs) (hp : H p = some (.lst xs)) (ne : l ≠ p) : GrpAt (upd H p (.lst ys)) l gs := by
  obtain ⟨rs, e, pr⟩ := h
  exact ⟨rs, by rw [upd_ne ne]; exact e, Paired.imp (fun _ _ x => x.upd hp) pr⟩
theorem GrpAt.push {H : Hp} {l : Addr} {gs : List (List Int)} {rs : List V} {v : V} {g : List Int} (e : H l = some (.lst rs)) (pr : Paired (TupAt H) rs gs) (tv : TupAt H v g) : GrpAt (upd H l (.lst (rs ++ [v]))) l (gs ++ [g]) :=
  ⟨_, upd_same, Paired.append (Paired.imp (fun _ _ x => x.upd e) pr) (.cons (tv.upd e) .nil)⟩
structure CodeParts (hs rs : List (List Int)) : Prop where
  h1 : 1 ≤ hs.length
  h16 : hs.length ≤ 16
  r1 : 1 ≤ rs.length
  r24 : rs.length ≤ 30
  heads : ∀ i g, hs[i]? = some g → isHead g i rs.length
  rows : ∀ g ∈ rs, isRow g hs.length rs.length
noncomputable def spCode4 (K : PySem.W.Frag) : Sp := fun vs H Q _ => ∃ st, vs = [.ref st] ∧ Pen K H st ∧
  ∀ t hd rw hs rs H', Penned K st H H' → H' t = some (.tup [.ref hd, .ref rw]) → GrpAt H' hd hs → GrpAt H' rw rs → H hd = none → H rw = none → hd ≠ rw → CodeParts hs rs → Q (.ref t) H'
theorem snoc_get {α : Type} {xs : List α} {x g : α} {j : Nat} (h : (xs ++ [x])[j]? = some g) : xs[j]? = some g ∨ j = xs.length ∧ g = x := by
  by_cases hj : j < xs.length
  · rw [List.getElem?_append_left hj] at h
    exact .inl h
  · rw [List.getElem?_append_right (by (first | lia | omega))] at h
    have : j - xs.length = 0 := by
      have := (List.getElem?_eq_some_iff.mp h).1
      simp at this
      (first | lia | omega)
    rw [this] at h
    cases h
    exact .inr ⟨by (first | lia | omega), rfl⟩
end L2
namespace L2
open PySem
section
variable {X : Cx}
end
noncomputable def spListL : Sp := fun vs H Q _ => ∃ (hd rw : Addr) (hs rs : List (List Int)), vs = [.ref hd, .ref rw] ∧ GrpAt H hd hs ∧ GrpAt H rw rs ∧ (∀ g ∈ hs, g.length = 3) ∧ (∀ g ∈ rs, g.length = 2) ∧ hs.length ≤ 1000 ∧ rs.length ≤ 1000 ∧ ∀ f H', Same H H' → H f = none → H' f = some (.lst ((codeL hs rs).map V.int)) → Q (.ref f) H'
noncomputable def spTuples : Sp := fun vs H Q _ => ∃ (l : Addr) (gs : List (List Int)) (k : Nat), vs = [.ref l, .int k] ∧ GrpAt H l gs ∧ (∀ g ∈ gs, g.length = k) ∧ ∀ H', Same H H' → Q (.bl true) H'
end L2

set_option Elab.async false
set_option linter.all false
set_option maxRecDepth 100000
namespace L2
open PySem
theorem grp_cons {k : Nat} (hk : k = 2 ∨ k = 3) {g rest : List Int} (hg : g.length = k) : grp k (g ++ rest) = g :: grp k rest := by
  unfold grp
  have e : ((g ++ rest).length + (k - 1)) / k = (rest.length + (k - 1)) / k + 1 := by
    rw [List.length_append, hg]
    rcases hk with rfl | rfl <;> (first | lia | omega)
  rw [e, List.range_succ_eq_map, List.map_cons, List.map_map, Nat.zero_mul, List.drop_zero]
  congr 1
  · rw [List.take_append_of_le_length (by (first | lia | omega)), List.take_of_length_le (by (first | lia | omega))]
  · refine List.map_congr_left fun i _ => ?_
    show ((g ++ rest).drop ((i + 1) * k)).take k = _
    rw [Nat.add_mul, Nat.one_mul, Nat.add_comm, ← List.drop_drop, ← hg, List.drop_left]
theorem grp_flat {k : Nat} (hk : k = 2 ∨ k = 3) : ∀ {gs : List (List Int)}, (∀ g ∈ gs, g.length = k) → grp k gs.flatten = gs
  | [], _ => by
    unfold grp
    rcases hk with rfl | rfl <;> rfl
  | g :: gs, h => by
    rw [List.flatten_cons, grp_cons hk (h g (List.mem_cons_self ..)), grp_flat hk fun x hx => h x (List.mem_cons_of_mem _ hx)]
theorem CodeParts.h3 {hs rs : List (List Int)} (c : CodeParts hs rs) : ∀ g ∈ hs, g.length = 3 := fun g hg => by
  obtain ⟨j, hj⟩ := List.mem_iff_getElem?.mp hg
  obtain ⟨_, _, _, rfl, _⟩ := c.heads j g hj
  rfl
theorem CodeParts.r2 {hs rs : List (List Int)} (c : CodeParts hs rs) : ∀ g ∈ rs, g.length = 2 := fun g hg => by
  obtain ⟨_, _, rfl, _⟩ := c.rows g hg
  rfl
theorem CodeParts.headNums {hs rs : List (List Int)} (c : CodeParts hs rs) : headNums (codeL hs rs) = hs.flatten := by
  show List.take (3 * ((hs.length : Int)).toNat) (hs.flatten ++ rs.flatten) = _
  have := fl_len c.h3
  rw [Int.toNat_natCast, List.take_append_of_le_length (by (first | lia | omega)), List.take_of_length_le (by (first | lia | omega))]
theorem CodeParts.rowNums {hs rs : List (List Int)} (c : CodeParts hs rs) : rowNums (codeL hs rs) = rs.flatten := by
  show List.drop (1 + 3 * ((hs.length : Int)).toNat) ((hs.length : Int) :: (hs.flatten ++ rs.flatten)) = _
  have := fl_len c.h3
  rw [Int.toNat_natCast, Nat.add_comm, List.drop_succ_cons, show 3 * hs.length = hs.flatten.length by (first | lia | omega), List.drop_left]
theorem CodeParts.ok {hs rs : List (List Int)} (c : CodeParts hs rs) : CodeOk (codeL hs rs) := by
  have l3 := fl_len c.h3
  have l2 := fl_len c.r2
  have a1 := c.h1
  have a2 := c.h16
  have a3 := c.r1
  have nr : (L2.rowNums (codeL hs rs)).length / 2 = rs.length := by rw [c.rowNums, l2]; (first | lia | omega)
  refine ⟨⟨_, _, rfl, by (first | lia | omega), by (first | lia | omega), ?_, ?_⟩, fun i g hg => ?_, fun g hg => ?_⟩
  · rw [List.length_append, l3, l2]; (first | lia | omega)
  · rw [List.length_append, l3, l2, Int.toNat_natCast]; (first | lia | omega)
  · rw [c.headNums, grp_flat (.inr rfl) c.h3] at hg
    rw [nr]
    exact c.heads i g hg
  · rw [c.rowNums, grp_flat (.inl rfl) c.r2] at hg
    rw [nr]
    exact c.rows g hg
end L2

set_option Elab.async false
set_option linter.all false
set_option maxRecDepth 100000
namespace L2
open PySem
noncomputable def Lst4 (p : Addr) (H : Hp) (v : V) (g : List Int) : Prop := ∃ t, v = .ref t ∧ t ≠ p ∧ H t = some (.lst (g.map V.int))
noncomputable def Handed (K : PySem.W.Frag) (H : Hp) (ha : Addr) (hs rs : List (List Int)) : Prop := ∃ l1 l2 xs ys, H ha = some (.lst [.ref l1, .ref l2]) ∧ Sq K H l1 xs ∧ Paired (SeqI H) xs hs ∧ Sq K H l2 ys ∧ Paired (SeqI H) ys rs
theorem GrpAt.seqs {H : Hp} {rv : List V} {gs : List (List Int)} (pr : Paired (TupAt H) rv gs) : Paired (SeqI H) rv gs := Paired.imp (fun _ _ ⟨t, e, q⟩ => ⟨t, e, .inr q⟩) pr
theorem kit_any1 {K : PySem.W.Frag} {t c : Value} {r : List Value} (h : PySem.W.kitOne K t c = some true) : PySem.W.kitAny K t (c :: r) = some true := by
  unfold PySem.W.kitAny
  rw [h]
theorem kit_any2 {K : PySem.W.Frag} {t c c2 : Value} {r : List Value} (h : PySem.W.kitOne K t c = some false) (h2 : PySem.W.kitOne K t c2 = some true) : PySem.W.kitAny K t (c :: c2 :: r) = some true := by
  unfold PySem.W.kitAny
  rw [h]
  exact kit_any1 h2
end L2

set_option Elab.async false
set_option linter.all false
set_option maxRecDepth 100000
namespace L2
open PySem PySem.Spec PySem.Builtin.Str PyProof.Rows
section
variable {X : Cx}
theorem vals_strs : ∀ (ts : List Str) (k : Nat), Vals (ts.map V.str) (strsFrom k ts)
  | [], _ => .nil
  | x :: r, k => .cons ⟨k, rfl⟩ (vals_strs r (k + 1))
noncomputable def GStr (mg : Str → Option Value) (x z : Str) : Prop := ∃ t, mg x = some (.str z t)
theorem pe_gstr {x z : Str} {pos : Pos} (hg : Gl X x) (hm : GStr X.mg x z) (hd : (x == ("__debug__" : Str)) = false := by decide) : PE X (.Name x pos) (tC (.str z)) := by
  obtain ⟨t, hm⟩ := hm
  exact pe_glob (v := .str z) hg hm ⟨t, rfl⟩ hd
noncomputable def rSplit : V → List V → Hp → VK → Prop := fun x vs H Q => ∃ t sep : Str, x = .str t ∧ vs = [.str sep] ∧ (sep.length == 0) = false ∧ t.length ≤ sizeLine ∧ (Txt.split t sep).length ≤ sizeLine ∧ ∀ p, H p = none → Q (.ref p) (upd H p (.lst ((Txt.split t sep).map V.str)))
theorem mt_split : MtR X "str.split" rSplit := by
  intro pins s σ H x vs v us Q I rx rv h
  obtain ⟨t, sep, rfl, rfl, hs, hz, hn, q⟩ := h
  obtain ⟨tk, rfl⟩ := rx
  obtain ⟨u, rfl, ru⟩ := rv.one
  obtain ⟨tk2, rfl⟩ := ru
  have one : Txt.split t sep = [t] → ∀ k', EP X pins σ Q (.ref s.heap.objs.size) { s with heap := s.heap.push { cls := .type "list", data := .seq [Value.str t tk].toArray }, toks := k' } := fun e k' => by
    have q' := q _ I.fresh
    rw [e] at q' hn
    exact ⟨.ref s.heap.objs.size, _, I.lnew (ys := [V.str t]) (.cons ⟨tk, rfl⟩ .nil) hn, rfl, q'⟩
  cases h1 : (decide (t.length < sep.length) || decide (PySem.Builtin.Str.strKind t < PySem.Builtin.Str.strKind sep))
  · cases hf : (occurrences t sep 0 t.length (t.length + 1)).isEmpty
    · have e : Txt.split t sep = partsBetween t (occurrences t sep 0 t.length (t.length + 1)) sep.length := (if_neg (ne_true_of_eq_false h1)).trans (if_neg (ne_true_of_eq_false hf))
      rw [e] at hn q
      refine call_meets F.slot_str_split (typeIs_str _ _ _) F.entry_str_split (F.args_str_split_2 _ _) (meets_str_split_sep t sep tk tk2 h1 hs hf hz hn) ?_
      exact ⟨.ref s.heap.objs.size, _, I.lnew (vals_strs _ _) (by rw [List.length_map]; exact hn), rfl, q _ I.fresh⟩
    · have e : Txt.split t sep = [t] := (if_neg (ne_true_of_eq_false h1)).trans (if_pos hf)
      exact call_meets F.slot_str_split (typeIs_str _ _ _) F.entry_str_split (F.args_str_split_2 _ _) (meets_str_split_not_found t sep tk tk2 h1 hs hf) (one e _)
  · have e : Txt.split t sep = [t] := if_pos h1
    exact call_meets F.slot_str_split (typeIs_str _ _ _) F.entry_str_split (F.args_str_split_2 _ _) (meets_str_split_cannot_occur t sep tk tk2 h1) (one e _)
noncomputable def rStarts : V → List V → Hp → VK → Prop := fun x vs H Q => ∃ t y : Str, x = .str t ∧ vs = [.str y] ∧ Q (.bl (decide (0 + y.length ≤ t.length) && subAt t y 0)) H
theorem mt_starts : MtR X "str.startswith" rStarts := by
  intro pins s σ H x vs v us Q I rx rv h
  obtain ⟨t, y, rfl, rfl, q⟩ := h
  obtain ⟨tk, rfl⟩ := rx
  obtain ⟨u, rfl, ru⟩ := rv.one
  obtain ⟨tk2, rfl⟩ := ru
  exact call_meets F.slot_str_startswith (typeIs_str _ _ _) F.entry_str_startswith (F.args_str_startswith_2 _ _) (gives_str_startswith t y tk tk2).meets ⟨.bl _, H, I, rfl, q⟩
theorem call_int_str : CallR X (.type "int") (fun xs H Q => ∃ (x : Str) (n : Int), xs = [.str x] ∧ PySem.intText? x = some n ∧ x.length ≤ 640 ∧ Q (.int n) H) := by
  intro pins s σ H xs us Q I r h
  obtain ⟨x, n, rfl, hn, hl, q⟩ := h
  obtain ⟨u, rfl, t, rfl⟩ := vals1 r
  exact PySem.W.KIN.call_text hn hl ⟨.int _, H, I.tok _, ⟨_, rfl⟩, q⟩
section
variable {e : Expr} {te : TE} {pos : Pos}
noncomputable def tFmt (te : TE) : TE := fun σ H Q => te σ H fun x H1 => (∃ y : Str, x = .str y ∧ y.length ≤ sizeLine ∧ Q (.str y) H1) ∨ ∃ i : Int, x = .int i ∧ i.natAbs.log2 < 1920 ∧ Q (.str (toString i)) H1
noncomputable abbrev TJ := Str → St → Hp → (Str → Hp → Prop) → Prop
noncomputable def PJ (X : Cx) (es : List Expr) (t : TJ) : Prop := ∀ (pins : List (Addr × Obj)) (s : Shared) (σ : St) (H : Hp) (acc : Str) (Q : Str → Hp → Prop), Inv X pins σ H s → t acc σ H Q →
  Joins (model X.prog X.w) X.A X.xe (evalEach es X.env) acc (fun out s1 => ∃ H', Inv X pins σ H' s1 ∧ Q out H') s
noncomputable def tJNil : TJ := fun acc _ H Q => Q acc H
noncomputable def tJCons (te : TE) (tj : TJ) : TJ := fun acc σ H Q => te σ H fun x H1 => ∃ y : Str, x = .str y ∧ (acc ++ y).length ≤ sizeLine ∧ tj (acc ++ y) σ H1 Q
end
noncomputable def Itstr (x : Str) : It := ⟨fun i _ => i < x.cps.size, fun i H v H' => H' = H ∧ ∃ c, x.cps[i]? = some c ∧ v = .str ⟨#[c]⟩, fun i _ => x.cps.size ≤ i⟩
noncomputable def iStr (tl : TE) : TI := fun σ H R => tl σ H fun v H1 => ∃ x : Str, v = .str x ∧ R (Itstr x) H1
theorem strIter_two (x : Str) : strIterType x = "str_ascii_iterator" ∨ strIterType x = "str_iterator" := by
  unfold strIterType
  split
  · exact .inl rfl
  · exact .inr rfl
theorem turn_str {P : Program} {w : World} {K : PySem.W.Frag} {tg : Expr} (it : Addr) (x : Str) (t : Tok) : Turn P w K tg (Itstr x) [it] it (fun i h => h.IsStrIter it (strIterType x) x t i) where
  mem := by simp
  obj := fun i h st b hb => by
    have e : b = it := by simpa using hb
    subst e
    obtain ⟨o, e, c, d⟩ := st
    exact ⟨o, e, fun v z => by rw [d] at z; cases z⟩
  keep := fun i h h' st k => by
    obtain ⟨o, e, r⟩ := st
    exact ⟨o, k it (by simp) o e, r⟩
  item := by
    intro X hP hw hK hc i pins s σ H E I hf st hg
    subst hP hw hK
    obtain ⟨f0, f1, f2, f3, f4, f5⟩ := hf it (by simp)
    have hx : x.cps[i]? = some (x.cps[i]'hg) := Array.getElem?_eq_getElem hg
    generalize x.cps[i]'hg = c at hx
    have I1 : ∀ h', Heap.SameBut it s.heap h' → Inv X pins σ H { s with heap := h', toks := s.toks + 1 } := fun h' sb => I.turned (t' := s.toks + 1) (fun b o hb e => (sb.2 b hb).trans e) f0 f1 f3 f4 f5
    rcases strIter_two x with e | e
    · rw [e] at st ⊢
      refine wpAny_pyNext_ascii_item st hx fun h' st' sb => ?_
      obtain ⟨o, e, cl, d⟩ := id st'
      exact ⟨_, rfl, go_of (s := { s with heap := h', toks := s.toks + 1 }) e cl d (by decide) ⟨.str ⟨#[c]⟩, H, I1 h' sb, ⟨_, rfl⟩, ⟨rfl, c, hx, rfl⟩, st', fun b hb => (hf b hb).1⟩⟩
    · rw [e] at st ⊢
      refine wpAny_pyNext_wide_item st hx fun h' st' sb => ?_
      obtain ⟨o, e, cl, d⟩ := id st'
      exact ⟨_, rfl, go_of (s := { s with heap := h', toks := s.toks + 1 }) e cl d (by decide) ⟨.str ⟨#[c]⟩, H, I1 h' sb, ⟨_, rfl⟩, ⟨rfl, c, hx, rfl⟩, st', fun b hb => (hf b hb).1⟩⟩
  done := by
    intro X hP hw hK hc i pins s σ H E I hf st hg
    subst hP hw hK
    obtain ⟨f0, f1, f2, f3, f4, f5⟩ := hf it (by simp)
    have hx : x.cps[i]? = none := Array.getElem?_eq_none hg
    rcases strIter_two x with e | e
    · rw [e] at st
      exact wpAny_pyNext_ascii_end (I.ok.hd hc) st hx fun h' eb => ⟨rfl, I.turned (t' := s.toks) (fun b o hb e => eb b o hb e) f0 f1 f3 f4 f5⟩
    · rw [e] at st
      exact wpAny_pyNext_wide_end (I.ok.hd hc) st hx fun h' eb => ⟨rfl, I.turned (t' := s.toks) (fun b o hb e => eb b o hb e) f0 f1 f3 f4 f5⟩
  self := by
    intro A i s Q E st h
    rcases strIter_two x with e | e
    · rw [e] at st
      exact wpAny_pyIter_striter_ascii st h
    · rw [e] at st
      exact wpAny_pyIter_striter_wide st h
theorem pi_str {tg l : Expr} {tl : TE} (hl : PE X l tl) : PI X tg l (iStr tl) := by
  refine ⟨?_⟩
  intro pins s σ H R I h
  refine thn (hl pins s σ H _ I h) fun v s1 z => ?_
  obtain ⟨y, H1, I1, r1, x, rfl, q⟩ := z
  obtain ⟨t, rfl⟩ := r1
  refine wpAny_pyIter_strU ?_
  refine ⟨s1.heap.objs.size, [s1.heap.objs.size], _, _, H1, rfl, I1.kept (t' := s1.toks) fun b o e => Heap.get?_push_of_some _ e, turn_str _ x t, ⟨_, Heap.get?_push_size _ rfl, rfl, rfl⟩, fun b hb => ?_, q⟩
  have e : b = s1.heap.objs.size := by simpa using hb
  subst e
  exact I1.fpOk (Nat.le_refl _) (I1.hok.fresh (Nat.le_refl _))
theorem for_str {x : Str} {g : TG} {tb : TS} {D : Ends} {σ : St} {H : Hp} (Pv : Nat → St → Hp → Prop) (h0 : Pv 0 σ H)
    (hs : ∀ i c σ H, x.cps[i]? = some c → Pv i σ H → g (.str ⟨#[c]⟩) σ H fun σ2 H2 => tb { D with nx := Pv (i + 1), ct := Pv (i + 1), bk := D.nx } σ2 H2) (hd : ∀ σ H, Pv x.cps.size σ H → D.nx σ H) :
    ∃ W : Nat → Nat → St → Hp → Prop, (∃ m, W 0 m σ H) ∧ ∀ i m σ H, W i m σ H →
      ((Itstr x).stop i H ∧ D.nx σ H) ∨ ((Itstr x).go i H ∧ ∃ N : St → Hp → Prop, (∀ σ' H', N σ' H' → ∃ m', m' < m ∧ W (i + 1) m' σ' H') ∧ ∀ v H', (Itstr x).yld i H v H' → g v σ H' fun σ2 H2 => tb { D with nx := N, ct := N, bk := D.nx } σ2 H2) := by
  refine ⟨fun i m σ H => m = x.cps.size - i ∧ i ≤ x.cps.size ∧ Pv i σ H, ⟨x.cps.size, rfl, Nat.zero_le _, h0⟩, ?_⟩
  rintro i m σ H ⟨rfl, hi, p⟩
  by_cases hlt : i < x.cps.size
  · refine .inr ⟨hlt, Pv (i + 1), fun σ' H' p' => ⟨x.cps.size - (i + 1), by (first | lia | omega), rfl, hlt, p'⟩, fun v H' y => ?_⟩
    obtain ⟨e, c, hx, rfl⟩ := y
    subst e
    exact hs i c σ _ hx p
  · have e : i = x.cps.size := by (first | lia | omega)
    subst e
    exact .inl ⟨Nat.le_refl _, hd σ H p⟩
end
end L2

set_option Elab.async false
set_option linter.all false
set_option maxRecDepth 100000
namespace L2
open PySem
noncomputable def inter (c : Nat) : List (List Nat) → List Nat
  | [] => []
  | [a] => a
  | a :: b :: r => a ++ c :: inter c (b :: r)
theorem cut_one {c : Nat} : ∀ {a b x y : List Nat}, c ∉ a → c ∉ b → (x = [] ∨ ∃ z, x = c :: z) → (y = [] ∨ ∃ z, y = c :: z) → a ++ x = b ++ y → a = b ∧ x = y
  | [], [], x, y, _, _, _, _, e => ⟨rfl, e⟩
  | [], b :: bs, x, y, _, hb, hx, _, e => by
    rcases hx with rfl | ⟨z, rfl⟩
    · cases e
    · rw [List.nil_append, List.cons_append] at e
      injection e with e1 _
      exact absurd (by rw [e1]; exact List.mem_cons_self) hb
  | a :: as, [], x, y, ha, _, _, hy, e => by
    rcases hy with rfl | ⟨z, rfl⟩
    · cases e
    · rw [List.nil_append, List.cons_append] at e
      injection e with e1 _
      exact absurd (by rw [← e1]; exact List.mem_cons_self) ha
  | a :: as, b :: bs, x, y, ha, hb, hx, hy, e => by
    rw [List.cons_append, List.cons_append] at e
    injection e with e1 e2
    obtain ⟨r1, r2⟩ := cut_one (fun z => ha (List.mem_cons_of_mem _ z)) (fun z => hb (List.mem_cons_of_mem _ z)) hx hy e2
    exact ⟨by rw [e1, r1], r2⟩
theorem inter_cons (c : Nat) (a : List Nat) (r : List (List Nat)) : ∃ x, inter c (a :: r) = a ++ x ∧ ((r = [] ∧ x = []) ∨ (r ≠ [] ∧ x = c :: inter c r)) := by
  cases r with
  | nil => exact ⟨[], (by rw [List.append_nil]; rfl), .inl ⟨rfl, rfl⟩⟩
  | cons b r => exact ⟨_, rfl, .inr ⟨(fun z => nomatch z), rfl⟩⟩
theorem inter_inj {c : Nat} : ∀ {as bs : List (List Nat)}, as ≠ [] → bs ≠ [] → (∀ a ∈ as, c ∉ a) → (∀ b ∈ bs, c ∉ b) → inter c as = inter c bs → as = bs
  | [], _, h, _, _, _, _ => absurd rfl h
  | _ :: _, [], _, h, _, _, _ => absurd rfl h
  | a :: as, b :: bs, _, _, ha, hb, e => by
    obtain ⟨x, ex, cx⟩ := inter_cons c a as
    obtain ⟨y, ey, cy⟩ := inter_cons c b bs
    rw [ex, ey] at e
    have sx : x = [] ∨ ∃ z, x = c :: z := by
      rcases cx with ⟨_, e⟩ | ⟨_, e⟩
      · exact .inl e
      · exact .inr ⟨_, e⟩
    have sy : y = [] ∨ ∃ z, y = c :: z := by
      rcases cy with ⟨_, e⟩ | ⟨_, e⟩
      · exact .inl e
      · exact .inr ⟨_, e⟩
    obtain ⟨rfl, rfl⟩ := cut_one (ha a List.mem_cons_self) (hb b List.mem_cons_self) sx sy e
    rcases cx with ⟨e1, e2⟩ | ⟨e1, e2⟩ <;> rcases cy with ⟨e3, e4⟩ | ⟨e3, e4⟩
    · rw [e1, e3]
    · rw [e2] at e4; cases e4
    · rw [e2] at e4; cases e4
    · rw [e2] at e4
      injection e4 with _ e5
      rw [inter_inj e1 e3 (fun z hz => ha z (List.mem_cons_of_mem _ hz)) (fun z hz => hb z (List.mem_cons_of_mem _ hz)) e5]
theorem join_cps (c : Nat) : ∀ ts : List Str, (Str.join ⟨#[c]⟩ ts).cps.toList = inter c (ts.map fun t => t.cps.toList)
  | [] => rfl
  | [t] => rfl
  | t :: u :: r => by
    have ih := join_cps c (u :: r)
    show (t ++ ⟨#[c]⟩ ++ Str.join ⟨#[c]⟩ (u :: r)).cps.toList = t.cps.toList ++ c :: inter c ((u :: r).map fun t => t.cps.toList)
    rw [← ih]
    show (t.cps ++ #[c] ++ (Str.join ⟨#[c]⟩ (u :: r)).cps).toList = _
    simp
theorem cps_inj {ts us : List Str} (h : ts.map (fun t => t.cps.toList) = us.map (fun t => t.cps.toList)) : ts = us := by
  induction ts generalizing us with
  | nil => cases us with
    | nil => rfl
    | cons u us => cases h
  | cons t ts ih => cases us with
    | nil => cases h
    | cons u us =>
      rw [List.map_cons, List.map_cons] at h
      injection h with h1 h2
      rw [ih h2]
      obtain ⟨a⟩ := t
      obtain ⟨b⟩ := u
      have : a = b := Array.toList_inj.mp h1
      rw [this]
theorem split_join {c : Nat} {ts : List Str} (h0 : ts ≠ []) (hf : ∀ t ∈ ts, c ∉ t.cps.toList) : Txt.split (Txt.join ⟨#[c]⟩ ts) ⟨#[c]⟩ = ts := by
  have ej : Txt.join ⟨#[c]⟩ ts = Str.join ⟨#[c]⟩ ts := StrLaws.glued_eq_join _ _
  rw [ej]
  have e := congrArg (fun t : Str => t.cps.toList) (StrLaws.join_split (Str.join ⟨#[c]⟩ ts) ⟨#[c]⟩)
  try dsimp only at e
  rw [join_cps, join_cps] at e
  refine cps_inj (inter_inj ?_ ?_ ?_ ?_ e)
  · have := PyProof.Rows.split_pos (Str.join ⟨#[c]⟩ ts) ⟨#[c]⟩
    intro z
    rw [List.map_eq_nil_iff.mp z] at this
    exact absurd this (by decide)
  · intro z
    exact h0 (List.map_eq_nil_iff.mp z)
  · intro a ha
    obtain ⟨t, ht, rfl⟩ := List.mem_map.mp ha
    exact StrLaws.split_free _ c t ht
  · intro a ha
    obtain ⟨t, ht, rfl⟩ := List.mem_map.mp ha
    exact hf t ht
open PySem.NumText PySem.W
noncomputable abbrev numS (n : Int) : Str := Str.ofString (toString n)
noncomputable abbrev digs (m : Nat) : List Nat := (Nat.toDigits 10 m).map Char.toNat
theorem digs_lt {m : Nat} (h : m < 10) : digs m = [48 + m] := by
  have : ∀ m : Fin 10, (Nat.digitChar m.1).toNat = 48 + m.1 := by decide
  show (Nat.toDigits 10 m).map Char.toNat = _
  rw [Nat.toDigits_of_lt_base h]
  show [(Nat.digitChar m).toNat] = _
  rw [this ⟨m, h⟩]
theorem digs_ge {m : Nat} (h : ¬ m < 10) : digs m = digs (m / 10) ++ [48 + m % 10] := by
  have hm : m % 10 < 10 := Nat.mod_lt m (by decide)
  have t : Nat.toDigits 10 (m / 10) ++ Nat.toDigits 10 (m % 10) = Nat.toDigits 10 (10 * (m / 10) + m % 10) := Nat.toDigits_append_toDigits (by decide) (by (first | lia | omega)) hm
  rw [Nat.div_add_mod] at t
  show (Nat.toDigits 10 m).map Char.toNat = _
  rw [← t, List.map_append]
  have := digs_lt hm
  show digs (m / 10) ++ digs (m % 10) = _
  rw [this]
theorem digs_all (m : Nat) : AllDigits (digs m) := by
  induction m using Nat.strongRecOn with
  | _ m ih =>
    intro c hc
    by_cases h : m < 10
    · rw [digs_lt h] at hc
      rw [List.mem_singleton.mp hc]
      (first | lia | omega)
    · rw [digs_ge h] at hc
      rcases List.mem_append.mp hc with z | z
      · exact ih (m / 10) (by (first | lia | omega)) c z
      · rw [List.mem_singleton.mp z]
        have : m % 10 < 10 := Nat.mod_lt m (by decide)
        (first | lia | omega)
theorem digs_head (m : Nat) : ∃ c r, digs m = c :: r ∧ (m ≠ 0 → c ≠ 48) := by
  induction m using Nat.strongRecOn with
  | _ m ih =>
    by_cases h : m < 10
    · exact ⟨_, _, digs_lt h, fun z => by (first | lia | omega)⟩
    · obtain ⟨c, r, e, n⟩ := ih (m / 10) (by (first | lia | omega))
      exact ⟨c, r ++ [48 + m % 10], by rw [digs_ge h, e]; rfl, fun _ => n (by (first | lia | omega))⟩
theorem digs_len : ∀ {k m : Nat}, m < 10 ^ (k + 1) → (digs m).length ≤ k + 1
  | 0, m, h => by rw [digs_lt (by (first | lia | omega))]; exact Nat.le_refl _
  | k + 1, m, h => by
    by_cases c : m < 10
    · rw [digs_lt c]
      show 1 ≤ _
      (first | lia | omega)
    · have : m / 10 < 10 ^ (k + 1) := by
        rw [Nat.pow_succ] at h
        exact Nat.div_lt_of_lt_mul (by rw [Nat.mul_comm]; exact h)
      have := digs_len this
      rw [digs_ge c, List.length_append]
      show _ + 1 ≤ _
      (first | lia | omega)
theorem digs_val (m : Nat) : digitsVal (digs m) = m := KIN.val_back m
theorem numS_cps (n : Int) : (0 ≤ n ∧ (numS n).cps.toList = digs n.natAbs) ∨ (n < 0 ∧ (numS n).cps.toList = 45 :: digs n.natAbs) := by
  cases n with
  | ofNat m => exact .inl ⟨Int.natCast_nonneg m, KIN.signs_num m⟩
  | negSucc m =>
    refine .inr ⟨Int.negSucc_lt_zero m, ?_⟩
    have e : toString (Int.negSucc m) = "-" ++ Nat.repr (m + 1) := rfl
    show (Str.ofString (toString (Int.negSucc m))).cps.toList = 45 :: (Nat.toDigits 10 (m + 1)).map Char.toNat
    rw [e, PyProof.Rows.signs_ofString]
    rw [String.toList_append, List.map_append, Nat.toList_repr]
    rfl
theorem numS_int {n : Int} (h : n.natAbs < 10 ^ 600) : PySem.intText? (numS n) = some n ∧ (numS n).length ≤ 601 := by
  have hl : (digs n.natAbs).length ≤ 600 := digs_len (k := 599) h
  obtain ⟨c, r, e, _⟩ := digs_head n.natAbs
  have ne : digs n.natAbs ≠ [] := by rw [e]; exact fun z => nomatch z
  have ln : (numS n).cps.toList.length = (numS n).length := Array.length_toList
  rcases numS_cps n with ⟨h0, hc⟩ | ⟨h0, hc⟩
  · rw [hc] at ln
    refine ⟨?_, by (first | lia | omega)⟩
    rw [intText_digits (by rw [hc]; exact digs_all _) (by rw [hc]; exact ne) (by (first | lia | omega)), hc, digs_val]
    exact congrArg some (by (first | lia | omega))
  · rw [hc, List.length_cons] at ln
    refine ⟨?_, by (first | lia | omega)⟩
    rw [intText_neg hc (digs_all _) ne (by (first | lia | omega)), digs_val]
    exact congrArg some (by (first | lia | omega))
end L2

set_option Elab.async false
set_option linter.all false
set_option maxRecDepth 100000
namespace L2
open PySem PySem.Spec PyProof.Rows
noncomputable def FlyS (X : Cx) (E : St → XK) : Value → Shared → Prop := fun e s1 => ∃ x C d pins σ H, e = .ref x ∧ Inv X pins σ H s1 ∧ H x = some (ExO x C d) ∧ Tb X pins H x s1.heap ∧ E σ (.ref C) d H
noncomputable abbrev Cx.excS (X : Cx) (E : St → XK) : Cx := X.wish (FlyS X E)
noncomputable def tCallS (sp : Sp) (E : St → XK) (t : TA) : TE := fun σ H Q => t σ H fun vs H1 => sp vs H1 Q (E σ)
section
variable {X : Cx}
theorem cxe_flyS {E : St → XK} {pins : List (Addr × Obj)} {σ : St} {H : Hp} {s s' : Shared} {e : Value} (I : Inv X pins σ H s) (h : CXE X.prog X.w X.stack H s (E σ) e s') : FlyS X E e s' := by
  obtain ⟨x, C, d, H', rfl, ho, hg, u, hok, hx, ⟨oe, vs, T, oT, ts, ge, hd, h1, hTx, hT, lo, gT, dT, h3⟩, q⟩ := h
  have I' : Inv X pins σ H' s' := I.call' (ch := []) ho u hok hg fun b z => (nomatch z)
  refine ⟨x, C, d, pins, σ, H', rfl, I', hx, ⟨oe, vs, ge, hd, .inr ⟨T, oT, ts, .none, h1, hTx, ⟨hT, Nat.le_trans I.sz lo, Nat.ne_of_gt (Nat.lt_of_lt_of_le I.lt lo), fun p hp z => ?_⟩, gT, dT, h3, .inl rfl⟩⟩, q⟩
  have := Heap.lt_size (I.pin p hp).1
  rw [z] at this
  exact absurd (Nat.lt_of_lt_of_le this lo) (Nat.lt_irrefl _)
theorem pe_callS {x : Str} {p pos : Pos} {e : Expr} {es : List Expr} {t : TA} {k n : Nat} {ps : List Str} {sp : Sp} {E : St → XK} (C : Cal X.prog X.w X.K X.mg X.base (CXE X.prog X.w) k x ps sp) (hr : Room n X.A) (hg : Gl (X.excS E) x) (ha : PA (X.excS E) (e :: es) t) (hk : k ≤ n := by first | decide | (first | lia | omega))
    (hdb : (x == ("__debug__" : Str)) = false := by decide) (he : starEach (e :: es) X.env = (false, eval e X.env) :: starEach es X.env := by rfl) (hpl : (backTo pos (starEach es X.env)).any (·.1) = false := by rfl) :
    PE (X.excS E) (.Call (.Name x p) (e :: es) [] pos) (tCallS sp E t) := by
  obtain ⟨f, fd, F, hm, kp, hb⟩ := C.ex
  refine ⟨?_⟩
  intro pins s σ H Q I h
  refine wpAny_Call_Name_kw (ld_glob I hg hm ?_ hdb)
  refine PySem.W.callWith_K (h₀ := X.base) I.ok.mod.kin kp (thn (ha pos pins s σ H _ I h) fun us s1 ⟨vs, H1, I1, r, q⟩ => ⟨I1.kIn, ?_⟩) he hpl
  have hl : us.length = ps.length := by rw [← r.length]; exact F.len _ _ _ _ q
  have hb' := hb s1 us I1.kIn (by rw [List.append_nil]; exact hl)
  rw [List.append_nil] at hb'
  refine wpAny_call (codeAny_mono (F.run X.A X.stack s1 H1 ⟨us, []⟩ us vs Q (E σ) (hr.mono hk) I1.unwish.env0 hb' r q) fun rr s' hq => ?_)
  cases rr with
  | error e => exact cxe_flyS I1.unwish hq
  | ok fl =>
    cases fl with
    | ret u => exact I1.after hq
    | next => exact False.elim hq
    | brk => exact False.elim hq
    | cont => exact False.elim hq
noncomputable def tTryS (K : PySem.W.Frag) (N i : Nat) (CE : Addr) (tb : (St → XK) → TS) (th : TS) : TS := fun D σ H =>
  tb (fun σ1 cls dx H1 => ∃ C d, cls = .ref C ∧ dx = some d ∧ Mch K C CE ∧ ∀ (x : Addr), H1 x = some (ExO x C (some d)) → th (behind D i) (σ1.set i (some (.ref x))) H1) D σ H
end
end L2

set_option Elab.async false
set_option linter.all false
set_option maxRecDepth 100000
namespace L2
open PySem PySem.W PySem.Spec PySem.Calls PyProof.Rows
section
variable {prog : Program} {w : World} {A : Around} {E : Value → Shared → Prop} {K : Frag} {C : Addr} {s : Shared} {x : Addr} {ox : Obj} {od : Option Obj}
theorem exc_class {Q : Option Value → Shared → Prop} (X : K.In s.heap) (I : InstAt s.heap x ox C od) (Ec : ExCls K C) (ha : findIn K (.ref C) "__class__" = some (some (.builtin "object.__class__")))
    (hn : specialIn K (.builtin "object.__class__") "__get__" = some (some (.builtin "getset_descriptor.__get__"))) (htk : takesIn K (.builtin "object.__class__") = some true)
    (hq : Q (some (.ref C)) { s with toks := s.toks + 1 }) : wpAny (model prog w) A (getAttr? (.ref x) "__class__") Q E s := by
  have hf : findObj K C od "__class__" = some (.bind (.builtin "getset_descriptor.__get__") (.builtin "object.__class__")) := by
    obtain ⟨cd, hcd, _⟩ := Ec.cd
    simp [findObj, hcd, ha, hn, htk]
  obtain ⟨h, g, d, t, os⟩ := s
  have L0 := I.type (M := model prog w)
  have L1 := looks_findIn (M := model prog w) X Ec.ga
  have L2' := looks_findIn (M := model prog w) X Ec.noHook
  have L3 := looks_find (M := model prog w) X I hf
  have Lb : PySem.W.Looks (model prog w) h (isInstance (.ref x) (.type "BaseException")) true := L0.andThen (looks_mroIn X Ec.base)
  have f3 := F.excAttr_ValueError.ga.bind (.ref x)
  have hk : builtinKind "BaseException.__getattribute__" = some .slot := by decide +kernel
  have hsplit : splitId "BaseException.__getattribute__" = some ("BaseException", "__getattribute__") := by decide +kernel
  unfold getAttr? getAttrBy? getAttrBy
  refine wpAny_bind (wpAny_mkText (wpAny_bind (wpAny_attempt (wpAny_holding (wpAny_bind (L0.at (wpAny_bind (L1.at ?_))))))))
  show wpAny _ _ (getAttrByItsOwn _ _ _ _ _ _) _ _ _
  unfold getAttrByItsOwn
  refine wpAny_bind (L2'.at (wpAny_bind (wpAny_attempt (wpAny_holding ?_))))
  unfold callGetattribute
  have hx0 : (false && onTheHeap (Value.builtin "BaseException.__getattribute__")) = false := rfl
  rw [hx0]
  unfold boundAndCalled
  show wpAny _ _ (bindSpecial _ _ >>= _) _ _ _
  rw [f3]
  refine wpAny_bind (wpAny_pure (wpAny_call (codeAny_call_builtin F.excAttr_ValueError.ga.plain F.entry_bexc_ga (@check_slot (model prog w) _ _ _ "BaseException.__getattribute__" "BaseException" "__getattribute__" (.ref x) [.str "__class__" t] [] _ hk hsplit Lb (F.args_bexc_ga _ _) ?_))))
  refine wpAny_bind (wpAny_pure (wpAny_bind (wpAny_pure (wpAny_bind (L0.at (wpAny_bind (L3.at ?_)))))))
  show wpAny _ _ (Builtin.ObjectAttr.bindTo (Value.builtin "getset_descriptor.__get__") (Value.builtin "object.__class__") (Value.ref x) (Value.ref C)) _ _ _
  show wpAny _ _ (holding [Value.builtin "object.__class__"] (call (Value.builtin "getset_descriptor.__get__") [Value.builtin "object.__class__", Value.ref x, Value.ref C]) >>= ret) _ _ _
  refine wpAny_bind (wpAny_holding (wpAny_call (class_get X I Ec.obj ?_)))
  refine wpAny_pure ?_
  show wpAny _ _ (handedOut (Value.ref C)) _ _ _
  rw [handedOut_of (v := Value.ref C) rfl]
  exact wpAny_pure (wpAny_pure hq)
theorem kitx_exc (Ec : ExCls K C) (ha : findIn K (.ref C) "__class__" = some (some (.builtin "object.__class__")))
    (hn : specialIn K (.builtin "object.__class__") "__get__" = some (some (.builtin "getset_descriptor.__get__"))) (htk : takesIn K (.builtin "object.__class__") = some true) : KitX K (.ref x) (.ref C) (fun h => InstAt h x ox C od) where
  ty := fun _ _ _ I => I.type
  it := fun _ _ X _ => by
    obtain ⟨cdD, hcD, _⟩ := Ec.cd
    unfold clsIn at hcD
    split at hcD
    · rename_i c' d' cd' sl' ho
      intro A' Q' E' s' k q
      unfold isType loadHead
      exact wpAny_bind (wpAny_loadPart (k _ _ (X _ _ ho)) (wpAny_pure q))
    · cases hcD
  ne := fun h tp dd its n sl X htp => by
    obtain ⟨cdD, hcD, _⟩ := Ec.cd
    refine Bool.eq_false_iff.mpr fun q => ?_
    have e : C = tp := Value.ref.inj (beq_iff_eq.mp q)
    subst e
    unfold clsIn at hcD
    split at hcD
    · rename_i c' d' cd' sl' ho
      have z := (X _ _ ho).symm.trans htp
      cases z
    · cases hcD
  ca := fun X I k => exc_class X I Ec ha hn htk k
end
structure IsCls (K : Frag) (C : Addr) : Prop where
  ha : findIn K (.ref C) "__class__" = some (some (.builtin "object.__class__"))
  hn : specialIn K (.builtin "object.__class__") "__get__" = some (some (.builtin "getset_descriptor.__get__"))
  htk : takesIn K (.builtin "object.__class__") = some true
noncomputable def rIsX (K : Frag) : List V → Hp → VK → Prop := fun xs H Q => ∃ x C dx fs b, H x = some (ExO x C (some dx)) ∧ H dx = some (XdO dx fs) ∧ ExCls K C ∧ IsCls K C ∧
  ((∃ n, xs = [.ref x, .ty n] ∧ kitOne K (.ref C) (.type n) = some b) ∨ ∃ D, xs = [.ref x, .ref D] ∧ kitOne K (.ref C) (.ref D) = some b) ∧ Q (.bl b) H
noncomputable def rNeF (K : Frag) : R2 := fun x y H Q => rEqD K false x y H Q ∨ (scal x y = true ∧ x = y ∧ Q (.bl false) H)
theorem kit_ref {K : Frag} {C D : Addr} {b : Bool} (h : subIn K (.ref C) (.ref D) = some b) (ty : typeIn K (.ref D) = some (.type "type")) (cl : (clsIn K D).isSome = true) (self : subIn K (.ref C) (.ref C) = some true) : kitOne K (.ref C) (.ref D) = some b := by
  unfold kitOne
  by_cases e : (Value.ref C == Value.ref D) = true
  · rw [if_pos e]
    have e2 : C = D := Value.ref.inj (beq_iff_eq.mp e)
    subst e2
    rw [self] at h
    exact h
  · rw [if_neg e]
    unfold kitCls
    simp only [cl, ty, beq_self_eq_true, Bool.and_self, if_true]
    exact h
end L2

set_option Elab.async false
set_option linter.all false
set_option maxRecDepth 100000
namespace L2
open PySem PySem.Spec PyProof.Rows
theorem ObjOk.here {P : Program} {w : World} {H : Hp} {h : Heap} {a : Addr} {o : HO} (x : ObjOk P w H h a o) : ∃ u, h.get? a = some u := by
  cases o with
  | lst xs => obtain ⟨_, _, _, _, e⟩ := x; exact ⟨_, e⟩
  | tup xs => obtain ⟨_, _, _, o, e, _⟩ := x; exact ⟨_, e⟩
  | dK kvs => obtain ⟨_, _, _, _, o, _, _, e, _⟩ := x; exact ⟨_, e⟩
  | dT kvs => obtain ⟨_, _, _, _, o, _, _, e, _⟩ := x; exact ⟨_, e⟩
  | set S n => obtain ⟨o, _, _, _, e, _⟩ := x; exact ⟨_, e⟩
  | ins C dx fs => obtain ⟨_, _, _, e, _⟩ := x; exact ⟨_, e⟩
  | own y => exact x
  | xd fs => obtain ⟨_, ⟨_, _, _, e, _⟩, _⟩ := x; exact ⟨_, e⟩
  | rng lo hi => obtain ⟨_, _, _, e⟩ := x; exact ⟨_, e⟩
  | frz ob u => obtain ⟨e, _⟩ := x; exact ⟨_, e⟩
  | tbl ps => exact ⟨_, x⟩
  | met f y => exact ⟨_, x⟩
  | ext φ => exact x.2.1
section
variable {X : Cx} {pins : List (Addr × Obj)} {σ : St} {H : Hp} {s : Shared} {h' : Heap}
theorem Inv.laidAt {a : Addr} {o : HO} {t' : Nat} (I : Inv X pins σ H s) (k : ∀ b u, s.heap.get? b = some u → h'.get? b = some u) (hp : s.heap.get? a = none) (new : ObjOk X.prog X.w (upd H a o) h' a o) :
    H a = none ∧ Inv X pins σ (upd H a o) { s with heap := h', toks := t' } := by
  have hn : H a = none := by
    cases q : H a with
    | none => rfl
    | some u => obtain ⟨v, e⟩ := ObjOk.here (I.hok a u q); rw [hp] at e; cases e
  refine ⟨hn, I.un ⟨fun b u e _ _ _ => k b u e, fun b u e _ _ _ => ⟨u.slots, k b u e⟩, fun b u e n _ => ?_, fun b u e _ => ⟨u, k b u e⟩, fun b xs e => ?_, fun b u xs e => ?_, fun b ps e => ?_⟩ fun b u e => ?_⟩
  · rw [upd_ne (fun z => by rw [z, hp] at e; cases e)]; exact n
  · rw [upd_ne (ne_of_none e hn)]; exact e
  · rw [upd_ne (ne_of_none e hn)]; exact e
  · exact ⟨#[], by rw [upd_ne (ne_of_none e hn), e]; simp⟩
  · by_cases z : b = a
    · subst z; rw [upd_same] at e; cases e; exact new
    · rw [upd_ne z] at e
      refine (I.hok b u e).stay (fun c v _ q => k c v q) (fun c q => ?_) fun c xs q => ?_
      · rw [upd_ne (ne_of_none q hn)]; exact q
      · rw [upd_ne (ne_of_none q hn)]; exact q
end
structure ExBare (K : PySem.W.Frag) (C : Addr) : Prop where
  cls : ∃ nm q N bs bm hdct sn sub ab col dd k0 k1 k2 k3 k5, K.lookup C = some (excClassObj nm q C N bs bm hdct sn sub ab col dd k0 k1 k2 k3 k5 "ValueError.__new__") ∧ bm.contains (.type "BaseException") = true ∧ (∀ h, K.In h → OwnTail h bmValue bm) ∧ ∀ h, K.In h → ∃ mN, h.Ns N mN ∧ mN "__init__" = none
noncomputable def tRaise0 (C : Addr) (E : XK) : TS := fun _ _ H => ∀ x, H x = none → E (.ref C) none (upd H x (ExO x C none))
section
variable {X : Cx} {E : XK} {C : Addr} {x : Str} {np cpos pos : Pos}
theorem ps_raise0 (M : ExBare X.K C) (hg : Gl (X.exc E) x) (hm : X.mg x = some (.ref C)) (hc : X.calm = true := by rfl) (hdb : (x == ("__debug__" : Str)) = false := by decide) :
    PS (X.exc E) (.Raise (some (.Call (.Name x np) [] [] cpos)) none pos) (tRaise0 C E) := by
  refine ⟨?_⟩
  intro pins s σ H D I h
  obtain ⟨nm, q, N, bs, bm, hdct, sn, sub, ab, col, dd, k0, k1, k2, k3, k5, hC, hb, T, hN⟩ := M.cls
  obtain ⟨mN, nsN, ni⟩ := hN _ I.kIn
  show wpAny (model X.prog X.w) X.A (exec _ X.env) _ (FlyW X E) s
  refine wpAny_Raise_call_subT F.excBase_ValueError hb (I.ok.hd hc) rfl ni (C := C) (nm := nm) (q := q) (N := N) (bs := bs) (hdct := hdct) (sn := sn) (sub := sub) (ab := ab) (col := col) (dd := dd) (k0 := k0) (k1 := k1) (k2 := k2) (k3 := k3) (k5 := k5) (ld_glob (X := X.exc E) I hg hm ⟨rfl, ?_⟩ hdb)
  refine PySem.evalArgs_none ⟨rfl, Nat.zero_le _, I.kIn _ _ hC, nsN, T _ I.kIn, fun h' e me => ?_⟩
  obtain ⟨t, he, _, _⟩ := me.there
  obtain ⟨hn, I2⟩ := I.unwish.laidAt (t' := s.toks) (a := e) (o := ExO e C none) me.keeps me.new (ExO.ok he rfl rfl rfl (show 6 ≤ 6 by decide))
  exact ⟨e, C, none, pins, σ, _, rfl, I2, upd_same, ⟨_, _, he, rfl, .inl rfl⟩, h e hn⟩
end
noncomputable def tTryO (K : PySem.W.Frag) (N i : Nat) (CE : Addr) (tb : (St → XK) → TS) (th : TS) : TS := fun D σ H =>
  tb (fun σ1 cls dx H1 => ∃ C, cls = .ref C ∧ Mch K C CE ∧ ∀ (x : Addr), H1 x = some (ExO x C dx) → th (behind D i) (σ1.set i (some (.ref x))) H1) D σ H
section
variable {X : Cx}
theorem ps_tryO {body suite : List Stmt} {b0 : Stmt} {x n : Str} {i : Nat} {CE : Addr} {tb : (St → XK) → TS} {th : TS} {np hpos pos : Pos} (hN : X.N.Nodup) (hi : X.N[i]? = some n) (hl : X.env.scope.names.lookup n = some .local) (hg : Gl X x) (hm : X.mg x = some (.ref CE))
    (hb : ∀ pn E', PSs ((X.pinned pn).excS E') body (tb E')) (hh : ∀ v, PSs (X.mark v) (b0 :: suite) th)
    (hst : X.stack = X.env :: X.outer := by rfl) (hfr : X.env.frame = some X.env.locals := by rfl) (hdb : (x == ("__debug__" : Str)) = false := by decide) :
    PS X (.Try body [.ExceptHandler (some (.Name x np)) (some n) (b0 :: suite) hpos] [] [] pos) (tTryO X.K X.N.length i CE tb th) := by
  refine ⟨?_⟩
  intro pins s σ H D I h
  refine wpAny_Try_except ?_
  refine wpAny_mono (hb (X.pn ++ pins) _ [] s σ H D (I.topin.wish _) h) (fun f s1 h1 => ?_) fun e s1 h1 => ?_
  · cases f with
    | next => obtain ⟨σ1, H1, I1, q⟩ := h1; exact wpAny_execs_nil ⟨σ1, H1, I1.unwish.unpin, q⟩
    | brk => obtain ⟨σ1, H1, I1, q⟩ := h1; exact ⟨σ1, H1, I1.unwish.unpin, q⟩
    | cont => obtain ⟨σ1, H1, I1, q⟩ := h1; exact ⟨σ1, H1, I1.unwish.unpin, q⟩
    | ret u => obtain ⟨v, σ1, H1, I1, r, q⟩ := h1; exact ⟨v, σ1, H1, I1.unwish.unpin, r, q⟩
  · obtain ⟨y, C0, d0, pins1, σ1, H1, rfl, I1, hy, tb1, C, ec, mc, q⟩ := h1
    cases ec
    refine fly_note (X := X.pinned (X.pn ++ pins)) I1 hst hfr I1.ok.frames hy tb1 fun s2 I2 t2 => fly_set (to := none) I2 hy t2 fun s3 I3 t3 => ?_
    obtain ⟨oe, vs, ge, hcl, hdi, hda, hz⟩ := ExO.get I3.hok hy
    have J3 : Inv X pins σ1 H1 s3 := I3.unpin
    refine wpAny_handleBy_cons (codeAny_handlers_test ?_) (by intro z; cases z)
    refine ld_glob (X := X.mark (.ref y)) (J3.mark _) hg hm ?_ hdb
    refine exc_matches J3.kIn mc ge hcl ?_
    refine codeAny_handlers_suite_as ?_
    refine fly_set (X := (X.pinned (X.pn ++ pins))) (to := none) I3 hy t3 fun s4 I4 t4 => ?_
    have J4 : Inv X pins σ1 H1 s4 := I4.unpin
    refine store_ok (X := X.mark (.ref y)) (J4.mark _) hN hi (.inl hl) (v := .ref y) rfl (fun s5 I5 => ?_) (.inr hl)
    refine wpAny_mono (hh (.ref y) pins s5 _ H1 (behind D i) I5 (q y hy)) (fun f s6 h6 => ?_) fun _ _ z => z.elim
    have go : ∀ {σ6 : St} {H6 : Hp} {P : Flow → Shared → Prop}, Inv (X.mark (.ref y)) pins σ6 H6 s6 → (∀ s7, Inv X pins (σ6.set i none) H6 s7 → P f s7) → wpAny (model X.prog X.w) X.A (do bindName X.env n .none; unbindBehindTheSuite X.env n hpos) (fun _ s7 => P f s7) X.xe s6 :=
      fun {σ6 H6 P} I6 k => name_gone (Inv.unmark I.ok.hd I6) hN hi hl k
    cases f with
    | next => obtain ⟨σ6, H6, I6, q6⟩ := h6; exact go (P := SP X pins D) I6 fun s7 I7 => ⟨_, H6, I7, q6⟩
    | brk => obtain ⟨σ6, H6, I6, q6⟩ := h6; exact go (P := SP X pins D) I6 fun s7 I7 => ⟨_, H6, I7, q6⟩
    | cont => obtain ⟨σ6, H6, I6, q6⟩ := h6; exact go (P := SP X pins D) I6 fun s7 I7 => ⟨_, H6, I7, q6⟩
    | ret u => obtain ⟨v, σ6, H6, I6, r, q6⟩ := h6; exact go (P := SP X pins D) I6 fun s7 I7 => ⟨v, _, H6, I7, r, q6⟩
end
section
open PySem.W
noncomputable def ExcAt (K : Frag) (H : Hp) (x C : Addr) : Prop := ∃ dx, H x = some (ExO x C dx) ∧ (∀ d, dx = some d → ∃ fs, H d = some (XdO d fs)) ∧ ExCls K C ∧ IsCls K C
theorem ExcAt.inst {X : Cx} {pins : List (Addr × Obj)} {σ : St} {H : Hp} {s : Shared} {x C : Addr} (I : Inv X pins σ H s) (h : ExcAt X.K H x C) : ∃ ox od, InstAt s.heap x ox C od ∧ ExCls X.K C ∧ IsCls X.K C := by
  obtain ⟨dx, hx, hd, Ec, Ic⟩ := h
  obtain ⟨ox, vs, ge, hcl, hdi, hda, _⟩ := ExO.get I.hok hx
  cases dx with
  | none => exact ⟨ox, none, ⟨ge, hcl, by unfold notCls; rw [hda], by rw [hdi]; trivial⟩, Ec, Ic⟩
  | some d =>
    obtain ⟨fs, hf⟩ := hd d rfl
    obtain ⟨mA, n, _, _⟩ := XdO.get I.hok hf
    obtain ⟨od, hod, hl⟩ := lookIn_ns n
    exact ⟨ox, some od, ⟨ge, hcl, by unfold notCls; rw [hda], by rw [hdi]; exact hod⟩, Ec, Ic⟩
noncomputable def rIsO (K : Frag) : List V → Hp → VK → Prop := fun xs H Q => ∃ x C b, ExcAt K H x C ∧
  ((∃ n, xs = [.ref x, .ty n] ∧ kitOne K (.ref C) (.type n) = some b) ∨ (∃ D, xs = [.ref x, .ref D] ∧ kitOne K (.ref C) (.ref D) = some b) ∨ ∃ (tp : Addr) (Ds : List Addr), xs = [.ref x, .ref tp] ∧ H tp = some (.tup (Ds.map V.ref)) ∧ kitAny K (.ref C) (Ds.map Value.ref) = some b) ∧ Q (.bl b) H
theorem vals_ref : ∀ {ns : List Addr} {us : List Value}, Vals (ns.map V.ref) us → us = ns.map Value.ref
  | [], _, .nil => rfl
  | n :: ns, _, .cons h t => by
    rw [vals_ref t, List.map_cons]
    congr 1
theorem call_isO {X : Cx} : CallR X (.builtin "isinstance") (rIsO X.K) := by
  intro pins s σ H xs us Q I r h
  obtain ⟨x, C, b, hx, hxs, q⟩ := h
  obtain ⟨ox, od, J, Ec, Ic⟩ := hx.inst I
  rcases hxs with ⟨n, rfl, e⟩ | ⟨D, rfl, e⟩ | ⟨tp, Ds, rfl, ht, e⟩
  · obtain ⟨u, w', rfl, ru, rw'⟩ := vals2 r
    cases ru; cases rw'
    exact kia_one (kitx_exc Ec Ic.ha Ic.hn Ic.htk) I.kIn J e (fun z => nomatch z) fun tk => ⟨.bl b, H, I.tok tk, rfl, q⟩
  · obtain ⟨u, w', rfl, ru, rw'⟩ := vals2 r
    cases ru; cases rw'
    exact kia_one (kitx_exc Ec Ic.ha Ic.hn Ic.htk) I.kIn J e (fun z => nomatch z) fun tk => ⟨.bl b, H, I.tok tk, rfl, q⟩
  · obtain ⟨u, w', rfl, ru, rw'⟩ := vals2 r
    cases ru; cases rw'
    obtain ⟨_, its2, r2, p⟩ := (show ObjOk X.prog X.w H s.heap tp (.tup (Ds.map V.ref)) from I.hok tp _ ht)
    obtain ⟨⟨oc, od', oda, osl⟩, h1, h2, n2, h3⟩ := p
    dsimp only at h2 h3
    subst h2 h3
    have hv := vals_ref r2
    subst hv
    exact kia_tup (kitx_exc Ec Ic.ha Ic.hn Ic.htk) I.kIn J h1 e (fun z => nomatch z) fun tk => ⟨.bl b, H, I.tok tk, rfl, q⟩
end
noncomputable def spInit1 (C : Addr) : Sp := fun vs H Q _ => ∃ x y, vs = [.ref x, y] ∧ H x = some (ExN x C none) ∧
  ∀ d H', d ≠ x → H d = none → (∀ b o, b ≠ x → H b = some o → H' b = some o) → H' x = some (ExN x C (some d)) → H' d = some (XdO d [("at", y)]) → Q .non H'
noncomputable def Fails1 (C : Addr) (H : Hp) (E : XK) (n : Int) : Prop := ∀ d H', Same H H' → H' d = some (XdO d [("at", .int n)]) → E (.ref C) (some d) H'
theorem Fails1.mono {C : Addr} {H H1 : Hp} {E : XK} {n : Int} (f : Fails1 C H E n) (s : Same H H1) : Fails1 C H1 E n := fun d H' g e => f d H' (s.trans g) e
theorem raised1 {C : Addr} {H : Hp} {E E' : XK} {n : Int} (f : Fails1 C H E n) : ∀ x, H x = none →
    spInit1 C [.ref x, .int n] (upd H x (ExN x C none)) (fun v H2 => v = .non ∧ ∃ d, H2 x = some (ExN x C (some d)) ∧ E (.ref C) (some d) (upd H2 x (ExO x C (some d)))) E' := by
  intro x hx
  refine ⟨x, _, rfl, upd_same, fun d H' dx hd kp ex ed => ⟨rfl, d, ex, f d _ (fun b o e => ?_) ?_⟩⟩
  · have nx : b ≠ x := ne_of_none e hx
    rw [upd_ne nx]
    exact kp b o nx (by rw [upd_ne nx]; exact e)
  · rw [upd_ne dx]; exact ed
theorem op_mulS {X : Cx} : OpR X (binaryOp .Mult) (fun x y H Q => ∃ (t : Str) (n : Int), x = .str t ∧ y = .int n ∧ MulOk t n ∧ Q (.str (Txt.mul t n)) H) := by
  intro pins s σ H x y v u Q I rx ry h
  obtain ⟨i, j, rfl, rfl, hz, q⟩ := h
  obtain ⟨t, rfl⟩ := rx
  obtain ⟨t', rfl⟩ := ry
  exact SB.mul hz fun t' k => ⟨.str (Txt.mul i j), H, I.tok _, ⟨_, rfl⟩, q⟩
end L2

set_option Elab.async false
set_option linter.all false
set_option maxRecDepth 100000
namespace L2
open PySem
noncomputable def Pen3 (H : Hp) (st : Addr) (m : Int) : Prop := ∃ c s t : Int, H st = some (.lst [.int c, .int s, .int t]) ∧ 0 ≤ c ∧ 0 ≤ t ∧ t ≤ m
structure Penned3 (st : Addr) (m : Int) (H H' : Hp) : Prop where
  pen : Pen3 H' st m
  keep : Keep st H H'
theorem Penned3.trans {st : Addr} {m n : Int} {H H1 H2 : Hp} (a : Penned3 st m H H1) (b : Penned3 st n H1 H2) : Penned3 st n H H2 := ⟨b.pen, a.keep.trans b.keep⟩
theorem Pen3.refl {st : Addr} {m : Int} {H : Hp} (d : Pen3 H st m) : Penned3 st m H H := ⟨d, Keep.refl st H⟩
theorem Pen3.is {H : Hp} {st : Addr} {m : Int} (d : Pen3 H st m) : ∃ xs, H st = some (.lst xs) := by
  obtain ⟨c, s, t, e, _⟩ := d
  exact ⟨_, e⟩
theorem Pen3.ne {st b : Addr} {m : Int} {H : Hp} (d : Pen3 H st m) (h : H b = none) : st ≠ b := by
  obtain ⟨xs, e⟩ := d.is
  exact ne_of_none e h
theorem Pen3.mono {st : Addr} {m n : Int} {H : Hp} (d : Pen3 H st m) (h : m ≤ n) : Pen3 H st n := by
  obtain ⟨c, s, t, e, a, b, k⟩ := d
  exact ⟨c, s, t, e, a, b, by (first | lia | omega)⟩
theorem Penned3.mono {st : Addr} {m n : Int} {H H' : Hp} (d : Penned3 st m H H') (h : m ≤ n) : Penned3 st n H H' := ⟨d.pen.mono h, d.keep⟩
theorem Pen3.same {st : Addr} {m : Int} {H H' : Hp} (d : Pen3 H st m) (h : Same H H') : Pen3 H' st m := by
  obtain ⟨c, s, t, e, r⟩ := d
  exact ⟨c, s, t, h _ _ e, r⟩
theorem Pen3.more {st : Addr} {m : Int} {H H' : Hp} (d : Pen3 H st m) (g : Same H H') : Penned3 st m H H' := ⟨d.same g, Keep.same g⟩
theorem Pen3.new {st p : Addr} {m : Int} {H : Hp} (d : Pen3 H st m) (h : H p = none) (o : HO) : Penned3 st m H (upd H p o) := d.more (same_new h o)
theorem Pen3.put {st p : Addr} {m : Int} {H : Hp} {o : HO} (d : Pen3 H st m) (n : p ≠ st) : Pen3 (upd H p o) st m := by
  obtain ⟨c, s, t, e, r⟩ := d
  exact ⟨c, s, t, (by rw [upd_ne (Ne.symm n)]; exact e), r⟩
theorem Penned3.free {st b : Addr} {m : Int} {H H' : Hp} (h : Penned3 st m H H') (e : H' b = none) : H b = none := by
  cases z : H b with
  | none => rfl
  | some o => rw [h.keep b o (Ne.symm (h.pen.ne e)) z] at e; cases e
theorem Penned3.putNew {st p : Addr} {m : Int} {H H' : Hp} {o : HO} (h : Penned3 st m H H') (nH : H p = none) (n : p ≠ st) : Penned3 st m H (upd H' p o) :=
  ⟨h.pen.put n, fun b o nb e => by rw [upd_ne (ne_of_none e nH)]; exact h.keep b o nb e⟩
noncomputable def spDraw3 : Sp := fun vs H Q _ => ∃ (st : Addr) (many m : Int), vs = [.ref st, .int many] ∧ 0 < many ∧ many < 1073741824 ∧ m ≤ 1000000 ∧ Pen3 H st m ∧ ∀ (r : Int) (H' : Hp), 0 ≤ r → r < many → Penned3 st (m + 1) H H' → Q (.int r) H'
end L2

set_option Elab.async false
set_option linter.all false
set_option maxRecDepth 100000
namespace L2
open PySem PySem.W PySem.W.X
theorem walkX_of {q : Program} {loose : List Str} {XP : (Str → Option Value) → Heap → Prop} {as : List Addr} {K : Params → Frag} {n t : Nat} {r : RowW} {d : DefRec} {kwd : List (Str × Expr)} {run : Value → List Value → Sem Value} (e : ∀ P, as = (K P).map (·.1))
    (h : WalkO q loose XP (fun w h => (K w.params).In h) r d kwd run) : WalkX q loose XP (obsZ as) (valZ K n t) r d kwd run := by
  intro w s₀ s₁ mg mb G y a o pm cd doc dV kV h1 h2 h3 h4 h5 h6 args vals as' L h7 h8 h9 h10 h11
  have Y : (K w.params).In s₁.heap := InK.keeps (K := K) w s₀.heap s₁.heap (z_facts e y).2.1 L.keeps
  exact h w s₀ s₁ mg mb G Y a o pm cd doc dV kV h1 h2 h3 h4 h5 h6 args vals as' h7 h8 h9 h10 h11
end L2











set_option Elab.async false
set_option linter.all false
set_option maxRecDepth 100000
namespace OcL
open PySem L2
noncomputable def top (i : Nat) : Stmt := PySem.Challenge.pw_ownchain_k13_no_codes_texts.main.body.getD i (.Pass ⟨0, 0, 0, 0⟩)
noncomputable abbrev s_NoSheet___init__ : Stmt := inClass (top 2) 0
noncomputable abbrev s_NoText___init__ : Stmt := inClass (top 3) 0
theorem sc_NoText___init__ : FnScope ["self", "at"] ["self", "at"] (defScope s_NoText___init__) := ⟨rfl, rfl, rfl, by decide +kernel, rfl, by decide +kernel, by decide +kernel⟩
noncomputable abbrev s_kind_of : Stmt := top 12
theorem sc_kind_of : FnScope ["word"] ["word"] (defScope s_kind_of) := ⟨rfl, rfl, rfl, by decide +kernel, rfl, by decide +kernel, by decide +kernel⟩
noncomputable abbrev s_is_whole : Stmt := top 19
theorem sc_is_whole : FnScope ["thing"] ["thing"] (defScope s_is_whole) := ⟨rfl, rfl, rfl, by decide +kernel, rfl, by decide +kernel, by decide +kernel⟩
noncomputable abbrev s_is_head : Stmt := top 35
theorem sc_is_head : FnScope ["head", "function", "many_rows", "start", "params", "boxes", "most_params"] ["head", "function", "many_rows"] (defScope s_is_head) := ⟨rfl, rfl, rfl, by decide +kernel, rfl, by decide +kernel, by decide +kernel⟩
noncomputable abbrev s_stands_alone : Stmt := top 36
theorem sc_stands_alone : FnScope ["op"] ["op"] (defScope s_stands_alone) := ⟨rfl, rfl, rfl, by decide +kernel, rfl, by decide +kernel, by decide +kernel⟩
noncomputable abbrev s_is_row : Stmt := top 37
theorem sc_is_row : FnScope ["row", "many_functions", "many_rows", "op", "number"] ["row", "many_functions", "many_rows"] (defScope s_is_row) := ⟨rfl, rfl, rfl, by decide +kernel, rfl, by decide +kernel, by decide +kernel⟩
noncomputable abbrev s_grouped : Stmt := top 38
theorem sc_grouped : FnScope ["numbers", "size"] ["numbers", "size"] (defScope s_grouped) := ⟨rfl, rfl, rfl, by decide +kernel, rfl, by decide +kernel, by decide +kernel⟩
noncomputable abbrev s_heads_in : Stmt := top 39
theorem sc_heads_in : FnScope ["numbers"] ["numbers"] (defScope s_heads_in) := ⟨rfl, rfl, rfl, by decide +kernel, rfl, by decide +kernel, by decide +kernel⟩
noncomputable abbrev s_rows_in : Stmt := top 40
theorem sc_rows_in : FnScope ["numbers"] ["numbers"] (defScope s_rows_in) := ⟨rfl, rfl, rfl, by decide +kernel, rfl, by decide +kernel, by decide +kernel⟩
noncomputable abbrev s_is_list_of_wholes : Stmt := top 41
theorem sc_is_list_of_wholes : FnScope ["thing"] ["thing"] (defScope s_is_list_of_wholes) := ⟨rfl, rfl, rfl, by decide +kernel, rfl, by decide +kernel, by decide +kernel⟩
noncomputable abbrev s_is_code : Stmt := top 42
theorem sc_is_code : FnScope ["thing", "many_numbers", "many_rows", "function", "head"] ["thing"] (defScope s_is_code) := ⟨rfl, rfl, rfl, by decide +kernel, rfl, by decide +kernel, by decide +kernel⟩
noncomputable abbrev s_joined : Stmt := top 43
theorem sc_joined : FnScope ["things", "size", "numbers", "thing"] ["things", "size"] (defScope s_joined) := ⟨rfl, rfl, rfl, by decide +kernel, rfl, by decide +kernel, by decide +kernel⟩
noncomputable abbrev s_code_of : Stmt := top 44
theorem sc_code_of : FnScope ["heads", "rows", "numbers", "code"] ["heads", "rows"] (defScope s_code_of) := ⟨rfl, rfl, rfl, by decide +kernel, rfl, by decide +kernel, by decide +kernel⟩
noncomputable abbrev s_is_written_in : Stmt := top 48
theorem sc_is_written_in : FnScope ["word", "signs", "sign"] ["word", "signs"] (defScope s_is_written_in) := ⟨rfl, rfl, rfl, by decide +kernel, rfl, by decide +kernel, by decide +kernel⟩
noncomputable abbrev s_is_number_of : Stmt := top 49
theorem sc_is_number_of : FnScope ["word", "most_figures", "figures"] ["word", "most_figures"] (defScope s_is_number_of) := ⟨rfl, rfl, rfl, by decide +kernel, rfl, by decide +kernel, by decide +kernel⟩
noncomputable abbrev s_is_number : Stmt := top 50
theorem sc_is_number : FnScope ["word"] ["word"] (defScope s_is_number) := ⟨rfl, rfl, rfl, by decide +kernel, rfl, by decide +kernel, by decide +kernel⟩
noncomputable abbrev s_read_head : Stmt := top 56
theorem sc_read_head : FnScope ["words", "at"] ["words", "at"] (defScope s_read_head) := ⟨rfl, rfl, rfl, by decide +kernel, rfl, by decide +kernel, by decide +kernel⟩
noncomputable abbrev s_most_figures : Stmt := top 57
theorem sc_most_figures : FnScope ["op"] ["op"] (defScope s_most_figures) := ⟨rfl, rfl, rfl, by decide +kernel, rfl, by decide +kernel, by decide +kernel⟩
noncomputable abbrev s_read_row : Stmt := top 58
theorem sc_read_row : FnScope ["words", "at", "kind", "op"] ["words", "at"] (defScope s_read_row) := ⟨rfl, rfl, rfl, by decide +kernel, rfl, by decide +kernel, by decide +kernel⟩
noncomputable abbrev s_read_code : Stmt := top 59
theorem sc_read_code : FnScope ["text", "heads", "rows", "at", "line", "words"] ["text"] (defScope s_read_code) := ⟨rfl, rfl, rfl, by decide +kernel, rfl, by decide +kernel, by decide +kernel⟩
noncomputable abbrev s__law_pen : Stmt := top 61
theorem sc__law_pen : FnScope ["_law_script", "_law_k", "_law_cell"] ["_law_script", "_law_k"] (defScope s__law_pen) := ⟨rfl, rfl, rfl, by decide +kernel, rfl, by decide +kernel, by decide +kernel⟩
noncomputable abbrev s__law_draw : Stmt := top 62
theorem sc__law_draw : FnScope ["_law_pen_here", "_law_many", "_law_drawn", "_law_number_here"] ["_law_pen_here", "_law_many"] (defScope s__law_draw) := ⟨rfl, rfl, rfl, by decide +kernel, rfl, by decide +kernel, by decide +kernel⟩
noncomputable abbrev s__law_number : Stmt := top 63
theorem sc__law_number : FnScope ["_law_pen_here", "_law_greats", "_law_way", "_law_great"] ["_law_pen_here", "_law_greats"] (defScope s__law_number) := ⟨rfl, rfl, rfl, by decide +kernel, rfl, by decide +kernel, by decide +kernel⟩
noncomputable abbrev s__law_row : Stmt := top 64
theorem sc__law_row : FnScope ["_law_pen_here", "_law_many", "_law_rows", "_law_greats", "_law_op", "_law_word", "_law_kind", "_law_words", "_law_number_here"] ["_law_pen_here", "_law_many", "_law_rows", "_law_greats"] (defScope s__law_row) := ⟨rfl, rfl, rfl, by decide +kernel, rfl, by decide +kernel, by decide +kernel⟩
noncomputable abbrev s__law_code : Stmt := top 65
theorem sc__law_code : FnScope ["_law_pen_here", "_law_most", "_law_longest", "_law_greats", "_law_many", "_law_rows", "_law_code_here", "_law_lines", "_law_k", "_law_params", "_law_head", "_law_op", "_law_number_here", "_law_line"] ["_law_pen_here", "_law_most", "_law_longest", "_law_greats"] (defScope s__law_code) := ⟨rfl, rfl, rfl, by decide +kernel, rfl, by decide +kernel, by decide +kernel⟩
noncomputable abbrev s__law_caught : Stmt := top 66
theorem sc__law_caught : FnScope ["_law_text", "_law_caught_here", "e"] ["_law_text"] (defScope s__law_caught) := ⟨rfl, rfl, rfl, by decide +kernel, rfl, by decide +kernel, by decide +kernel⟩
noncomputable abbrev s__law_bad_lines : Stmt := top 67
theorem sc__law_bad_lines : FnScope ["_law_is_head", "_law_some"] ["_law_is_head"] (defScope s__law_bad_lines) := ⟨rfl, rfl, rfl, by decide +kernel, rfl, by decide +kernel, by decide +kernel⟩
noncomputable abbrev s__law_line_exchanged : Stmt := top 68
theorem sc__law_line_exchanged : FnScope ["_law_pen_here", "_law_lines", "_law_many", "_law_at", "_law_bad", "_law_found", "_law_behind"] ["_law_pen_here", "_law_lines", "_law_many"] (defScope s__law_line_exchanged) := ⟨rfl, rfl, rfl, by decide +kernel, rfl, by decide +kernel, by decide +kernel⟩
noncomputable abbrev s__law_no_code : Stmt := top 69
theorem sc__law_no_code : FnScope ["_law_pen_here", "_law_lines", "_law_many", "_law_rows", "_law_far", "_law_heads", "_law_bad", "_law_way", "_law_at"] ["_law_pen_here", "_law_lines", "_law_many"] (defScope s__law_no_code) := ⟨rfl, rfl, rfl, by decide +kernel, rfl, by decide +kernel, by decide +kernel⟩
noncomputable abbrev s_law : Stmt := top 70
theorem sc_law : FnScope ["_law_script", "_law_k", "_law_pen_here", "_law_code_here", "_law_lines", "_law_turn", "_law_text", "_law_at", "_law_thing"] ["_law_script"] (defScope s_law) := ⟨rfl, rfl, rfl, by decide +kernel, rfl, by decide +kernel, by decide +kernel⟩
structure TxtS (K : PySem.W.Frag) (mg : Str → Option Value) : Prop where
  n_len : mg "len" = none
  m_FIGURES : GStr mg "FIGURES" "0123456789"
  m_MOST_FIGURES : GInt mg "MOST_FIGURES" 60
structure Txt (K : PySem.W.Frag) (mg : Str → Option Value) : Prop where
  n_len : mg "len" = none
  n_range : mg "range" = none
  n_all : mg "all" = none
  n_max : mg "max" = none
  n_enumerate : mg "enumerate" = none
  n_isinstance : mg "isinstance" = none
  n_int : mg "int" = none
  n_bool : mg "bool" = none
  n_tuple : mg "tuple" = none
  n_list : mg "list" = none
  m_ADD : GInt mg "ADD" 8
  m_NEW : GInt mg "NEW" 19
  m_MOST_FUNCTIONS : GInt mg "MOST_FUNCTIONS" 16
  m_MOST_PARAMS : GInt mg "MOST_PARAMS" 4
  m_MOST_BOXES : GInt mg "MOST_BOXES" 12
  m_MOST_MANY : GInt mg "MOST_MANY" 12
  m_LEAST_PICK : GInt mg "LEAST_PICK" 2
  m_OP_PUSH : GInt mg "OP_PUSH" 0
  m_OP_GET : GInt mg "OP_GET" 1
  m_OP_SET : GInt mg "OP_SET" 2
  m_OP_DROP : GInt mg "OP_DROP" 3
  m_OP_JUMP : GInt mg "OP_JUMP" 4
  m_OP_UNLESS : GInt mg "OP_UNLESS" 5
  m_OP_CALL : GInt mg "OP_CALL" 6
  m_OP_BACK : GInt mg "OP_BACK" 7
  m_OP_FAIL : GInt mg "OP_FAIL" 8
  m_OP_BREATH : GInt mg "OP_BREATH" 9
  m_OP_DO : GInt mg "OP_DO" 10
  m_OP_PICK : GInt mg "OP_PICK" 11
  m_HEAD_SIZE : GInt mg "HEAD_SIZE" 3
  m_ROW_SIZE : GInt mg "ROW_SIZE" 2
  kint : PySem.W.kitOne K (.type "int") (.type "int") = some true
  kbool : PySem.W.kitOne K (.type "int") (.type "bool") = some false
  klist : PySem.W.kitOne K (.type "list") (.type "list") = some true
  kal : PySem.W.kitAny K (.type "list") [.type "list", .type "tuple"] = some true
  kat : PySem.W.kitAny K (.type "tuple") [.type "list", .type "tuple"] = some true
  ktup : PySem.W.kitOne K (.type "tuple") (.type "tuple") = some true

section
variable {P : Program} {w : World} {K : PySem.W.Frag} {mg : Str → Option Value} {base : Heap} {f : Addr} {fd : FuncData}
set_option maxHeartbeats 4000000

theorem sign_in (c : Nat) (x : Str) : (!(Builtin.Str.occurrences x ⟨#[c]⟩ 0 x.length 1).isEmpty) = decide (c ∈ x.cps.toList) := StrLaws.found_one x c
noncomputable def inAll (w sg : Str) : Bool := w.cps.toList.all fun c => decide (c ∈ sg.cps.toList)
noncomputable def spWrittenIn : Sp := fun vs H Q _ => ∃ w sg : Str, vs = [.str w, .str sg] ∧ Q (.bl (inAll w sg)) H
theorem ok_written_in (F : Fun K "is_written_in" "is_written_in" s_is_written_in f fd) : FnOk P w K mg base (CXE P w) 1 f fd ["word", "signs"] spWrittenIn := by
  refine F.okN sc_is_written_in (fun vs H Q E h => ?_) (fun cdv A outer s H vs Q E hr h => ?_)
  · obtain ⟨x, sg, rfl, _⟩ := h
    rfl
  obtain ⟨x, sg, rfl, q⟩ := h
  refine ⟨_, (pss_cons (ps_for PassesOwn.never rfl (pi_str (pv 0)) (pg_name (i := 2) sc_is_written_in.nd rfl (Or.inl rfl)) (pss_one (ps_if (pt_cmpR op_notin_str (pv 2) (pv 1) rfl) (pss_one (ps_ret pe_bl)) pss_nil)))
      (pss_one (ps_ret pe_bl))), ?_⟩
  try dsimp only [Cx.nox, Cx.exc, Cx.wish, cxOf_K]
  refine ⟨_, rfl, x, rfl, for_str (fun i σ' H' => (∃ v2, σ' = [some (.str x), some (.str sg), v2]) ∧ H' = H ∧ ∀ j c, j < i → x.cps[j]? = some c → c ∈ sg.cps.toList) ⟨⟨_, rfl⟩, rfl, fun j c hj => absurd hj (Nat.not_lt_zero _)⟩ ?_ ?_⟩
  · rintro i c σ' H' hc ⟨⟨v2, rfl⟩, rfl, hi⟩
    refine ⟨_, rfl, _, rfl, _, _, rfl, rfl, _, rfl, ?_⟩
    rw [sign_in]
    by_cases m : c ∈ sg.cps.toList
    · rw [decide_eq_true m]
      refine iteF ⟨⟨_, rfl⟩, rfl, fun j d hj hd => ?_⟩
      by_cases z : j = i
      · subst z
        rw [hc] at hd
        cases hd
        exact m
      · exact hi j d (by (first | lia | omega)) hd
    · rw [decide_eq_false m]
      refine iteT ?_
      have : inAll x sg = false := by
        unfold inAll
        rw [List.all_eq_false]
        refine ⟨c, ?_, by rw [decide_eq_false m]; exact Bool.false_ne_true⟩
        rw [← Array.getElem?_toList] at hc
        exact List.mem_of_getElem? hc
      rw [this] at q
      exact q
  · rintro σ' H' ⟨⟨v2, rfl⟩, rfl, hi⟩
    have : inAll x sg = true := by
      unfold inAll
      rw [List.all_eq_true]
      intro c hc
      obtain ⟨j, hj⟩ := List.getElem?_of_mem hc
      rw [Array.getElem?_toList] at hj
      have hl : j < x.cps.size := by
        rw [Array.getElem?_eq_some_iff] at hj
        exact hj.1
      exact decide_eq_true (hi j c hl hj)
    rw [this] at q
    exact q

noncomputable def figS (x : Str) : Str := match x.cps.toList with
  | 45 :: r => ⟨r.toArray⟩
  | _ => x
theorem minus_one : (Str.ofString "-") = ⟨#[45]⟩ := by decide
theorem starts_minus (x : Str) : (decide (0 + (Str.ofString "-").length ≤ x.length) && Builtin.Str.subAt x (Str.ofString "-") 0) = true ↔ x.cps.toList[0]? = some 45 := by
  rw [Bool.and_eq_true_iff, decide_eq_true_eq, minus_one]
  exact StrLaws.subAt_one x 45 0
theorem figS_minus {x : Str} {r : List Nat} (h : x.cps.toList = 45 :: r) : figS x = ⟨r.toArray⟩ ∧ Txt.slice x (some 1) none = ⟨r.toArray⟩ := by
  constructor
  · unfold figS
    rw [h] <;> rfl
  · have hl : x.cps.toList.length = x.length := Array.length_toList
    rw [h, List.length_cons] at hl
    have e := eq_of_beq (PyProof.Rows.slice_closes_fromL (x := x) (i := 1) (b := (x.length : Int)) (by decide) (by (first | lia | omega)) rfl)
    rw [e, h]
    show (⟨((45 :: r).drop 1 |>.take ((x.length : Int) - 1).toNat).toArray⟩ : Str) = _
    rw [List.drop_one, List.tail_cons, List.take_of_length_le (by (first | lia | omega))]
theorem figS_plain {x : Str} (h : ¬ x.cps.toList[0]? = some 45) : figS x = x := by
  unfold figS
  split
  · rename_i r e
    rw [e] at h
    exact absurd rfl h
  · rfl
theorem figS_len (x : Str) : (figS x).length ≤ x.length := by
  by_cases c : x.cps.toList[0]? = some 45
  · obtain ⟨r, er⟩ : ∃ r, x.cps.toList = 45 :: r := by
      cases e : x.cps.toList with
      | nil => rw [e] at c; cases c
      | cons a r => rw [e] at c; cases c; exact ⟨r, rfl⟩
    have hl : x.cps.toList.length = x.length := Array.length_toList
    rw [er, List.length_cons] at hl
    rw [(figS_minus er).1]
    show r.toArray.size ≤ _
    rw [List.size_toArray]
    (first | lia | omega)
  · rw [figS_plain c]
    exact Nat.le_refl _
noncomputable def numOk (x : Str) (most : Int) : Bool := decide (1 ≤ (figS x).length) && decide (((figS x).length : Int) ≤ most) && inAll (figS x) "0123456789" && (decide (x = "0") || !decide ((figS x).cps.toList[0]? = some 48))
noncomputable def spNumOf : Sp := fun vs H Q _ => ∃ (x : Str) (most : Int), vs = [.str x, .int most] ∧ x.length ≤ sizeLine ∧ Q (.bl (numOk x most)) H
theorem ok_number_of (T : TxtS K mg) (F : Fun K "is_number_of" "is_number_of" s_is_number_of f fd) (Cis_written_in : Cal P w K mg base (CXE P w) 1 "is_written_in" ["word", "signs"] spWrittenIn) : FnOk P w K mg base (CXE P w) 2 f fd ["word", "most_figures"] spNumOf := by
  refine F.okN sc_is_number_of (fun vs H Q E h => ?_) (fun cdv A outer s H vs Q E hr h => ?_)
  · obtain ⟨x, m, rfl, _⟩ := h
    rfl
  obtain ⟨x, most, rfl, hz, q⟩ := h
  refine ⟨_, (pss_cons (ps_cut (ps_set (i := 2) sc_is_number_of.nd rfl (Or.inl rfl) (pe_ifExp (pt_val (pe_bm PySem.F.plainAttrs_str PySem.F.slot_str_startswith PySem.F.type_str_startswith mt_starts (pv 0) (pa_cons pe_str pa_nil))) (pe_slice sl_str (pv 0) (po_some pe_int) po_none) (pv 0))))
      (pss_cons (ps_if (PW.pt (pw_or (pt_cmpR op_lt (pe_callB call_len_str rfl T.n_len bt_len (pa_cons (pv 2) pa_nil)) pe_int (nomark _)) (pw_or (pt_cmpR op_gt (pe_callB call_len_str rfl T.n_len bt_len (pa_cons (pv 2) pa_nil)) (pv 1) (nomark _)) (pw_or1 (pt_not (pt_val (pe_callC Cis_written_in hr rfl (pa_cons (pv 2) (pa_cons (pe_gstr rfl T.m_FIGURES) pa_nil)) passN))))))) (pss_one (ps_ret pe_bl)) pss_nil)
      (pss_one (ps_ret (pe_or (pe_cmpR op_eq (pv 0) pe_str (nomark _)) (pe_one (pe_cmpR op_ne (pe_ix ix_str (pv 2) pe_int (fun _ _ => rfl)) pe_str (nomark _)))))))), ?_⟩
  try dsimp only [Cx.nox, Cx.exc, Cx.wish, cxOf_K]
  refine ⟨fun σ' H' => σ' = [some (.str x), some (.int most), some (.str (figS x))] ∧ H' = H, ?_, ?_⟩
  · refine ⟨_, rfl, rfl, x, _, rfl, rfl, _, rfl, ite2 (fun c => ?_) (fun c => ?_)⟩
    · have c' := (starts_minus x).mp c
      obtain ⟨r, er⟩ : ∃ r, x.cps.toList = 45 :: r := by
        cases e : x.cps.toList with
        | nil => rw [e] at c'; cases c'
        | cons a r => rw [e] at c'; cases c'; exact ⟨r, rfl⟩
      obtain ⟨e1, e2⟩ := figS_minus er
      refine ⟨_, rfl, _, rfl, x, rfl, hz, ?_⟩
      rw [e2, e1]
      exact ⟨rfl, rfl⟩
    · rw [figS_plain (fun z => c ((starts_minus x).mpr z))]
      exact ⟨_, rfl, rfl, rfl⟩
  rintro _ _ ⟨rfl, rfl⟩
  rename_i H
  have no : ∀ {b : Bool}, numOk x most = b → Q (.bl b) H := fun e => by rw [← e]; exact q
  have hzf : (figS x).length ≤ sizeLine := Nat.le_trans (figS_len x) hz
  refine ⟨_, rfl, _, rfl, hzf, _, _, rfl, rfl, _, rfl, ite2 (fun c1 => ?_) (fun c1 => ?_)⟩
  · exact iteT (no (by
      have := of_decide_eq_true c1
      unfold numOk
      rw [decide_eq_false (by (first | lia | omega))]
      rfl))
  have l1 : 1 ≤ (figS x).length := by
    have n1 : ¬ ((figS x).length : Int) < 1 := fun z => c1 (decide_eq_true z)
    (first | lia | omega)
  refine ⟨_, rfl, _, rfl, hzf, _, rfl, _, _, rfl, rfl, _, rfl, ite2 (fun c2 => ?_) (fun c2 => ?_)⟩
  · exact iteT (no (by
      have := of_decide_eq_true c2
      unfold numOk
      rw [decide_eq_false (show ¬ ((figS x).length : Int) ≤ most by (first | lia | omega)), Bool.and_false]
      rfl))
  have l2 : ((figS x).length : Int) ≤ most := by
    have n2 : ¬ most < ((figS x).length : Int) := fun z => c2 (decide_eq_true z)
    (first | lia | omega)
  have e0 : numOk x most = (inAll (figS x) "0123456789" && (decide (x = "0") || !decide ((figS x).cps.toList[0]? = some 48))) := by
    unfold numOk
    rw [decide_eq_true l1, decide_eq_true l2]
    rfl
  refine ⟨_, rfl, figS x, _, rfl, _, rfl, ?_⟩
  cases ci : inAll (figS x) "0123456789" with
  | false => exact iteT (no (by rw [e0, ci]; rfl))
  | true =>
    have hl : (figS x).cps.toList.length = (figS x).length := Array.length_toList
    obtain ⟨c0, r, ec⟩ : ∃ c0 r, (figS x).cps.toList = c0 :: r := by
      cases e : (figS x).cps.toList with
      | nil => rw [e] at hl; have : ([] : List Nat).length = 0 := rfl; (first | lia | omega)
      | cons a r => exact ⟨a, r, rfl⟩
    rw [ci, ec] at e0
    refine iteF ⟨_, rfl, rfl, _, rfl, ite2 (fun c => ?_) (fun c => ?_)⟩
    · have ex : x = "0" := by
        have := of_decide_eq_true c
        injection this
      exact no (by rw [e0, decide_eq_true ex]; rfl)
    · have nx : ¬ x = "0" := fun z => c (decide_eq_true (congrArg V.str z))
      have ez : (Str.ofString "0") = ⟨#[48]⟩ := by decide
      refine ⟨_, rfl, figS x, 0, c0, rfl, rfl, hzf, (by rw [ec]; exact atI_nat (xs := c0 :: r) (j := 0) rfl), rfl, ?_⟩
      refine no ?_
      rw [e0, decide_eq_false nx]
      show (true && (false || !decide (some c0 = some 48))) = !decide (V.str ⟨#[c0]⟩ = V.str (Str.ofString "0"))
      rw [ez]
      by_cases z : c0 = 48
      · subst z; decide
      · rw [decide_eq_false (fun h => z (by injection h)), decide_eq_false (fun h => z (by injection h with h; injection h with h; injection h with h; injection h with h))]
        rfl

theorem figS_num (n : Int) : (figS (numS n)).cps.toList = digs n.natAbs := by
  rcases numS_cps n with ⟨_, e⟩ | ⟨_, e⟩
  · rw [figS_plain (fun z => ?_), e]
    obtain ⟨c, r, ed, _⟩ := digs_head n.natAbs
    have := digs_all n.natAbs c (by rw [ed]; exact List.mem_cons_self)
    rw [e, ed] at z
    cases z
    (first | lia | omega)
  · rw [(figS_minus e).1]
theorem figures_are : (Str.ofString "0123456789").cps.toList = [48, 49, 50, 51, 52, 53, 54, 55, 56, 57] := by decide
theorem figure_in {c : Nat} (h : 48 ≤ c ∧ c ≤ 57) : c ∈ (Str.ofString "0123456789").cps.toList := by
  rw [figures_are]
  have : c = 48 ∨ c = 49 ∨ c = 50 ∨ c = 51 ∨ c = 52 ∨ c = 53 ∨ c = 54 ∨ c = 55 ∨ c = 56 ∨ c = 57 := by (first | lia | omega)
  simpa using this
theorem numOk_num {n : Int} {k : Nat} {most : Int} (h : n.natAbs < 10 ^ (k + 1)) (hk : ((k + 1 : Nat) : Int) ≤ most) : numOk (numS n) most = true := by
  have ef := figS_num n
  have hl : (figS (numS n)).cps.toList.length = (figS (numS n)).length := Array.length_toList
  obtain ⟨c, r, ed, hn⟩ := digs_head n.natAbs
  have dl := digs_len h
  rw [ef] at hl
  have l1 : 1 ≤ (digs n.natAbs).length := by rw [ed]; exact Nat.succ_le_succ (Nat.zero_le _)
  have ia : inAll (figS (numS n)) "0123456789" = true := by
    unfold inAll
    rw [ef, List.all_eq_true]
    intro d hd
    exact decide_eq_true (figure_in (digs_all _ d hd))
  unfold numOk
  rw [decide_eq_true (by (first | lia | omega)), decide_eq_true (by (first | lia | omega)), ia, ef, ed]
  by_cases z : n = 0
  · subst z
    rw [decide_eq_true (show numS 0 = ("0" : Str) by decide)]
    rfl
  · have : c ≠ 48 := hn (by (first | lia | omega))
    rw [decide_eq_false (show ¬ (c :: r)[0]? = some 48 from fun e => this (by injection e))]
    simp
theorem num_signs {n : Int} {c : Nat} (h : c ∈ (numS n).cps.toList) : c = 45 ∨ (48 ≤ c ∧ c ≤ 57) := by
  rcases numS_cps n with ⟨_, e⟩ | ⟨_, e⟩
  · rw [e] at h
    exact .inr (digs_all _ c h)
  · rw [e] at h
    rcases List.mem_cons.mp h with z | z
    · exact .inl z
    · exact .inr (digs_all _ c z)
noncomputable def spNum : Sp := fun vs H Q _ => ∃ x : Str, vs = [.str x] ∧ x.length ≤ sizeLine ∧ Q (.bl (numOk x 60)) H
theorem ok_number (T : TxtS K mg) (F : Fun K "is_number" "is_number" s_is_number f fd) (Cis_number_of : Cal P w K mg base (CXE P w) 2 "is_number_of" ["word", "most_figures"] spNumOf) : FnOk P w K mg base (CXE P w) 3 f fd ["word"] spNum := by
  refine F.okN sc_is_number (fun vs H Q E h => ?_) (fun cdv A outer s H vs Q E hr h => ?_)
  · obtain ⟨x, rfl, _⟩ := h
    rfl
  obtain ⟨x, rfl, hz, q⟩ := h
  refine ⟨_, (pss_one (ps_ret (pe_callC Cis_number_of hr rfl (pa_cons (pv 0) (pa_cons (pe_gint rfl T.m_MOST_FIGURES) pa_nil)) passN))), ?_⟩
  try dsimp only [Cx.nox, Cx.exc, Cx.wish, cxOf_K]
  exact ⟨_, rfl, x, 60, rfl, hz, q⟩

theorem ok_whole (T : Txt K mg) (F : Fun K "is_whole" "is_whole" s_is_whole f fd) : FnOk P w K mg base (CXE P w) 1 f fd ["thing"] spWhole := by
  refine F.okN sc_is_whole (fun vs H Q E h => ?_) (fun cdv A outer s H vs Q E hr h => ?_)
  · obtain ⟨i, rfl, _⟩ := h
    rfl
  obtain ⟨i, rfl, q⟩ := h
  refine ⟨_, (pss_one (ps_ret (pe_and (pe_callB call_isi rfl T.n_isinstance bt_isinstance (pa_cons (pv 0) (pa_cons (pe_bltn (v := .ty "int") rfl T.n_int bt_int rfl) pa_nil))) (pe_one (pe_not (pe_callB call_isi rfl T.n_isinstance bt_isinstance (pa_cons (pv 0) (pa_cons (pe_bltn (v := .ty "bool") rfl T.n_bool bt_bool rfl) pa_nil)))))))), ?_⟩
  try dsimp only [Cx.nox, Cx.exc, Cx.wish, cxOf_K]
  refine ⟨_, rfl, .inl ⟨_, _, _, true, rfl, .int i, T.kint, _, rfl, iteT ?_⟩⟩
  exact ⟨_, rfl, .inl ⟨_, _, _, false, rfl, .int i, T.kbool, _, rfl, q⟩⟩
theorem ok_is_head (T : Txt K mg) (F : Fun K "is_head" "is_head" s_is_head f fd) : FnOk P w K mg base (CXE P w) 1 f fd ["head", "function", "many_rows"] spIsHead := by
  refine F.okN sc_is_head (fun vs H Q E h => ?_) (fun cdv A outer s H vs Q E hr h => ?_)
  · obtain ⟨t, s, p, b, fn, nr, rfl, _⟩ := h
    rfl
  obtain ⟨t, s, p, b, fn, nr, rfl, ht, q⟩ := h
  refine ⟨_, (pss_cons (ps_asg (pv 0) (pg_tup rfl (pgs_cons (pg_name (i := 3) sc_is_head.nd rfl (Or.inl rfl)) (pgs_cons (pg_name (i := 4) sc_is_head.nd rfl (Or.inl rfl)) (pgs_cons (pg_name (i := 5) sc_is_head.nd rfl (Or.inl rfl)) pgs_nil)))))
      (pss_cons (ps_if (PW.pt (pw_or (pt_cmpR op_lt (pv 3) pe_int (nomark _)) (pw_or1 (pt_cmpR op_ge (pv 3) (pv 2) (nomark _))))) (pss_one (ps_ret pe_bl)) pss_nil)
      (pss_cons (ps_set (i := 6) sc_is_head.nd rfl (Or.inl rfl) (pe_ifExp (pt_cmpR op_eq (pv 1) pe_int (nomark _)) pe_int (pe_gint rfl T.m_MOST_PARAMS)))
      (pss_one (ps_ret (pe_and (pe_chain op_le op_le pe_int (pv 4) (pv 6)) (pe_one (pe_chain op_le op_le (pv 4) (pv 5) (pe_gint rfl T.m_MOST_BOXES))))))))), ?_⟩
  try dsimp only [Cx.nox, Cx.exc, Cx.wish, cxOf_K]
  refine ⟨_, rfl, t, _, rfl, SqT.of ht, rfl, _, _, rfl, _, _, rfl, _, _, rfl, rfl, ?_⟩
  have no : ∀ {z : Prop}, z → (z → ¬ HeadOk s p b fn nr) → Q (.bl false) H := fun c g => q false ⟨fun e => (nomatch e), fun e => absurd e (g c)⟩
  refine ⟨_, rfl, _, _, rfl, rfl, _, rfl, ite2 (fun c => ?_) (fun c => ?_)⟩
  · exact iteT (no (of_decide_eq_true c) fun c e => by obtain ⟨e, _⟩ := e; (first | lia | omega))
  have c1 := df c
  refine ⟨_, rfl, _, rfl, _, _, rfl, rfl, _, rfl, ite2 (fun c => ?_) (fun c => ?_)⟩
  · exact no (of_decide_eq_true c) fun c e => by obtain ⟨_, e, _⟩ := e; (first | lia | omega)
  have c2 := df c
  refine ⟨_, rfl, rfl, _, rfl, ite2 (fun c3 => ?_) (fun c3 => ?_)⟩
  · have e := vt c3
    dsimp only [tC, gName, tRet, tAndV]
    refine chain_le 0 p 0 (fun R h => h) (fun R h => ⟨_, rfl, h⟩) (fun R h => ⟨_, rfl, h⟩) fun r z => ⟨_, rfl, ite2 (fun c => ?_) (fun c => ?_)⟩
    · have c' := z.mp c
      exact chain_le p b 12 (fun R h => ⟨_, rfl, h⟩) (fun R h => ⟨_, rfl, h⟩) (fun R h => h) fun r z => q r (z.trans (by unfold HeadOk; (first | lia | omega)))
    · exact no (fun y => c (z.mpr y)) fun c y => c (by unfold HeadOk at y; (first | lia | omega))
  · have e := vf c3
    dsimp only [tC, gName, tRet, tAndV]
    refine chain_le 0 p 4 (fun R h => h) (fun R h => ⟨_, rfl, h⟩) (fun R h => ⟨_, rfl, h⟩) fun r z => ⟨_, rfl, ite2 (fun c => ?_) (fun c => ?_)⟩
    · have c' := z.mp c
      exact chain_le p b 12 (fun R h => ⟨_, rfl, h⟩) (fun R h => ⟨_, rfl, h⟩) (fun R h => h) fun r z => q r (z.trans (by unfold HeadOk; (first | lia | omega)))
    · exact no (fun y => c (z.mpr y)) fun c y => c (by unfold HeadOk at y; (first | lia | omega))
theorem ok_alone (T : Txt K mg) (F : Fun K "stands_alone" "stands_alone" s_stands_alone f fd) : FnOk P w K mg base (CXE P w) 1 f fd ["op"] spAlone := by
  refine F.okN sc_stands_alone (fun vs H Q E h => ?_) (fun cdv A outer s H vs Q E hr h => ?_)
  · obtain ⟨op, rfl, _⟩ := h
    rfl
  obtain ⟨op, rfl, q⟩ := h
  refine ⟨_, (pss_one (ps_ret (pe_cmpR op_in_seq (pv 0) (pe_tup (pa_cons (pe_gint rfl T.m_OP_DROP) (pa_cons (pe_gint rfl T.m_OP_BACK) (pa_cons (pe_gint rfl T.m_OP_FAIL) (pa_cons (pe_gint rfl T.m_OP_BREATH) pa_nil))))) rfl))), ?_⟩
  try dsimp only [Cx.nox, Cx.exc, Cx.wish, cxOf_K]
  refine ⟨_, rfl, small (show 4 ≤ 1000 by decide), fun u hu => ⟨u, _, rfl, .inr (SqT.of upd_same), rfl, rfl, q _ _ (same_new hu _) ?_⟩⟩
  have ei : (if false = true then !inV (.int op) ([3, 7, 8, 9].map V.int) else inV (.int op) ([3, 7, 8, 9].map V.int)) = decide (op ∈ [(3 : Int), 7, 8, 9]) := inV_ints op [3, 7, 8, 9]
  have em : op ∈ [(3 : Int), 7, 8, 9] ↔ op = 3 ∨ op = 7 ∨ op = 8 ∨ op = 9 := by simp
  rw [← em]
  exact ⟨fun c => of_decide_eq_true (ei ▸ c), fun c => ei.trans (decide_eq_true c)⟩
theorem ok_is_row (T : Txt K mg) (F : Fun K "is_row" "is_row" s_is_row f fd) (Cstands_alone : Cal P w K mg base (CXE P w) 1 "stands_alone" ["op"] spAlone) : FnOk P w K mg base (CXE P w) 2 f fd ["row", "many_functions", "many_rows"] spIsRow := by
  refine F.okN sc_is_row (fun vs H Q E h => ?_) (fun cdv A outer s H vs Q E hr h => ?_)
  · obtain ⟨t, op, n, nf, nr, rfl, _⟩ := h
    rfl
  obtain ⟨t, op, n, nf, nr, rfl, ht, q⟩ := h
  refine ⟨_, (pss_cons (ps_asg (pv 0) (pg_tup rfl (pgs_cons (pg_name (i := 3) sc_is_row.nd rfl (Or.inl rfl)) (pgs_cons (pg_name (i := 4) sc_is_row.nd rfl (Or.inl rfl)) pgs_nil))))
      (pss_cons (ps_if (pt_cmpR op_eq (pv 3) (pe_gint rfl T.m_OP_PUSH) (nomark _)) (pss_one (ps_ret pe_bl)) pss_nil)
      (pss_cons (ps_if (PW.pt (pw_or (pt_cmpR op_eq (pv 3) (pe_gint rfl T.m_OP_GET) (nomark _)) (pw_or1 (pt_cmpR op_eq (pv 3) (pe_gint rfl T.m_OP_SET) (nomark _))))) (pss_one (ps_ret (pe_chain op_le op_lt pe_int (pv 4) (pe_gint rfl T.m_MOST_BOXES)))) pss_nil)
      (pss_cons (ps_if (PW.pt (pw_or (pt_cmpR op_eq (pv 3) (pe_gint rfl T.m_OP_JUMP) (nomark _)) (pw_or1 (pt_cmpR op_eq (pv 3) (pe_gint rfl T.m_OP_UNLESS) (nomark _))))) (pss_one (ps_ret (pe_chain op_le op_lt pe_int (pv 4) (pv 2)))) pss_nil)
      (pss_cons (ps_if (pt_cmpR op_eq (pv 3) (pe_gint rfl T.m_OP_CALL) (nomark _)) (pss_one (ps_ret (pe_chain op_le op_lt pe_int (pv 4) (pv 1)))) pss_nil)
      (pss_cons (ps_if (pt_cmpR op_eq (pv 3) (pe_gint rfl T.m_OP_DO) (nomark _)) (pss_one (ps_ret (pe_chain op_le op_le (pe_gint rfl T.m_ADD) (pv 4) (pe_gint rfl T.m_NEW)))) pss_nil)
      (pss_cons (ps_if (pt_cmpR op_eq (pv 3) (pe_gint rfl T.m_OP_PICK) (nomark _)) (pss_one (ps_ret (pe_chain op_le op_le (pe_gint rfl T.m_LEAST_PICK) (pv 4) (pe_gint rfl T.m_MOST_MANY)))) pss_nil)
      (pss_one (ps_ret (pe_and (pe_callC Cstands_alone hr rfl (pa_cons (pv 3) pa_nil) passN) (pe_one (pe_cmpR op_eq (pv 4) pe_int (nomark _))))))))))))), ?_⟩
  try dsimp only [Cx.nox, Cx.exc, Cx.wish, cxOf_K]
  refine ⟨_, rfl, t, _, rfl, SqT.of ht, rfl, _, _, rfl, _, _, rfl, rfl, ?_⟩
  have go : ∀ (r : Bool), (r = true ↔ RowOk op n nf nr) → Q (.bl r) H := fun r e => q r H (Same.refl H) e
  refine ⟨_, rfl, rfl, _, rfl, ite2 (fun c => ?_) (fun c => ?_)⟩
  · have e := vt c
    exact go true ⟨fun _ => .inl e, fun _ => rfl⟩
  have n0 := vf c
  refine ⟨_, rfl, rfl, _, rfl, ite2 (fun c => iteT ?_) (fun c => ?_)⟩
  · have e := vt c
    exact chain_lt 0 n 12 (fun R h => h) (fun R h => ⟨_, rfl, h⟩) (fun R h => h) fun r z => go r (z.trans (by unfold RowOk; (first | lia | omega)))
  have n1 := vf c
  refine ⟨_, rfl, rfl, _, rfl, ite2 (fun c => ?_) (fun c => ?_)⟩
  · have e := vt c
    exact chain_lt 0 n 12 (fun R h => h) (fun R h => ⟨_, rfl, h⟩) (fun R h => h) fun r z => go r (z.trans (by unfold RowOk; (first | lia | omega)))
  have n2 := vf c
  refine ⟨_, rfl, rfl, _, rfl, ite2 (fun c => iteT ?_) (fun c => ?_)⟩
  · have e := vt c
    exact chain_lt 0 n nr (fun R h => h) (fun R h => ⟨_, rfl, h⟩) (fun R h => ⟨_, rfl, h⟩) fun r z => go r (z.trans (by unfold RowOk; (first | lia | omega)))
  have n4 := vf c
  refine ⟨_, rfl, rfl, _, rfl, ite2 (fun c => ?_) (fun c => ?_)⟩
  · have e := vt c
    exact chain_lt 0 n nr (fun R h => h) (fun R h => ⟨_, rfl, h⟩) (fun R h => ⟨_, rfl, h⟩) fun r z => go r (z.trans (by unfold RowOk; (first | lia | omega)))
  have n5 := vf c
  refine ⟨_, rfl, rfl, _, rfl, ite2 (fun c => ?_) (fun c => ?_)⟩
  · have e := vt c
    exact chain_lt 0 n nf (fun R h => h) (fun R h => ⟨_, rfl, h⟩) (fun R h => ⟨_, rfl, h⟩) fun r z => go r (z.trans (by unfold RowOk; (first | lia | omega)))
  have n6 := vf c
  refine ⟨_, rfl, rfl, _, rfl, ite2 (fun c => ?_) (fun c => ?_)⟩
  · have e := vt c
    exact chain_le 8 n 19 (fun R h => h) (fun R h => ⟨_, rfl, h⟩) (fun R h => h) fun r z => go r (z.trans (by unfold RowOk; (first | lia | omega)))
  have n10 := vf c
  refine ⟨_, rfl, rfl, _, rfl, ite2 (fun c => ?_) (fun c => ?_)⟩
  · have e := vt c
    exact chain_le 2 n 12 (fun R h => h) (fun R h => ⟨_, rfl, h⟩) (fun R h => h) fun r z => go r (z.trans (by unfold RowOk; (first | lia | omega)))
  have n11 := vf c
  refine ⟨_, rfl, op, rfl, fun r H' g z => ⟨_, rfl, ?_⟩⟩
  cases r with
  | true =>
    have m := z.mp rfl
    refine iteT ⟨_, rfl, rfl, q _ _ g ?_⟩
    rw [dec_int, beq_iff_eq]
    unfold RowOk
    (first | lia | omega)
  | false =>
    have m : ¬ (op = 3 ∨ op = 7 ∨ op = 8 ∨ op = 9) := fun y => nomatch z.mpr y
    refine iteF (q _ _ g ⟨fun e => (nomatch e), fun e => absurd e ?_⟩)
    unfold RowOk
    (first | lia | omega)
theorem ok_grouped (T : Txt K mg) (F : Fun K "grouped" "grouped" s_grouped f fd) : FnOk P w K mg base (CXE P w) 1 f fd ["numbers", "size"] spGrouped := by
  refine F.okN sc_grouped (fun vs H Q E h => ?_) (fun cdv A outer s H vs Q E hr h => ?_)
  · obtain ⟨a, ns, k, rfl, _⟩ := h
    rfl
  obtain ⟨a, ns, k, rfl, hk, ha, hl, q⟩ := h
  refine ⟨_, (pss_one (ps_ret (pe_comp (own := ["at"]) (ys := ["numbers", "size"]) rfl (pi_step rfl T.n_range (pa_cons pe_int (pa_cons (pe_callB call_len_seq rfl T.n_len bt_len (pa_cons (pv 0) pa_nil)) (pa_cons (pv 1) pa_nil)))) (compSc_of (sc := defScope s_grouped) rfl (by decide +kernel)) (.cons (j := 0) rfl (.cons (j := 1) rfl .nil)) (fun _ _ _ _ _ => (pg_name (i := 0) (show List.Nodup [("at" : Str), ("numbers" : Str), ("size" : Str)] from (by decide +kernel)) rfl (Or.inl rfl))) (fun _ _ _ _ _ => pts_nil) (fun _ _ _ _ _ => (pe_callTy (call_tuple_ofK K rfl) rfl T.n_tuple bt_tuple (pa_cons (pe_slice (sl_listK K rfl) (pv 1) (po_some (pv 0)) (po_some (pe_op op_add (pv 0) (pv 2)))) pa_nil)))))), ?_⟩
  try dsimp only [Cx.nox, Cx.exc, Cx.wish, cxOf_K]
  have hz : (ns.map V.int).length = ns.length := List.length_map ..
  refine ⟨_, rfl, a, _, rfl, .inl (SqL.of ha), _, rfl, _, _, _, (ns.length + (k - 1)) / k, rfl, ⟨by (first | lia | omega), by (first | lia | omega), by (first | lia | omega), by (first | lia | omega)⟩, by (first | lia | omega), by rw [hz]; exact rangeSize_grp hk, fun p hp => ?_⟩
  have hap : a ≠ p := fun z => by rw [z, hp] at ha; cases ha
  refine comp_step (fun i σ' H' => ∃ ys, H' p = some (.lst ys) ∧ i ≤ (ns.length + (k - 1)) / k ∧ Same H H' ∧ Paired (TupAt H') ys ((grp k ns).take i) ∧ ∃ x, σ' = [x, some (.ref a), some (.int k)]) ⟨[], upd_same, Nat.zero_le _, same_new hp _, .nil, _, rfl⟩ ?_ ?_
  · rintro i σ' H' hi ⟨ys, hy, _, sm, pr, x, rfl⟩
    have ea : (0 : Int) + (i : Int) * (k : Int) = ((i * k : Nat) : Int) := by rw [Int.zero_add, Int.natCast_mul]
    have eb : (0 : Int) + (i : Int) * (k : Int) + (k : Int) = ((i * k + k : Nat) : Int) := by rw [ea, Int.natCast_add]
    have ec := cut_ints ns (i * k) (i * k + k)
    rw [← ea, ← eb, Nat.add_sub_cancel_left] at ec
    dsimp only [gName, tYes]
    refine iteT ⟨_, rfl, _, rfl, _, rfl, _, rfl, _, rfl, _, _, rfl, rfl, _, rfl, a, _, rfl, SqL.of (sm _ _ ha), fun l hl1 => ?_⟩
    rw [ec]
    refine ⟨l, _, rfl, .inl ⟨SqL.of upd_same, fun l2 hl2 => ?_⟩⟩
    have s1 : Same H' (upd (upd H' l (.lst (((ns.drop (i * k)).take k).map V.int))) l2 (.tup (((ns.drop (i * k)).take k).map V.int))) := (same_new hl1 _).trans (same_new hl2 _)
    have hy' := s1 _ _ hy
    have yl : ys.length ≤ 1000000 := by
      have e1 := Paired.len pr
      have e2 := List.length_take_le i (grp k ns)
      have e3 : (ns.length + (k - 1)) / k ≤ 1000000 := by rcases hk with rfl | rfl <;> (first | lia | omega)
      (first | lia | omega)
    refine ⟨ys, hy', Nat.lt_of_le_of_lt yl (by decide), CW.next hi ⟨_, upd_same, hi, ?_, ?_, _, rfl⟩⟩
    · exact (sm.trans s1).fresh hp
    · rw [grp_next hi]
      refine Paired.append (Paired.imp (fun _ _ x => (x.same s1).upd hy') pr) (.cons ?_ .nil)
      exact TupAt.upd ⟨l2, rfl, upd_same⟩ hy'
  · rintro σ' H' ⟨ys, hy, _, sm, pr, _⟩
    have ht : (grp k ns).take ((ns.length + (k - 1)) / k) = grp k ns := List.take_of_length_le (by unfold grp; simp)
    rw [ht] at pr
    exact q p H' sm hp ⟨ys, hy, pr⟩
theorem ok_heads_in (T : Txt K mg) (F : Fun K "heads_in" "heads_in" s_heads_in f fd) (Cgrouped : Cal P w K mg base (CXE P w) 1 "grouped" ["numbers", "size"] spGrouped) : FnOk P w K mg base (CXE P w) 2 f fd ["numbers"] spHeadsIn := by
  refine F.okN sc_heads_in (fun vs H Q E h => ?_) (fun cdv A outer s H vs Q E hr h => ?_)
  · obtain ⟨a, ns, rfl, _⟩ := h
    rfl
  obtain ⟨a, ns, rfl, ha, hl, ⟨n, ms, e, hn, hn'⟩, q⟩ := h
  refine ⟨_, (pss_one (ps_ret (pe_callC Cgrouped hr rfl (pa_cons (pe_slice sl_list (pv 0) (po_some pe_int) (po_some (pe_op op_add pe_int (pe_op op_mul (pe_gint rfl T.m_HEAD_SIZE) (pe_ix ix_list (pv 0) pe_int (fun _ _ => rfl)))))) (pa_cons (pe_gint rfl T.m_HEAD_SIZE) pa_nil)) passN))), ?_⟩
  try dsimp only [Cx.nox, Cx.exc, Cx.wish, cxOf_K]
  refine ⟨_, rfl, _, rfl, _, rfl, a, _, _, _, rfl, rfl, SqL.of ha, at_zero e, _, _, rfl, rfl, mul3 hn hn', _, _, rfl, rfl, _, rfl, a, _, rfl, SqL.of ha, fun l hl1 => ?_⟩
  rw [head_cut e hn]
  have hh : (headNums ns).length ≤ ns.length := by unfold headNums; simp; (first | lia | omega)
  exact ⟨l, headNums ns, 3, rfl, .inr rfl, upd_same, by (first | lia | omega), fun r H' g1 g2 g3 => q r H' ((same_new hl1 _).trans g1) ((same_new hl1 _).free g2) g3⟩
theorem ok_rows_in (T : Txt K mg) (F : Fun K "rows_in" "rows_in" s_rows_in f fd) (Cgrouped : Cal P w K mg base (CXE P w) 1 "grouped" ["numbers", "size"] spGrouped) : FnOk P w K mg base (CXE P w) 2 f fd ["numbers"] spRowsIn := by
  refine F.okN sc_rows_in (fun vs H Q E h => ?_) (fun cdv A outer s H vs Q E hr h => ?_)
  · obtain ⟨a, ns, rfl, _⟩ := h
    rfl
  obtain ⟨a, ns, rfl, ha, hl, ⟨n, ms, e, hn, hn'⟩, q⟩ := h
  refine ⟨_, (pss_one (ps_ret (pe_callC Cgrouped hr rfl (pa_cons (pe_slice sl_list (pv 0) (po_some (pe_op op_add pe_int (pe_op op_mul (pe_gint rfl T.m_HEAD_SIZE) (pe_ix ix_list (pv 0) pe_int (fun _ _ => rfl))))) po_none) (pa_cons (pe_gint rfl T.m_ROW_SIZE) pa_nil)) passN))), ?_⟩
  try dsimp only [Cx.nox, Cx.exc, Cx.wish, cxOf_K]
  refine ⟨_, rfl, _, rfl, a, _, _, _, rfl, rfl, SqL.of ha, at_zero e, _, _, rfl, rfl, mul3 hn hn', _, _, rfl, rfl, _, rfl, a, _, rfl, SqL.of ha, fun l hl1 => ?_⟩
  rw [row_cut e hn]
  have hh : (rowNums ns).length ≤ ns.length := by unfold rowNums; simp
  exact ⟨l, rowNums ns, 2, rfl, .inl rfl, upd_same, by (first | lia | omega), fun r H' g1 g2 g3 => q r H' ((same_new hl1 _).trans g1) ((same_new hl1 _).free g2) g3⟩
theorem ok_wholes (T : Txt K mg) (F : Fun K "is_list_of_wholes" "is_list_of_wholes" s_is_list_of_wholes f fd) (Cis_whole : Cal P w K mg base (CXE P w) 1 "is_whole" ["thing"] spWhole) : FnOk P w K mg base (CXE P w) 2 f fd ["thing"] spWholes := by
  refine F.okN sc_is_list_of_wholes (fun vs H Q E h => ?_) (fun cdv A outer s H vs Q E hr h => ?_)
  · obtain ⟨a, ns, rfl, _⟩ := h
    rfl
  obtain ⟨a, ns, rfl, ha, hl, q⟩ := h
  refine ⟨_, (pss_one (ps_ret (pe_and (pe_callB call_isi rfl T.n_isinstance bt_isinstance (pa_cons (pv 0) (pa_cons (pe_bltn (v := .ty "list") rfl T.n_list bt_list rfl) pa_nil))) (pe_one (pe_callB (call_all rfl) rfl T.n_all bt_all (pa_cons (pe_comp (own := ["number"]) (ys := []) rfl (pi_list (pv 0)) (compSc_of (sc := defScope s_is_list_of_wholes) rfl (by decide +kernel)) .nil (fun _ _ _ _ _ => (pg_name (i := 0) (show List.Nodup [("number" : Str)] from (by decide +kernel)) rfl (Or.inl rfl))) (fun _ _ _ _ _ => pts_nil) (fun _ _ _ _ _ => (pe_callC Cis_whole hr rfl (pa_cons (pv 0) pa_nil) passN))) pa_nil)))))), ?_⟩
  try dsimp only [Cx.nox, Cx.exc, Cx.wish, cxOf_K]
  refine ⟨_, rfl, .inl ⟨_, _, _, true, rfl, .lst ha, T.klist, _, rfl, iteT ?_⟩⟩
  refine ⟨_, rfl, a, rfl, ⟨_, SqL.of ha⟩, fun p hp => ?_⟩
  refine comp_lst (xs := ns.map V.int) (fun i σ' H' => H' = upd H p (.lst ((List.replicate i true).map V.bl)) ∧ ∃ x, σ' = [x]) ⟨rfl, _, rfl⟩ ?_ ?_ ?_
  · rintro i σ' H' _ ⟨rfl, _⟩
    exact SqL.of (same_new hp _ _ _ ha)
  · rintro i x σ' H' hi hx ⟨rfl, y, rfl⟩
    obtain ⟨n, rfl⟩ : ∃ n, x = .int n := by
      rw [List.getElem?_map] at hx
      cases e : ns[i]? with
      | none => rw [e] at hx; cases hx
      | some n => rw [e] at hx; cases hx; exact ⟨n, rfl⟩
    dsimp only [gName, tYes]
    have hi' : i < ns.length := by rw [List.length_map] at hi; exact hi
    refine iteT ⟨_, rfl, n, rfl, _, upd_same, ?_, CW.next hi ⟨?_, _, rfl⟩⟩
    · rw [List.length_map, List.length_replicate]
      exact Nat.lt_of_lt_of_le hi' (Nat.le_trans hl (by decide))
    · have e : (List.replicate i true).map V.bl ++ [V.bl true] = (List.replicate (i + 1) true).map V.bl := by
        rw [List.replicate_succ', List.map_append] <;> rfl
      rw [e, upd_upd]
  · rintro σ' H' ⟨rfl, _⟩
    refine ⟨p, _, rfl, SqL.of upd_same, ?_⟩
    have e : (List.replicate (ns.map V.int).length true).all id = true := by
      rw [List.all_eq_true]
      intro b hb
      rw [(List.mem_replicate.mp hb).2] <;> rfl
    rw [e]
    exact q _ (same_new hp _)
theorem ok_is_code (T : Txt K mg) (F : Fun K "is_code" "is_code" s_is_code f fd) (Cis_list_of_wholes : Cal P w K mg base (CXE P w) 2 "is_list_of_wholes" ["thing"] spWholes) (Cheads_in : Cal P w K mg base (CXE P w) 2 "heads_in" ["numbers"] spHeadsIn) (Crows_in : Cal P w K mg base (CXE P w) 2 "rows_in" ["numbers"] spRowsIn)
    (Cis_head : Cal P w K mg base (CXE P w) 1 "is_head" ["head", "function", "many_rows"] spIsHead) (Cis_row : Cal P w K mg base (CXE P w) 2 "is_row" ["row", "many_functions", "many_rows"] spIsRow) : FnOk P w K mg base (CXE P w) 3 f fd ["thing"] spIsCode := by
  refine F.okN sc_is_code (fun vs H Q E h => ?_) (fun cdv A outer s H vs Q E hr h => ?_)
  · obtain ⟨a, ns, rfl, _⟩ := h
    rfl
  obtain ⟨a, ns, rfl, ha, hl, q⟩ := h
  refine ⟨_, (pss_cons (ps_if (PW.pt (pw_or (pt_not (pt_val (pe_callC Cis_list_of_wholes hr rfl (pa_cons (pv 0) pa_nil) passN))) (pw_or1 (pt_cmpR op_eq (pe_callB call_len_seq rfl T.n_len bt_len (pa_cons (pv 0) pa_nil)) pe_int (nomark _))))) (pss_one (ps_ret pe_bl)) pss_nil)
      (pss_cons (ps_if (PW.pt (pw_or (pt_cmpR op_lt (pe_ix ix_list (pv 0) pe_int (fun _ _ => rfl)) pe_int (nomark _)) (pw_or1 (pt_cmpR op_gt (pe_ix ix_list (pv 0) pe_int (fun _ _ => rfl)) (pe_gint rfl T.m_MOST_FUNCTIONS) (nomark _))))) (pss_one (ps_ret pe_bl)) pss_nil)
      (pss_cons (ps_set (i := 1) sc_is_code.nd rfl (Or.inl rfl) (pe_op op_sub (pe_op op_sub (pe_callB call_len_seq rfl T.n_len bt_len (pa_cons (pv 0) pa_nil)) pe_int) (pe_op op_mul (pe_gint rfl T.m_HEAD_SIZE) (pe_ix ix_list (pv 0) pe_int (fun _ _ => rfl)))))
      (pss_cons (ps_if (PW.pt (pw_or (pt_cmpR op_lt (pv 1) (pe_gint rfl T.m_ROW_SIZE) (nomark _)) (pw_or1 (pt_cmpR op_ne (pe_op op_mod (pv 1) (pe_gint rfl T.m_ROW_SIZE)) pe_int (nomark _))))) (pss_one (ps_ret pe_bl)) pss_nil)
      (pss_cons (ps_set (i := 2) sc_is_code.nd rfl (Or.inr rfl) (pe_op op_fdivB (pv 1) (pe_gint rfl T.m_ROW_SIZE)))
      (pss_cons (ps_for PassesOwn.never rfl (pi_enum rfl T.n_enumerate (pa_cons (pe_callC Cheads_in hr rfl (pa_cons (pv 0) pa_nil) passN) pa_nil)) (pg_tup rfl (pgs_cons (pg_name (i := 3) sc_is_code.nd rfl (Or.inl rfl)) (pgs_cons (pg_name (i := 4) sc_is_code.nd rfl (Or.inl rfl)) pgs_nil))) (pss_one (ps_if (pt_not (pt_val (pe_callC Cis_head hr rfl (pa_cons (pv 4) (pa_cons (pv 3) (pa_cons (pv 2) pa_nil))) passN))) (pss_one (ps_ret pe_bl)) pss_nil)))
      (pss_one (ps_ret (pe_callB (call_all rfl) rfl T.n_all bt_all (pa_cons (pe_comp (own := ["row"]) (ys := ["many_rows", "thing"]) rfl (pi_list (pe_callC Crows_in hr rfl (pa_cons (pv 0) pa_nil) passN)) (compSc_of (sc := defScope s_is_code) rfl (by decide +kernel)) (.cons (j := 2) rfl (.cons (j := 0) rfl .nil)) (fun _ _ _ _ _ => (pg_name (i := 0) (show List.Nodup [("row" : Str), ("many_rows" : Str), ("thing" : Str)] from (by decide +kernel)) rfl (Or.inl rfl))) (fun _ _ _ _ _ => pts_nil) (fun _ _ _ _ _ => (pe_callC Cis_row hr rfl (pa_cons (pv 0) (pa_cons (pe_ix (ix_listK K rfl) (pv 2) pe_int (fun _ _ => rfl)) (pa_cons (pv 1) pa_nil))) passN))) pa_nil)))))))))), ?_⟩
  try dsimp only [Cx.nox, Cx.exc, Cx.wish, cxOf_K]
  refine ⟨_, rfl, a, ns, rfl, ha, hl, fun H1 g1 => ⟨_, rfl, iteF ?_⟩⟩
  have bad : ∀ H', Same H H' → ¬ CodeOk ns → Q (.bl false) H' := fun H' g c => q false H' g ⟨fun e => (nomatch e), fun e => absurd e c⟩
  have ha1 := g1 _ _ ha
  refine ⟨_, rfl, a, _, rfl, .inl (SqL.of ha1), rfl, _, rfl, ite2 (fun c => ?_) (fun c => ?_)⟩
  · have e0 := vt c
    refine bad H1 g1 fun z => ?_
    obtain ⟨n, ms, e, _⟩ := z.big
    rw [e] at e0
    rw [List.length_map, List.length_cons] at e0
    (first | lia | omega)
  have e0 := vf c
  obtain ⟨n, ms, e⟩ : ∃ n ms, ns = n :: ms := by
    cases ns with
    | nil => exact absurd rfl e0
    | cons n ms => exact ⟨n, ms, rfl⟩
  have a0 := at_zero e
  refine ⟨_, rfl, a, _, _, _, rfl, rfl, SqL.of ha1, a0, _, _, rfl, rfl, _, rfl, ite2 (fun c => iteT ?_) (fun c => ?_)⟩
  · have c' := of_decide_eq_true c
    refine bad H1 g1 fun z => ?_
    obtain ⟨n', ms', e', h1, _⟩ := z.big
    rw [e] at e'
    injection e' with e' _
    (first | lia | omega)
  have n1 := df c
  refine ⟨_, rfl, a, _, _, _, rfl, rfl, SqL.of ha1, a0, _, _, rfl, rfl, _, rfl, ite2 (fun c => ?_) (fun c => ?_)⟩
  · have c' := of_decide_eq_true c
    refine bad H1 g1 fun z => ?_
    obtain ⟨n', ms', e', _, h1, _⟩ := z.big
    rw [e] at e'
    injection e' with e' _
    (first | lia | omega)
  have n16 := df c
  have hlen : ((ns.map V.int).length : Int) = ms.length + 1 := by rw [e, List.length_map, List.length_cons] <;> rfl
  refine ⟨_, rfl, a, _, rfl, .inl (SqL.of ha1), _, _, rfl, rfl, _, rfl, a, _, _, _, rfl, rfl, SqL.of ha1, a0, _, _, rfl, rfl, mul3 (by (first | lia | omega)) (by (first | lia | omega)), _, _, rfl, rfl, ?_⟩
  refine ⟨_, rfl, _, _, rfl, rfl, _, rfl, ite2 (fun c => iteT ?_) (fun c => ?_)⟩
  · have c' := of_decide_eq_true c
    refine bad H1 g1 fun z => ?_
    obtain ⟨n', ms', e', _, _, h1, _⟩ := z.big
    rw [e] at e'
    injection e' with e' e''
    subst e' e''
    (first | lia | omega)
  have n2 := df c
  refine ⟨_, rfl, _, _, rfl, rfl, (by decide : (0 : Int) < 2), rfl, _, rfl, ite2 (fun c => ?_) (fun c => ?_)⟩
  · have c' : (((ns.map V.int).length : Int) - 1 - 3 * n) % 2 ≠ 0 := fun z => by
      have y : decide (V.int ((((ns.map V.int).length : Int) - 1 - 3 * n) % 2) = V.int 0) = true := decide_eq_true (by rw [z])
      have c2 : (!decide (V.int ((((ns.map V.int).length : Int) - 1 - 3 * n) % 2) = V.int 0)) = true := c
      rw [y] at c2
      exact nomatch c2
    refine bad H1 g1 fun z => ?_
    obtain ⟨n', ms', e', _, _, _, h1⟩ := z.big
    rw [e] at e'
    injection e' with e' e''
    subst e' e''
    (first | lia | omega)
  have even : (((ns.map V.int).length : Int) - 1 - 3 * n) % 2 = 0 := Decidable.byContradiction fun z => c (by
    have : decide (V.int ((((ns.map V.int).length : Int) - 1 - 3 * n) % 2) = V.int 0) = false := decide_eq_false fun y => by injection y with y; exact z y
    show (!decide (V.int ((((ns.map V.int).length : Int) - 1 - 3 * n) % 2) = V.int 0)) = true
    rw [this] <;> rfl)
  have hR : (rowNums ns).length = ms.length - 3 * n.toNat := by
    rw [e]
    show (List.drop (1 + 3 * n.toNat) (n :: ms)).length = _
    rw [List.length_drop, List.length_cons]
    (first | lia | omega)
  have hHd : (headNums ns).length = 3 * n.toNat := by
    rw [e]
    show (List.take (3 * n.toNat) ms).length = _
    rw [List.length_take]
    (first | lia | omega)
  have hN : (ns.headD 0).toNat = n.toNat := by rw [e] <;> rfl
  have big : ∃ n ms, ns = n :: ms ∧ 1 ≤ n ∧ n ≤ 16 ∧ 3 * n + 2 ≤ ms.length ∧ (ms.length - 3 * n.toNat) % 2 = 0 := ⟨n, ms, e, by (first | lia | omega), by (first | lia | omega), by (first | lia | omega), by (first | lia | omega)⟩
  obtain ⟨mr, emr⟩ : ∃ mr : Nat, (((ns.map V.int).length : Int) - 1 - 3 * n) / 2 = (mr : Int) ∧ mr = (rowNums ns).length / 2 := ⟨(rowNums ns).length / 2, by (first | lia | omega), rfl⟩
  have hm : Same H H1 ∧ (∃ n ms, ns = n :: ms ∧ 0 ≤ n ∧ n ≤ 16) := ⟨g1, n, ms, e, by (first | lia | omega), by (first | lia | omega)⟩
  refine ⟨_, rfl, _, _, rfl, rfl, ⟨by decide, by decide⟩, ?_⟩
  refine ⟨_, rfl, a, ns, rfl, ha1, hl, hm.2, fun l H2 g2 hl2 at2 => ?_⟩
  obtain ⟨rs, er, pr⟩ := at2
  obtain ⟨em1, em2⟩ := emr
  have g12 := g1.trans g2
  have ltH : ∀ j g, (grp 3 (headNums ns))[j]? = some g → j < rs.length := fun j g hg => by
    rw [Paired.len pr]
    exact (List.getElem?_eq_some_iff.mp hg).1
  refine ⟨l, rs, rfl, SqL.of er, for_enum (xs := rs) (fun i σ' H' => ∃ v3 v4, σ' = [some (.ref a), some (.int (((ns.map V.int).length : Int) - 1 - 3 * n)), some (.int (mr : Int)), v3, v4] ∧ Same H2 H' ∧ ∀ j g, j < i → (grp 3 (headNums ns))[j]? = some g → isHead g j mr) ⟨_, _, by rw [← em1]; rfl, Same.refl _, fun j g z => absurd z (Nat.not_lt_zero j)⟩ ?_ ?_ ?_⟩
  · rintro i σ' H' _ ⟨v3, v4, rfl, g, _⟩
    exact SqL.of (g _ _ er)
  · rintro i x σ' H' t hx ⟨v3, v4, rfl, g3, hb⟩ ht
    obtain ⟨gx, hg, th, rfl, eth⟩ := Paired.yonder pr hx
    obtain ⟨s0, p0, b0, rfl⟩ := len3 (grp_get (.inr rfl) (by rw [hHd]; (first | lia | omega)) hg)
    have g4 := g3.trans (same_new ht (.tup [.int (i : Nat), .ref th]))
    refine ⟨t, _, rfl, SqT.of upd_same, rfl, _, _, rfl, _, _, rfl, rfl, ?_⟩
    refine ⟨_, rfl, _, rfl, _, rfl, th, s0, p0, b0, i, mr, rfl, g4 _ _ eth, fun r z => ⟨_, rfl, ?_⟩⟩
    cases r with
    | false =>
      refine iteT (bad _ (g12.trans g4) fun y => ?_)
      obtain ⟨s1, p1, b1, e1, ok⟩ := y.heads i _ hg
      cases e1
      rw [← em2] at ok
      exact nomatch z.mpr ok
    | true =>
      refine iteF ⟨_, _, rfl, g4, fun j g hj hg' => ?_⟩
      by_cases hji : j < i
      · exact hb j g hji hg'
      · have : j = i := by (first | lia | omega)
        subst this
        rw [hg] at hg'
        cases hg'
        exact ⟨s0, p0, b0, rfl, z.mp rfl⟩
  · rintro σ' H' ⟨v3, v4, rfl, g3, hb⟩
    have ha3 := g3 _ _ (g12 _ _ ha)
    refine ⟨_, rfl, a, ns, rfl, ha3, hl, hm.2, fun l3 H3 g4 hl3 at3 => ?_⟩
    obtain ⟨rs2, er2, pr2⟩ := at3
    have ltR : ∀ j g, (grp 2 (rowNums ns))[j]? = some g → j < rs2.length := fun j g hg => by
      rw [Paired.len pr2]
      exact (List.getElem?_eq_some_iff.mp hg).1
    have rl : rs2.length ≤ 1000000 := by
      rw [Paired.len pr2, grp_len, hR]
      rw [e, List.length_cons] at hl
      (first | lia | omega)
    refine ⟨l3, rfl, ⟨_, SqL.of er2⟩, fun p hp => ?_⟩
    refine comp_lst (xs := rs2) (fun i σ' H' => ∃ bs : List Bool, H' p = some (.lst (bs.map V.bl)) ∧ bs.length = i ∧ Same H3 H' ∧ (bs.all id = true ↔ ∀ j g, j < i → (grp 2 (rowNums ns))[j]? = some g → isRow g n.toNat mr) ∧ ∃ x, σ' = [x, some (.int (mr : Int)), some (.ref a)]) ⟨[], upd_same, rfl, same_new hp _, ⟨fun _ j g z => absurd z (Nat.not_lt_zero j), fun _ => rfl⟩, _, rfl⟩ ?_ ?_ ?_
    · rintro i σ' H' _ ⟨bs, _, _, g, _⟩
      exact SqL.of (g _ _ er2)
    · rintro i x σ' H' hi hx ⟨bs, eb, lb, g5, ib, y, rfl⟩
      obtain ⟨gx, hg, th, rfl, eth⟩ := Paired.yonder pr2 hx
      obtain ⟨op, nu, rfl⟩ := len2 (grp_get (.inl rfl) (by rw [hR]; (first | lia | omega)) hg)
      dsimp only [gName, tYes]
      refine iteT ⟨_, rfl, _, rfl, a, _, _, _, rfl, rfl, SqL.of (g5 _ _ (g4 _ _ ha3)), a0, _, rfl, th, op, nu, n, mr, rfl, g5 _ _ eth, fun r H5 g6 z => ?_⟩
      refine ⟨_, g6 _ _ eb, ?_, CW.next hi ⟨bs ++ [r], ?_, ?_, (g5.trans g6).fresh hp, ?_, _, rfl⟩⟩
      · rw [List.length_map, lb]
        exact Nat.lt_of_lt_of_le hi (Nat.le_trans rl (by decide))
      · rw [List.map_append]; exact upd_same
      · rw [List.length_append, lb] <;> rfl
      · have hnn : ((n.toNat : Nat) : Int) = n := by (first | lia | omega)
        rw [all_snoc, ib, z]
        constructor
        · rintro ⟨h1, h2⟩ j g hj hg'
          by_cases hji : j < i
          · exact h1 j g hji hg'
          · have : j = i := by (first | lia | omega)
            subst this
            rw [hg] at hg'
            cases hg'
            exact ⟨op, nu, rfl, by rw [hnn]; exact h2⟩
        · intro h
          refine ⟨fun j g hj hg' => h j g (by (first | lia | omega)) hg', ?_⟩
          obtain ⟨o1, n1', e1, ok⟩ := h i _ (Nat.lt_succ_self i) hg
          cases e1
          rw [hnn] at ok
          exact ok
    · rintro σ' H' ⟨bs, eb, lb, g5, ib, _⟩
      refine ⟨p, bs, rfl, SqL.of eb, q _ _ (g12.trans (g3.trans (g4.trans g5))) (ib.trans ⟨fun h => ⟨big, fun j g hg => ?_, fun g hg => ?_⟩, fun z j g hj hg => ?_⟩)⟩
      · rw [← em2]
        exact hb j g (ltH j g hg) hg
      · obtain ⟨j, hj⟩ := List.mem_iff_getElem?.mp hg
        rw [hN, ← em2]
        exact h j g (ltR j g hj) hj
      · have := z.rows g (List.mem_iff_getElem?.mpr ⟨j, hg⟩)
        rw [hN, ← em2] at this
        exact this

noncomputable def wordsS : List Str := ["set", "all", "pick", "loop", "call", "fail", "add", "sub", "mul", "quo", "rest", "less", "same", "push", "at", "put", "size", "new"]
noncomputable def rowN : List Str := ["push", "get", "set", "drop", "jump", "unless", "call", "back", "fail", "breath", "", "pick"]
noncomputable def rowV : List V := [.str "push", .str "get", .str "set", .str "drop", .str "jump", .str "unless", .str "call", .str "back", .str "fail", .str "breath", .non, .str "pick"]
structure TxtR (K : PySem.W.Frag) (mg : Str → Option Value) (aW aR : Addr) : Prop where
  m_SET : GInt mg "SET" 2
  m_OP_DO : GInt mg "OP_DO" 10
  m_WORDS : mg "WORDS" = some (.ref aW)
  m_ROW_WORDS : mg "ROW_WORDS" = some (.ref aR)
  words : ∀ H, SqT K H aW (wordsS.map V.str)
  wordsT : ∃ o, K.lookup aW = some o ∧ o.cls = .type "tuple" ∧ o.dict = none
  roww : ∀ H, SqT K H aR rowV
  rowT : ∃ o, K.lookup aR = some o ∧ o.cls = .type "tuple" ∧ o.dict = none
variable {aW aR : Addr}
noncomputable def rowS (op n : Int) : Str := if op = 10 then wordsS.getD (n - 2).toNat "" else if op = 3 ∨ op = 7 ∨ op = 8 ∨ op = 9 then rowN.getD op.toNat "" else Str.empty ++ rowN.getD op.toNat "" ++ " " ++ numS n
theorem rowN_len : ∀ k : Fin 12, (rowN.getD k.1 "").length ≤ 6 := by decide
theorem rowV_at : ∀ k : Fin 12, k.1 = 10 ∨ rowV[k.1]? = some (.str (rowN.getD k.1 "")) := by decide
theorem wordsS_at : ∀ k : Fin 18, wordsS[k.1]? = some (wordsS.getD k.1 "") := by decide
theorem log_small {m : Nat} (h : m < 10 ^ 500) : m.log2 < 1920 := by
  by_cases z : m = 0
  · subst z; decide
  · exact (Nat.log2_lt z).mpr (Nat.lt_trans h (by decide +kernel))

theorem is_seq (T : Txt K mg) {H : Hp} {a : Addr} {xs : List V} (h : Sq K H a xs) : ∃ TT, ((TT = "list" ∧ ∃ ys, SqL K H a ys) ∨ (TT = "tuple" ∧ ∃ ys, SqT K H a ys)) ∧ PySem.W.kitAny K (.type TT) (["list", "tuple"].map Value.type) = some true := by
  rcases h with h | h
  · exact ⟨"list", .inl ⟨rfl, xs, h⟩, T.kal⟩
  · exact ⟨"tuple", .inr ⟨rfl, xs, h⟩, T.kat⟩
theorem ok_joined (T : Txt K mg) (F : Fun K "joined" "joined" s_joined f fd) : FnOk P w K mg base (CXE P w) 1 f fd ["things", "size"] (spJoined K) := by
  refine F.okN sc_joined (fun vs H Q E h => ?_) (fun cdv A outer s H vs Q E hr h => ?_)
  · obtain ⟨a, gs, xs, k, rfl, _⟩ := h
    rfl
  obtain ⟨a, gs, xs, k, rfl, hq, pr, hg, hgl, hk, q⟩ := h
  refine ⟨_, (pss_cons (ps_if (pt_not (pt_val (pe_callB call_isiT rfl T.n_isinstance bt_isinstance (pa_cons (pv 0) (pa_cons (pe_tup (pa_cons (pe_bltn (v := .ty "list") rfl T.n_list bt_list rfl) (pa_cons (pe_bltn (v := .ty "tuple") rfl T.n_tuple bt_tuple rfl) pa_nil))) pa_nil))))) (pss_one ps_never) pss_nil)
      (pss_cons (ps_set (i := 2) sc_joined.nd rfl (Or.inl rfl) (pe_lst pa_nil))
      (pss_cons (ps_for PassesOwn.never rfl (pi_seq (pv 0)) (pg_name (i := 3) sc_joined.nd rfl (Or.inl rfl)) (pss_cons (ps_if (PW.pt (pw_or (pt_not (pt_val (pe_callB call_isiT rfl T.n_isinstance bt_isinstance (pa_cons (pv 3) (pa_cons (pe_tup (pa_cons (pe_bltn (v := .ty "list") rfl T.n_list bt_list rfl) (pa_cons (pe_bltn (v := .ty "tuple") rfl T.n_tuple bt_tuple rfl) pa_nil))) pa_nil))))) (pw_or1 (pt_cmpR op_ne (pe_callB call_len_seq rfl T.n_len bt_len (pa_cons (pv 3) pa_nil)) (pv 1) (nomark _))))) (pss_one ps_never) pss_nil)
      (pss_one (ps_expr (pe_bm PySem.F.plainAttrs_list PySem.F.slot_list_extend PySem.F.type_list_extend mt_extendU (pv 2) (pa_cons (pv 3) pa_nil))))))
      (pss_one (ps_ret (pv 2)))))), ?_⟩
  try dsimp only [Cx.nox, Cx.exc, Cx.wish, cxOf_K]
  refine ⟨_, rfl, small (show 2 ≤ 1000 by decide), fun tp htp => ?_⟩
  have g1 := same_new htp (.tup (["list", "tuple"].map V.ty))
  obtain ⟨TT, h1, h2⟩ := is_seq T (Sq.same g1 hq)
  refine ⟨a, tp, ["list", "tuple"], true, TT, rfl, upd_same, h1, h2, _, rfl, iteF ?_⟩
  refine ⟨small (show 0 ≤ 1000 by decide), fun l hl1 => ?_⟩
  have s1 : Same H (upd (upd H tp (.tup (["list", "tuple"].map V.ty))) l (.lst [])) := g1.trans (same_new hl1 _)
  have hl0 : H l = none := g1.free hl1
  refine ⟨_, rfl, a, rfl, for_seq (xs := xs) hq (fun i σ' H' => ∃ v3, σ' = [some (.ref a), some (.int (k : Nat)), some (.ref l), v3] ∧ H' l = some (.lst ((gs.take i).flatten.map V.int)) ∧ Same H H') ⟨_, rfl, upd_same, s1⟩ ?_ ?_ ?_⟩
  · rintro i σ' H' _ ⟨v3, rfl, el, sm⟩
    exact sm
  · rintro i x σ' H' hx ⟨v3, rfl, el, sm⟩
    obtain ⟨g, hgx, t, rfl, ht⟩ := Paired.yonder pr hx
    have hlg := hg g (List.mem_iff_getElem?.mpr ⟨_, hgx⟩)
    refine ⟨_, rfl, small (show 2 ≤ 1000 by decide), fun tp2 htp2 => ?_⟩
    have g2 := same_new htp2 (.tup (["list", "tuple"].map V.ty))
    have hsq : Sq K (upd H' tp2 (.tup (["list", "tuple"].map V.ty))) t (g.map V.int) := ht.imp (fun e => SqL.of (g2 _ _ (sm _ _ e))) (fun e => SqT.of (g2 _ _ (sm _ _ e)))
    obtain ⟨TT, h1, h2⟩ := is_seq T hsq
    refine ⟨t, tp2, ["list", "tuple"], true, TT, rfl, upd_same, h1, h2, _, rfl, iteF ?_⟩
    refine ⟨_, rfl, t, _, rfl, hsq, _, rfl, rfl, _, rfl, iteNS (congrArg V.int (by rw [List.length_map, hlg])) ?_⟩
    have hl' := g2 _ _ el
    have hfl : (gs.take i).flatten.length ≤ 3000 := by
      rw [fl_len (k := k) fun x hx => hg x (List.mem_of_mem_take hx)]
      have : (gs.take i).length ≤ 1000 := Nat.le_trans (List.length_take_le' ..) hgl
      exact Nat.le_trans (Nat.mul_le_mul this hk) (by decide)
    have hb : ((gs.take i).flatten.map V.int).length + (g.map V.int).length ≤ sizeLine := by
      rw [List.length_map, List.length_map, hlg]
      exact Nat.le_trans (show _ ≤ 3003 by (first | lia | omega)) (by decide)
    have en : ((gs.take i).flatten.map V.int) ++ (g.map V.int) = (gs.take (i + 1)).flatten.map V.int := by rw [fl_take hgx, List.map_append]
    refine ⟨_, rfl, .inl ⟨rfl, _, SqL.of hl'⟩, _, rfl, ?_⟩
    rcases ht with ht | ht
    · refine .inl ⟨l, t, _, _, rfl, rfl, hl', g2 _ _ (sm _ _ ht), hb, ?_⟩
      rw [en]
      exact ⟨_, rfl, upd_same, (sm.trans g2).fresh hl0⟩
    · refine .inr ⟨l, t, _, _, rfl, rfl, hl', g2 _ _ (sm _ _ ht), hb, ?_⟩
      rw [en]
      exact ⟨_, rfl, upd_same, (sm.trans g2).fresh hl0⟩
  · rintro σ' H' ⟨v3, rfl, el, sm⟩
    have e : gs.take xs.length = gs := List.take_of_length_le (by rw [Paired.len pr]; exact Nat.le_refl _)
    rw [e] at el
    exact ⟨_, rfl, q l H' sm hl0 el⟩

structure TxtH (mg : Str → Option Value) : Prop where
  m_HEAD_WORD : GStr mg "HEAD_WORD" "fun"
noncomputable def headG : List Int → Str
  | [s, p, b] => Str.empty ++ Str.ofString "fun" ++ Str.ofString " " ++ numS s ++ Str.ofString " " ++ numS p ++ Str.ofString " " ++ numS b
  | _ => Str.empty
noncomputable def rowG : List Int → Str
  | [op, n] => rowS op n
  | _ => Str.empty
noncomputable def Small (gs : List (List Int)) : Prop := ∀ g ∈ gs, ∀ x ∈ g, x.natAbs < 10 ^ 500
noncomputable def spShowCode : Sp := fun vs H Q _ => ∃ (a : Addr) (hs rs : List (List Int)), vs = [.ref a] ∧ H a = some (.lst ((codeL hs rs).map V.int)) ∧ CodeParts hs rs ∧ rs.length ≤ 1000 ∧ Small hs ∧ Small rs ∧
  ∀ H', Same H H' → Q (.str (Txt.join (Str.ofString "\n") (hs.map headG ++ rs.map rowG))) H'
theorem num_len {n : Int} (h : n.natAbs < 10 ^ 500) : (numS n).length ≤ 601 := (numS_int (Nat.lt_trans h (by decide +kernel))).2
theorem rowS_len {op n : Int} (o0 : 0 ≤ op) (o1 : op ≤ 11) (h10 : op = 10 → 8 ≤ n ∧ n ≤ 19) (hn : n.natAbs < 10 ^ 500) : (rowS op n).length ≤ 700 := by
  have wl : (rowN.getD op.toNat "").length ≤ 6 := rowN_len ⟨op.toNat, by (first | lia | omega)⟩
  have nl := num_len hn
  unfold rowS
  split
  · rename_i e
    obtain ⟨n0, n1⟩ := h10 e
    have : ∀ k : Fin 18, (wordsS.getD k.1 "").length ≤ 6 := by decide
    have := this ⟨(n - 2).toNat, by (first | lia | omega)⟩
    simp only at this
    (first | lia | omega)
  · split
    · (first | lia | omega)
    · have e0 : (Str.empty).length = 0 := rfl
      have e1 : (Str.ofString " ").length = 1 := by decide
      rw [strLen_append, strLen_append, strLen_append]
      (first | lia | omega)
theorem row_ok {op n nf nr : Int} (h : RowOk op n nf nr) : 0 ≤ op ∧ op ≤ 11 ∧ (op = 10 → 8 ≤ n ∧ n ≤ 19) := by
  unfold RowOk at h
  (first | lia | omega)
theorem headG_len {s p b : Int} (h1 : s.natAbs < 10 ^ 500) (h2 : p.natAbs < 10 ^ 500) (h3 : b.natAbs < 10 ^ 500) : (headG [s, p, b]).length ≤ 2000 := by
  have n1 := num_len h1
  have n2 := num_len h2
  have n3 := num_len h3
  have e0 : (Str.empty).length = 0 := rfl
  have e1 : (Str.ofString " ").length = 1 := by decide
  have e2 : (Str.ofString "fun").length = 3 := by decide
  show (Str.empty ++ Str.ofString "fun" ++ Str.ofString " " ++ numS s ++ Str.ofString " " ++ numS p ++ Str.ofString " " ++ numS b).length ≤ 2000
  rw [strLen_append, strLen_append, strLen_append, strLen_append, strLen_append, strLen_append, strLen_append]
  (first | lia | omega)

variable {aW aR : Addr}
noncomputable def spKind : Sp := fun vs H Q _ => ∃ x : Str, vs = [.str x] ∧ (∀ j, FirstAt (wordsS.map V.str) (.str x) j → Q (.int (2 + (j : Int))) H) ∧ (inV (.str x) (wordsS.map V.str) = false → Q .non H)
theorem flat_strs : ∀ ys : List Str, (ys.map V.str).all flatV = true
  | [] => rfl
  | _ :: r => by rw [List.map_cons, List.all_cons, flat_strs r]; rfl
theorem first_of : ∀ (xs : List V) (y : V), inV y xs = true → ∃ j, FirstAt xs y j
  | [], _, h => by simp [inV] at h
  | x :: r, y, h => by
    by_cases hx : eqV x y = true
    · exact ⟨0, ⟨x, rfl, hx⟩, fun m z hm => absurd hm (Nat.not_lt_zero _)⟩
    · have : inV y r = true := by
        unfold inV at h ⊢
        rw [List.any_cons] at h
        simpa [hx] using h
      obtain ⟨j, ⟨z, hz, ez⟩, hno⟩ := first_of r y this
      refine ⟨j + 1, ⟨z, by simpa using hz, ez⟩, fun m z hm hz => ?_⟩
      cases m with
      | zero => simp at hz; subst hz; simpa using hx
      | succ m => exact hno m z (by (first | lia | omega)) (by simpa using hz)
theorem ok_kind (T : TxtR K mg aW aR) (F : Fun K "kind_of" "kind_of" s_kind_of f fd) : FnOk P w K mg base (CXE P w) 1 f fd ["word"] spKind := by
  refine F.okN sc_kind_of (fun vs H Q E h => ?_) (fun cdv A outer s H vs Q E hr h => ?_)
  · obtain ⟨x, rfl, _⟩ := h
    rfl
  obtain ⟨x, rfl, q1, q2⟩ := h
  refine ⟨_, (pss_cons (ps_if (pt_cmpR op_in_seq (pv 0) (pe_gref rfl T.m_WORDS) rfl) (pss_one (ps_ret (pe_op op_add (pe_gint rfl T.m_SET) (pe_bm PySem.F.plainAttrs_tuple PySem.F.slot_tuple_index PySem.F.type_tuple_index mt_indexT (pe_gref rfl T.m_WORDS) (pa_cons (pv 0) pa_nil))))) pss_nil)
      (pss_one (ps_ret pe_non))), ?_⟩
  try dsimp only [Cx.nox, Cx.exc, Cx.wish, cxOf_K]
  refine ⟨_, rfl, aW, _, rfl, .inr (T.words H), rfl, flat_strs _, _, rfl, ?_⟩
  refine ite2 (fun c => ?_) (fun c => ?_)
  · obtain ⟨j, hj⟩ := first_of _ _ c
    exact ⟨.inr (.inl ⟨rfl, T.wordsT⟩), _, rfl, aW, _, _, j, rfl, rfl, T.words H, rfl, flat_strs _, hj, _, _, rfl, rfl, q1 j hj⟩
  · exact q2 (Bool.eq_false_iff.mpr c)
structure TxtF (mg : Str → Option Value) : Prop where
  m_OP_PUSH : GInt mg "OP_PUSH" 0
  m_MOST_FIGURES : GInt mg "MOST_FIGURES" 60
  m_MOST_PUSHED_FIGURES : GInt mg "MOST_PUSHED_FIGURES" 100
noncomputable def spMost : Sp := fun vs H Q _ => ∃ op : Int, vs = [.int op] ∧ Q (.int (if op = 0 then 100 else 60)) H
theorem ok_most (T : TxtF mg) (F : Fun K "most_figures" "most_figures" s_most_figures f fd) : FnOk P w K mg base (CXE P w) 1 f fd ["op"] spMost := by
  refine F.okN sc_most_figures (fun vs H Q E h => ?_) (fun cdv A outer s H vs Q E hr h => ?_)
  · obtain ⟨op, rfl, _⟩ := h
    rfl
  obtain ⟨op, rfl, q⟩ := h
  refine ⟨_, (pss_one (ps_ret (pe_ifExp (pt_cmpR op_eq (pv 0) (pe_gint rfl T.m_OP_PUSH) (nomark _)) (pe_gint rfl T.m_MOST_PUSHED_FIGURES) (pe_gint rfl T.m_MOST_FIGURES)))), ?_⟩
  try dsimp only [Cx.nox, Cx.exc, Cx.wish, cxOf_K]
  refine ⟨_, rfl, rfl, _, rfl, ite2 (fun c => ?_) (fun c => ?_)⟩
  · rw [if_pos (vt c)] at q
    exact q
  · rw [if_neg (vf c)] at q
    exact q
noncomputable def rowW (op n : Int) : List Str := if op = 10 then [wordsS.getD (n - 2).toNat ""] else if op = 3 ∨ op = 7 ∨ op = 8 ∨ op = 9 then [rowN.getD op.toNat ""] else [rowN.getD op.toNat "", numS n]
theorem row_first : ∀ j o : Fin 12, o.1 = 10 ∨ eqV (rowV.getD j.1 .non) (.str (rowN.getD o.1 "")) = false ∨ j = o := by decide +kernel
theorem row_in : ∀ o : Fin 12, o.1 = 10 ∨ inV (.str (rowN.getD o.1 "")) rowV = true := by decide +kernel
theorem word_first : ∀ j k : Fin 18, eqV (V.str (wordsS.getD j.1 "")) (.str (wordsS.getD k.1 "")) = false ∨ j = k := by decide +kernel
theorem word_in : ∀ k : Fin 18, inV (.str (wordsS.getD k.1 "")) (wordsS.map V.str) = true := by decide +kernel
theorem alone_kind : ∀ (o : Fin 12) (j : Fin 18), ¬ (o.1 = 3 ∨ o.1 = 7 ∨ o.1 = 8 ∨ o.1 = 9) ∨ eqV (V.str (wordsS.getD j.1 "")) (.str (rowN.getD o.1 "")) = false ∨ j.1 < 6 := by decide +kernel

variable {aW aR : Addr}
structure TxtG (mg : Str → Option Value) : Prop where
  n_len : mg "len" = none
  n_int : mg "int" = none
  m_ADD : GInt mg "ADD" 8
  m_OP_DO : GInt mg "OP_DO" 10
  m_ROW_WORDS : ∃ aR, mg "ROW_WORDS" = some (.ref aR)
noncomputable def KindAt (x : Str) (kv : V) : Prop := (∃ j : Nat, kv = .int (2 + (j : Int)) ∧ FirstAt (wordsS.map V.str) (.str x) j) ∨ (kv = .non ∧ inV (.str x) (wordsS.map V.str) = false)
theorem kind_word {k : Nat} (h : k < 18) {kv : V} (c : KindAt (wordsS.getD k "") kv) : kv = .int (2 + (k : Int)) := by
  rcases c with ⟨j, rfl, ⟨z, hz, ez⟩, _⟩ | ⟨_, e⟩
  · have hj : j < 18 := by
      have := (List.getElem?_eq_some_iff.mp hz).1
      rw [List.length_map] at this
      exact this
    rw [List.getElem?_map, wordsS_at ⟨j, hj⟩] at hz
    cases hz
    rcases word_first ⟨j, hj⟩ ⟨k, h⟩ with e | e
    · simp only at e
      rw [e] at ez; cases ez
    · cases e; rfl
  · have := word_in ⟨k, h⟩
    simp only at this
    rw [e] at this; cases this
theorem kind_alone {o : Nat} (h : o < 12) (ha : o = 3 ∨ o = 7 ∨ o = 8 ∨ o = 9) {j : Nat} (c : FirstAt (wordsS.map V.str) (.str (rowN.getD o "")) j) : j < 6 := by
  obtain ⟨⟨z, hz, ez⟩, _⟩ := c
  have hj : j < 18 := by
    have := (List.getElem?_eq_some_iff.mp hz).1
    rw [List.length_map] at this
    exact this
  rw [List.getElem?_map, wordsS_at ⟨j, hj⟩] at hz
  cases hz
  rcases alone_kind ⟨o, h⟩ ⟨j, hj⟩ with e | e | e
  · exact absurd ha e
  · simp only at e
    rw [e] at ez; cases ez
  · exact e
theorem row_index {o : Nat} (h : o < 12) (n10 : o ≠ 10) {j : Nat} (c : FirstAt rowV (.str (rowN.getD o "")) j) : j = o := by
  obtain ⟨⟨z, hz, ez⟩, _⟩ := c
  have hj : j < 12 := (List.getElem?_eq_some_iff.mp hz).1
  have hz' : rowV.getD j .non = z := by rw [List.getD_eq_getElem?_getD, hz]; rfl
  rcases row_first ⟨j, hj⟩ ⟨o, h⟩ with e | e | e
  · exact absurd e n10
  · simp only at e
    rw [hz', ez] at e; cases e
  · cases e; rfl

end
section
variable {P : Program} {w : World} {K : PySem.W.Frag} {mg : Str → Option Value} {base : Heap} {f : Addr} {fd : FuncData}
set_option maxHeartbeats 4000000

variable {aW aR CT CC : Addr}
theorem iteN {c : Bool} {A B : Prop} (e : c = false) (h : B) : if c = true then A else B := by
  rw [e]; exact iteF h
theorem iteY {c : Bool} {A B : Prop} (e : c = true) (h : A) : if c = true then A else B := by
  rw [e]; exact iteT h
structure TxtE (K : PySem.W.Frag) (mg : Str → Option Value) (CT CC : Addr) : Prop where
  exc : ExCls K CT
  xat : NoAttr K CT "at"
  bare_NoCode : ExBare K CC
  m_NoCode : mg "NoCode" = some (.ref CC)
theorem ok_init1 (TE : TxtE K mg CT CC) (F : Fun K "__init__" "NoText.__init__" s_NoText___init__ f fd) : FnOk P w K mg base (CXE P w) 1 f fd ["self", "at"] (spInit1 CT) := by
  refine F.okN sc_NoText___init__ (fun vs H Q E h => ?_) (fun cdv A outer s H vs Q E hr h => ?_)
  · obtain ⟨x, y, rfl, _⟩ := h
    rfl
  obtain ⟨x, y, rfl, hx, q⟩ := h
  refine ⟨_, (pss_one (ps_fldX (pv 0) (pv 1))), ?_⟩
  try dsimp only [Cx.nox, Cx.exc, Cx.wish, cxOf_K]
  refine ⟨_, rfl, _, rfl, x, CT, none, rfl, hx, TE.exc, TE.xat, .inl ⟨rfl, fun d hd => ?_⟩⟩
  have nd : d ≠ x := fun e => by rw [e, hx] at hd; cases hd
  refine q d _ nd hd (fun b o nb e => ?_) upd_same (by rw [upd_ne nd]; exact upd_same)
  rw [upd_ne nb, upd_ne (ne_of_none e hd)]; exact e
structure TxtQ (K : PySem.W.Frag) (mg : Str → Option Value) (aR : Addr) : Prop where
  n_len : mg "len" = none
  n_int : mg "int" = none
  m_ADD : GInt mg "ADD" 8
  m_OP_DO : GInt mg "OP_DO" 10
  m_ROW_WORDS : mg "ROW_WORDS" = some (.ref aR)
  roww : ∀ H, SqT K H aR rowV
  rowT : ∃ o, K.lookup aR = some o ∧ o.cls = .type "tuple" ∧ o.dict = none
structure RowF (op n : Int) : Prop where
  lo : 0 ≤ op
  hi : op ≤ 11
  deed : op = 10 → 8 ≤ n ∧ n ≤ 19
  alone : op = 3 ∨ op = 7 ∨ op = 8 ∨ op = 9 → n = 0
  big : n.natAbs < 10 ^ 100
  big0 : op ≠ 0 → n.natAbs < 10 ^ 60
noncomputable def aloneN (o : Nat) : Bool := o == 3 || o == 7 || o == 8 || o == 9
noncomputable def badArgs (o : Nat) (r : List Str) : Bool := if aloneN o then !r.isEmpty else (r.length != 1 || !numOk (r.headD "") (if o = 0 then 100 else 60))
noncomputable def badRow : List Str → Bool
  | [] => false
  | w0 :: r => (!r.isEmpty || (List.range 18).all fun j => decide (j < 6) || decide (wordsS.getD j "" ≠ w0)) && (List.range 12).all fun o => decide (o = 10) || decide (rowN.getD o "" ≠ w0) || badArgs o r
theorem eqS {a b : Str} (h : eqV (.str a) (.str b) = true) : a = b := beq_iff_eq.mp h
theorem badRow_kind {w0 : Str} (h : badRow [w0] = true) {j : Nat} (c : FirstAt (wordsS.map V.str) (.str w0) j) : j < 6 := by
  obtain ⟨⟨z, hz, ez⟩, _⟩ := c
  have hj : j < 18 := by
    have := (List.getElem?_eq_some_iff.mp hz).1
    rw [List.length_map] at this
    exact this
  rw [List.getElem?_map, wordsS_at ⟨j, hj⟩] at hz
  cases hz
  have e := eqS ez
  have h1 := (Bool.and_eq_true_iff.mp h).1
  have h2 : ((List.range 18).all fun j => decide (j < 6) || decide (wordsS.getD j "" ≠ w0)) = true := h1
  have h3 := List.all_eq_true.mp h2 j (List.mem_range.mpr hj)
  rcases Bool.or_eq_true_iff.mp h3 with z | z
  · exact of_decide_eq_true z
  · exact absurd e (of_decide_eq_true z)
theorem badRow_op {w0 : Str} {r : List Str} (h : badRow (w0 :: r) = true) {j : Nat} (c : FirstAt rowV (.str w0) j) : j < 12 ∧ j ≠ 10 ∧ badArgs j r = true := by
  obtain ⟨⟨z, hz, ez⟩, _⟩ := c
  have hj : j < 12 := (List.getElem?_eq_some_iff.mp hz).1
  have n10 : j ≠ 10 := fun e => by
    subst e
    cases hz
    cases ez
  refine ⟨hj, n10, ?_⟩
  have := (rowV_at ⟨j, hj⟩).resolve_left n10
  simp only at this
  rw [this] at hz
  cases hz
  have e := eqS ez
  have h1 := (Bool.and_eq_true_iff.mp h).2
  have h3 := List.all_eq_true.mp h1 j (List.mem_range.mpr hj)
  rcases Bool.or_eq_true_iff.mp h3 with z | z
  · rcases Bool.or_eq_true_iff.mp z with z | z
    · exact absurd (of_decide_eq_true z) n10
    · exact absurd e (of_decide_eq_true z)
  · exact z
theorem aloneN_iff {j : Nat} : aloneN j = true ↔ ((j : Int) = 3 ∨ (j : Int) = 7 ∨ (j : Int) = 8 ∨ (j : Int) = 9) := by
  unfold aloneN
  simp only [Bool.or_eq_true, beq_iff_eq]
  (first | lia | omega)
theorem rowW_head {op n : Int} : ∃ w0 r, rowW op n = w0 :: r ∧ (op = 10 → w0 = wordsS.getD (n - 2).toNat "" ∧ r = []) ∧ (op ≠ 10 → w0 = rowN.getD op.toNat "") ∧ (op ≠ 10 → (op = 3 ∨ op = 7 ∨ op = 8 ∨ op = 9) → r = []) ∧ (op ≠ 10 → ¬ (op = 3 ∨ op = 7 ∨ op = 8 ∨ op = 9) → r = [numS n]) := by
  unfold rowW
  by_cases h : op = 10
  · rw [if_pos h]
    exact ⟨_, _, rfl, fun _ => ⟨rfl, rfl⟩, fun z => absurd h z, fun z => absurd h z, fun z => absurd h z⟩
  · rw [if_neg h]
    by_cases a : op = 3 ∨ op = 7 ∨ op = 8 ∨ op = 9
    · rw [if_pos a]
      exact ⟨_, _, rfl, fun z => absurd z h, fun _ => rfl, fun _ _ => rfl, fun _ z => absurd a z⟩
    · rw [if_neg a]
      exact ⟨_, _, rfl, fun z => absurd z h, fun _ => rfl, fun _ z => absurd z a, fun _ _ => rfl⟩
noncomputable def spReadRowX (CT : Addr) : Sp := fun vs H Q E => ∃ (l : Addr) (n0 : Int) (ws : List Str), vs = [.ref l, .int n0] ∧ H l = some (.lst (ws.map V.str)) ∧ (∀ x ∈ ws, x.length ≤ sizeLine) ∧
  ((∃ op n : Int, ws = rowW op n ∧ RowF op n ∧ ∀ t H', Same H H' → H t = none → H' t = some (.tup [.int op, .int n]) → Q (.ref t) H') ∨ (badRow ws = true ∧ Fails1 CT H E n0))
theorem ok_read_rowX (T : TxtQ K mg aR) (F : Fun K "read_row" "read_row" s_read_row f fd) (CNoText : CalX P w K mg base 1 "NoText" CT ["self", "at"] (spInit1 CT)) (Ckind_of : Cal P w K mg base (CXE P w) 1 "kind_of" ["word"] spKind) (Cstands_alone : Cal P w K mg base (CXE P w) 1 "stands_alone" ["op"] spAlone)
    (Cmost_figures : Cal P w K mg base (CXE P w) 1 "most_figures" ["op"] spMost) (Cis_number_of : Cal P w K mg base (CXE P w) 2 "is_number_of" ["word", "most_figures"] spNumOf) : FnOk P w K mg base (CXE P w) 3 f fd ["words", "at"] (spReadRowX CT) := by
  refine F.okX sc_read_row (fun vs H Q E h => ?_) (fun cdv A outer s H vs Q E hr h => ?_)
  · obtain ⟨l, n0, ws, rfl, _⟩ := h
    rfl
  obtain ⟨l, n0, ws, rfl, el, wb, hq⟩ := h
  refine ⟨_, (pss_cons (ps_cut (ps_set (i := 2) sc_read_row.nd rfl (Or.inl rfl) (pe_callC Ckind_of hr rfl (pa_cons (pe_ix ix_list (pv 0) pe_int (fun _ _ => rfl)) pa_nil) passX)))
      (pss_cons (ps_cut (ps_if (PW.pt (pw_and (pt_cmpR op_eq (pe_callB call_len_seq rfl T.n_len bt_len (pa_cons (pv 0) pa_nil)) pe_int (nomark _)) (pw_and (pt_cmpR op_notN (pv 2) pe_non (nomark _)) (pw_and1 (pt_cmpR op_ge (pv 2) (pe_gint rfl T.m_ADD) (nomark _)))))) (pss_one (ps_ret (pe_tup (pa_cons (pe_gint rfl T.m_OP_DO) (pa_cons (pv 2) pa_nil))))) pss_nil))
      (pss_cons (ps_if (pt_cmpR op_notIn_seq (pe_ix ix_list (pv 0) pe_int (fun _ _ => rfl)) (pe_gref rfl T.m_ROW_WORDS) rfl) (pss_one (ps_raiseC CNoText hr rfl (pa_cons (pv 1) pa_nil))) pss_nil)
      (pss_cons (ps_set (i := 3) sc_read_row.nd rfl (Or.inl rfl) (pe_bm PySem.F.plainAttrs_tuple PySem.F.slot_tuple_index PySem.F.type_tuple_index mt_indexT (pe_gref rfl T.m_ROW_WORDS) (pa_cons (pe_ix ix_list (pv 0) pe_int (fun _ _ => rfl)) pa_nil)))
      (pss_cons (ps_if (PW.pt (pw_and (pt_val (pe_callC Cstands_alone hr rfl (pa_cons (pv 3) pa_nil) passX)) (pw_and1 (pt_cmpR op_eq (pe_callB call_len_seq rfl T.n_len bt_len (pa_cons (pv 0) pa_nil)) pe_int (nomark _))))) (pss_one (ps_ret (pe_tup (pa_cons (pv 3) (pa_cons pe_int pa_nil))))) pss_nil)
      (pss_cons (ps_if (PW.pt (pw_or (pt_val (pe_callC Cstands_alone hr rfl (pa_cons (pv 3) pa_nil) passX)) (pw_or (pt_cmpR op_ne (pe_callB call_len_seq rfl T.n_len bt_len (pa_cons (pv 0) pa_nil)) pe_int (nomark _)) (pw_or1 (pt_not (pt_val (pe_callC Cis_number_of hr rfl (pa_cons (pe_ix ix_list (pv 0) pe_int (fun _ _ => rfl)) (pa_cons (pe_callC Cmost_figures hr rfl (pa_cons (pv 3) pa_nil) passX) pa_nil)) passX))))))) (pss_one (ps_raiseC CNoText hr rfl (pa_cons (pv 1) pa_nil))) pss_nil)
      (pss_one (ps_ret (pe_tup (pa_cons (pv 3) (pa_cons (pe_callTy call_int_str rfl T.n_int bt_int (pa_cons (pe_ix ix_list (pv 0) pe_int (fun _ _ => rfl)) pa_nil)) pa_nil))))))))))), ?_⟩
  try dsimp only [Cx.nox, Cx.exc, Cx.wish, cxOf_K]
  rcases hq with ⟨op, n, rfl, rf, q⟩ | ⟨bad, fl⟩
  · obtain ⟨o0, o1, o10, oa, hn, hn0⟩ := rf
    obtain ⟨w0, r, ew, e10, e1, ea, en⟩ := rowW_head (op := op) (n := n)
    rw [ew] at el
    have at0 : atI ((w0 :: r).map V.str) 0 = some (.str w0) := atI_nat (xs := (w0 :: r).map V.str) (j := 0) rfl
    refine ⟨fun σ' H' => ∃ kv, σ' = [some (.ref l), some (.int n0), some kv, none] ∧ H' = H ∧ KindAt w0 kv, ?_, ?_⟩
    · exact ⟨_, rfl, l, _, _, _, rfl, rfl, .of el, at0, w0, rfl, fun j hj => ⟨_, rfl, rfl, .inl ⟨j, rfl, hj⟩⟩, fun hno => ⟨_, rfl, rfl, .inr ⟨rfl, hno⟩⟩⟩
    rintro _ _ ⟨kv, rfl, rfl, hk⟩
    rename_i H
    refine ⟨fun σ' H' => σ' = [some (.ref l), some (.int n0), some kv, none] ∧ H' = H ∧ op ≠ 10, ?_, ?_⟩
    · refine ⟨_, rfl, l, _, rfl, .inl (.of el), rfl, _, rfl, ite2 (fun c => ?_) (fun c => ?_)⟩
      · have rn : r = [] := by
          have := vt c
          rw [List.length_map, List.length_cons] at this
          cases r with
          | nil => rfl
          | cons x y => rw [List.length_cons] at this; (first | lia | omega)
        have kw : op = 10 → kv = .int n := fun z => by
          obtain ⟨n0, n1⟩ := o10 z
          rw [(e10 z).1] at hk
          rw [kind_word (by (first | lia | omega)) hk]
          exact congrArg V.int (by (first | lia | omega))
        rcases hk with ⟨j, rfl, hj⟩ | ⟨rfl, hno⟩
        · refine ⟨_, rfl, rfl, _, rfl, iteY (by rw [decide_eq_false (fun z => nomatch z)]; rfl) ⟨_, rfl, _, _, rfl, rfl, _, rfl, ite2 (fun c2 => ?_) (fun c2 => ?_)⟩⟩
          · have c2' := of_decide_eq_true c2
            by_cases z : op = 10
            · have ek := kw z
              injection ek with ek
              refine ⟨_, rfl, small (show 2 ≤ 1000 by decide), fun t ht => q t _ (same_new ht _) ht ?_⟩
              rw [upd_same, z, ← ek]
            · have al : op = 3 ∨ op = 7 ∨ op = 8 ∨ op = 9 := Classical.byContradiction fun y => by
                have := en z y
                rw [rn] at this; cases this
              rw [e1 z] at hj
              have := kind_alone (o := op.toNat) (by (first | lia | omega)) (by (first | lia | omega)) hj
              (first | lia | omega)
          · refine ⟨rfl, rfl, fun z => ?_⟩
            have ek := kw z
            injection ek with ek
            obtain ⟨n0, n1⟩ := o10 z
            exact c2 (decide_eq_true (by rw [ek]; exact n0))
        · exact ⟨_, rfl, rfl, _, rfl, iteN (by rw [decide_eq_true rfl]; rfl) (iteF ⟨rfl, rfl, fun z => by have := kw z; cases this⟩)⟩
      · refine iteF ⟨rfl, rfl, fun z => c (decide_eq_true ?_)⟩
        rw [(e10 z).2] <;> rfl
    rintro _ _ ⟨rfl, rfl, n10⟩
    rename_i H
    have w0e := e1 n10
    have hin : inV (.str w0) rowV = true := by
      rw [w0e]
      exact (row_in ⟨op.toNat, by (first | lia | omega)⟩).resolve_left (by show ¬ op.toNat = 10; (first | lia | omega))
    obtain ⟨j, hj⟩ := first_of _ _ hin
    have ej : ((j : Nat) : Int) = op := by
      rw [w0e] at hj
      have := row_index (by (first | lia | omega)) (by (first | lia | omega)) hj
      (first | lia | omega)
    refine ⟨_, rfl, l, _, _, _, rfl, rfl, .of el, at0, aR, _, rfl, .inr (T.roww H), rfl, rfl, _, rfl, iteN (by rw [hin]; rfl) ?_⟩
    refine ⟨.inr (.inl ⟨rfl, T.rowT⟩), _, rfl, l, _, _, _, rfl, rfl, .of el, at0, aR, _, _, j, rfl, rfl, T.roww H, rfl, rfl, hj, ?_⟩
    rw [ej]
    refine ⟨_, rfl, op, rfl, fun b1 H1 s1 hi1 => ⟨_, rfl, ite2 (fun c1 => ?_) (fun c1 => iteF ?_)⟩⟩
    · have al := hi1.mp c1
      have rn := ea n10 al
      have nz : n = 0 := oa al
      refine ⟨_, rfl, l, _, rfl, .inl (.of (s1 _ _ el)), rfl, _, rfl, iteY (decide_eq_true (by rw [rn] <;> rfl)) ?_⟩
      refine ⟨_, rfl, small (show 2 ≤ 1000 by decide), fun t ht => q t _ (s1.trans (same_new ht _)) (s1.free ht) ?_⟩
      rw [upd_same, nz]
    have na : ¬ (op = 3 ∨ op = 7 ∨ op = 8 ∨ op = 9) := fun z => c1 (hi1.mpr z)
    have rn := en n10 na
    have at1 : atI ((w0 :: r).map V.str) 1 = some (.str (numS n)) := by
      rw [rn]
      exact atI_nat (xs := [V.str w0, .str (numS n)]) (j := 1) rfl
    have nl : (numS n).length ≤ 601 := (numS_int (Nat.lt_trans hn (by decide +kernel))).2
    have sl : sizeLine = 16777216 := sizeLine_eq
    have ok : numOk (numS n) (if op = 0 then 100 else 60) = true := by
      by_cases z : op = 0
      · rw [if_pos z]
        exact numOk_num (k := 99) hn (by decide)
      · rw [if_neg z]
        exact numOk_num (k := 59) (hn0 z) (by decide)
    refine ⟨_, rfl, op, rfl, fun b2 H2 s2 hi2 => ⟨_, rfl, iteN (Bool.eq_false_iff.mpr fun z => na (hi2.mp z)) ?_⟩⟩
    have g2 := s1.trans s2
    refine ⟨_, rfl, l, _, rfl, .inl (.of (g2 _ _ el)), rfl, _, rfl, iteN (by rw [rn]; rfl) ?_⟩
    refine ⟨_, rfl, l, _, _, _, rfl, rfl, .of (g2 _ _ el), at1, _, rfl, op, rfl, numS n, _, rfl, by (first | lia | omega), _, rfl, iteN (by rw [ok]; rfl) ?_⟩
    refine ⟨_, rfl, _, rfl, l, _, _, _, rfl, rfl, .of (g2 _ _ el), at1, numS n, n, rfl, (numS_int (Nat.lt_trans hn (by decide +kernel))).1, by (first | lia | omega), small (show 2 ≤ 1000 by decide), fun t ht => q t _ (g2.trans (same_new ht _)) (g2.free ht) upd_same⟩
  · cases ws with
    | nil => cases bad
    | cons w0 r =>
    have at0 : atI ((w0 :: r).map V.str) 0 = some (.str w0) := atI_nat (xs := (w0 :: r).map V.str) (j := 0) rfl
    refine ⟨fun σ' H' => ∃ kv, σ' = [some (.ref l), some (.int n0), some kv, none] ∧ H' = H ∧ KindAt w0 kv, ?_, ?_⟩
    · exact ⟨_, rfl, l, _, _, _, rfl, rfl, .of el, at0, w0, rfl, fun j hj => ⟨_, rfl, rfl, .inl ⟨j, rfl, hj⟩⟩, fun hno => ⟨_, rfl, rfl, .inr ⟨rfl, hno⟩⟩⟩
    rintro _ _ ⟨kv, rfl, rfl, hk⟩
    rename_i H
    refine ⟨fun σ' H' => σ' = [some (.ref l), some (.int n0), some kv, none] ∧ H' = H, ?_, ?_⟩
    · refine ⟨_, rfl, l, _, rfl, .inl (.of el), rfl, _, rfl, ite2 (fun c => ?_) (fun c => iteF ⟨rfl, rfl⟩)⟩
      have rn : r = [] := by
        have := vt c
        rw [List.length_map, List.length_cons] at this
        cases r with
        | nil => rfl
        | cons x y => rw [List.length_cons] at this; (first | lia | omega)
      subst rn
      rcases hk with ⟨j, rfl, hj⟩ | ⟨rfl, hno⟩
      · have := badRow_kind bad hj
        exact ⟨_, rfl, rfl, _, rfl, iteY (by rw [decide_eq_false (fun z => nomatch z)]; rfl) ⟨_, rfl, _, _, rfl, rfl, _, rfl, iteN (decide_eq_false (by (first | lia | omega))) ⟨rfl, rfl⟩⟩⟩
      · exact ⟨_, rfl, rfl, _, rfl, iteN (by rw [decide_eq_true rfl]; rfl) (iteF ⟨rfl, rfl⟩)⟩
    rintro _ _ ⟨rfl, rfl⟩
    rename_i H
    refine ⟨_, rfl, l, _, _, _, rfl, rfl, .of el, at0, aR, _, rfl, .inr (T.roww H), rfl, rfl, _, rfl, ?_⟩
    cases hin : inV (.str w0) rowV with
    | false => exact iteY rfl ⟨_, rfl, small (show 1 ≤ 1000 by decide), raised1 fl⟩
    | true =>
    obtain ⟨j, hj⟩ := first_of _ _ hin
    obtain ⟨j12, j10, ba⟩ := badRow_op bad hj
    refine iteN rfl ⟨.inr (.inl ⟨rfl, T.rowT⟩), _, rfl, l, _, _, _, rfl, rfl, .of el, at0, aR, _, _, j, rfl, rfl, T.roww H, rfl, rfl, hj, ?_⟩
    unfold badArgs at ba
    refine ⟨_, rfl, (j : Int), rfl, fun b1 H1 s1 hi1 => ⟨_, rfl, ite2 (fun c1 => ?_) (fun c1 => iteF ?_)⟩⟩
    · have al := aloneN_iff.mpr (hi1.mp c1)
      rw [al, if_pos rfl] at ba
      refine ⟨_, rfl, l, _, rfl, .inl (.of (s1 _ _ el)), rfl, _, rfl, iteN (decide_eq_false fun z => ?_) ?_⟩
      · injection z with z
        rw [List.length_map, List.length_cons] at z
        cases r with
        | nil => cases ba
        | cons x y => rw [List.length_cons] at z; (first | lia | omega)
      refine ⟨_, rfl, (j : Int), rfl, fun b2 H2 s2 hi2 => ⟨_, rfl, iteY (hi2.mpr (hi1.mp c1)) ⟨_, rfl, small (show 1 ≤ 1000 by decide), raised1 (fl.mono (s1.trans s2))⟩⟩⟩
    · have na : aloneN j = false := Bool.eq_false_iff.mpr fun z => c1 (hi1.mpr (aloneN_iff.mp z))
      rw [na, if_neg Bool.false_ne_true] at ba
      refine ⟨_, rfl, (j : Int), rfl, fun b2 H2 s2 hi2 => ⟨_, rfl, iteN (Bool.eq_false_iff.mpr fun z => by rw [aloneN_iff.mpr (hi2.mp z)] at na; cases na) ?_⟩⟩
      have g2 := s1.trans s2
      refine ⟨_, rfl, l, _, rfl, .inl (.of (g2 _ _ el)), rfl, _, rfl, ite2 (fun c2 => ?_) (fun c2 => ?_)⟩
      · exact iteT ⟨_, rfl, small (show 1 ≤ 1000 by decide), raised1 (fl.mono g2)⟩
      · have l2 : r.length = 1 := by
          have : ¬ (!decide (V.int (((w0 :: r).map V.str).length : Int) = V.int 2)) = true := c2
          rw [Bool.not_eq_true, Bool.not_eq_false', decide_eq_true_eq] at this
          injection this with this
          rw [List.length_map, List.length_cons] at this
          (first | lia | omega)
        obtain ⟨x, rfl⟩ : ∃ x, r = [x] := match r, l2 with | [x], _ => ⟨x, rfl⟩
        have nb : numOk x (if j = 0 then 100 else 60) = false := by
          have e : (([x] : List Str).length != 1 || !numOk (([x] : List Str).headD "") (if j = 0 then 100 else 60)) = !numOk x (if j = 0 then 100 else 60) := rfl
          rw [e, Bool.not_eq_true'] at ba
          exact ba
        have nb2 : numOk x (if (j : Int) = 0 then 100 else 60) = false := by
          by_cases z : j = 0
          · rw [if_pos z] at nb
            rw [if_pos (by (first | lia | omega))]; exact nb
          · rw [if_neg z] at nb
            rw [if_neg (by (first | lia | omega))]; exact nb
        have at1 : atI ([w0, x].map V.str) 1 = some (.str x) := atI_nat (xs := [V.str w0, .str x]) (j := 1) rfl
        refine ⟨_, rfl, l, _, _, _, rfl, rfl, .of (g2 _ _ el), at1, _, rfl, (j : Int), rfl, x, _, rfl, wb x (by simp), _, rfl, iteY (by rw [nb2]; rfl) ?_⟩
        exact ⟨_, rfl, small (show 1 ≤ 1000 by decide), raised1 (fl.mono g2)⟩

end
section
variable {P : Program} {w : World} {K : PySem.W.Frag} {mg : Str → Option Value} {base : Heap} {f : Addr} {fd : FuncData}
set_option maxHeartbeats 4000000

variable {aW aR CT CC : Addr}
structure TxtN (K : PySem.W.Frag) (mg : Str → Option Value) : Prop where
  n_len : mg "len" = none
  n_all : mg "all" = none
  n_int : mg "int" = none
  n_tuple : mg "tuple" = none
  m_HEAD_LENGTH : GInt mg "HEAD_LENGTH" 4
noncomputable def headW (s p b : Int) : List Str := [Str.ofString "fun", numS s, numS p, numS b]
noncomputable def badHead (ws : List Str) : Bool := ws.length != 4 || !((ws.drop 1).all fun x => numOk x 60)
noncomputable def spReadHeadX (CT : Addr) : Sp := fun vs H Q E => ∃ (l : Addr) (n0 : Int) (ws : List Str), vs = [.ref l, .int n0] ∧ H l = some (.lst (ws.map V.str)) ∧ (∀ x ∈ ws, x.length ≤ sizeLine) ∧
  ((∃ s p b : Int, ws = headW s p b ∧ (∀ x ∈ [s, p, b], x.natAbs < 10 ^ 60) ∧ ∀ t H', Same H H' → H t = none → H' t = some (.tup [.int s, .int p, .int b]) → Q (.ref t) H') ∨ (badHead ws = true ∧ Fails1 CT H E n0))
theorem cut_one_from (ws : List Str) : cutV (ws.map V.str) (some 1) none = (ws.drop 1).map V.str := by
  unfold cutV
  have e1 : HT.sIx (ws.map V.str).length 0 (some 1) = min 1 (ws.map V.str).length := HT.sIx_nat _ _ 1
  rw [e1, HT.sIx_none, List.length_map]
  cases ws with
  | nil => rfl
  | cons a r =>
    rw [show min 1 (a :: r).length = 1 by simp, List.map_drop, List.take_of_length_le (by simp)]
theorem ok_read_headX (T : TxtN K mg) (F : Fun K "read_head" "read_head" s_read_head f fd) (CNoText : CalX P w K mg base 1 "NoText" CT ["self", "at"] (spInit1 CT)) (Cis_number : Cal P w K mg base (CXE P w) 3 "is_number" ["word"] spNum) : FnOk P w K mg base (CXE P w) 4 f fd ["words", "at"] (spReadHeadX CT) := by
  refine F.okX sc_read_head (fun vs H Q E h => ?_) (fun cdv A outer s H vs Q E hr h => ?_)
  · obtain ⟨l, n0, ws, rfl, _⟩ := h
    rfl
  obtain ⟨l, n0, ws, rfl, el, wb, hq⟩ := h
  refine ⟨_, (pss_cons (ps_if (PW.pt (pw_or (pt_cmpR op_ne (pe_callB call_len_seq rfl T.n_len bt_len (pa_cons (pv 0) pa_nil)) (pe_gint rfl T.m_HEAD_LENGTH) (nomark _)) (pw_or1 (pt_not (pt_val (pe_callB (call_all rfl) rfl T.n_all bt_all (pa_cons (pe_comp (own := ["word"]) (ys := []) rfl (pi_list (pe_slice sl_list (pv 0) (po_some pe_int) po_none)) (compSc_of (sc := defScope s_read_head) rfl (by decide +kernel)) .nil (fun _ _ _ _ _ => (pg_name (i := 0) (show List.Nodup [("word" : Str)] from (by decide +kernel)) rfl (Or.inl rfl))) (fun _ _ _ _ _ => pts_nil) (fun _ _ _ _ _ => (pe_callC Cis_number hr rfl (pa_cons (pv 0) pa_nil) passN))) pa_nil))))))) (pss_one (ps_raiseC CNoText hr rfl (pa_cons (pv 1) pa_nil))) pss_nil)
      (pss_one (ps_ret (pe_callTy call_tuple_of rfl T.n_tuple bt_tuple (pa_cons (pe_comp (own := ["word"]) (ys := []) rfl (pi_list (pe_slice sl_list (pv 0) (po_some pe_int) po_none)) (compSc_of (sc := defScope s_read_head) rfl (by decide +kernel)) .nil (fun _ _ _ _ _ => (pg_name (i := 0) (show List.Nodup [("word" : Str)] from (by decide +kernel)) rfl (Or.inl rfl))) (fun _ _ _ _ _ => pts_nil) (fun _ _ _ _ _ => (pe_callTy call_int_str rfl T.n_int bt_int (pa_cons (pv 0) pa_nil)))) pa_nil))))), ?_⟩
  try dsimp only [Cx.nox, Cx.exc, Cx.wish, cxOf_K]
  have sl : sizeLine = 16777216 := sizeLine_eq
  refine ⟨_, rfl, l, _, rfl, .inl (.of el), rfl, _, rfl, ite2 (fun c => ?_) (fun c => ?_)⟩
  · rcases hq with ⟨s, p, b, rfl, _⟩ | ⟨_, fl⟩
    · cases c
    · exact iteT ⟨_, rfl, small (show 1 ≤ 1000 by decide), raised1 fl⟩
  have l4 : ws.length = 4 := by
    have : ¬ (!decide (V.int ((ws.map V.str).length : Int) = V.int 4)) = true := c
    rw [Bool.not_eq_true, Bool.not_eq_false', decide_eq_true_eq] at this
    injection this with this
    rw [List.length_map] at this
    (first | lia | omega)
  have l3 : (ws.drop 1).length = 3 := by rw [List.length_drop]; (first | lia | omega)
  refine ⟨_, rfl, _, rfl, l, _, rfl, .of el, fun sp hsp => ?_⟩
  rw [cut_one_from]
  have s1 := same_new hsp (.lst ((ws.drop 1).map V.str))
  refine ⟨sp, rfl, ⟨_, .of upd_same⟩, fun cp hcp => ?_⟩
  have s2 := same_new hcp (.lst [])
  refine comp_lst (xs := (ws.drop 1).map V.str) (fun i σ' H' => H' = upd (upd H sp (.lst ((ws.drop 1).map V.str))) cp (.lst ((((ws.drop 1).take i).map fun x => numOk x 60).map V.bl)) ∧ ∃ x, σ' = [x]) ⟨rfl, _, rfl⟩ ?_ ?_ ?_
  · rintro i σ' H' _ ⟨rfl, _⟩
    exact SqL.of (same_new hcp _ _ _ upd_same)
  · rintro i x σ' H' hi hx ⟨rfl, y, rfl⟩
    rw [List.getElem?_map] at hx
    cases en : (ws.drop 1)[i]? with
    | none => rw [en] at hx; cases hx
    | some n =>
    rw [en] at hx
    cases hx
    dsimp only [gName, tYes]
    refine iteT ⟨_, rfl, n, rfl, wb n (List.mem_of_mem_drop (List.mem_of_getElem? en)), ?_⟩
    refine ⟨_, upd_same, ?_, CW.next hi ⟨?_, _, rfl⟩⟩
    · rw [List.length_map, List.length_map, List.length_take]
      (first | lia | omega)
    · rw [upd_upd, List.take_add_one, en, List.map_append, List.map_append] <;> rfl
  rintro σ' H2 ⟨rfl, _⟩
  have tk : (ws.drop 1).take ((ws.drop 1).map V.str).length = ws.drop 1 := List.take_of_length_le (by rw [List.length_map]; exact Nat.le_refl _)
  rw [tk]
  have eall : ((ws.drop 1).map fun x => numOk x 60).all id = (ws.drop 1).all fun x => numOk x 60 := by
    rw [List.all_map]; rfl
  refine ⟨cp, _, rfl, SqL.of upd_same, _, rfl, ?_⟩
  have g2 := s1.trans (same_new hcp (.lst (((ws.drop 1).map fun x => numOk x 60).map V.bl)))
  rw [eall]
  rcases hq with ⟨a, p, b, rfl, hb, q⟩ | ⟨bad, fl⟩
  · have item : ∀ (i : Nat) (x : V), ([a, p, b].map fun x => V.str (numS x))[i]? = some x → ∃ n, [a, p, b][i]? = some n ∧ x = .str (numS n) ∧ n.natAbs < 10 ^ 60 := by
      intro i x hx
      rw [List.getElem?_map] at hx
      cases e : [a, p, b][i]? with
      | none => rw [e] at hx; cases hx
      | some n => rw [e] at hx; cases hx; exact ⟨n, rfl, rfl, hb n (List.mem_of_getElem? e)⟩
    have okn : ∀ n ∈ [a, p, b], numOk (numS n) 60 = true := fun n hn => numOk_num (k := 59) (hb n hn) (by decide)
    have et : (((headW a p b).drop 1).all fun x => numOk x 60) = true := by
      show ([numS a, numS p, numS b].all fun x => numOk x 60) = true
      simp only [List.all_cons, List.all_nil, Bool.and_true, okn a (by simp), okn p (by simp), okn b (by simp)]
    refine iteN (by rw [et]; rfl) ?_
    obtain ⟨H3, e3⟩ : ∃ H3, H3 = upd (upd H sp (.lst (((headW a p b).drop 1).map V.str))) cp (.lst ((((headW a p b).drop 1).map fun x => numOk x 60).map V.bl)) := ⟨_, rfl⟩
    rw [← e3] at g2
    have el3 : upd (upd H sp (.lst (((headW a p b).drop 1).map V.str))) cp (.lst ((((headW a p b).drop 1).map fun x => numOk x 60).map V.bl)) l = some (.lst ((headW a p b).map V.str)) := by rw [← e3]; exact g2 _ _ el
    refine ⟨_, rfl, _, rfl, l, _, rfl, .of el3, fun sp2 hsp2 => ?_⟩
    rw [← e3] at hsp2
    have hcut : cutV ((headW a p b).map V.str) (some 1) none = ([a, p, b].map fun x => V.str (numS x)) := rfl
    rw [hcut]
    have s3 := same_new hsp2 (.lst ([a, p, b].map fun x => V.str (numS x)))
    refine ⟨sp2, rfl, ⟨_, .of upd_same⟩, fun cp2 hcp2 => ?_⟩
    rw [← e3] at hcp2
    refine comp_lst (xs := [a, p, b].map fun x => V.str (numS x)) (fun i σ' H' => H' = upd (upd H3 sp2 (.lst ([a, p, b].map fun x => V.str (numS x)))) cp2 (.lst (([a, p, b].take i).map V.int)) ∧ ∃ x, σ' = [x]) ⟨by rw [e3] <;> rfl, _, rfl⟩ ?_ ?_ ?_
    · rintro i σ' H' _ ⟨rfl, _⟩
      exact SqL.of (same_new hcp2 _ _ _ upd_same)
    · rintro i x σ' H' hi hx ⟨rfl, y, rfl⟩
      obtain ⟨n, en, rfl, hn⟩ := item i x hx
      have ni := numS_int (n := n) (Nat.lt_trans hn (by decide +kernel))
      dsimp only [gName, tYes]
      refine iteT ⟨_, rfl, numS n, n, rfl, ni.1, Nat.le_trans ni.2 (by decide), _, upd_same, ?_, CW.next hi ⟨?_, _, rfl⟩⟩
      · rw [List.length_map, List.length_take, sl]
        have l3 : [a, p, b].length = 3 := rfl
        (first | lia | omega)
      · rw [upd_upd, List.take_add_one, en, List.map_append] <;> rfl
    rintro σ' H4 ⟨rfl, _⟩
    have g4 := g2.trans (s3.trans (same_new hcp2 (.lst [V.int a, .int p, .int b])))
    exact ⟨cp2, _, rfl, .inl ⟨.of upd_same, fun t ht => q t _ (g4.trans (same_new ht _)) (g4.free ht) upd_same⟩⟩
  · have ef : ((ws.drop 1).all fun x => numOk x 60) = false := by
      unfold badHead at bad
      rw [l4] at bad
      rw [show ((4 : Nat) != 4) = false from rfl, Bool.false_or, Bool.not_eq_true'] at bad
      exact bad
    exact iteY (by rw [ef]; rfl) ⟨_, rfl, small (show 1 ≤ 1000 by decide), raised1 (fl.mono g2)⟩

end
section
variable {P : Program} {w : World} {K : PySem.W.Frag} {mg : Str → Option Value} {base : Heap} {f : Addr} {fd : FuncData}
set_option maxHeartbeats 4000000

variable {aW aR CT CC : Addr}
noncomputable def spCodeOfX (K : PySem.W.Frag) (CC : Addr) : Sp := fun vs H Q E => ∃ (a b : Addr) (hs rs : List (List Int)) (xs ys : List V), vs = [.ref a, .ref b] ∧ Sq K H a xs ∧ Paired (SeqI H) xs hs ∧ (∀ g ∈ hs, g.length = 3) ∧ hs.length ≤ 1000 ∧ Sq K H b ys ∧ Paired (SeqI H) ys rs ∧ (∀ g ∈ rs, g.length = 2) ∧ rs.length ≤ 1000 ∧
  (CodeOk (codeL hs rs) → ∀ l H', Same H H' → H l = none → H' l = some (.lst ((codeL hs rs).map V.int)) → Q (.ref l) H') ∧ (¬ CodeOk (codeL hs rs) → ∀ H', Same H H' → E (.ref CC) none H')
theorem ok_code_ofX (T : Txt K mg) (TE : TxtE K mg CT CC) (F : Fun K "code_of" "code_of" s_code_of f fd) (Cjoined : Cal P w K mg base (CXE P w) 1 "joined" ["things", "size"] (spJoined K)) (Cis_code : Cal P w K mg base (CXE P w) 3 "is_code" ["thing"] spIsCode) : FnOk P w K mg base (CXE P w) 4 f fd ["heads", "rows"] (spCodeOfX K CC) := by
  refine F.okX sc_code_of (fun vs H Q E h => ?_) (fun cdv A outer s H vs Q E hr h => ?_)
  · obtain ⟨a, b, hs, rs, xs, ys, rfl, _⟩ := h
    rfl
  obtain ⟨a, b, hs, rs, xs, ys, rfl, hqa, pra, h3, ha3, hqb, prb, h2, hb2, q, qe⟩ := h
  refine ⟨_, (pss_cons (ps_set (i := 2) sc_code_of.nd rfl (Or.inl rfl) (pe_callC Cjoined hr rfl (pa_cons (pv 0) (pa_cons (pe_gint rfl T.m_HEAD_SIZE) pa_nil)) passX))
      (pss_cons (ps_set (i := 3) sc_code_of.nd rfl (Or.inl rfl) (pe_op op_cat (pe_op op_cat (pe_lst (pa_cons (pe_op op_fdivB (pe_callB call_len_seq rfl T.n_len bt_len (pa_cons (pv 2) pa_nil)) (pe_gint rfl T.m_HEAD_SIZE)) pa_nil)) (pv 2)) (pe_callC Cjoined hr rfl (pa_cons (pv 1) (pa_cons (pe_gint rfl T.m_ROW_SIZE) pa_nil)) passX)))
      (pss_cons (ps_if (pt_not (pt_val (pe_callC Cis_code hr rfl (pa_cons (pv 3) pa_nil) passX))) (pss_one (ps_raise0 TE.bare_NoCode rfl TE.m_NoCode)) pss_nil)
      (pss_one (ps_ret (pv 3)))))), ?_⟩
  try dsimp only [Cx.nox, Cx.exc, Cx.wish, cxOf_K]
  refine ⟨_, rfl, a, hs, xs, 3, rfl, hqa, pra, h3, ha3, by decide, fun l H1 g1 hl1 el => ?_⟩
  have lh := fl_len h3
  have lr := fl_len h2
  have e3 : ((hs.flatten.map V.int).length : Int) / 3 = hs.length := by rw [List.length_map, lh]; (first | lia | omega)
  refine ⟨_, rfl, l, _, rfl, .inl (SqL.of el), _, _, rfl, rfl, ⟨by decide, by decide⟩, small (show 1 ≤ 1000 by decide), fun o ho => ?_⟩
  have eo : upd H1 o (.lst [V.int (((hs.flatten.map V.int).length : Int) / 3)]) o = some (.lst [V.int (hs.length : Int)]) := by rw [e3]; exact upd_same
  have g2 : Same H1 (upd H1 o (.lst [V.int (((hs.flatten.map V.int).length : Int) / 3)])) := same_new ho _
  have lz : (hs.flatten.map V.int).length ≤ 3000 := by rw [List.length_map, lh]; (first | lia | omega)
  have lz2 : (rs.flatten.map V.int).length ≤ 2000 := by rw [List.length_map, lr]; (first | lia | omega)
  refine ⟨_, rfl, o, l, _, _, rfl, rfl, eo, g2 _ _ el, Nat.le_trans (show _ ≤ 3001 by simp only [List.length_cons, List.length_nil]; (first | lia | omega)) (by decide), fun o2 ho2 => ?_⟩
  have g3 := g2.trans (same_new ho2 (.lst ([V.int (hs.length : Int)] ++ hs.flatten.map V.int)))
  have g13 := g1.trans g3
  refine ⟨_, rfl, b, rs, ys, 2, rfl, Sq.same g13 hqb, Paired.imp (fun _ _ x => x.same g13) prb, h2, hb2, by decide, fun l2 H2 g4 hl2 el2 => ?_⟩
  refine ⟨o2, l2, _, _, rfl, rfl, g4 _ _ upd_same, el2, Nat.le_trans (show _ ≤ 5001 by rw [List.length_append]; simp only [List.length_cons, List.length_nil]; (first | lia | omega)) (by decide), fun o3 ho3 => ?_⟩
  have ec : [V.int (hs.length : Int)] ++ hs.flatten.map V.int ++ rs.flatten.map V.int = (codeL hs rs).map V.int := by
    unfold codeL
    rw [List.map_cons, List.map_append, List.append_assoc] <;> rfl
  rw [ec]
  have g5 := g13.trans (g4.trans (same_new ho3 (.lst ((codeL hs rs).map V.int))))
  have lc : (codeL hs rs).length ≤ 1000000 := by
    unfold codeL
    rw [List.length_cons, List.length_append, lh, lr]
    (first | lia | omega)
  refine ⟨_, rfl, o3, codeL hs rs, rfl, upd_same, lc, fun r H5 g6 z => ⟨_, rfl, ?_⟩⟩
  by_cases hk : CodeOk (codeL hs rs)
  · rw [z.mpr hk]
    exact iteF ⟨_, rfl, q hk o3 H5 (g5.trans g6) ((g13.trans g4).free ho3) (g6 _ _ upd_same)⟩
  · rw [Bool.eq_false_iff.mpr fun y => hk (z.mp y)]
    exact iteT fun x hx => qe hk _ ((g5.trans g6).trans (same_new hx _))

end
section
variable {P : Program} {w : World} {K : PySem.W.Frag} {mg : Str → Option Value} {base : Heap} {f : Addr} {fd : FuncData}
set_option maxHeartbeats 4000000

theorem blank_one : (Str.ofString " ") = ⟨#[32]⟩ := by decide
theorem line_one : (Str.ofString "\n") = ⟨#[10]⟩ := by decide
theorem empty_cat (x : Str) : Str.empty ++ x = x := by
  obtain ⟨c⟩ := x
  show (⟨#[] ++ c⟩ : Str) = ⟨c⟩
  simp
theorem join_two (x y : Str) : Txt.join (Str.ofString " ") [x, y] = x ++ Str.ofString " " ++ y := by
  rw [show Txt.join (Str.ofString " ") [x, y] = Str.join (Str.ofString " ") [x, y] from StrLaws.glued_eq_join _ _]
  rfl
theorem rowS_join (op n : Int) : Txt.join (Str.ofString " ") (rowW op n) = rowS op n := by
  unfold rowW rowS
  by_cases h : op = 10
  · rw [if_pos h, if_pos h]; rfl
  · rw [if_neg h, if_neg h]
    by_cases a : op = 3 ∨ op = 7 ∨ op = 8 ∨ op = 9
    · rw [if_pos a, if_pos a]; rfl
    · rw [if_neg a, if_neg a, join_two, empty_cat]
theorem rowN_free : ∀ o : Fin 12, 32 ∉ (rowN.getD o.1 "").cps.toList ∧ 10 ∉ (rowN.getD o.1 "").cps.toList := by decide +kernel
theorem wordsS_free : ∀ k : Fin 18, 32 ∉ (wordsS.getD k.1 "").cps.toList ∧ 10 ∉ (wordsS.getD k.1 "").cps.toList := by decide +kernel
theorem num_free (n : Int) : 32 ∉ (numS n).cps.toList ∧ 10 ∉ (numS n).cps.toList :=
  ⟨fun z => by have := num_signs z; (first | lia | omega), fun z => by have := num_signs z; (first | lia | omega)⟩
theorem rowW_free {op n : Int} (o0 : 0 ≤ op) (o1 : op ≤ 11) (h10 : op = 10 → 8 ≤ n ∧ n ≤ 19) : ∀ x ∈ rowW op n, 32 ∉ x.cps.toList ∧ 10 ∉ x.cps.toList := by
  intro x hx
  have rf := rowN_free ⟨op.toNat, by (first | lia | omega)⟩
  unfold rowW at hx
  by_cases h : op = 10
  · obtain ⟨n0, n1⟩ := h10 h
    rw [if_pos h] at hx
    rw [List.mem_singleton.mp hx]
    exact wordsS_free ⟨(n - 2).toNat, by (first | lia | omega)⟩
  · rw [if_neg h] at hx
    by_cases a : op = 3 ∨ op = 7 ∨ op = 8 ∨ op = 9
    · rw [if_pos a] at hx
      rw [List.mem_singleton.mp hx]
      exact rf
    · rw [if_neg a] at hx
      rcases List.mem_cons.mp hx with z | z
      · rw [z]; exact rf
      · rw [List.mem_singleton.mp z]; exact num_free n
theorem rowW_ne (op n : Int) : rowW op n ≠ [] := by
  obtain ⟨w0, r, e, _⟩ := rowW_head (op := op) (n := n)
  rw [e]
  exact fun z => nomatch z
theorem row_split {op n : Int} (o0 : 0 ≤ op) (o1 : op ≤ 11) (h10 : op = 10 → 8 ≤ n ∧ n ≤ 19) : Txt.split (rowS op n) (Str.ofString " ") = rowW op n := by
  rw [← rowS_join, blank_one]
  exact split_join (rowW_ne op n) fun t ht => (rowW_free o0 o1 h10 t ht).1

theorem join_four (a b c d : Str) : Txt.join (Str.ofString " ") [a, b, c, d] = a ++ Str.ofString " " ++ (b ++ Str.ofString " " ++ (c ++ Str.ofString " " ++ d)) := by
  rw [show Txt.join (Str.ofString " ") [a, b, c, d] = Str.join (Str.ofString " ") [a, b, c, d] from StrLaws.glued_eq_join _ _]
  rfl
theorem cat_assoc (a b c : Str) : a ++ b ++ c = a ++ (b ++ c) := by
  obtain ⟨a⟩ := a
  obtain ⟨b⟩ := b
  obtain ⟨c⟩ := c
  show (⟨a ++ b ++ c⟩ : Str) = ⟨a ++ (b ++ c)⟩
  rw [Array.append_assoc]
theorem headG_join (s p b : Int) : Txt.join (Str.ofString " ") (headW s p b) = headG [s, p, b] := by
  unfold headW headG
  rw [join_four, empty_cat]
  simp only [cat_assoc]
theorem headW_free (s p b : Int) : ∀ x ∈ headW s p b, 32 ∉ x.cps.toList ∧ 10 ∉ x.cps.toList := by
  intro x hx
  unfold headW at hx
  have f0 : 32 ∉ (Str.ofString "fun").cps.toList ∧ 10 ∉ (Str.ofString "fun").cps.toList := by decide
  rcases List.mem_cons.mp hx with z | z
  · rw [z]; exact f0
  rcases List.mem_cons.mp z with z | z
  · rw [z]; exact num_free s
  rcases List.mem_cons.mp z with z | z
  · rw [z]; exact num_free p
  · rw [List.mem_singleton.mp z]; exact num_free b
theorem head_split (s p b : Int) : Txt.split (headG [s, p, b]) (Str.ofString " ") = headW s p b := by
  rw [← headG_join, blank_one]
  exact split_join (fun z => nomatch z) fun t ht => (headW_free s p b t ht).1
theorem join_free {ts : List Str} (h : ∀ t ∈ ts, 10 ∉ t.cps.toList) : 10 ∉ (Txt.join (Str.ofString " ") ts).cps.toList := by
  rw [show Txt.join (Str.ofString " ") ts = Str.join (Str.ofString " ") ts from StrLaws.glued_eq_join _ _, blank_one, join_cps]
  induction ts with
  | nil => exact fun z => nomatch z
  | cons t r ih =>
    rw [List.map_cons]
    obtain ⟨x, ex, cx⟩ := inter_cons 32 t.cps.toList (r.map fun t => t.cps.toList)
    rw [ex]
    intro z
    rcases List.mem_append.mp z with z | z
    · exact h t List.mem_cons_self z
    · rcases cx with ⟨_, e⟩ | ⟨_, e⟩
      · rw [e] at z; cases z
      · rw [e] at z
        rcases List.mem_cons.mp z with z | z
        · cases z
        · exact ih (fun t ht => h t (List.mem_cons_of_mem _ ht)) z
noncomputable def linesOf (hs rs : List (List Int)) : List Str := hs.map headG ++ rs.map rowG
theorem join_len (z : Str) : ∀ ys : List Str, (Str.join z ys).length ≤ (ys.map (·.length)).sum + ys.length * z.length
  | [] => Nat.zero_le _
  | [t] => by
    show t.length ≤ _
    simp
  | t :: u :: r => by
    have ih := join_len z (u :: r)
    show (t ++ z ++ Str.join z (u :: r)).length ≤ _
    rw [strLen_append, strLen_append]
    simp only [List.map_cons, List.sum_cons, List.length_cons, Nat.succ_mul] at ih ⊢
    (first | lia | omega)
theorem fun_is : ∀ o : Fin 12, (rowN.getD o.1 "") ≠ Str.ofString "fun" := by decide +kernel
theorem fun_is2 : ∀ o : Fin 18, (wordsS.getD o.1 "") ≠ Str.ofString "fun" := by decide +kernel

variable {aW aR CT CC : Addr}
theorem inter_len (c : Nat) : ∀ (as : List (List Nat)), as ≠ [] → (∀ a ∈ as, a.length ≤ (inter c as).length) ∧ as.length ≤ (inter c as).length + 1
  | [], h => absurd rfl h
  | a :: as, _ => by
    obtain ⟨x, ex, cx⟩ := inter_cons c a as
    rw [ex, List.length_append]
    rcases cx with ⟨e1, e2⟩ | ⟨e1, e2⟩
    · subst e1 e2
      refine ⟨fun y hy => ?_, by show 1 ≤ _; (first | lia | omega)⟩
      rw [List.mem_singleton.mp hy]; (first | lia | omega)
    · obtain ⟨i1, i2⟩ := inter_len c as e1
      rw [e2, List.length_cons]
      refine ⟨fun y hy => ?_, by rw [List.length_cons]; (first | lia | omega)⟩
      rcases List.mem_cons.mp hy with z | z
      · rw [z]; (first | lia | omega)
      · have := i1 y z; (first | lia | omega)
theorem split_lens (t : Str) (c : Nat) : (∀ w ∈ Txt.split t ⟨#[c]⟩, w.length ≤ t.length) ∧ (Txt.split t ⟨#[c]⟩).length ≤ t.length + 1 := by
  have e := congrArg (fun t : Str => t.cps.toList) (StrLaws.join_split t ⟨#[c]⟩)
  try dsimp only at e
  rw [join_cps] at e
  have ne : (Txt.split t ⟨#[c]⟩).map (fun t => t.cps.toList) ≠ [] := by
    have := PyProof.Rows.split_pos t ⟨#[c]⟩
    intro z
    rw [List.map_eq_nil_iff.mp z] at this
    exact absurd this (by decide)
  obtain ⟨i1, i2⟩ := inter_len c _ ne
  have tl : (inter c ((Txt.split t ⟨#[c]⟩).map fun t => t.cps.toList)).length = t.length := by
    rw [e]
    exact Array.length_toList
  rw [tl] at i1 i2
  refine ⟨fun w hw => ?_, by rw [List.length_map] at i2; exact i2⟩
  have := i1 _ (List.mem_map.mpr ⟨w, hw, rfl⟩)
  rw [Array.length_toList] at this
  exact this
noncomputable def HeadsF (hs : List (List Int)) : Prop := ∀ g ∈ hs, ∃ s p b : Int, g = [s, p, b] ∧ ∀ x ∈ [s, p, b], x.natAbs < 10 ^ 60
noncomputable def RowsF (rs : List (List Int)) : Prop := ∀ g ∈ rs, ∃ op n : Int, g = [op, n] ∧ RowF op n
noncomputable def badLine (first : Bool) (t : Str) : Bool := if (first && decide ((Txt.split t (Str.ofString " ")).headD "" = Str.ofString "fun")) = true then badHead (Txt.split t (Str.ofString " ")) else badRow (Txt.split t (Str.ofString " "))
noncomputable def CodeNo (H : Hp) (E : XK) (CC : Addr) : Prop := ∀ H', Same H H' → E (.ref CC) none H'
noncomputable def rdX (K : PySem.W.Frag) (CT CC : Addr) : Sp := fun vs H Q E => ∃ v, vs = [v] ∧
  ((∃ t, TyOf K H v t ∧ PySem.W.kitOne K t (.type "str") = some false ∧ Fails1 CT H E 0) ∨
   ∃ (hs rs : List (List Int)) (tail : List Str), v = .str (Txt.join (Str.ofString "\n") (linesOf hs rs ++ tail)) ∧ HeadsF hs ∧ RowsF rs ∧ hs.length ≤ 100 ∧ rs.length ≤ 100 ∧ tail.length ≤ 200 ∧ (∀ t ∈ tail, 10 ∉ t.cps.toList ∧ t.length ≤ 2000) ∧ linesOf hs rs ++ tail ≠ [] ∧
    ((tail = [] ∧ (CodeOk (codeL hs rs) → ∀ l H', Same H H' → H l = none → H' l = some (.lst ((codeL hs rs).map V.int)) → Q (.ref l) H') ∧ (¬ CodeOk (codeL hs rs) → CodeNo H E CC)) ∨
     (∃ bad more, tail = bad :: more ∧ badLine rs.isEmpty bad = true ∧ Fails1 CT H E ((hs.length + rs.length : Nat) : Int))))
structure ReadX (K : PySem.W.Frag) (CT CC : Addr) (vs : List V) (H : Hp) (Q : VK) (E : XK) : Prop where
  go : rdX K CT CC vs H Q E
noncomputable def spReadCodeX (K : PySem.W.Frag) (CT CC : Addr) : Sp := fun vs H Q E => ReadX K CT CC vs H Q E
theorem linesF {hs rs : List (List Int)} (fh : HeadsF hs) (fr : RowsF rs) : ∀ t ∈ linesOf hs rs, 10 ∉ t.cps.toList ∧ t.length ≤ 2000 := by
  intro t ht
  have up : ∀ {x : Int} {k : Nat}, x.natAbs < 10 ^ k → k ≤ 500 → x.natAbs < 10 ^ 500 := fun {x k} h hk => Nat.lt_of_lt_of_le h (Nat.pow_le_pow_right (by decide) hk)
  rcases List.mem_append.mp ht with z | z
  · obtain ⟨g, hg, rfl⟩ := List.mem_map.mp z
    obtain ⟨s, p, b, rfl, hb⟩ := fh g hg
    refine ⟨?_, headG_len (up (hb s (by simp)) (by decide)) (up (hb p (by simp)) (by decide)) (up (hb b (by simp)) (by decide))⟩
    rw [← headG_join]
    exact join_free fun t ht => (headW_free s p b t ht).2
  · obtain ⟨g, hg, rfl⟩ := List.mem_map.mp z
    obtain ⟨op, n, rfl, ro⟩ := fr g hg
    refine ⟨?_, Nat.le_trans (rowS_len ro.lo ro.hi ro.deed (up ro.big (by decide))) (by decide)⟩
    show 10 ∉ (rowS op n).cps.toList
    rw [← rowS_join]
    exact join_free fun t ht => (rowW_free ro.lo ro.hi ro.deed t ht).2
structure TxtC (K : PySem.W.Frag) (mg : Str → Option Value) : Prop where
  n_isinstance : mg "isinstance" = none
  n_str : mg "str" = none
  n_enumerate : mg "enumerate" = none
  kstr : PySem.W.kitOne K (.type "str") (.type "str") = some true
noncomputable def InvReadX (x : Str) (hs rs : List (List Int)) (all : List Str) (H : Hp) (hp rp ll : Addr) (i : Nat) (σ' : St) (H' : Hp) : Prop :=
  ∃ v3 v4 v5, σ' = [some (.str x), some (.ref hp), some (.ref rp), v3, v4, v5] ∧ i ≤ hs.length + rs.length ∧ Same H H' ∧ H' ll = some (.lst (all.map V.str)) ∧ GrpAt H' hp (hs.take i) ∧ GrpAt H' rp (rs.take (i - hs.length))
theorem ok_read_codeX (T : TxtC K mg) (TH : TxtH mg) (F : Fun K "read_code" "read_code" s_read_code f fd) (CNoText : CalX P w K mg base 1 "NoText" CT ["self", "at"] (spInit1 CT)) (Cread_head : Cal P w K mg base (CXE P w) 4 "read_head" ["words", "at"] (spReadHeadX CT)) (Cread_row : Cal P w K mg base (CXE P w) 3 "read_row" ["words", "at"] (spReadRowX CT))
    (Ccode_of : Cal P w K mg base (CXE P w) 4 "code_of" ["heads", "rows"] (spCodeOfX K CC)) : FnOk P w K mg base (CXE P w) 5 f fd ["text"] (spReadCodeX K CT CC) := by
  refine F.okX sc_read_code (fun vs H Q E h => ?_) (fun cdv A outer s H vs Q E hr h => ?_)
  · obtain ⟨v, rfl, _⟩ := h
    rfl
  obtain ⟨v, rfl, hq⟩ := h
  refine ⟨_, (pss_cons (ps_if (pt_not (pt_val (pe_callB call_isi rfl T.n_isinstance bt_isinstance (pa_cons (pv 0) (pa_cons (pe_bltn (v := .ty "str") rfl T.n_str bt_str rfl) pa_nil))))) (pss_one (ps_raiseC CNoText hr rfl (pa_cons pe_int pa_nil))) pss_nil)
      (pss_cons (ps_set (i := 1) sc_read_code.nd rfl (Or.inl rfl) (pe_lst pa_nil))
      (pss_cons (ps_set (i := 2) sc_read_code.nd rfl (Or.inl rfl) (pe_lst pa_nil))
      (pss_cons (ps_for (own_fly rfl rfl) rfl (pi_enum rfl T.n_enumerate (pa_cons (pe_bm PySem.F.plainAttrs_str PySem.F.slot_str_split PySem.F.type_str_split mt_split (pv 0) (pa_cons pe_str pa_nil)) pa_nil)) (pg_tup rfl (pgs_cons (pg_name (i := 3) sc_read_code.nd rfl (Or.inl rfl)) (pgs_cons (pg_name (i := 4) sc_read_code.nd rfl (Or.inl rfl)) pgs_nil))) (pss_cons (ps_set (i := 5) sc_read_code.nd rfl (Or.inl rfl) (pe_bm PySem.F.plainAttrs_str PySem.F.slot_str_split PySem.F.type_str_split mt_split (pv 4) (pa_cons pe_str pa_nil)))
      (pss_one (ps_if (PW.pt (pw_and (pt_cmpR op_eq (pe_ix ix_list (pv 5) pe_int (fun _ _ => rfl)) (pe_gstr rfl TH.m_HEAD_WORD) (nomark _)) (pw_and1 (pt_not (pt_truth (pv 2) (fun _ => rfl)))))) (pss_one (ps_expr (pe_bm PySem.F.plainAttrs_list PySem.F.slot_list_append PySem.F.type_list_append mt_append (pv 1) (pa_cons (pe_callC Cread_head hr rfl (pa_cons (pv 5) (pa_cons (pv 3) pa_nil)) passX) pa_nil)))) (pss_one (ps_expr (pe_bm PySem.F.plainAttrs_list PySem.F.slot_list_append PySem.F.type_list_append mt_append (pv 2) (pa_cons (pe_callC Cread_row hr rfl (pa_cons (pv 5) (pa_cons (pv 3) pa_nil)) passX) pa_nil))))))))
      (pss_one (ps_ret (pe_callC Ccode_of hr rfl (pa_cons (pv 1) (pa_cons (pv 2) pa_nil)) passX))))))), ?_⟩
  try dsimp only [Cx.nox, Cx.exc, Cx.wish, cxOf_K]
  rcases hq with ⟨t, ty, kt, fl⟩ | ⟨hs, rs, tail, rfl, fh, fr, lh, lr, lt, tf, ne, hq⟩
  · exact ⟨_, rfl, .inl ⟨_, _, _, false, rfl, ty, kt, _, rfl, iteT ⟨small (show 1 ≤ 1000 by decide), raised1 fl⟩⟩⟩
  have sl : sizeLine = 16777216 := sizeLine_eq
  have alls : ∀ t ∈ linesOf hs rs ++ tail, 10 ∉ t.cps.toList ∧ t.length ≤ 2000 := fun t ht => (List.mem_append.mp ht).elim (linesF fh fr t) (tf t)
  have ll0 : (linesOf hs rs).length = hs.length + rs.length := by unfold linesOf; rw [List.length_append, List.length_map, List.length_map]
  have la0 : (linesOf hs rs ++ tail).length = hs.length + rs.length + tail.length := by rw [List.length_append, ll0]
  have esp : Txt.split (Txt.join (Str.ofString "\n") (linesOf hs rs ++ tail)) (Str.ofString "\n") = linesOf hs rs ++ tail := by
    rw [line_one]
    exact split_join ne fun t ht => (alls t ht).1
  have xl : (Txt.join (Str.ofString "\n") (linesOf hs rs ++ tail)).length ≤ 1000000 := by
    have h := join_len (Str.ofString "\n") (linesOf hs rs ++ tail)
    have h2 := StrLaws.sumLen_le _ fun t ht => (alls t ht).2
    have e1 : (Str.ofString "\n").length = 1 := by decide
    rw [show Txt.join (Str.ofString "\n") (linesOf hs rs ++ tail) = Str.join (Str.ofString "\n") (linesOf hs rs ++ tail) from StrLaws.glued_eq_join _ _]
    rw [e1] at h
    (first | lia | omega)
  generalize Txt.join (Str.ofString "\n") (linesOf hs rs ++ tail) = x at esp xl
  refine ⟨_, rfl, .inl ⟨_, _, _, true, rfl, .str _, T.kstr, _, rfl, iteF ?_⟩⟩
  refine ⟨small (show 0 ≤ 1000 by decide), fun hp hhp => ?_⟩
  have s1 := same_new hhp (.lst [])
  refine ⟨small (show 0 ≤ 1000 by decide), fun rp hrp => ?_⟩
  have s2 := s1.trans (same_new hrp (.lst []))
  have nhr : hp ≠ rp := fun z => by rw [← z, upd_same] at hrp; cases hrp
  have ehp := same_new hrp (.lst []) _ _ (upd_same (H := H) (a := hp) (o := .lst []))
  have erp := upd_same (H := upd H hp (.lst [])) (a := rp) (o := .lst [])
  refine ⟨_, rfl, rfl, x, _, rfl, rfl, rfl, Nat.le_trans xl (by rw [sl]; decide), (by rw [esp, la0]; (first | lia | omega)), fun la hla => ?_⟩
  rw [esp]
  have s3 := s2.trans (same_new hla (.lst ((linesOf hs rs ++ tail).map V.str)))
  have nlh : la ≠ hp := fun z => by rw [z, ehp] at hla; cases hla
  have nlr : la ≠ rp := fun z => by rw [z, erp] at hla; cases hla
  have hrp0 : H rp = none := s1.free hrp
  refine ⟨la, _, rfl, .of upd_same, for_enum (xs := (linesOf hs rs ++ tail).map V.str) (InvReadX x hs rs (linesOf hs rs ++ tail) H hp rp la) ⟨_, _, _, rfl, Nat.zero_le _, s3, upd_same, ⟨[], same_new hla _ _ _ ehp, .nil⟩, ⟨[], same_new hla _ _ _ erp, by rw [Nat.zero_sub]; exact .nil⟩⟩ ?_ ?_ ?_⟩
  · rintro i σ' H' _ ⟨v3, v4, v5, _, _, _, e, _⟩
    exact .of e
  · rintro i y σ' H1 t hx ⟨v3, v4, v5, rfl, hi, sH, ela, gh, gr⟩ ht
    have lx := (List.getElem?_eq_some_iff.mp hx).1
    rw [List.length_map, la0] at lx
    rw [List.getElem?_map] at hx
    have t1 := same_new ht (.tup [.int (i : Nat), y])
    by_cases hlt : i < hs.length
    · have eg : hs[i]? = some hs[i] := List.getElem?_eq_getElem hlt
      obtain ⟨s, p, b, es, b3⟩ := fh _ (List.mem_of_getElem? eg)
      rw [es] at eg
      have ex : y = .str (headG [s, p, b]) := by
        unfold linesOf at hx
        rw [List.append_assoc, List.getElem?_append_left (by rw [List.length_map]; exact hlt), List.getElem?_map, eg] at hx
        cases hx
        rfl
      subst ex
      have hll : (headG [s, p, b]).length ≤ 2000 := (linesF fh fr _ (List.mem_append_left _ (List.mem_map.mpr ⟨_, List.mem_of_getElem? eg, rfl⟩))).2
      have tk : hs.take (i + 1) = hs.take i ++ [[s, p, b]] := by rw [List.take_add_one, eg] <;> rfl
      have z0 : i - hs.length = 0 := by (first | lia | omega)
      have z1 : i + 1 - hs.length = 0 := by (first | lia | omega)
      rw [z0] at gr
      have wl0 : ∀ w ∈ headW s p b, w.length ≤ sizeLine := fun w hw => by
        have := (split_lens (headG [s, p, b]) 32).1 w (by rw [← blank_one, head_split]; exact hw)
        (first | lia | omega)
      refine ⟨t, _, rfl, .of upd_same, rfl, _, _, rfl, _, _, rfl, rfl, ?_⟩
      refine ⟨_, rfl, rfl, headG [s, p, b], _, rfl, rfl, rfl, (by (first | lia | omega)), (by rw [head_split, sl]; exact (by decide : 4 ≤ 16777216)), fun wl hwl => ?_⟩
      rw [head_split]
      have t2 := t1.trans (same_new hwl (.lst ((headW s p b).map V.str)))
      obtain ⟨ys, ey, py⟩ := (gr.same t2)
      have yn : ys = [] := by
        have := Paired.len py
        rw [List.take_zero] at this
        exact List.eq_nil_of_length_eq_zero this
      refine ⟨_, rfl, wl, _, _, _, rfl, rfl, .of upd_same, atI_nat (xs := (headW s p b).map V.str) (j := 0) rfl, rfl, _, rfl, iteY (decide_eq_true rfl) ?_⟩
      refine ⟨_, rfl, false, .inl ⟨ys, .of ey, (by rw [yn] <;> rfl)⟩, iteT ?_⟩
      obtain ⟨zs, ez, pz⟩ := (gh.same t2)
      refine ⟨_, rfl, .inl ⟨rfl, _, .of ez⟩, _, rfl, _, rfl, wl, _, headW s p b, rfl, upd_same, wl0, .inl ⟨s, p, b, rfl, b3, fun u H3 s4 hu eu => ?_⟩⟩
      have lz := Paired.len pz
      rw [List.length_take] at lz
      have g5 := t2.trans s4
      refine ⟨hp, _, _, rfl, rfl, s4 _ _ ez, (by (first | lia | omega)), ⟨_, _, _, rfl, (by (first | lia | omega)), (sH.trans g5).fresh hhp, ?_, ?_, ?_⟩⟩
      · rw [upd_ne nlh]; exact g5 _ _ ela
      · rw [tk]
        exact GrpAt.push (s4 _ _ ez) (Paired.imp (fun _ _ x => x.same s4) pz) ⟨u, rfl, eu⟩
      · rw [z1]
        exact (gr.same g5).put (s4 _ _ ez) (Ne.symm nhr)
    by_cases hlt2 : i < hs.length + rs.length
    · have eg : rs[i - hs.length]? = some (rs[i - hs.length]'(by (first | lia | omega))) := List.getElem?_eq_getElem (by (first | lia | omega))
      generalize rs[i - hs.length]'(by (first | lia | omega)) = g at eg
      have mg' := List.mem_of_getElem? eg
      obtain ⟨op, n, rfl, ro⟩ := fr _ mg'
      have o0 := ro.lo
      have o1 := ro.hi
      have o10 := ro.deed
      have ex : y = .str (rowS op n) := by
        rw [List.getElem?_append_left (by (first | lia | omega))] at hx
        unfold linesOf at hx
        rw [List.getElem?_append_right (by rw [List.length_map]; (first | lia | omega)), List.length_map, List.getElem?_map, eg] at hx
        cases hx
        rfl
      subst ex
      have hll : (rowS op n).length ≤ 2000 := (linesF fh fr _ (List.mem_append_right _ (List.mem_map.mpr ⟨_, mg', rfl⟩))).2
      have z1 : i + 1 - hs.length = i - hs.length + 1 := by (first | lia | omega)
      have tk : rs.take (i + 1 - hs.length) = rs.take (i - hs.length) ++ [[op, n]] := by rw [z1, List.take_add_one, eg] <;> rfl
      obtain ⟨w0, r, ew, e10, e1, ea, en⟩ := rowW_head (op := op) (n := n)
      have w0n : w0 ≠ Str.ofString "fun" := by
        by_cases z : op = 10
        · rw [(e10 z).1]
          exact fun_is2 ⟨(n - 2).toNat, by have := o10 z; (first | lia | omega)⟩
        · rw [e1 z]
          exact fun_is ⟨op.toNat, by (first | lia | omega)⟩
      have wl0 : ∀ w ∈ rowW op n, w.length ≤ sizeLine := fun w hw => by
        have := (split_lens (rowS op n) 32).1 w (by rw [← blank_one, row_split o0 o1 o10]; exact hw)
        (first | lia | omega)
      have wlen : (rowW op n).length ≤ sizeLine := by
        have := (split_lens (rowS op n) 32).2
        rw [← blank_one, row_split o0 o1 o10] at this
        (first | lia | omega)
      refine ⟨t, _, rfl, .of upd_same, rfl, _, _, rfl, _, _, rfl, rfl, ?_⟩
      refine ⟨_, rfl, rfl, rowS op n, _, rfl, rfl, rfl, (by (first | lia | omega)), (by rw [row_split o0 o1 o10]; exact wlen), fun wl hwl => ?_⟩
      rw [row_split o0 o1 o10]
      have t2 := t1.trans (same_new hwl (.lst ((rowW op n).map V.str)))
      have at0 : atI ((rowW op n).map V.str) 0 = some (.str w0) := by
        rw [ew]
        exact atI_nat (xs := (w0 :: r).map V.str) (j := 0) rfl
      refine ⟨_, rfl, wl, _, _, _, rfl, rfl, .of upd_same, at0, rfl, _, rfl, iteN (decide_eq_false fun z => w0n (by injection z)) (iteF ?_)⟩
      obtain ⟨zs, ez, pz⟩ := (gr.same t2)
      refine ⟨_, rfl, .inl ⟨rfl, _, .of ez⟩, _, rfl, _, rfl, wl, _, rowW op n, rfl, upd_same, wl0, .inl ⟨op, n, rfl, ro, fun u H3 s4 hu eu => ?_⟩⟩
      have lz := Paired.len pz
      rw [List.length_take] at lz
      have g5 := t2.trans s4
      refine ⟨rp, _, _, rfl, rfl, s4 _ _ ez, (by (first | lia | omega)), ⟨_, _, _, rfl, (by (first | lia | omega)), (sH.trans g5).fresh hrp0, ?_, ?_, ?_⟩⟩
      · rw [upd_ne nlr]; exact g5 _ _ ela
      · have : hs.take (i + 1) = hs.take i := by rw [List.take_of_length_le (by (first | lia | omega)), List.take_of_length_le (by (first | lia | omega))]
        rw [this]
        exact (gh.same g5).put (s4 _ _ ez) nhr
      · rw [tk]
        exact GrpAt.push (s4 _ _ ez) (Paired.imp (fun _ _ x => x.same s4) pz) ⟨u, rfl, eu⟩
    have ei : i = hs.length + rs.length := by (first | lia | omega)
    rcases hq with ⟨t0, _⟩ | ⟨bad, more, et, hb, fl⟩
    · rw [t0] at lx
      have : ([] : List Str).length = 0 := rfl
      (first | lia | omega)
    have ey0 : y = .str bad := by
      rw [List.getElem?_append_right (by (first | lia | omega)), ll0, ei, Nat.sub_self, et] at hx
      cases hx
      rfl
    subst ey0
    have bl := (tf bad (by rw [et]; exact List.mem_cons_self)).2
    obtain ⟨wb, wn⟩ := split_lens bad 32
    rw [← blank_one] at wb wn
    unfold badLine at hb
    generalize ews : Txt.split bad (Str.ofString " ") = ws at hb wb wn
    have wne : ws ≠ [] := fun z => by
      have := PyProof.Rows.split_pos bad (Str.ofString " ")
      rw [ews, z] at this
      exact absurd this (by decide)
    obtain ⟨w0, r, rfl⟩ : ∃ w0 r, ws = w0 :: r := match ws, wne with | w0 :: r, _ => ⟨w0, r, rfl⟩
    refine ⟨t, _, rfl, .of upd_same, rfl, _, _, rfl, _, _, rfl, rfl, ?_⟩
    refine ⟨_, rfl, rfl, bad, _, rfl, rfl, rfl, (by (first | lia | omega)), (by rw [ews]; (first | lia | omega)), fun wl hwl => ?_⟩
    rw [ews]
    have t2 := t1.trans (same_new hwl (.lst ((w0 :: r).map V.str)))
    have at0 : atI ((w0 :: r).map V.str) 0 = some (.str w0) := atI_nat (xs := (w0 :: r).map V.str) (j := 0) rfl
    have wb' : ∀ w ∈ w0 :: r, w.length ≤ sizeLine := fun w hw => by have := wb w hw; (first | lia | omega)
    obtain ⟨ys, ey, py⟩ := (gr.same t2)
    have ly : ys.length = rs.length := by
      have := Paired.len py
      rw [List.length_take] at this; (first | lia | omega)
    have fl2 := fl.mono (sH.trans t2)
    rw [← ei] at fl2
    obtain ⟨zs, ez, pz⟩ := (gh.same t2)
    refine ⟨_, rfl, wl, _, _, _, rfl, rfl, .of upd_same, at0, rfl, _, rfl, ite2 (fun c => ?_) (fun c => iteF ?_)⟩
    · have ew : w0 = Str.ofString "fun" := by
        have := of_decide_eq_true c
        injection this
      refine ⟨_, rfl, !ys.isEmpty, .inl ⟨ys, .of ey, rfl⟩, ?_⟩
      cases er : rs.isEmpty with
      | true =>
        have yn : ys = [] := by
          have : rs = [] := List.isEmpty_iff.mp er
          rw [this] at ly
          exact List.eq_nil_of_length_eq_zero ly
        rw [er, ew] at hb
        have hbh : badHead (w0 :: r) = true := by
          rw [ew]
          rw [if_pos (by rw [Bool.true_and]; exact decide_eq_true rfl)] at hb
          exact hb
        refine iteY (by rw [yn] <;> rfl) ⟨_, rfl, .inl ⟨rfl, _, .of ez⟩, _, rfl, _, rfl, wl, _, w0 :: r, rfl, upd_same, wb', .inr ⟨hbh, fl2⟩⟩
      | false =>
        have yn : ys.isEmpty = false := by
          cases ys with
          | nil =>
            have : rs = [] := List.eq_nil_of_length_eq_zero ly.symm
            rw [this] at er; cases er
          | cons _ _ => rfl
        rw [er] at hb
        exact iteN (by rw [yn] <;> rfl) ⟨_, rfl, .inl ⟨rfl, _, .of ey⟩, _, rfl, _, rfl, wl, _, w0 :: r, rfl, upd_same, wb', .inr ⟨hb, fl2⟩⟩
    · have nw : ¬ w0 = Str.ofString "fun" := fun z => c (decide_eq_true (congrArg V.str z))
      have hbr : badRow (w0 :: r) = true := by
        rw [if_neg (fun z => by
          have := (Bool.and_eq_true_iff.mp z).2
          exact nw (of_decide_eq_true this))] at hb
        exact hb
      exact ⟨_, rfl, .inl ⟨rfl, _, .of ey⟩, _, rfl, _, rfl, wl, _, w0 :: r, rfl, upd_same, wb', .inr ⟨hbr, fl2⟩⟩
  · rintro σ' H1 ⟨v3, v4, v5, rfl, hi, sH, ela, gh, gr⟩
    rw [List.length_map, la0] at gh gr hi
    have t0 : tail = [] := List.eq_nil_of_length_eq_zero (by (first | lia | omega))
    rcases hq with ⟨_, q, qe⟩ | ⟨bad, more, et, _⟩
    · rw [List.take_of_length_le (by (first | lia | omega))] at gh
      rw [List.take_of_length_le (by (first | lia | omega))] at gr
      obtain ⟨xs, ex, px⟩ := gh
      obtain ⟨ys, ey, py⟩ := gr
      have h3 : ∀ g ∈ hs, g.length = 3 := fun g hg => by obtain ⟨_, _, _, rfl, _⟩ := fh g hg; rfl
      have r2 : ∀ g ∈ rs, g.length = 2 := fun g hg => by obtain ⟨_, _, rfl, _⟩ := fr g hg; rfl
      exact ⟨_, rfl, _, rfl, hp, rp, hs, rs, xs, ys, rfl, .inl (.of ex), GrpAt.seqs px, h3, by (first | lia | omega), .inl (.of ey), GrpAt.seqs py, r2, by (first | lia | omega), fun hk l H2 s5 hl el => q hk l H2 (sH.trans s5) (sH.free hl) el, fun hk H2 s5 => qe hk H2 (sH.trans s5)⟩
    · rw [et] at t0; cases t0

end
section
variable {P : Program} {w : World} {K : PySem.W.Frag} {mg : Str → Option Value} {base : Heap} {f : Addr} {fd : FuncData}
set_option maxHeartbeats 4000000

structure TxtL (K : PySem.W.Frag) (mg : Str → Option Value) : Prop where
  n_len : mg "len" = none
  n_range : mg "range" = none
  n_int : mg "int" = none
  n_str : mg "str" = none
  n_all : mg "all" = none
  n_list : mg "list" = none
  n_bool : mg "bool" = none
  n_isinstance : mg "isinstance" = none
  kstr : PySem.W.kitOne K (.type "str") (.type "str") = some true
  klist : PySem.W.kitOne K (.type "list") (.type "list") = some true
  kint : PySem.W.kitOne K (.type "int") (.type "int") = some true
  kbool : PySem.W.kitOne K (.type "int") (.type "bool") = some false
noncomputable def spPen3 (K : PySem.W.Frag) : Sp := fun vs H Q _ => ∃ (a : Addr) (ns : List Int) (k : Int), vs = [.ref a, .int k] ∧ 0 ≤ k ∧ k < 1000 ∧ Scr K H a ns ∧ ns.length ≤ 63 ∧ ∀ st H', H st = none → Same H H' → Pen3 H' st 0 → Q (.ref st) H'
theorem pm29 : (0 : Int) < 2147483629 := by decide
theorem pm87 : (0 : Int) < 2147483587 := by decide
theorem modb1 (x : Int) : -(2 ^ 64) < x % 2147483629 ∧ x % 2147483629 < 2 ^ 64 := by
  have a1 := Int.emod_nonneg x (show (2147483629 : Int) ≠ 0 by decide)
  have a2 := Int.emod_lt_of_pos x pm29
  (first | lia | omega)
theorem modb2 (x : Int) {t : Int} (h0 : 0 ≤ t) (h1 : t ≤ 1000001) : -(2 ^ 64) < x % 2147483587 + 7919 * t ∧ x % 2147483587 + 7919 * t < 2 ^ 64 := by
  have a1 := Int.emod_nonneg x (show (2147483587 : Int) ≠ 0 by decide)
  have a2 := Int.emod_lt_of_pos x pm87
  (first | lia | omega)
theorem ok_pen3 (T : TxtL K mg) (F : Fun K "_law_pen" "_law_pen" s__law_pen f fd) : FnOk P w K mg base (CXE P w) 1 f fd ["_law_script", "_law_k"] (spPen3 K) := by
  refine F.okN sc__law_pen (fun vs H Q E h => ?_) (fun cdv A outer s H vs Q E hr h => ?_)
  · obtain ⟨a, ns, k, rfl, _⟩ := h
    rfl
  obtain ⟨a, ns, k, rfl, k0, k1, hs, hl, q⟩ := h
  refine ⟨_, (pss_cons (ps_set (i := 2) sc__law_pen.nd rfl (Or.inl rfl) (pe_op op_add (pe_op op_mul pe_int (pv 1)) pe_int))
      (pss_cons (ps_cut (ps_if (pt_cmpR op_lt (pv 1) (pe_callB call_len_seq rfl T.n_len bt_len (pa_cons (pv 0) pa_nil)) (nomark _)) (pss_one (ps_set (i := 2) sc__law_pen.nd rfl (Or.inl rfl) (pe_ix ix_list (pv 0) (pv 1) (fun _ _ => rfl)))) (pss_one (ps_if (pt_cmpR op_gt (pe_callB call_len_seq rfl T.n_len bt_len (pa_cons (pv 0) pa_nil)) pe_int (nomark _)) (pss_one (ps_set (i := 2) sc__law_pen.nd rfl (Or.inl rfl) (pe_op op_add (pe_op op_mod (pe_ix ix_list (pv 0) (pe_op op_mod (pv 1) (pe_callB call_len_seq rfl T.n_len bt_len (pa_cons (pv 0) pa_nil))) (fun _ _ => rfl)) pe_int) (pe_op op_mul pe_int (pv 1))))) pss_nil))))
      (pss_cons (ps_if (pt_cmpR op_ge (pv 2) (pe_op op_pow pe_int pe_int) (nomark _)) (pss_one (ps_ret (pe_lst (pa_cons (pe_op op_sub (pv 2) (pe_op op_pow pe_int pe_int)) (pa_cons (pe_op op_mod (pv 2) pe_int) (pa_cons pe_int pa_nil)))))) pss_nil)
      (pss_one (ps_ret (pe_lst (pa_cons pe_int (pa_cons (pe_op op_mod (pv 2) pe_int) (pa_cons pe_int pa_nil))))))))), ?_⟩
  try dsimp only [Cx.nox, Cx.exc, Cx.wish, cxOf_K]
  refine ⟨_, rfl, _, _, rfl, rfl, .inl ⟨by decide, by decide⟩, _, _, rfl, rfl, ?_⟩
  have hlen : ((ns.map V.int).length : Int) = ns.length := by rw [List.length_map]
  refine ⟨fun σ' H' => H' = H ∧ ∃ x : Int, σ' = [some (.ref a), some (.int k), some (.int x)], ?_, ?_⟩
  · refine ⟨_, rfl, _, rfl, a, _, rfl, .inl hs.sq, _, _, rfl, rfl, _, rfl, ite2 (fun c => ?_) (fun c => ?_)⟩
    · have c' := of_decide_eq_true c
      obtain ⟨v, hv⟩ := atI_int (ns := ns) (k := k) k0 (by (first | lia | omega))
      exact ⟨_, rfl, _, rfl, a, _, _, _, rfl, rfl, hs.sq, hv, rfl, _, rfl⟩
    · refine ⟨_, rfl, a, _, rfl, .inl hs.sq, _, _, rfl, rfl, _, rfl, ite2 (fun c2 => ?_) (fun c2 => ⟨rfl, _, rfl⟩)⟩
      have c2' := of_decide_eq_true c2
      obtain ⟨v, hv⟩ := atI_int (ns := ns) (k := k % ((ns.map V.int).length : Int)) (Int.emod_nonneg _ (by (first | lia | omega))) (by rw [← hlen]; exact Int.emod_lt_of_pos _ (by (first | lia | omega)))
      exact ⟨_, rfl, _, rfl, _, rfl, a, _, rfl, .inl hs.sq, _, _, rfl, rfl, by (first | lia | omega), a, _, _, _, rfl, rfl, hs.sq, hv, _, _, rfl, rfl, pm29, _, rfl, _, _, rfl, rfl, .inl ⟨by decide, by decide⟩, _, _, rfl, rfl, rfl, _, rfl⟩
  rintro _ _ ⟨rfl, x, rfl⟩
  rename_i H
  refine ⟨_, rfl, _, _, rfl, rfl, ⟨by decide, by decide, by decide⟩, _, _, rfl, rfl, _, rfl, ite2 (fun c => ?_) (fun c => ?_)⟩
  · have c' := of_decide_eq_true c
    refine ⟨_, rfl, _, _, rfl, rfl, ⟨by decide, by decide, by decide⟩, _, _, rfl, rfl, _, rfl, _, _, rfl, rfl, pm87, small (show 3 ≤ 1000 by decide), fun st hst => ?_⟩
    exact q _ _ hst (same_new hst _) ⟨_, _, _, upd_same, by (first | lia | omega), by decide, by decide⟩
  · refine ⟨_, rfl, _, _, rfl, rfl, pm87, small (show 3 ≤ 1000 by decide), fun st hst => ?_⟩
    exact q _ _ hst (same_new hst _) ⟨_, _, _, upd_same, by decide, by decide, by decide⟩
theorem ok_draw3 (F : Fun K "_law_draw" "_law_draw" s__law_draw f fd) : FnOk P w K mg base (CXE P w) 1 f fd ["_law_pen_here", "_law_many"] spDraw3 := by
  refine F.okN sc__law_draw (fun vs H Q E h => ?_) (fun cdv A outer s H vs Q E hr h => ?_)
  · obtain ⟨st, many, m, rfl, _⟩ := h
    rfl
  obtain ⟨st, many, m, rfl, hm0, hm1, mb, ⟨c, sd, t, e, c0, t0, tm⟩, q⟩ := h
  refine ⟨_, (pss_cons (ps_asg (pe_op op_add (pe_ix ix_list (pv 0) pe_int (fun _ _ => rfl)) pe_int) (pg_sub (pv 0) pe_int set_list))
      (pss_cons (ps_if (pt_cmpR op_gt (pe_ix ix_list (pv 0) pe_int (fun _ _ => rfl)) pe_int (nomark _)) (pss_cons (ps_set (i := 2) sc__law_draw.nd rfl (Or.inl rfl) (pe_op op_mod (pe_ix ix_list (pv 0) pe_int (fun _ _ => rfl)) (pv 1)))
      (pss_cons (ps_asg (pe_op op_fdivB (pe_ix ix_list (pv 0) pe_int (fun _ _ => rfl)) (pv 1)) (pg_sub (pv 0) pe_int set_list))
      (pss_one (ps_ret (pv 2))))) pss_nil)
      (pss_cons (ps_set (i := 3) sc__law_draw.nd rfl (Or.inl rfl) (pe_op op_mod (pe_op op_add (pe_op op_add (pe_ix ix_list (pv 0) pe_int (fun _ _ => rfl)) (pe_op op_mul pe_int (pe_ix ix_list (pv 0) pe_int (fun _ _ => rfl)))) pe_int) pe_int))
      (pss_cons (ps_set (i := 3) sc__law_draw.nd rfl (Or.inl rfl) (pe_op op_add (pe_op op_mod (pe_op op_mul (pv 3) (pv 3)) pe_int) (pe_op op_mul pe_int (pe_ix ix_list (pv 0) pe_int (fun _ _ => rfl)))))
      (pss_cons (ps_set (i := 3) sc__law_draw.nd rfl (Or.inl rfl) (pe_op op_mod (pe_op op_mul (pv 3) (pv 3)) pe_int))
      (pss_one (ps_ret (pe_op op_mod (pe_op op_fdivB (pv 3) pe_int) (pv 1))))))))), ?_⟩
  try dsimp only [Cx.nox, Cx.exc, Cx.wish, cxOf_K]
  refine ⟨_, rfl, st, _, _, _, rfl, rfl, .of e, rfl, _, _, rfl, rfl, _, rfl, st, _, _, _, rfl, rfl, e, rfl, ?_⟩
  have e1 : upd H st (.lst [.int c, .int sd, .int (t + 1)]) st = some (.lst [.int c, .int sd, .int (t + 1)]) := upd_same
  have k1 : Keep st H (upd H st (.lst [.int c, .int sd, .int (t + 1)])) := Keep.upd
  refine ⟨_, rfl, st, _, _, _, rfl, rfl, .of e1, rfl, _, _, rfl, rfl, _, rfl, ite2 (fun c2 => ?_) (fun c2 => ?_)⟩
  · refine ⟨_, rfl, st, _, _, _, rfl, rfl, .of e1, rfl, _, rfl, _, _, rfl, rfl, hm0, ?_⟩
    refine ⟨_, rfl, st, _, _, _, rfl, rfl, .of e1, rfl, _, rfl, _, _, rfl, rfl, divB hm0 (Int.lt_trans hm1 (by decide)), _, rfl, st, _, _, _, rfl, rfl, e1, rfl, ?_⟩
    exact ⟨_, rfl, q _ _ (Int.emod_nonneg _ (by (first | lia | omega))) (Int.emod_lt_of_pos _ hm0) ⟨⟨_, _, _, upd_same, Int.ediv_nonneg c0 (by (first | lia | omega)), by (first | lia | omega), by (first | lia | omega)⟩, k1.trans Keep.upd⟩⟩
  · refine ⟨_, rfl, st, _, _, _, rfl, rfl, .of e1, rfl, _, rfl, st, _, _, _, rfl, rfl, .of e1, rfl, _, _, rfl, rfl, .inl ⟨by decide, by decide⟩, _, _, rfl, rfl, _, _, rfl, rfl, _, _, rfl, rfl, pm29, ?_⟩
    refine ⟨_, rfl, _, rfl, _, _, rfl, rfl, .inl (modb1 _), _, _, rfl, rfl, pm87, _, rfl, st, _, _, _, rfl, rfl, .of e1, rfl, _, _, rfl, rfl, .inl ⟨by decide, by decide⟩, _, _, rfl, rfl, ?_⟩
    refine ⟨_, rfl, _, rfl, _, _, rfl, rfl, .inl (modb2 _ (t := t + 1) (by (first | lia | omega)) (by (first | lia | omega))), _, _, rfl, rfl, pm29, ?_⟩
    refine ⟨_, rfl, _, _, rfl, rfl, divB (by decide) (by decide), _, rfl, _, _, rfl, rfl, hm0, ?_⟩
    exact q _ _ (Int.emod_nonneg _ (by (first | lia | omega))) (Int.emod_lt_of_pos _ hm0) ⟨⟨_, _, _, e1, c0, by (first | lia | omega), by (first | lia | omega)⟩, k1⟩

end
section
variable {P : Program} {w : World} {K : PySem.W.Frag} {mg : Str → Option Value} {base : Heap} {f : Addr} {fd : FuncData}
set_option maxHeartbeats 4000000

noncomputable def greatT : List Int := [10 ^ 60, 10 ^ 50 * 10 ^ 50, 10 ^ 60, 10 ^ 61]
theorem great_ok : ∀ g ∈ greatT, 10 ^ 60 ≤ g ∧ g ≤ 10 ^ 100 := by decide +kernel
noncomputable def Fits (n : Int) : Prop := n.natAbs < 10 ^ 100
noncomputable def spNumber3 : Sp := fun vs H Q _ => ∃ (st : Addr) (greats m : Int), vs = [.ref st, .int greats] ∧ 0 < greats ∧ greats ≤ 4 ∧ m ≤ 100000 ∧ Pen3 H st m ∧ ∀ (n : Int) (H' : Hp), Fits n → Penned3 st (m + 4) H H' → Q (.int n) H'
theorem mulOne (g d e : Int) (hg : 10 ^ 60 ≤ g ∧ g ≤ 10 ^ 100) (d0 : 0 ≤ d) (d1 : d < 10 ^ 6) (e0 : 0 ≤ e) (e1 : e < 2) : Fits ((g - 1 - d) * (1 - 2 * e)) := by
  unfold Fits
  have b1 : (10 : Int) ^ 6 ≤ 10 ^ 60 := by decide +kernel
  have b2 : ((10 : Int) ^ 100) = ((10 ^ 100 : Nat) : Int) := by norm_cast
  have : e = 0 ∨ e = 1 := by (first | lia | omega)
  rcases this with rfl | rfl
  · rw [show (1 - 2 * 0 : Int) = 1 from rfl, Int.mul_one]
    generalize (10 : Nat) ^ 100 = B at *
    (first | lia | omega)
  · rw [show (1 - 2 * 1 : Int) = -1 from rfl, Int.mul_neg, Int.mul_one]
    generalize (10 : Nat) ^ 100 = B at *
    (first | lia | omega)
theorem smallN {n : Int} (h0 : -5000 ≤ n) (h1 : n ≤ 5000) : Fits n := Nat.lt_trans (show n.natAbs < 5001 by (first | lia | omega)) (by decide +kernel)
theorem oneTwo {e : Int} (e0 : 0 ≤ e) (e1 : e < 2) : -(2 ^ 64) < 1 - 2 * e ∧ 1 - 2 * e < 2 ^ 64 := by (first | lia | omega)
theorem ok_number3 (F : Fun K "_law_number" "_law_number" s__law_number f fd) (C_law_draw : Cal P w K mg base (CXE P w) 1 "_law_draw" ["_law_pen_here", "_law_many"] spDraw3) : FnOk P w K mg base (CXE P w) 2 f fd ["_law_pen_here", "_law_greats"] spNumber3 := by
  refine F.okN sc__law_number (fun vs H Q E h => ?_) (fun cdv A outer s H vs Q E hr h => ?_)
  · obtain ⟨st, greats, m, rfl, _⟩ := h
    rfl
  obtain ⟨st, greats, m, rfl, g0, g1, mb, D, q⟩ := h
  refine ⟨_, (pss_cons (ps_set (i := 2) sc__law_number.nd rfl (Or.inl rfl) (pe_callC C_law_draw hr rfl (pa_cons (pv 0) (pa_cons pe_int pa_nil)) passN))
      (pss_cons (ps_if (pt_cmpR op_lt (pv 2) pe_int (nomark _)) (pss_one (ps_ret (pe_op op_sub (pe_callC C_law_draw hr rfl (pa_cons (pv 0) (pa_cons pe_int pa_nil)) passN) pe_int))) pss_nil)
      (pss_cons (ps_if (pt_cmpR op_eq (pv 2) pe_int (nomark _)) (pss_one (ps_ret (pe_op op_sub (pe_callC C_law_draw hr rfl (pa_cons (pv 0) (pa_cons pe_int pa_nil)) passN) pe_int))) pss_nil)
      (pss_cons (ps_set (i := 3) sc__law_number.nd rfl (Or.inl rfl) (pe_ix ix_list (pe_lst (pa_cons (pe_op op_pow pe_int pe_int) (pa_cons (pe_op op_mulB (pe_op op_pow pe_int pe_int) (pe_op op_pow pe_int pe_int)) (pa_cons (pe_op op_pow pe_int pe_int) (pa_cons (pe_op op_pow pe_int pe_int) pa_nil))))) (pe_callC C_law_draw hr rfl (pa_cons (pv 0) (pa_cons (pv 1) pa_nil)) passN) (fun _ _ => rfl)))
      (pss_one (ps_ret (pe_op op_mul (pe_op op_sub (pe_op op_sub (pv 3) pe_int) (pe_callC C_law_draw hr rfl (pa_cons (pv 0) (pa_cons (pe_op op_pow pe_int pe_int) pa_nil)) passN)) (pe_op op_sub pe_int (pe_op op_mul pe_int (pe_callC C_law_draw hr rfl (pa_cons (pv 0) (pa_cons pe_int pa_nil)) passN)))))))))), ?_⟩
  try dsimp only [Cx.nox, Cx.exc, Cx.wish, cxOf_K]
  refine ⟨_, rfl, st, 6, m, rfl, by decide, by decide, by (first | lia | omega), D, fun r H1 r0 r1 D1 => ?_⟩
  refine ⟨_, rfl, _, _, rfl, rfl, _, rfl, ite2 (fun c => ?_) (fun c => ?_)⟩
  · exact ⟨_, rfl, st, 12, m + 1, rfl, by decide, by decide, by (first | lia | omega), D1.pen, fun x H2 x0 x1 D2 => ⟨_, _, rfl, rfl, q _ _ (smallN (by (first | lia | omega)) (by (first | lia | omega))) ((D1.trans D2).mono (by (first | lia | omega)))⟩⟩
  refine ⟨_, rfl, rfl, _, rfl, ite2 (fun c => ?_) (fun c => ?_)⟩
  · exact ⟨_, rfl, st, 2001, m + 1, rfl, by decide, by decide, by (first | lia | omega), D1.pen, fun x H2 x0 x1 D2 => ⟨_, _, rfl, rfl, q _ _ (smallN (by (first | lia | omega)) (by (first | lia | omega))) ((D1.trans D2).mono (by (first | lia | omega)))⟩⟩
  refine ⟨_, _, rfl, rfl, ⟨by decide, by decide, by decide⟩, ?_⟩
  refine ⟨_, _, rfl, rfl, ⟨by decide, by decide, by decide⟩, _, _, rfl, rfl, ⟨by decide, by decide, by decide⟩, _, _, rfl, rfl, ⟨by decide +kernel, by decide +kernel⟩, ?_⟩
  refine ⟨_, _, rfl, rfl, ⟨by decide, by decide, by decide⟩, ?_⟩
  refine ⟨_, _, rfl, rfl, ⟨by decide, by decide, by decide⟩, ?_⟩
  refine ⟨small (show 4 ≤ 1000 by decide), fun o ho => ?_⟩
  have D2 := D1.trans (D1.pen.new ho (.lst (greatT.map V.int)))
  refine ⟨_, rfl, _, rfl, st, greats, m + 1, rfl, g0, by (first | lia | omega), by (first | lia | omega), D2.pen, fun r2 H3 r20 r21 D3 => ?_⟩
  have eo : H3 o = some (.lst (greatT.map V.int)) := D3.keep _ _ (Ne.symm (D1.pen.ne ho)) upd_same
  obtain ⟨g, gm, hv⟩ := atI_mem (ns := greatT) r20 (show r2 < 4 by (first | lia | omega))
  have gb := great_ok g gm
  refine ⟨o, _, _, _, rfl, rfl, .of eo, hv, ?_⟩
  have D4 := D2.trans D3
  refine ⟨_, rfl, _, _, rfl, rfl, _, rfl, _, _, rfl, rfl, ⟨by decide, by decide, by decide⟩, st, _, m + 2, rfl, by decide, by decide, by (first | lia | omega), D4.pen.mono (by (first | lia | omega)), fun d H5 d0 d1 D5 => ?_⟩
  refine ⟨_, _, rfl, rfl, _, rfl, st, 2, m + 3, rfl, by decide, by decide, by (first | lia | omega), D5.pen.mono (by (first | lia | omega)), fun e H6 e0 e1 D6 => ?_⟩
  refine ⟨_, _, rfl, rfl, .inl ⟨by decide, by decide⟩, _, _, rfl, rfl, _, _, rfl, rfl, .inr (oneTwo e0 e1), ?_⟩
  exact q _ _ (mulOne g d e gb d0 d1 e0 e1) ((D4.trans (D5.trans D6)).mono (by (first | lia | omega)))

end
section
variable {P : Program} {w : World} {K : PySem.W.Frag} {mg : Str → Option Value} {base : Heap} {f : Addr} {fd : FuncData}
set_option maxHeartbeats 4000000

noncomputable def deedW : List Str := ["add", "sub", "mul", "quo", "rest", "less", "same", "push", "at", "put", "size", "new"]
theorem deed_at : ∀ k : Fin 12, deedW[k.1]? = some (wordsS.getD (k.1 + 6) "") := by decide +kernel
theorem rowN_at : ∀ k : Fin 12, rowN[k.1]? = some (rowN.getD k.1 "") := by decide +kernel
noncomputable def spRow3 : Sp := fun vs H Q _ => ∃ (st : Addr) (many rows greats m : Int), vs = [.ref st, .int many, .int rows, .int greats] ∧ 0 < many ∧ many ≤ 16 ∧ 0 < rows ∧ rows ≤ 30 ∧ 0 < greats ∧ greats ≤ 4 ∧ m ≤ 10000 ∧ Pen3 H st m ∧
  ∀ (t : Addr) (op n : Int) (H' : Hp), Penned3 st (m + 9) H H' → H' t = some (.tup [.int op, .int n, .str (rowS op n)]) → RowOk op n many rows → Fits n → Q (.ref t) H'
theorem rowS_num {op n : Int} (h10 : op ≠ 10) (ha : ¬ (op = 3 ∨ op = 7 ∨ op = 8 ∨ op = 9)) : rowN.getD op.toNat "" ++ Str.ofString " " ++ numS n = rowS op n := by
  unfold rowS
  rw [if_neg h10, if_neg ha, empty_cat]
theorem mem4 {k a b c d : Int} : k ∈ [a, b, c, d] ↔ k = a ∨ k = b ∨ k = c ∨ k = d := by simp
theorem ok_row3 (T : TxtL K mg) (F : Fun K "_law_row" "_law_row" s__law_row f fd) (C_law_draw : Cal P w K mg base (CXE P w) 1 "_law_draw" ["_law_pen_here", "_law_many"] spDraw3) (C_law_number : Cal P w K mg base (CXE P w) 2 "_law_number" ["_law_pen_here", "_law_greats"] spNumber3) :
    FnOk P w K mg base (CXE P w) 3 f fd ["_law_pen_here", "_law_many", "_law_rows", "_law_greats"] spRow3 := by
  refine F.okN sc__law_row (fun vs H Q E h => ?_) (fun cdv A outer s H vs Q E hr h => ?_)
  · obtain ⟨st, many, rows, greats, m, rfl, _⟩ := h
    rfl
  obtain ⟨st, many, rows, greats, m, rfl, m0, m1, r0, r1, g0, g1, mb, D, q⟩ := h
  refine ⟨_, (pss_cons (ps_set (i := 4) sc__law_row.nd rfl (Or.inl rfl) (pe_callC C_law_draw hr rfl (pa_cons (pv 0) (pa_cons pe_int pa_nil)) passN))
      (pss_cons (ps_set (i := 5) sc__law_row.nd rfl (Or.inl rfl) (pe_ix ix_list (pe_lst (pa_consts (.str (.str (.str (.str (.str (.str (.str (.str (.str (.str (.str (.str .nil)))))))))))))) (pv 4) (fun _ _ => rfl)))
      (pss_cons (ps_if (pt_cmpR op_in_seq (pv 4) (pe_tup (pa_consts (.int (.int (.int (.int .nil)))))) rfl) (pss_one (ps_ret (pe_tup (pa_cons (pv 4) (pa_cons pe_int (pa_cons (pv 5) pa_nil)))))) pss_nil)
      (pss_cons (ps_if (pt_cmpR op_eq (pv 4) pe_int (nomark _)) (pss_cons (ps_set (i := 6) sc__law_row.nd rfl (Or.inl rfl) (pe_op op_add pe_int (pe_callC C_law_draw hr rfl (pa_cons (pv 0) (pa_cons pe_int pa_nil)) passN)))
      (pss_cons (ps_set (i := 7) sc__law_row.nd rfl (Or.inl rfl) (pe_lst (pa_consts (.str (.str (.str (.str (.str (.str (.str (.str (.str (.str (.str (.str .nil)))))))))))))))
      (pss_one (ps_ret (pe_tup (pa_cons (pv 4) (pa_cons (pv 6) (pa_cons (pe_ix ix_list (pv 7) (pe_op op_sub (pv 6) pe_int) (fun _ _ => rfl)) pa_nil)))))))) pss_nil)
      (pss_cons (ps_set (i := 8) sc__law_row.nd rfl (Or.inl rfl) (pe_callC C_law_number hr rfl (pa_cons (pv 0) (pa_cons (pv 3) pa_nil)) passN))
      (pss_cons (ps_cut (ps_if (pt_cmpR op_in_seq (pv 4) (pe_tup (pa_consts (.int (.int .nil)))) rfl) (pss_one (ps_set (i := 8) sc__law_row.nd rfl (Or.inl rfl) (pe_callC C_law_draw hr rfl (pa_cons (pv 0) (pa_cons pe_int pa_nil)) passN))) pss_nil))
      (pss_cons (ps_cut (ps_if (pt_cmpR op_in_seq (pv 4) (pe_tup (pa_consts (.int (.int .nil)))) rfl) (pss_one (ps_set (i := 8) sc__law_row.nd rfl (Or.inl rfl) (pe_callC C_law_draw hr rfl (pa_cons (pv 0) (pa_cons (pv 2) pa_nil)) passN))) pss_nil))
      (pss_cons (ps_cut (ps_if (pt_cmpR op_eq (pv 4) pe_int (nomark _)) (pss_one (ps_set (i := 8) sc__law_row.nd rfl (Or.inl rfl) (pe_callC C_law_draw hr rfl (pa_cons (pv 0) (pa_cons (pv 1) pa_nil)) passN))) pss_nil))
      (pss_cons (ps_cut (ps_if (pt_cmpR op_eq (pv 4) pe_int (nomark _)) (pss_one (ps_set (i := 8) sc__law_row.nd rfl (Or.inl rfl) (pe_op op_add pe_int (pe_callC C_law_draw hr rfl (pa_cons (pv 0) (pa_cons pe_int pa_nil)) passN)))) pss_nil))
      (pss_one (ps_ret (pe_tup (pa_cons (pv 4) (pa_cons (pv 8) (pa_cons (pe_op op_add_str (pe_op op_add_str (pv 5) pe_str) (pe_callTy call_str_int rfl T.n_str bt_str (pa_cons (pv 8) pa_nil))) pa_nil))))))))))))))), ?_⟩
  try dsimp only [Cx.nox, Cx.exc, Cx.wish, cxOf_K]
  refine ⟨_, rfl, st, 12, m, rfl, by decide, by decide, by (first | lia | omega), D, fun op H1 o0 o1 D1 => ?_⟩
  have eo : op = ((op.toNat : Nat) : Int) := by (first | lia | omega)
  have wl : (rowN.getD op.toNat "").length ≤ 6 := rowN_len ⟨op.toNat, by (first | lia | omega)⟩
  have sl : sizeLine = 16777216 := sizeLine_eq
  have hat : atI (rowN.map V.str) op = some (.str (rowN.getD op.toNat "")) := by
    rw [eo]
    refine atI_nat ?_
    rw [List.getElem?_map]
    have := rowN_at ⟨op.toNat, by (first | lia | omega)⟩
    simp only at this
    rw [this]; rfl
  refine ⟨small (show 12 ≤ 1000 by decide), fun o ho => ⟨_, rfl, o, _, _, _, rfl, rfl, .of upd_same, hat, ?_⟩⟩
  have D2 := D1.trans (D1.pen.new ho (.lst (rowN.map V.str)))
  have np := Ne.symm (D1.pen.ne ho)
  refine ⟨_, rfl, small (show 4 ≤ 1000 by decide), fun u hu => ⟨u, _, rfl, .inr (.of upd_same), rfl, rfl, _, rfl, ite2 (fun c => ?_) (fun c => ?_)⟩⟩
  · have c' := mem4.mp (inI (ns := [3, 7, 8, 9]) c)
    have D3 := D2.trans (D2.pen.new hu (.tup ([(3 : Int), 7, 8, 9].map V.int)))
    refine ⟨_, rfl, _, rfl, small (show 3 ≤ 1000 by decide), fun t ht => ?_⟩
    have D4 := (D3.trans (D3.pen.new ht (.tup [.int op, .int 0, .str (rowN.getD op.toNat "")]))).mono (show m + 1 ≤ m + 9 by (first | lia | omega))
    refine q t op 0 _ D4 ?_ (.inr (.inr (.inr (.inr (.inr (.inr ⟨c', rfl⟩)))))) (smallN (by decide) (by decide))
    rw [upd_same]
    unfold rowS
    rw [if_neg (by (first | lia | omega)), if_pos c']
  have na : ¬ (op = 3 ∨ op = 7 ∨ op = 8 ∨ op = 9) := fun z => inN (ns := [3, 7, 8, 9]) c (mem4.mpr z)
  have D3 := D2.trans (D2.pen.new hu (.tup ([(3 : Int), 7, 8, 9].map V.int)))
  refine ⟨_, rfl, rfl, _, rfl, ite2 (fun c => ?_) (fun c => ?_)⟩
  · have c' := vt c
    refine ⟨_, rfl, st, 12, m + 1, rfl, by decide, by decide, by (first | lia | omega), D3.pen, fun x H4 x0 x1 D4 => ?_⟩
    have ex : x = ((x.toNat : Nat) : Int) := by (first | lia | omega)
    refine ⟨_, _, rfl, rfl, ?_⟩
    refine ⟨small (show 12 ≤ 1000 by decide), fun o2 ho2 => ?_⟩
    have D5 := D4.pen.new ho2 (.lst (deedW.map V.str))
    have hat2 : atI (deedW.map V.str) (8 + x - 8) = some (.str (wordsS.getD (x.toNat + 6) "")) := by
      rw [show 8 + x - 8 = ((x.toNat : Nat) : Int) by (first | lia | omega)]
      refine atI_nat ?_
      rw [List.getElem?_map]
      have := deed_at ⟨x.toNat, by (first | lia | omega)⟩
      simp only at this
      rw [this]; rfl
    refine ⟨_, rfl, _, rfl, _, rfl, _, rfl, _, _, rfl, rfl, o2, _, _, _, rfl, rfl, .of upd_same, hat2, small (show 3 ≤ 1000 by decide), fun t ht => ?_⟩
    have D6 := ((D3.trans D4).trans (D5.trans (D5.pen.new ht (.tup [.int op, .int (8 + x), .str (wordsS.getD (x.toNat + 6) "")])))).mono (show m + 1 + 1 ≤ m + 9 by (first | lia | omega))
    refine q t op (8 + x) _ D6 ?_ (.inr (.inr (.inr (.inr (.inl ⟨c', by (first | lia | omega), by (first | lia | omega)⟩))))) (smallN (by (first | lia | omega)) (by (first | lia | omega)))
    rw [upd_same]
    unfold rowS
    rw [if_pos c', show (8 + x - 2).toNat = x.toNat + 6 by (first | lia | omega)]
  have n10 := vf c
  refine ⟨_, rfl, _, rfl, st, greats, m + 1, rfl, g0, g1, by (first | lia | omega), D3.pen, fun x0 H4 xb D4 => ?_⟩
  have D5 := D3.trans D4

  let Pr (S : Int → Prop) (k : Int) : St → Hp → Prop := fun σ' H' => ∃ n : Int, σ' = [some (.ref st), some (.int many), some (.int rows), some (.int greats), some (.int op), some (.str (rowN.getD op.toNat "")), none, none, some (.int n)] ∧ Penned3 st (m + k) H H' ∧ Fits n ∧ (S op → RowOk op n many rows)
  refine ⟨Pr (fun z => z = 0 ∨ z = 1 ∨ z = 2) 6, ⟨_, rfl, small (show 2 ≤ 1000 by decide), fun u hu => ⟨u, _, rfl, .inr (.of upd_same), rfl, rfl, _, rfl, ite2 (fun c => ?_) (fun c => ?_)⟩⟩, ?_⟩
  · have c' := mem2.mp (inI (ns := [1, 2]) c)
    have D6 := D5.trans (D5.pen.new hu (.tup ([(1 : Int), 2].map V.int)))
    exact ⟨_, rfl, st, 12, m + 5, rfl, by decide, by decide, by (first | lia | omega), D6.pen.mono (by (first | lia | omega)), fun x H8 x0 x1 D8 => ⟨x, rfl, (D6.trans D8).mono (by (first | lia | omega)), smallN (by (first | lia | omega)) (by (first | lia | omega)), fun _ => .inr (.inl ⟨c', x0, x1⟩)⟩⟩
  · have c' : ¬ (op = 1 ∨ op = 2) := fun z => inN (ns := [1, 2]) c (mem2.mpr z)
    exact ⟨x0, rfl, (D5.trans (D5.pen.new hu (.tup ([(1 : Int), 2].map V.int)))).mono (by (first | lia | omega)), xb, fun z => .inl (z.resolve_right c')⟩
  clear D5 D4 xb x0
  rintro σ' H4 ⟨n, rfl, D4, nb, a1⟩
  refine ⟨Pr (fun z => z = 0 ∨ z = 1 ∨ z = 2 ∨ z = 4 ∨ z = 5) 7, ⟨_, rfl, small (show 2 ≤ 1000 by decide), fun u hu => ⟨u, _, rfl, .inr (.of upd_same), rfl, rfl, _, rfl, ite2 (fun c => ?_) (fun c => ?_)⟩⟩, ?_⟩
  · have c' := mem2.mp (inI (ns := [4, 5]) c)
    have D6 := D4.trans (D4.pen.new hu (.tup ([(4 : Int), 5].map V.int)))
    exact ⟨_, rfl, _, rfl, st, rows, m + 6, rfl, r0, by (first | lia | omega), by (first | lia | omega), D6.pen.mono (by (first | lia | omega)), fun x H8 x0 x1 D8 => ⟨x, rfl, (D6.trans D8).mono (by (first | lia | omega)), smallN (by (first | lia | omega)) (by (first | lia | omega)), fun _ => .inr (.inr (.inl ⟨c', x0, x1⟩))⟩⟩
  · have c' : ¬ (op = 4 ∨ op = 5) := fun z => inN (ns := [4, 5]) c (mem2.mpr z)
    exact ⟨n, rfl, (D4.trans (D4.pen.new hu (.tup ([(4 : Int), 5].map V.int)))).mono (by (first | lia | omega)), nb, fun z => a1 (by (first | lia | omega))⟩
  clear D4 nb a1 n
  rintro σ' H4 ⟨n, rfl, D4, nb, a1⟩
  refine ⟨Pr (fun z => z = 0 ∨ z = 1 ∨ z = 2 ∨ z = 4 ∨ z = 5 ∨ z = 6) 8, ⟨_, rfl, rfl, _, rfl, ite2 (fun c => ?_) (fun c => ?_)⟩, ?_⟩
  · have c' := vt c
    exact ⟨_, rfl, _, rfl, st, many, m + 7, rfl, m0, by (first | lia | omega), by (first | lia | omega), D4.pen, fun x H8 x0 x1 D8 => ⟨x, rfl, (D4.trans D8).mono (by (first | lia | omega)), smallN (by (first | lia | omega)) (by (first | lia | omega)), fun _ => .inr (.inr (.inr (.inl ⟨c', x0, x1⟩)))⟩⟩
  · have c' := vf c
    exact ⟨n, rfl, D4.mono (by (first | lia | omega)), nb, fun z => a1 (by (first | lia | omega))⟩
  clear D4 nb a1 n
  rintro σ' H4 ⟨n, rfl, D4, nb, a1⟩
  refine ⟨Pr (fun z => True) 9, ⟨_, rfl, rfl, _, rfl, ite2 (fun c => ?_) (fun c => ?_)⟩, ?_⟩
  · have c' := vt c
    exact ⟨_, rfl, st, 11, m + 8, rfl, by decide, by decide, by (first | lia | omega), D4.pen, fun x H8 x0 x1 D8 => ⟨_, _, rfl, rfl, 2 + x, rfl, (D4.trans D8).mono (by (first | lia | omega)), smallN (by (first | lia | omega)) (by (first | lia | omega)), fun _ => .inr (.inr (.inr (.inr (.inr (.inl ⟨c', by (first | lia | omega), by (first | lia | omega)⟩)))))⟩⟩
  · have c' := vf c
    exact ⟨n, rfl, D4.mono (by (first | lia | omega)), nb, fun z => a1 (by (first | lia | omega))⟩
  clear D4 nb a1 n
  rintro σ' H4 ⟨n, rfl, D4, nb, a1⟩
  have nl : (numS n).length ≤ 601 := (numS_int (Nat.lt_trans nb (by decide +kernel))).2
  have e1 : (Str.ofString " ").length = 1 := by decide
  have l1 : (rowN.getD op.toNat "" ++ Str.ofString " ").length ≤ 7 := by rw [strLen_append]; (first | lia | omega)
  refine ⟨_, rfl, _, rfl, _, rfl, _, _, rfl, rfl, by (first | lia | omega), _, rfl, n, rfl, log_small (Nat.lt_trans nb (by decide +kernel)), _, _, rfl, rfl, Nat.le_trans (Nat.add_le_add l1 nl) (by rw [sl]; decide), small (show 3 ≤ 1000 by decide), fun t ht => ?_⟩
  refine q t op n _ (D4.trans (D4.pen.new ht _)) ?_ (a1 trivial) nb
  rw [upd_same, rowS_num n10 na]

end
section
variable {P : Program} {w : World} {K : PySem.W.Frag} {mg : Str → Option Value} {base : Heap} {f : Addr} {fd : FuncData}
set_option maxHeartbeats 4000000

theorem fun_join (s p b : Int) : Str.ofString "fun " ++ Txt.join (Str.ofString " ") [numS s, numS p, numS b] = headG [s, p, b] := by
  rw [show Txt.join (Str.ofString " ") [numS s, numS p, numS b] = Str.join (Str.ofString " ") [numS s, numS p, numS b] from StrLaws.glued_eq_join _ _]
  show Str.ofString "fun " ++ (numS s ++ Str.ofString " " ++ (numS p ++ Str.ofString " " ++ numS b)) = Str.empty ++ Str.ofString "fun" ++ Str.ofString " " ++ numS s ++ Str.ofString " " ++ numS p ++ Str.ofString " " ++ numS b
  rw [empty_cat, show Str.ofString "fun " = Str.ofString "fun" ++ Str.ofString " " by decide]
  simp only [cat_assoc]
noncomputable def spCode3 : Sp := fun vs H Q _ => ∃ (st : Addr) (most longest greats m : Int), vs = [.ref st, .int most, .int longest, .int greats] ∧ 0 < most ∧ most ≤ 16 ∧ 0 < longest ∧ longest ≤ 30 ∧ 0 < greats ∧ greats ≤ 4 ∧ m ≤ 1000 ∧ Pen3 H st m ∧
  ∀ (t ca la : Addr) (hs rs : List (List Int)) (H' : Hp), Penned3 st (m + 400) H H' → H' t = some (.tup [.ref ca, .ref la]) → H ca = none → H la = none → ca ≠ la → H' ca = some (.lst ((codeL hs rs).map V.int)) → H' la = some (.lst ((linesOf hs rs).map V.str)) → CodeParts hs rs → (∀ g ∈ rs, ∀ x ∈ g, Fits x) → (rs.length : Int) ≤ longest → (hs.length : Int) ≤ most → Q (.ref t) H'
noncomputable def InvHeads (st ca la : Addr) (most longest greats many rows m : Int) (H : Hp) (i : Nat) (σ' : St) (H' : Hp) : Prop :=
  ∃ (v8 v9 v10 : Option V) (hs : List (List Int)), σ' = [some (.ref st), some (.int most), some (.int longest), some (.int greats), some (.int many), some (.int rows), some (.ref ca), some (.ref la), v8, v9, v10, none, none, none] ∧ Penned3 st (m + 2 + 3 * i) H H' ∧
    H' ca = some (.lst ((many :: hs.flatten).map V.int)) ∧ H' la = some (.lst ((hs.map headG).map V.str)) ∧ hs.length = i ∧ (i : Int) ≤ many ∧ ∀ j g, hs[j]? = some g → isHead g j rows.toNat
noncomputable def InvRows (st ca la : Addr) (most longest greats many rows m : Int) (hs : List (List Int)) (H : Hp) (i : Nat) (σ' : St) (H' : Hp) : Prop :=
  ∃ (v8 v9 v10 v11 v12 v13 : Option V) (rs : List (List Int)), σ' = [some (.ref st), some (.int most), some (.int longest), some (.int greats), some (.int many), some (.int rows), some (.ref ca), some (.ref la), v8, v9, v10, v11, v12, v13] ∧ Penned3 st (m + 50 + 9 * i) H H' ∧
    H' ca = some (.lst ((many :: (hs.flatten ++ rs.flatten)).map V.int)) ∧ H' la = some (.lst ((linesOf hs rs).map V.str)) ∧ rs.length = i ∧ (i : Int) ≤ rows ∧ (∀ g ∈ rs, isRow g many.toNat rows.toNat) ∧ ∀ g ∈ rs, ∀ x ∈ g, Fits x
theorem Fits.big {n : Int} (h : Fits n) : n.natAbs < 10 ^ 500 := Nat.lt_trans h (by decide +kernel)
theorem num3_len {n : Int} (h : Fits n) : (numS n).length ≤ 601 := num_len h.big
theorem ok_code3 (T : TxtL K mg) (F : Fun K "_law_code" "_law_code" s__law_code f fd) (C_law_draw : Cal P w K mg base (CXE P w) 1 "_law_draw" ["_law_pen_here", "_law_many"] spDraw3) (C_law_row : Cal P w K mg base (CXE P w) 3 "_law_row" ["_law_pen_here", "_law_many", "_law_rows", "_law_greats"] spRow3) :
    FnOk P w K mg base (CXE P w) 4 f fd ["_law_pen_here", "_law_most", "_law_longest", "_law_greats"] spCode3 := by
  refine F.okN sc__law_code (fun vs H Q E h => ?_) (fun cdv A outer s H vs Q E hr h => ?_)
  · obtain ⟨st, most, longest, greats, m, rfl, _⟩ := h
    rfl
  obtain ⟨st, most, longest, greats, m, rfl, m0, m1, r0, r1, g0, g1, mb, D, q⟩ := h
  refine ⟨_, (pss_cons (ps_set (i := 4) sc__law_code.nd rfl (Or.inl rfl) (pe_op op_add pe_int (pe_callC C_law_draw hr rfl (pa_cons (pv 0) (pa_cons (pv 1) pa_nil)) passN)))
      (pss_cons (ps_set (i := 5) sc__law_code.nd rfl (Or.inl rfl) (pe_op op_add pe_int (pe_callC C_law_draw hr rfl (pa_cons (pv 0) (pa_cons (pv 2) pa_nil)) passN)))
      (pss_cons (ps_set (i := 6) sc__law_code.nd rfl (Or.inl rfl) (pe_lst (pa_cons (pv 4) pa_nil)))
      (pss_cons (ps_set (i := 7) sc__law_code.nd rfl (Or.inl rfl) (pe_lst pa_nil))
      (pss_cons (ps_for PassesOwn.never rfl (pi_range1 rfl T.n_range (pa_cons (pv 4) pa_nil)) (pg_name (i := 8) sc__law_code.nd rfl (Or.inl rfl)) (pss_cons (ps_set (i := 9) sc__law_code.nd rfl (Or.inl rfl) (pe_op op_mul (pe_callC C_law_draw hr rfl (pa_cons (pv 0) (pa_cons pe_int pa_nil)) passN) (pe_callTy call_int1 rfl T.n_int bt_int (pa_cons (pe_cmpR op_gt (pv 8) pe_int (nomark _)) pa_nil))))
      (pss_cons (ps_set (i := 10) sc__law_code.nd rfl (Or.inl rfl) (pe_lst (pa_cons (pe_callC C_law_draw hr rfl (pa_cons (pv 0) (pa_cons (pv 5) pa_nil)) passN) (pa_cons (pv 9) (pa_cons (pe_op op_add (pv 9) (pe_callC C_law_draw hr rfl (pa_cons (pv 0) (pa_cons (pe_op op_sub pe_int (pv 9)) pa_nil)) passN)) pa_nil)))))
      (pss_cons (ps_expr (pe_bm PySem.F.plainAttrs_list PySem.F.slot_list_extend PySem.F.type_list_extend mt_extend (pv 6) (pa_cons (pv 10) pa_nil)))
      (pss_one (ps_expr (pe_bm PySem.F.plainAttrs_list PySem.F.slot_list_append PySem.F.type_list_append mt_append (pv 7) (pa_cons (pe_op op_add_str pe_str (pe_bm PySem.F.plainAttrs_str PySem.F.slot_str_join PySem.F.type_str_join mt_join pe_str (pa_cons (pe_comp (own := ["_law_number_here"]) (ys := []) rfl (pi_list (pv 10)) (compSc_of (sc := defScope s__law_code) rfl (by decide +kernel)) .nil (fun _ _ _ _ _ => (pg_name (i := 0) (show List.Nodup [("_law_number_here" : Str)] from (by decide +kernel)) rfl (Or.inl rfl))) (fun _ _ _ _ _ => pts_nil) (fun _ _ _ _ _ => (pe_callTy call_str_int rfl T.n_str bt_str (pa_cons (pv 0) pa_nil)))) pa_nil))) pa_nil))))))))
      (pss_cons (ps_for PassesOwn.never rfl (pi_range1 rfl T.n_range (pa_cons (pv 5) pa_nil)) (pg_name (i := 8) sc__law_code.nd rfl (Or.inl rfl)) (pss_cons (ps_asg (pe_callC C_law_row hr rfl (pa_cons (pv 0) (pa_cons (pv 4) (pa_cons (pv 5) (pa_cons (pv 3) pa_nil)))) passN) (pg_tup rfl (pgs_cons (pg_name (i := 11) sc__law_code.nd rfl (Or.inl rfl)) (pgs_cons (pg_name (i := 12) sc__law_code.nd rfl (Or.inl rfl)) (pgs_cons (pg_name (i := 13) sc__law_code.nd rfl (Or.inl rfl)) pgs_nil)))))
      (pss_cons (ps_expr (pe_bm PySem.F.plainAttrs_list PySem.F.slot_list_extend PySem.F.type_list_extend mt_extend (pv 6) (pa_cons (pe_lst (pa_cons (pv 11) (pa_cons (pv 12) pa_nil))) pa_nil)))
      (pss_one (ps_expr (pe_bm PySem.F.plainAttrs_list PySem.F.slot_list_append PySem.F.type_list_append mt_append (pv 7) (pa_cons (pv 13) pa_nil)))))))
      (pss_one (ps_ret (pe_tup (pa_cons (pv 6) (pa_cons (pv 7) pa_nil))))))))))), ?_⟩
  try dsimp only [Cx.nox, Cx.exc, Cx.wish, cxOf_K]
  have sl : sizeLine = 16777216 := sizeLine_eq
  refine ⟨_, rfl, _, rfl, st, most, m, rfl, m0, by (first | lia | omega), by (first | lia | omega), D, fun y1 H1 y10 y11 D1 => ⟨_, _, rfl, rfl, ?_⟩⟩
  refine ⟨_, rfl, _, rfl, st, longest, m + 1, rfl, r0, by (first | lia | omega), by (first | lia | omega), D1.pen, fun y2 H2 y20 y21 D2 => ⟨_, _, rfl, rfl, ?_⟩⟩
  have D3 := D1.trans D2
  have mb1 : (1 + y1).toNat ≤ 16 := by (first | lia | omega)
  refine ⟨_, rfl, small (show 1 ≤ 1000 by decide), fun ca hca => ?_⟩
  have D4 := D3.trans (D3.pen.new hca (.lst [.int (1 + y1)]))
  refine ⟨small (show 0 ≤ 1000 by decide), fun la hla => ?_⟩
  have D5 := D4.trans (D4.pen.new hla (.lst []))
  have nca : ca ≠ st := Ne.symm (D3.pen.ne hca)
  have nla : la ≠ st := Ne.symm (D4.pen.ne hla)
  have ncl : ca ≠ la := fun z => by rw [← z, upd_same] at hla; cases hla
  have hca0 : H ca = none := D3.free hca
  have hla0 : H la = none := D4.free hla
  refine ⟨_, rfl, _, rfl, by (first | lia | omega), by (first | lia | omega), for_range (lo := 0) (n := (1 + y1).toNat) (InvHeads st ca la most longest greats (1 + y1) (1 + y2) m H) ⟨_, _, _, [], rfl, D5.mono (by (first | lia | omega)), same_new hla _ _ _ upd_same, upd_same, rfl, by (first | lia | omega), fun j g e => by simp at e⟩ ?_ ?_⟩
  · rintro i σ' H' hi ⟨v8, v9, v10, hs, rfl, dd, eca, ela, hn, him, al⟩
    refine ⟨_, rfl, st, 5, _, rfl, by decide, by decide, (by (first | lia | omega)), dd.pen, fun r5 H5 a5 b5 d5 => ?_⟩
    refine ⟨_, rfl, _, _, rfl, rfl, .inr ⟨_, rfl, _, _, rfl, rfl, .inl ⟨by (first | lia | omega), by (first | lia | omega)⟩, ?_⟩⟩
    obtain ⟨pa, hp⟩ : ∃ pa, r5 * (if decide (0 < (0 : Int) + (i : Int)) = true then 1 else 0) = pa := ⟨_, rfl⟩
    show gName 9 (V.int (r5 * (if decide (0 < (0 : Int) + (i : Int)) = true then 1 else 0))) _ _ _
    rw [hp]
    have p0 : 0 ≤ pa ∧ pa ≤ 4 ∧ (i = 0 → pa = 0) := by
      rw [← hp]
      by_cases c : 0 < i
      · rw [if_pos (decide_eq_true (by (first | lia | omega)))]; (first | lia | omega)
      · rw [if_neg (fun z => by have := of_decide_eq_true z; (first | lia | omega))]; (first | lia | omega)
    refine ⟨_, rfl, _, rfl, st, 1 + y2, _, rfl, by (first | lia | omega), by (first | lia | omega), (by (first | lia | omega)), d5.pen, fun r6 H6 a6 b6 d6 => ?_⟩
    refine ⟨_, rfl, _, rfl, _, rfl, _, rfl, _, _, rfl, rfl, st, 13 - pa, _, rfl, by (first | lia | omega), by (first | lia | omega), (by (first | lia | omega)), d6.pen, fun r7 H7 a7 b7 d7 => ⟨_, _, rfl, rfl, small (show 3 ≤ 1000 by decide), fun hd hhd => ?_⟩⟩
    have d8 := dd.trans (d5.trans (d6.trans (d7.trans (d7.pen.new hhd (.lst ([r6, pa, pa + r7].map V.int))))))
    have keep : ∀ b o, b ≠ st → H' b = some o → upd H7 hd (.lst ([r6, pa, pa + r7].map V.int)) b = some o := fun b o n e => (d5.trans (d6.trans (d7.trans (d7.pen.new hhd (.lst ([r6, pa, pa + r7].map V.int)))))).keep b o n e
    have eca8 := keep _ _ nca eca
    have ela8 := keep _ _ nla ela
    have nch : hd ≠ ca := fun z => by
      have := (d5.trans (d6.trans d7)).keep _ _ nca eca
      rw [← z, hhd] at this; cases this
    have nlh : hd ≠ la := fun z => by
      have := (d5.trans (d6.trans d7)).keep _ _ nla ela
      rw [← z, hhd] at this; cases this
    have ehd : upd H7 hd (.lst ([r6, pa, pa + r7].map V.int)) hd = some (.lst ([r6, pa, pa + r7].map V.int)) := upd_same
    have lf : hs.flatten.length ≤ 48 := by
      rw [fl_len (k := 3) fun g hg => ?_]
      · (first | lia | omega)
      · obtain ⟨j, hj⟩ := List.mem_iff_getElem?.mp hg
        obtain ⟨_, _, _, rfl, _⟩ := al j g hj
        rfl
    have f6 : Fits r6 := smallN (by (first | lia | omega)) (by (first | lia | omega))
    have f7 : Fits pa := smallN (by (first | lia | omega)) (by (first | lia | omega))
    have f8 : Fits (pa + r7) := smallN (by (first | lia | omega)) (by (first | lia | omega))
    have fa : ∀ x ∈ [r6, pa, pa + r7], Fits x := by
      intro x hx
      rcases mem3.mp hx with e | e | e <;> rw [e] <;> assumption
    refine ⟨_, rfl, .inl ⟨rfl, _, .of eca8⟩, _, rfl, ca, hd, _, _, rfl, rfl, eca8, ehd, ?_, ?_⟩
    · rw [List.length_map, List.length_map, List.length_cons]
      exact small (show hs.flatten.length + 1 + 3 ≤ 1000 by (first | lia | omega))
    have ela9 : upd (upd H7 hd (.lst ([r6, pa, pa + r7].map V.int))) ca (.lst (((1 + y1) :: hs.flatten).map V.int ++ [r6, pa, pa + r7].map V.int)) la = some (.lst ((hs.map headG).map V.str)) := by
      rw [upd_ne (Ne.symm ncl)]; exact ela8
    have ehd9 : upd (upd H7 hd (.lst ([r6, pa, pa + r7].map V.int))) ca (.lst (((1 + y1) :: hs.flatten).map V.int ++ [r6, pa, pa + r7].map V.int)) hd = some (.lst ([r6, pa, pa + r7].map V.int)) := by
      rw [upd_ne nch]; exact ehd
    have eca9 : upd (upd H7 hd (.lst ([r6, pa, pa + r7].map V.int))) ca (.lst (((1 + y1) :: hs.flatten).map V.int ++ [r6, pa, pa + r7].map V.int)) ca = some (.lst (((1 + y1) :: (hs ++ [[r6, pa, pa + r7]]).flatten).map V.int)) := by
      rw [upd_same, List.flatten_append, ← List.map_append, List.cons_append]
      simp
    have d9 := d8.putNew (o := .lst (((1 + y1) :: hs.flatten).map V.int ++ [r6, pa, pa + r7].map V.int)) hca0 nca
    obtain ⟨H9, eH9⟩ : ∃ H9, H9 = upd (upd H7 hd (.lst ([r6, pa, pa + r7].map V.int))) ca (.lst (((1 + y1) :: hs.flatten).map V.int ++ [r6, pa, pa + r7].map V.int)) := ⟨_, rfl⟩
    refine ⟨_, rfl, .inl ⟨rfl, _, .of ela9⟩, rfl, _, rfl, hd, rfl, ⟨_, .of ehd9⟩, fun cp hcp0 => ?_⟩
    have hcp : H9 cp = none := by rw [eH9]; exact hcp0
    rw [← eH9] at ela9 ehd9 eca9 d9
    refine comp_lst (xs := [r6, pa, pa + r7].map V.int) (fun i σ' H' => H' = upd H9 cp (.lst (([r6, pa, pa + r7].take i).map fun x => V.str (numS x))) ∧ ∃ x, σ' = [x]) ⟨(by rw [eH9] <;> rfl), _, rfl⟩ ?_ ?_ ?_
    · rintro i σ' H' _ ⟨rfl, _⟩
      exact SqL.of (same_new hcp _ _ _ ehd9)
    · rintro i x σ' H' hi hx ⟨rfl, y, rfl⟩
      rw [List.getElem?_map] at hx
      cases en : [r6, pa, pa + r7][i]? with
      | none => rw [en] at hx; cases hx
      | some n =>
        rw [en] at hx
        cases hx
        have hn := fa n (List.mem_of_getElem? en)
        dsimp only [gName, tYes]
        refine iteT ⟨_, rfl, n, rfl, log_small hn.big, _, upd_same, ?_, CW.next hi ⟨?_, _, rfl⟩⟩
        · rw [List.length_map, List.length_take, sl]
          have l3 : [r6, pa, pa + r7].length = 3 := rfl
          (first | lia | omega)
        · rw [upd_upd, List.take_add_one, en, List.map_append] <;> rfl
    rintro σ' H10 ⟨rfl, _⟩
    have n6 := num3_len f6
    have n7 := num3_len f7
    have n8 := num3_len f8
    have e1 : (Str.ofString " ").length = 1 := by decide
    have e4 : (Str.ofString "fun ").length = 4 := by decide
    refine ⟨_, cp, [numS r6, numS pa, numS (pa + r7)], rfl, rfl, .of upd_same, ?_, _, _, rfl, rfl, ?_, ?_⟩
    · show (numS r6).length + ((numS pa).length + ((numS (pa + r7)).length + 0)) + 3 * (Str.ofString " ").length ≤ 16777216
      rw [e1]
      (first | lia | omega)
    · have hj := join_len (Str.ofString " ") [numS r6, numS pa, numS (pa + r7)]
      rw [show Str.join (Str.ofString " ") [numS r6, numS pa, numS (pa + r7)] = Txt.join (Str.ofString " ") [numS r6, numS pa, numS (pa + r7)] from (StrLaws.glued_eq_join _ _).symm] at hj
      have hj2 : (Txt.join (Str.ofString " ") [numS r6, numS pa, numS (pa + r7)]).length ≤ (numS r6).length + ((numS pa).length + ((numS (pa + r7)).length + 0)) + 3 * (Str.ofString " ").length := hj
      rw [e1] at hj2
      rw [e4, sl]
      (first | lia | omega)
    rw [fun_join]
    have ncp : ca ≠ cp := fun z => by rw [← z, eca9] at hcp; cases hcp
    have nlp : la ≠ cp := fun z => by rw [← z, ela9] at hcp; cases hcp
    have d10 := d9.trans (d9.pen.new hcp (.lst (([r6, pa, pa + r7].take 3).map fun x => V.str (numS x))))
    refine ⟨la, _, _, rfl, rfl, (by rw [upd_ne nlp]; exact ela9), ?_, ⟨_, _, _, hs ++ [[r6, pa, pa + r7]], rfl, (d10.putNew hla0 nla).mono (by (first | lia | omega)), ?_, ?_, ?_, by (first | lia | omega), fun j g e => ?_⟩⟩
    · rw [List.length_map, List.length_map, hn]
      exact small1000 (by (first | lia | omega))
    · rw [upd_ne ncl, upd_ne ncp]; exact eca9
    · rw [upd_same, List.map_append, List.map_append] <;> rfl
    · rw [List.length_append, hn] <;> rfl
    · rcases snoc_get e with e | ⟨e1, e2⟩
      · exact al j g e
      · rw [e1, e2, hn]
        refine ⟨r6, pa, pa + r7, rfl, ?_⟩
        unfold HeadOk
        (first | lia | omega)
  · rintro σ' H6 ⟨v8, v9, v10, hs, rfl, dd, eca, ela, hn, him, al⟩
    have lf : hs.flatten.length = hs.length * 3 := fl_len fun g hg => by
      obtain ⟨j, hj⟩ := List.mem_iff_getElem?.mp hg
      obtain ⟨_, _, _, rfl, _⟩ := al j g hj
      rfl
    refine ⟨_, rfl, _, rfl, by (first | lia | omega), by (first | lia | omega), for_range (lo := 0) (n := (1 + y2).toNat) (InvRows st ca la most longest greats (1 + y1) (1 + y2) m hs H) ⟨_, _, _, _, _, _, [], rfl, dd.mono (by (first | lia | omega)), ?_, ?_, rfl, by (first | lia | omega), (fun g hg => nomatch hg), fun g hg => nomatch hg⟩ ?_ ?_⟩
    · rw [List.flatten_nil, List.append_nil]; exact eca
    · unfold linesOf
      rw [List.map_nil, List.append_nil]; exact ela
    · rintro i σ' H7 hi ⟨w8, w9, w10, w11, w12, w13, rs, rfl, d7, eca7, ela7, rn, rim, ar, fr⟩
      refine ⟨_, rfl, _, rfl, _, rfl, _, rfl, st, 1 + y1, 1 + y2, greats, _, rfl, by (first | lia | omega), by (first | lia | omega), by (first | lia | omega), by (first | lia | omega), g0, g1, (by (first | lia | omega)), d7.pen, fun t op n H8 d8 et ro fn => ?_⟩
      have eca8 := d8.keep _ _ nca eca7
      have ela8 := d8.keep _ _ nla ela7
      have d9 := d7.trans d8
      have lr : rs.flatten.length = rs.length * 2 := fl_len fun g hg => by
        obtain ⟨_, _, rfl, _⟩ := ar g hg
        rfl
      refine ⟨t, _, rfl, .of et, rfl, _, _, rfl, _, _, rfl, _, _, rfl, rfl, ?_⟩
      refine ⟨_, rfl, .inl ⟨rfl, _, .of eca8⟩, _, rfl, _, rfl, small (show 2 ≤ 1000 by decide), fun pl hpl => ?_⟩
      have ncp : ca ≠ pl := fun z => by rw [← z, eca8] at hpl; cases hpl
      have nlp : la ≠ pl := fun z => by rw [← z, ela8] at hpl; cases hpl
      refine ⟨ca, pl, _, _, rfl, rfl, (same_new hpl _ _ _ eca8), upd_same, ?_, ?_⟩
      · rw [List.length_map, List.length_cons, List.length_append, lf, lr]
        exact small (show hs.length * 3 + rs.length * 2 + 1 + 2 ≤ 1000 by (first | lia | omega))
      have d10 := (d9.trans (d9.pen.new hpl (.lst [.int op, .int n]))).putNew (o := .lst (((1 + y1) :: (hs.flatten ++ rs.flatten)).map V.int ++ [.int op, .int n])) hca0 nca
      have ela10 : upd (upd H8 pl (.lst [.int op, .int n])) ca (.lst (((1 + y1) :: (hs.flatten ++ rs.flatten)).map V.int ++ [.int op, .int n])) la = some (.lst ((linesOf hs rs).map V.str)) := by
        rw [upd_ne (Ne.symm ncl), upd_ne nlp]; exact ela8
      have eca10 : upd (upd H8 pl (.lst [.int op, .int n])) ca (.lst (((1 + y1) :: (hs.flatten ++ rs.flatten)).map V.int ++ [.int op, .int n])) ca = some (.lst (((1 + y1) :: (hs.flatten ++ (rs ++ [[op, n]]).flatten)).map V.int)) := by
        rw [upd_same, List.flatten_append, ← List.append_assoc]
        simp
      have el1 : linesOf hs (rs ++ [[op, n]]) = linesOf hs rs ++ [rowS op n] := by
        unfold linesOf
        rw [List.map_append, List.append_assoc] <;> rfl
      refine ⟨_, rfl, .inl ⟨rfl, _, .of ela10⟩, _, rfl, la, _, _, rfl, rfl, ela10, ?_, ⟨_, _, _, _, _, _, rs ++ [[op, n]], rfl, (d10.putNew hla0 nla).mono (by (first | lia | omega)), ?_, ?_, ?_, by (first | lia | omega), ?_, ?_⟩⟩
      · unfold linesOf
        rw [List.length_map, List.length_append, List.length_map, List.length_map]
        exact small1000 (by (first | lia | omega))
      · rw [upd_ne ncl]; exact eca10
      · rw [upd_same, el1, List.map_append] <;> rfl
      · rw [List.length_append, rn] <;> rfl
      · intro g hg
        rcases List.mem_append.mp hg with z | z
        · exact ar g z
        · rw [List.mem_singleton.mp z]
          refine ⟨op, n, rfl, ?_⟩
          rw [Int.toNat_of_nonneg (by (first | lia | omega)), Int.toNat_of_nonneg (by (first | lia | omega))]
          exact ro
      · intro g hg
        rcases List.mem_append.mp hg with z | z
        · exact fr g z
        · rw [List.mem_singleton.mp z]
          intro x hx
          rcases mem2.mp hx with e | e
          · rw [e]
            have o := row_ok ro
            exact smallN (by (first | lia | omega)) (by (first | lia | omega))
          · rw [e]; exact fn
    · rintro σ' H7 ⟨w8, w9, w10, w11, w12, w13, rs, rfl, d7, eca7, ela7, rn, rim, ar, fr⟩
      refine ⟨_, rfl, _, rfl, small (show 2 ≤ 1000 by decide), fun t ht => ?_⟩
      have g := same_new ht (.tup [.ref ca, .ref la])
      have e1 : ((hs.length : Nat) : Int) = 1 + y1 := by rw [hn]; (first | lia | omega)
      have e2 : (1 + y2).toNat = rs.length := rn.symm
      have e3 : (1 + y1).toNat = hs.length := hn.symm
      refine q t ca la hs rs _ ((d7.trans (d7.pen.new ht _)).mono (by (first | lia | omega))) upd_same hca0 hla0 ncl ?_ (g _ _ ela7) ⟨by (first | lia | omega), by (first | lia | omega), by (first | lia | omega), by (first | lia | omega), fun i g hg => ?_, fun g hg => ?_⟩ fr (by (first | lia | omega)) (by (first | lia | omega))
      · unfold codeL
        rw [e1]
        exact g _ _ eca7
      · rw [← e2]; exact al i g hg
      · rw [← e2, ← e3]; exact ar g hg

end
section
variable {P : Program} {w : World} {K : PySem.W.Frag} {mg : Str → Option Value} {base : Heap} {f : Addr} {fd : FuncData}
set_option maxHeartbeats 4000000

noncomputable def CaughtK (CT CC : Addr) (H : Hp) (Q : VK) : XK := fun cls dx H' =>
  (cls = .ref CC ∧ dx = none ∧ Same H H' ∧ ∀ H2, Same H H2 → Q (.str (Str.ofString "code")) H2) ∨
  (cls = .ref CT ∧ ∃ d n, dx = some d ∧ H' d = some (XdO d [("at", .int n)]) ∧ Same H H' ∧ ∀ H2, Same H H2 → Q (.int n) H2)
noncomputable def spCaught (K : PySem.W.Frag) (CT CC : Addr) : Sp := fun vs H Q _ => spReadCodeX K CT CC vs H (fun _ _ => False) (CaughtK CT CC H Q)
theorem readX_mono {vs : List V} {H : Hp} {Q Q1 : VK} {E E1 : XK} (h : spReadCodeX K CT CC vs H Q E) (hq : ∀ v H', Q v H' → Q1 v H') (he : ∀ c d H', E c d H' → E1 c d H') : spReadCodeX K CT CC vs H Q1 E1 := by
  obtain ⟨v, rfl, h⟩ := h
  refine ⟨v, rfl, ?_⟩
  rcases h with ⟨t, ty, kt, fl⟩ | ⟨hs, rs, tail, rfl, fh, fr, lh, lr, lt, tf, ne, hc⟩
  · exact .inl ⟨t, ty, kt, fun d H' s e => he _ _ _ (fl d H' s e)⟩
  · refine .inr ⟨hs, rs, tail, rfl, fh, fr, lh, lr, lt, tf, ne, ?_⟩
    rcases hc with ⟨et, ok, no⟩ | ⟨bad, more, et, hb, fl⟩
    · exact .inl ⟨et, fun c l H' s n e => hq _ _ (ok c l H' s n e), fun c H' s => he _ _ _ (no c H' s)⟩
    · exact .inr ⟨bad, more, et, hb, fun d H' s e => he _ _ _ (fl d H' s e)⟩
theorem readX_one {vs : List V} {H : Hp} {Q : VK} {E : XK} (h : spReadCodeX K CT CC vs H Q E) : ∃ v, vs = [v] := by
  obtain ⟨v, rfl, _⟩ := h; exact ⟨v, rfl⟩
structure TxtX (K : PySem.W.Frag) (mg : Str → Option Value) (CT CC CE CN CR CS : Addr) : Prop where
  m_ChainError : mg "ChainError" = some (.ref CE)
  m_NoName : mg "NoName" = some (.ref CN)
  m_NoRow : mg "NoRow" = some (.ref CR)
  m_NoSheet : mg "NoSheet" = some (.ref CS)
  m_NoText : mg "NoText" = some (.ref CT)
  m_NoCode : mg "NoCode" = some (.ref CC)
  n_isinstance : mg "isinstance" = none
  n_ValueError : mg "ValueError" = none
  n_int : mg "int" = none
  n_bool : mg "bool" = none
  mT : Mch K CT CE
  mC : Mch K CC CE
  eT : ExCls K CT
  eC : ExCls K CC
  iT : IsCls K CT
  iC : IsCls K CC
  xat : NoAttr K CT "at"
  vT : PySem.W.kitOne K (.ref CT) (.type "ValueError") = some true
  vC : PySem.W.kitOne K (.ref CC) (.type "ValueError") = some true
  oT : PySem.W.kitAny K (.ref CT) ([CN, CR, CS].map Value.ref) = some false
  oC : PySem.W.kitAny K (.ref CC) ([CN, CR, CS].map Value.ref) = some false
  tt : PySem.W.kitOne K (.ref CT) (.ref CT) = some true
  tc : PySem.W.kitOne K (.ref CT) (.ref CC) = some false
  ct : PySem.W.kitOne K (.ref CC) (.ref CT) = some false
  cc : PySem.W.kitOne K (.ref CC) (.ref CC) = some true
  kint : PySem.W.kitOne K (.type "int") (.type "int") = some true
  kbool : PySem.W.kitOne K (.type "int") (.type "bool") = some false
variable {CE CN CR CS : Addr}
theorem excAt_mono {H H1 : Hp} {x C : Addr} (h : ExcAt K H x C) (s : Same H H1) : ExcAt K H1 x C := by
  obtain ⟨dx, hx, hd, a, b⟩ := h
  refine ⟨dx, s _ _ hx, fun d e => ?_, a, b⟩
  obtain ⟨fs, hf⟩ := hd d e
  exact ⟨fs, s _ _ hf⟩
section
theorem ok_caught (T : TxtX K mg CT CC CE CN CR CS) (F : Fun K "_law_caught" "_law_caught" s__law_caught f fd) (Cread_code : Cal P w K mg base (CXE P w) 5 "read_code" ["text"] (spReadCodeX K CT CC)) : FnOk P w K mg base (CXE P w) 6 f fd ["_law_text"] (spCaught K CT CC) := by
  refine F.okN sc__law_caught (fun vs H Q E h => ?_) (fun cdv A outer s H vs Q E hr h => ?_)
  · obtain ⟨v, rfl⟩ := readX_one h
    rfl
  refine ⟨_, (pss_cons (ps_set (i := 1) sc__law_caught.nd rfl (Or.inl rfl) pe_non)
      (pss_cons (ps_tryO (i := 2) sc__law_caught.nd rfl rfl rfl T.m_ChainError (fun _ _ => (pss_one (ps_expr (pe_callS Cread_code hr rfl (pa_cons (pv 0) pa_nil))))) (fun _ => (pss_one (ps_set (i := 1) sc__law_caught.nd rfl (Or.inl rfl) (pv 2)))))
      (pss_cons (ps_if (PW.pt (pw_or (pt_not (pt_val (pe_callB call_isO rfl T.n_isinstance bt_isinstance (pa_cons (pv 1) (pa_cons (pe_bltn (v := .ty "ValueError") rfl T.n_ValueError bt_ValueError rfl) pa_nil))))) (pw_or1 (pt_val (pe_callB call_isO rfl T.n_isinstance bt_isinstance (pa_cons (pv 1) (pa_cons (pe_tup (pa_cons (pe_gref rfl T.m_NoName) (pa_cons (pe_gref rfl T.m_NoRow) (pa_cons (pe_gref rfl T.m_NoSheet) pa_nil)))) pa_nil))))))) (pss_one (ps_ret pe_str)) pss_nil)
      (pss_cons (ps_if (PW.pt (pw_and (pt_val (pe_callB call_isO rfl T.n_isinstance bt_isinstance (pa_cons (pv 1) (pa_cons (pe_gref rfl T.m_NoText) pa_nil)))) (pw_and1 (pt_not (pt_val (pe_callB call_isO rfl T.n_isinstance bt_isinstance (pa_cons (pv 1) (pa_cons (pe_gref rfl T.m_NoCode) pa_nil)))))))) (pss_one (ps_ret (pe_ix ix_list (pe_lst (pa_cons pe_str (pa_cons (pe_fldXK K rfl (pv 1)) pa_nil))) (pe_callTy call_int1 rfl T.n_int bt_int (pa_cons (pe_and (pe_callB call_isi rfl T.n_isinstance bt_isinstance (pa_cons (pe_fldXK K rfl (pv 1)) (pa_cons (pe_bltn (v := .ty "int") rfl T.n_int bt_int rfl) pa_nil))) (pe_one (pe_not (pe_callB call_isi rfl T.n_isinstance bt_isinstance (pa_cons (pe_fldXK K rfl (pv 1)) (pa_cons (pe_bltn (v := .ty "bool") rfl T.n_bool bt_bool rfl) pa_nil)))))) pa_nil)) (fun _ _ => rfl)))) pss_nil)
      (pss_one (ps_ret (pe_ix ix_list (pe_lst (pa_consts (.str (.str .nil)))) (pe_callTy call_int1 rfl T.n_int bt_int (pa_cons (pe_and (pe_callB call_isO rfl T.n_isinstance bt_isinstance (pa_cons (pv 1) (pa_cons (pe_gref rfl T.m_NoCode) pa_nil))) (pe_one (pe_not (pe_callB call_isO rfl T.n_isinstance bt_isinstance (pa_cons (pv 1) (pa_cons (pe_gref rfl T.m_NoText) pa_nil)))))) pa_nil)) (fun _ _ => rfl)))))))), ?_⟩
  try dsimp only [Cx.nox, Cx.exc, Cx.wish, cxOf_K]
  obtain ⟨v, rfl⟩ := readX_one h
  refine ⟨_, rfl, ?_⟩
  show spReadCodeX K CT CC [v] H _ _
  refine readX_mono h (fun _ _ z => z.elim) (fun c d H1 hc => ?_)
  rcases hc with ⟨rfl, rfl, s1, q⟩ | ⟨rfl, d, n, rfl, hd, s1, q⟩
  · refine ⟨CC, rfl, T.mC, fun x hx => ?_⟩
    have ex : ExcAt K H1 x CC := ⟨none, hx, fun _ z => (by cases z), T.eC, T.iC⟩
    refine ⟨_, rfl, _, rfl, x, CC, true, ex, .inl ⟨_, rfl, T.vC⟩, true, rfl, iteN rfl ?_⟩
    refine ⟨_, rfl, small (show 3 ≤ 1000 by decide), fun tp htp => ?_⟩
    have s2 := s1.trans (same_new htp (.tup ([CN, CR, CS].map V.ref)))
    have ex2 := excAt_mono ex (same_new htp (.tup ([CN, CR, CS].map V.ref)))
    refine ⟨x, CC, false, ex2, .inr (.inr ⟨tp, [CN, CR, CS], rfl, upd_same, T.oC⟩), false, rfl, iteF ?_⟩
    refine ⟨_, rfl, x, CC, false, ex2, .inr (.inl ⟨CT, rfl, T.ct⟩), false, rfl, iteF (iteF ?_)⟩
    refine ⟨small (show 2 ≤ 1000 by decide), fun l hl => ?_⟩
    have s3 := s2.trans (same_new hl (.lst [.str (Str.ofString "other"), .str (Str.ofString "code")]))
    have ex3 := excAt_mono ex2 (same_new hl (.lst [.str (Str.ofString "other"), .str (Str.ofString "code")]))
    refine ⟨_, rfl, x, CC, true, ex3, .inr (.inl ⟨CC, rfl, T.cc⟩), true, rfl, iteT ?_⟩
    refine ⟨_, rfl, x, CC, false, ex3, .inr (.inl ⟨CT, rfl, T.ct⟩), false, rfl, ?_⟩
    exact .inr ⟨_, rfl, l, _, _, _, rfl, rfl, .of upd_same, rfl, q _ s3⟩
  · refine ⟨CT, rfl, T.mT, fun x hx => ?_⟩
    have ex : ExcAt K H1 x CT := ⟨some d, hx, fun _ z => (by cases z; exact ⟨_, hd⟩), T.eT, T.iT⟩
    refine ⟨_, rfl, _, rfl, x, CT, true, ex, .inl ⟨_, rfl, T.vT⟩, true, rfl, iteN rfl ?_⟩
    refine ⟨_, rfl, small (show 3 ≤ 1000 by decide), fun tp htp => ?_⟩
    have s2 := same_new htp (.tup ([CN, CR, CS].map V.ref))
    have ex2 := excAt_mono ex s2
    refine ⟨x, CT, false, ex2, .inr (.inr ⟨tp, [CN, CR, CS], rfl, upd_same, T.oT⟩), false, rfl, iteF ?_⟩
    refine ⟨_, rfl, x, CT, true, ex2, .inr (.inl ⟨CT, rfl, T.tt⟩), true, rfl, iteT ?_⟩
    refine ⟨_, rfl, x, CT, false, ex2, .inr (.inl ⟨CC, rfl, T.tc⟩), false, rfl, iteY rfl ?_⟩
    have hx2 := s2 _ _ hx
    have hd2 := s2 _ _ hd
    refine ⟨_, rfl, x, CT, d, _, _, rfl, hx2, hd2, T.eT, T.xat, rfl, small (show 2 ≤ 1000 by decide), fun l hl => ?_⟩
    have s3 := same_new hl (.lst [.str (Str.ofString "other"), .int n])
    refine ⟨_, rfl, x, CT, d, _, _, rfl, s3 _ _ hx2, s3 _ _ hd2, T.eT, T.xat, rfl, ?_⟩
    refine .inl ⟨_, _, _, true, rfl, .int _, T.kint, true, rfl, iteT ?_⟩
    refine ⟨_, rfl, x, CT, d, _, _, rfl, s3 _ _ hx2, s3 _ _ hd2, T.eT, T.xat, rfl, ?_⟩
    refine .inl ⟨_, _, _, false, rfl, .int _, T.kbool, false, rfl, ?_⟩
    exact .inr ⟨_, rfl, l, _, _, _, rfl, rfl, .of upd_same, rfl, q _ (s1.trans (s2.trans s3))⟩
end

end
section
variable {P : Program} {w : World} {K : PySem.W.Frag} {mg : Str → Option Value} {base : Heap} {f : Addr} {fd : FuncData}
set_option maxHeartbeats 4000000


variable {CT CC CX CN CR CS : Addr}
noncomputable def bad1 : List Str := ["", " ", "Push 1", "push 1 1", "push 01", "push -0", "push +1", "push 1.0", "push  1", " push 1"]
noncomputable def bad2 : List Str := ["push 1 ", Str.ofString "push " ++ Txt.mul (Str.ofString "9") 101, Str.ofString "jump " ++ Txt.mul (Str.ofString "9") 61, "push x", "push 1_0", "get", "set x", "drop 0", "drop ", "back 0"]
noncomputable def bad3 : List Str := ["fail 1", "breath 1", "jump", "unless", "call", "call main", "pick", "pick 2 3", "add 1", "adds", "do 8"]
noncomputable def bad4 : List Str := ["do", "all", "all 2", "loop", "fun", "fun 0 0", "fun 0 0 0 0", "fun 0 0 x", "fun 0 00 0", "fun  0 0 0"]
noncomputable def bad5 : List Str := ["fun 0 0 0 ", "Fun 0 0 0", "with", "is", "7", "number 1", "new 0", "size 1", "jump -", "-", "push --1"]
noncomputable def badC : List Str := bad1 ++ bad2 ++ bad3 ++ bad4 ++ bad5
noncomputable def badR : List Str := ["fun 0 0 0", "fun 0 0 0", "fun 0 0 0", "fun 0 0 0"]
noncomputable def badL (b : Bool) : List Str := badC ++ (if b then [] else badR)
theorem badC_all : badC.all (fun t => badLine true t && badLine false t && !(t.cps.toList.contains 10) && decide (t.length ≤ 2000)) = true := by decide +kernel
theorem badF : badLine false (Str.ofString "fun 0 0 0") = true ∧ (Str.ofString "fun 0 0 0").cps.toList.contains 10 = false ∧ (Str.ofString "fun 0 0 0").length ≤ 2000 := by decide +kernel
theorem badL_bad {b : Bool} {t : Str} (h : t ∈ badL b) : badLine b t = true ∧ 10 ∉ t.cps.toList ∧ t.length ≤ 2000 := by
  rcases List.mem_append.mp h with z | z
  · have e := List.all_eq_true.mp badC_all t z
    simp only [Bool.and_eq_true, Bool.not_eq_true', decide_eq_true_eq, List.contains_eq_mem, decide_eq_false_iff_not] at e
    obtain ⟨⟨⟨a1, a2⟩, a3⟩, a4⟩ := e
    exact ⟨by cases b; exact a2; exact a1, a3, a4⟩
  · cases b with
    | true => cases z
    | false =>
      have e : t = Str.ofString "fun 0 0 0" := by
        have z' : t ∈ badR := z
        unfold badR at z'
        simp only [List.mem_cons, List.not_mem_nil, or_false, or_self] at z'
        exact z'
      subst e
      obtain ⟨a1, a2, a3⟩ := badF
      exact ⟨a1, by simpa using a2, a3⟩
theorem badL_len (b : Bool) : (badL b).length = if b then 52 else 56 := by cases b <;> decide +kernel
theorem mul9a : MulOk (Str.ofString "9") 101 := by unfold MulOk; decide +kernel
theorem mul9b : MulOk (Str.ofString "9") 61 := by unfold MulOk; decide +kernel
theorem len9a : (Str.ofString "push ").length + (Txt.mul (Str.ofString "9") 101).length ≤ sizeLine := by rw [sizeLine_eq]; decide +kernel
theorem len9b : (Str.ofString "jump ").length + (Txt.mul (Str.ofString "9") 61).length ≤ sizeLine := by rw [sizeLine_eq]; decide +kernel
noncomputable def spBadLines : Sp := fun vs H Q _ => ∃ b, vs = [.bl b] ∧ ∀ l H', H l = none → Same H H' → H' l = some (.lst ((badL b).map V.str)) → Q (.ref l) H'
theorem smallL {n : Nat} (h : n ≤ 1000) : n ≤ sizeLine := by rw [sizeLine_eq]; (first | lia | omega)
theorem ok_badlines (T : TxtX K mg CT CC CX CN CR CS) (F : Fun K "_law_bad_lines" "_law_bad_lines" s__law_bad_lines f fd) : FnOk P w K mg base (CXE P w) 1 f fd ["_law_is_head"] spBadLines := by
  refine F.okN sc__law_bad_lines (fun vs H Q E h => ?_) (fun cdv A outer s H vs Q E hr h => ?_)
  · obtain ⟨b, rfl, _⟩ := h
    rfl
  obtain ⟨b, rfl, q⟩ := h
  refine ⟨_, (pss_cons (ps_set (i := 1) sc__law_bad_lines.nd rfl (Or.inl rfl) (pe_lst (pa_consts (.str (.str (.str (.str (.str (.str (.str (.str (.str (.str .nil)))))))))))))
      (pss_cons (ps_set (i := 1) sc__law_bad_lines.nd rfl (Or.inl rfl) (pe_op op_cat (pv 1) (pe_lst (pa_cons pe_str (pa_cons (pe_op op_add_str pe_str (pe_op op_mulS pe_str pe_int)) (pa_cons (pe_op op_add_str pe_str (pe_op op_mulS pe_str pe_int)) (pa_cons pe_str (pa_cons pe_str (pa_cons pe_str (pa_cons pe_str (pa_cons pe_str (pa_cons pe_str (pa_cons pe_str pa_nil)))))))))))))
      (pss_cons (ps_set (i := 1) sc__law_bad_lines.nd rfl (Or.inl rfl) (pe_op op_cat (pv 1) (pe_lst (pa_consts (.str (.str (.str (.str (.str (.str (.str (.str (.str (.str (.str .nil)))))))))))))))
      (pss_cons (ps_set (i := 1) sc__law_bad_lines.nd rfl (Or.inl rfl) (pe_op op_cat (pv 1) (pe_lst (pa_consts (.str (.str (.str (.str (.str (.str (.str (.str (.str (.str .nil))))))))))))))
      (pss_cons (ps_set (i := 1) sc__law_bad_lines.nd rfl (Or.inl rfl) (pe_op op_cat (pv 1) (pe_lst (pa_consts (.str (.str (.str (.str (.str (.str (.str (.str (.str (.str (.str .nil)))))))))))))))
      (pss_one (ps_ret (pe_op op_cat (pv 1) (pe_op op_rep (pe_lst (pa_cons pe_str pa_nil)) (pe_op op_mul pe_int (pe_callTy call_int1 rfl T.n_int bt_int (pa_cons (pe_not (pv 0)) pa_nil)))))))))))), ?_⟩
  try dsimp only [Cx.nox, Cx.exc, Cx.wish, cxOf_K]
  refine ⟨small (show 10 ≤ 1000 by decide), fun l1 h1 => ?_⟩
  have t1 := same_new h1 (.lst (bad1.map V.str))
  refine ⟨_, rfl, _, _, rfl, rfl, mul9a, _, _, rfl, rfl, len9a, _, _, rfl, rfl, mul9b, _, _, rfl, rfl, len9b, small (show 10 ≤ 1000 by decide), fun l2 h2 => ?_⟩
  have t2 := t1.trans (same_new h2 (.lst (bad2.map V.str)))
  refine ⟨l1, l2, bad1.map V.str, bad2.map V.str, rfl, rfl, same_new h2 (.lst (bad2.map V.str)) _ _ upd_same, upd_same, smallL (by decide), fun l3 h3 => ?_⟩
  have t3 := t2.trans (same_new h3 (.lst (bad1.map V.str ++ bad2.map V.str)))
  refine ⟨_, rfl, small (show 11 ≤ 1000 by decide), fun l4 h4 => ?_⟩
  have t4 := t3.trans (same_new h4 (.lst (bad3.map V.str)))
  refine ⟨l3, l4, bad1.map V.str ++ bad2.map V.str, bad3.map V.str, rfl, rfl, same_new h4 (.lst (bad3.map V.str)) _ _ upd_same, upd_same, smallL (by decide), fun l5 h5 => ?_⟩
  have t5 := t4.trans (same_new h5 (.lst (bad1.map V.str ++ bad2.map V.str ++ bad3.map V.str)))
  refine ⟨_, rfl, small (show 10 ≤ 1000 by decide), fun l6 h6 => ?_⟩
  have t6 := t5.trans (same_new h6 (.lst (bad4.map V.str)))
  refine ⟨l5, l6, bad1.map V.str ++ bad2.map V.str ++ bad3.map V.str, bad4.map V.str, rfl, rfl, same_new h6 (.lst (bad4.map V.str)) _ _ upd_same, upd_same, smallL (by decide), fun l7 h7 => ?_⟩
  have t7 := t6.trans (same_new h7 (.lst (bad1.map V.str ++ bad2.map V.str ++ bad3.map V.str ++ bad4.map V.str)))
  refine ⟨_, rfl, small (show 11 ≤ 1000 by decide), fun l8 h8 => ?_⟩
  have t8 := t7.trans (same_new h8 (.lst (bad5.map V.str)))
  refine ⟨l7, l8, bad1.map V.str ++ bad2.map V.str ++ bad3.map V.str ++ bad4.map V.str, bad5.map V.str, rfl, rfl, same_new h8 (.lst (bad5.map V.str)) _ _ upd_same, upd_same, smallL (by decide), fun l9 h9 => ?_⟩
  have t9 := t8.trans (same_new h9 (.lst (bad1.map V.str ++ bad2.map V.str ++ bad3.map V.str ++ bad4.map V.str ++ bad5.map V.str)))
  refine ⟨_, rfl, small (show 1 ≤ 1000 by decide), fun p hp => ?_⟩
  have u1 := t9.trans (same_new hp (.lst [.str (Str.ofString "fun 0 0 0")]))
  have e9 := same_new hp (.lst [.str (Str.ofString "fun 0 0 0")]) _ _ (upd_same (a := l9) (o := .lst (bad1.map V.str ++ bad2.map V.str ++ bad3.map V.str ++ bad4.map V.str ++ bad5.map V.str)))
  refine ⟨_, rfl, b, rfl, .inr ⟨!b, rfl, ?_⟩⟩
  cases b with
  | true =>
    refine ⟨_, _, rfl, rfl, .inl ⟨by decide, by decide⟩, p, _, _, rfl, rfl, upd_same, by decide, by decide, smallL (by decide), fun p2 hp2 => ?_⟩
    refine ⟨l9, p2, _, _, rfl, rfl, same_new hp2 _ _ _ e9, upd_same, smallL (by decide), fun p3 hp3 => ?_⟩
    exact q p3 _ (Same.free (u1.trans (same_new hp2 _)) hp3) (u1.trans ((same_new hp2 _).trans (same_new hp3 _))) upd_same
  | false =>
    refine ⟨_, _, rfl, rfl, .inl ⟨by decide, by decide⟩, p, _, _, rfl, rfl, upd_same, by decide, by decide, smallL (by decide), fun p2 hp2 => ?_⟩
    refine ⟨l9, p2, _, _, rfl, rfl, same_new hp2 _ _ _ e9, upd_same, smallL (by decide), fun p3 hp3 => ?_⟩
    exact q p3 _ (Same.free (u1.trans (same_new hp2 _)) hp3) (u1.trans ((same_new hp2 _).trans (same_new hp3 _))) upd_same

end
section
variable {P : Program} {w : World} {K : PySem.W.Frag} {mg : Str → Option Value} {base : Heap} {f : Addr} {fd : FuncData}
set_option maxHeartbeats 4000000


variable {CT CC CX CN CR CS : Addr}
theorem cut_take (xs : List V) (a : Nat) : cutV xs none (some (a : Int)) = xs.take a := by
  unfold cutV
  rw [HT.sIx_nat, HT.sIx_none, List.drop_zero, Nat.sub_zero]
  by_cases h : a ≤ xs.length
  · rw [Nat.min_eq_left h]
  · rw [Nat.min_eq_right (by (first | lia | omega)), List.take_of_length_le (Nat.le_refl _), List.take_of_length_le (by (first | lia | omega))]
theorem cut_drop (xs : List V) (a : Nat) : cutV xs (some (a : Int)) none = xs.drop a := by
  unfold cutV
  rw [HT.sIx_nat, HT.sIx_none]
  by_cases h : a ≤ xs.length
  · rw [Nat.min_eq_left h, List.take_of_length_le (by simp)]
  · rw [Nat.min_eq_right (by (first | lia | omega)), List.drop_of_length_le (Nat.le_refl _), List.drop_of_length_le (by (first | lia | omega)), List.take_nil]
theorem atI_str {ts : List Str} {k : Int} (h0 : 0 ≤ k) (h : k < (ts.length : Int)) : ∃ t, t ∈ ts ∧ atI (ts.map V.str) k = some (.str t) := by
  have l : k.toNat < ts.length := by (first | lia | omega)
  have e := atI_nat (xs := ts.map V.str) (j := k.toNat) (v := .str ts[k.toNat]) (by rw [List.getElem?_map, List.getElem?_eq_getElem l]; rfl)
  rw [Int.toNat_of_nonneg h0] at e
  exact ⟨_, List.getElem_mem l, e⟩
noncomputable def GoodT (ts : List Str) : Prop := ∀ t ∈ ts, 10 ∉ t.cps.toList ∧ t.length ≤ 2000
theorem join_room {ts : List Str} (h : GoodT ts) (l : ts.length ≤ 200) : (ts.map (·.length)).sum + ts.length * (Str.ofString "\n").length ≤ 16777216 := by
  have h2 := StrLaws.sumLen_le _ fun t ht => (h t ht).2
  have e1 : (Str.ofString "\n").length = 1 := by decide
  rw [e1]
  (first | lia | omega)
structure Lines (H : Hp) (st la : Addr) (m : Int) (hs rs : List (List Int)) : Prop where
  ne : la ≠ st
  pen : Pen3 H st m
  few : m ≤ 5000
  at_ : H la = some (.lst ((linesOf hs rs).map V.str))
  fh : HeadsF hs
  fr : RowsF rs
  lh : hs.length ≤ 16
  lr : rs.length ≤ 30
  h0 : 0 < hs.length
  r0 : 0 < rs.length
theorem Lines.len {H : Hp} {st la : Addr} {m : Int} {hs rs : List (List Int)} (h : Lines H st la m hs rs) : (linesOf hs rs).length = hs.length + rs.length := by unfold linesOf; rw [List.length_append, List.length_map, List.length_map]
noncomputable def spExch : Sp := fun vs H Q _ => ∃ (st la : Addr) (m : Int) (hs rs : List (List Int)), vs = [.ref st, .ref la, .int (hs.length : Int)] ∧ Lines H st la m hs rs ∧
  ∀ (t : Addr) (a : Nat) (bad : Str) (more : List Str) (H' : Hp), Penned3 st (m + 4) H H' → H' t = some (.tup [.str (Txt.join (Str.ofString "\n") ((linesOf hs rs).take a ++ bad :: more)), .int (a : Int)]) → a < hs.length + rs.length → bad ∈ badL (decide ((a : Int) ≤ (hs.length : Int))) → more.length ≤ 46 → GoodT more → Q (.ref t) H'
noncomputable def repL : List Str := ["", "push x", "fun"]
theorem repL_good : ∀ x ∈ repL, 10 ∉ x.cps.toList ∧ x.length ≤ 2000 := by decide +kernel
theorem ixN_at {n : Nat} {a k : Nat} (h : a + 1 + k < n) : ixN n ((a : Int) + 1 + (k : Int)) = some (a + 1 + k) := by
  unfold ixN
  rw [if_pos (by (first | lia | omega)), if_pos (by (first | lia | omega))]
  congr 1
theorem set_more {ts : List Str} {a k : Nat} {bad x : Str} {mm : List Str} (h : ts.length = a) : ((ts ++ bad :: mm).map V.str).set (a + 1 + k) (V.str x) = (ts ++ bad :: mm.set k x).map V.str := by
  rw [← List.map_set, List.set_append_right _ _ (by (first | lia | omega)), show a + 1 + k - ts.length = k + 1 by (first | lia | omega), List.set_cons_succ]
theorem tyS {K : PySem.W.Frag} {t : Str} {H : Hp} : tyV K "str" (.str t) H := by
  unfold tyV
  first | rfl | trivial | exact .str _ | (refine ⟨_, _, ?_⟩ <;> rfl) | simp
theorem bad_len_pos (b : Bool) : 0 < (badL b).length ∧ (badL b).length ≤ 56 := by rw [badL_len]; cases b <;> decide
theorem ok_exch (T : TxtL K mg) (F : Fun K "_law_line_exchanged" "_law_line_exchanged" s__law_line_exchanged f fd) (C_law_draw : Cal P w K mg base (CXE P w) 1 "_law_draw" ["_law_pen_here", "_law_many"] spDraw3) (C_law_bad_lines : Cal P w K mg base (CXE P w) 1 "_law_bad_lines" ["_law_is_head"] spBadLines) : FnOk P w K mg base (CXE P w) 2 f fd ["_law_pen_here", "_law_lines", "_law_many"] spExch := by
  refine F.okN sc__law_line_exchanged (fun vs H Q E h => ?_) (fun cdv A outer s H vs Q E hr h => ?_)
  · obtain ⟨st, la, m, hs, rs, rfl, _⟩ := h
    rfl
  obtain ⟨st, la, m, hs, rs, rfl, L, q⟩ := h
  refine ⟨_, (pss_cons (ps_set (i := 3) sc__law_line_exchanged.nd rfl (Or.inl rfl) (pe_callC C_law_draw hr rfl (pa_cons (pv 0) (pa_cons (pe_callB call_len_seq rfl T.n_len bt_len (pa_cons (pv 1) pa_nil)) pa_nil)) passN))
      (pss_cons (ps_set (i := 4) sc__law_line_exchanged.nd rfl (Or.inl rfl) (pe_callC C_law_bad_lines hr rfl (pa_cons (pe_cmpR op_le (pv 3) (pv 2) (nomark _)) pa_nil) passN))
      (pss_cons (ps_set (i := 5) sc__law_line_exchanged.nd rfl (Or.inl rfl) (pe_op op_cat (pe_op op_cat (pe_slice sl_list (pv 1) po_none (po_some (pv 3))) (pe_lst (pa_cons (pe_ix ix_list (pv 4) (pe_callC C_law_draw hr rfl (pa_cons (pv 0) (pa_cons (pe_callB call_len_seq rfl T.n_len bt_len (pa_cons (pv 4) pa_nil)) pa_nil)) passN) (fun _ _ => rfl)) pa_nil))) (pe_slice sl_list (pv 1) (po_some (pe_op op_add (pv 3) pe_int)) po_none)))
      (pss_cons (ps_set (i := 6) sc__law_line_exchanged.nd rfl (Or.inl rfl) (pe_op op_add (pe_op op_add (pv 3) pe_int) (pe_callC C_law_draw hr rfl (pa_cons (pv 0) (pa_cons (pe_callB call_len_seq rfl T.n_len bt_len (pa_cons (pv 1) pa_nil)) pa_nil)) passN)))
      (pss_cons (ps_cut (ps_if (pt_cmpR op_lt (pv 6) (pe_callB call_len_seq rfl T.n_len bt_len (pa_cons (pv 5) pa_nil)) (nomark _)) (pss_one (ps_asg (pe_ix ix_list (pe_lst (pa_consts (.str (.str (.str .nil))))) (pe_callC C_law_draw hr rfl (pa_cons (pv 0) (pa_cons pe_int pa_nil)) passN) (fun _ _ => rfl)) (pg_sub (pv 5) (pv 6) set_list))) pss_nil))
      (pss_one (ps_ret (pe_tup (pa_cons (pe_bm PySem.F.plainAttrs_str PySem.F.slot_str_join PySem.F.type_str_join mt_join pe_str (pa_cons (pv 5) pa_nil)) (pa_cons (pv 3) pa_nil)))))))))), ?_⟩
  try dsimp only [Cx.nox, Cx.exc, Cx.wish, cxOf_K]
  have ll := L.len
  have lm : ((linesOf hs rs).map V.str).length = hs.length + rs.length := by rw [List.length_map, ll]
  have := L.lh
  have := L.lr
  have := L.h0
  have := L.few
  refine ⟨_, rfl, _, rfl, la, _, rfl, .inl (.of L.at_), st, _, m, rfl, by (first | lia | omega), by (first | lia | omega), by (first | lia | omega), L.pen, fun r H1 r0 r1 p1 => ?_⟩
  obtain ⟨a, rfl⟩ := Int.eq_ofNat_of_zero_le r0
  have e1 := p1.keep _ _ L.ne L.at_
  refine ⟨_, rfl, _, rfl, _, _, rfl, rfl, _, rfl, fun lb H2 nb s2 e2 => ?_⟩
  have p2 := p1.trans (p1.pen.more s2)
  have nbs : lb ≠ st := Ne.symm (p1.pen.ne nb)
  refine ⟨_, rfl, _, rfl, _, rfl, la, _, rfl, .of (s2 _ _ e1), fun l1 n1 => ?_⟩
  have q1 := p2.pen.new n1 (.lst (cutV ((linesOf hs rs).map V.str) none (some (a : Int))))
  have x1 := same_new n1 (.lst (cutV ((linesOf hs rs).map V.str) none (some (a : Int))))
  have bl := bad_len_pos (decide ((a : Int) ≤ (hs.length : Int)))
  have blm : (((badL (decide ((a : Int) ≤ (hs.length : Int)))).map V.str).length : Int) = ((badL (decide ((a : Int) ≤ (hs.length : Int)))).length : Int) := by rw [List.length_map]
  refine ⟨_, rfl, _, rfl, _, rfl, lb, _, rfl, .inl (.of (x1 _ _ e2)), st, _, m + 1, rfl, by (first | lia | omega), by (first | lia | omega), by (first | lia | omega), q1.pen, fun r2 H3 r20 r21 p3 => ?_⟩
  obtain ⟨bad, hbad, ab⟩ := atI_str (ts := badL (decide ((a : Int) ≤ (hs.length : Int)))) r20 (by (first | lia | omega))
  have e2' := p3.keep _ _ nbs (x1 _ _ e2)
  have n1s : l1 ≠ st := Ne.symm (p2.pen.ne n1)
  have el1 := p3.keep _ _ n1s (upd_same (a := l1))
  have ela := p3.keep _ _ L.ne (x1 _ _ (s2 _ _ e1))
  refine ⟨lb, _, _, _, rfl, rfl, .of e2', ab, small (show 1 ≤ 1000 by decide), fun l2 n2 => ?_⟩
  have x2 := same_new n2 (.lst [.str bad])
  have lc := cutV_length ((linesOf hs rs).map V.str) none (some (a : Int))
  refine ⟨l1, l2, _, _, rfl, rfl, x2 _ _ el1, upd_same, smallL (by rw [List.length_singleton]; (first | lia | omega)), fun l3 n3 => ?_⟩
  have x3 := same_new n3 (.lst (cutV ((linesOf hs rs).map V.str) none (some (a : Int)) ++ [.str bad]))
  refine ⟨_, rfl, _, rfl, _, _, rfl, rfl, _, rfl, la, _, rfl, .of (x3 _ _ (x2 _ _ ela)), fun l4 n4 => ?_⟩
  have x4 := same_new n4 (.lst (cutV ((linesOf hs rs).map V.str) (some ((a : Int) + 1)) none))
  have lc2 := cutV_length ((linesOf hs rs).map V.str) (some ((a : Int) + 1)) none
  refine ⟨l3, l4, _, _, rfl, rfl, x4 _ _ upd_same, upd_same, smallL (by rw [List.length_append, List.length_singleton]; (first | lia | omega)), fun l5 n5 => ?_⟩
  have ef : cutV ((linesOf hs rs).map V.str) none (some (a : Int)) ++ [.str bad] ++ cutV ((linesOf hs rs).map V.str) (some ((a : Int) + 1)) none = ((linesOf hs rs).take a ++ bad :: (linesOf hs rs).drop (a + 1)).map V.str := by
    rw [cut_take, show ((a : Int) + 1) = ((a + 1 : Nat) : Int) from by (first | lia | omega), cut_drop, List.map_append, List.map_cons, List.map_take, List.map_drop, List.append_assoc] <;> rfl
  rw [ef]
  have x5 := same_new n5 (.lst (((linesOf hs rs).take a ++ bad :: (linesOf hs rs).drop (a + 1)).map V.str))
  have y5 := x2.trans (x3.trans (x4.trans x5))
  have p5 := ((p2.trans q1).trans p3).trans (p3.pen.more y5)
  have f5 : H l5 = none := (p2.trans q1 |>.trans p3).free (Same.free (x2.trans (x3.trans x4)) n5)
  have n5s : l5 ≠ st := Ne.symm (L.pen.ne f5)
  refine ⟨_, rfl, _, _, rfl, rfl, _, rfl, _, rfl, la, _, rfl, .inl (.of (y5 _ _ ela)), st, _, m + 2, rfl, by (first | lia | omega), by (first | lia | omega), by (first | lia | omega), ?_, fun r3 H6 r30 r31 p6 => ?_⟩
  · exact p5.pen.mono (by (first | lia | omega))
  have p6' := (p5.trans p6)
  have e5 := p6.keep _ _ n5s (upd_same (a := l5))
  have gl := linesF L.fh L.fr
  have gm : GoodT ((linesOf hs rs).drop (a + 1)) := fun t ht => gl t (List.mem_of_mem_drop ht)
  have la1 : a < hs.length + rs.length := by (first | lia | omega)
  have ld : ((linesOf hs rs).drop (a + 1)).length = hs.length + rs.length - (a + 1) := by rw [List.length_drop, ll]
  have lt1 : ((linesOf hs rs).take a).length = a := by rw [List.length_take, ll]; (first | lia | omega)
  have gb := badL_bad hbad
  refine ⟨_, _, rfl, rfl, ?_⟩
  refine ⟨fun σ' H' => ∃ more, Penned3 st (m + 4) H H' ∧ H' l5 = some (.lst (((linesOf hs rs).take a ++ bad :: more).map V.str)) ∧ more.length ≤ 46 ∧ GoodT more ∧ σ' = [some (.ref st), some (.ref la), some (.int (hs.length : Int)), some (.int (a : Int)), some (.ref lb), some (.ref l5), some (.int ((a : Int) + 1 + r3))], ?_, ?_⟩
  · refine ⟨_, rfl, _, rfl, l5, _, rfl, .inl (.of e5), _, _, rfl, rfl, _, rfl, ite2 (fun c => ?_) (fun c => ?_)⟩
    · have c' := of_decide_eq_true c
      obtain ⟨k, rfl⟩ := Int.eq_ofNat_of_zero_le r30
      rw [List.length_map, List.length_append, List.length_cons, lt1] at c'
      refine ⟨small (show 3 ≤ 1000 by decide), fun l6 n6 => ?_⟩
      have x6 := same_new n6 (.lst (repL.map V.str))
      refine ⟨_, rfl, st, _, m + 3, rfl, by decide, by decide, by (first | lia | omega), (p6.pen.mono (by (first | lia | omega))).same x6, fun r4 H7 r40 r41 p7 => ?_⟩
      obtain ⟨x, hx, ax⟩ := atI_str (ts := repL) r40 r41
      have n6s : l6 ≠ st := Ne.symm (p6.pen.ne n6)
      refine ⟨l6, _, _, _, rfl, rfl, .of (p7.keep _ _ n6s upd_same), ax, ?_⟩
      refine ⟨_, rfl, _, rfl, l5, _, _, a + 1 + k, rfl, rfl, p7.keep _ _ n5s (x6 _ _ e5), ixN_at (by rw [List.length_map, List.length_append, List.length_cons, lt1]; (first | lia | omega)), ?_⟩
      refine ⟨((linesOf hs rs).drop (a + 1)).set k x, ?_, ?_, by rw [List.length_set]; (first | lia | omega), fun t ht => ?_, rfl⟩
      · exact (((p6'.trans (p6.pen.more x6)).trans p7).mono (by (first | lia | omega))).putNew f5 n5s
      · rw [upd_same, ← set_more lt1]
      · rcases List.mem_or_eq_of_mem_set ht with z | z
        · exact gm t z
        · rw [z]; exact repL_good x hx
    · exact ⟨_, p6'.mono (by (first | lia | omega)), e5, by (first | lia | omega), gm, rfl⟩
  rintro _ H' ⟨more, p7, e7, lmo, gmo, rfl⟩
  have ga : GoodT ((linesOf hs rs).take a ++ bad :: more) := by
    intro t ht
    rcases List.mem_append.mp ht with z | z
    · exact gl t (List.mem_of_mem_take z)
    · rcases List.mem_cons.mp z with z | z
      · rw [z]; exact ⟨gb.2.1, gb.2.2⟩
      · exact gmo t z
  refine ⟨tyS, _, rfl, _, l5, _, rfl, rfl, .of e7, join_room ga (by rw [List.length_append, List.length_cons, lt1]; (first | lia | omega)), _, rfl, small (show 2 ≤ 1000 by decide), fun t nt => ?_⟩
  exact q t a bad more _ (p7.trans (p7.pen.new nt _)) upd_same la1 hbad lmo gmo

end
section
variable {P : Program} {w : World} {K : PySem.W.Frag} {mg : Str → Option Value} {base : Heap} {f : Addr} {fd : FuncData}
set_option maxHeartbeats 4000000

theorem parts_of {hs rs : List (List Int)} (h3 : ∀ g ∈ hs, g.length = 3) (r2 : ∀ g ∈ rs, g.length = 2) (r30 : rs.length ≤ 30) (z : CodeOk (codeL hs rs)) : CodeParts hs rs := by
  have l3 := fl_len h3
  have l2 := fl_len r2
  have eh : L2.headNums (codeL hs rs) = hs.flatten := by
    show List.take (3 * ((hs.length : Int)).toNat) (hs.flatten ++ rs.flatten) = _
    rw [Int.toNat_natCast, List.take_append_of_le_length (by (first | lia | omega)), List.take_of_length_le (by (first | lia | omega))]
  have er : L2.rowNums (codeL hs rs) = rs.flatten := by
    show List.drop (1 + 3 * ((hs.length : Int)).toNat) ((hs.length : Int) :: (hs.flatten ++ rs.flatten)) = _
    rw [Int.toNat_natCast, Nat.add_comm, List.drop_succ_cons, show 3 * hs.length = hs.flatten.length by (first | lia | omega), List.drop_left]
  have nr : (L2.rowNums (codeL hs rs)).length / 2 = rs.length := by rw [er, l2]; (first | lia | omega)
  obtain ⟨n, ms, e, n1, n16, nm, _⟩ := z.big
  unfold codeL at e
  injection e with e1 e2
  subst e1 e2
  rw [List.length_append, l3, l2] at nm
  have hh := z.heads
  have hr := z.rows
  rw [eh, grp_flat (.inr rfl) h3, nr] at hh
  rw [er, grp_flat (.inl rfl) r2] at hr
  rw [show rs.flatten.length / 2 = rs.length by (first | lia | omega)] at hr
  exact ⟨by (first | lia | omega), by (first | lia | omega), by (first | lia | omega), r30, hh, fun g hg => hr g hg⟩
theorem HeadsF.h3 {hs : List (List Int)} (h : HeadsF hs) : ∀ g ∈ hs, g.length = 3 := fun g hg => by
  obtain ⟨_, _, _, rfl, _⟩ := h g hg
  rfl
theorem RowsF.r2 {rs : List (List Int)} (h : RowsF rs) : ∀ g ∈ rs, g.length = 2 := fun g hg => by
  obtain ⟨_, _, rfl, _⟩ := h g hg
  rfl
noncomputable def headsT (far : Int) : List (List (List Int)) := [[[0, 1, 1]], [[far, 0, 0]], [[-1, 0, 0]], [[0, 0, 13]], [[0, 0, -1]], List.replicate 17 [0, 0, 0], [[0, 0, 0], [0, 5, 5]], [[0, 0, 0], [0, 2, 1]], [[0, 0, 0], [0, -1, 0]], []]
noncomputable def rowsT (far to : Int) : List (List Int) := [[4, far], [5, -1], [6, to], [6, -1], [1, 12], [2, 12], [1, -1], [11, 1], [11, 13], [11, 0], [5, far], [4, -7]]
theorem isHead_is {s p b : Int} {i nr : Nat} (h : isHead [s, p, b] i nr) : HeadOk s p b i nr := by
  obtain ⟨_, _, _, e, h⟩ := h
  injection e with a e
  injection e with b e
  injection e with c _
  subst a b c
  exact h
theorem isRow_is {op n : Int} {nf nr : Nat} (h : isRow [op, n] nf nr) : RowOk op n nf nr := by
  obtain ⟨_, _, e, h⟩ := h
  injection e with a e
  injection e with b _
  subst a b
  exact h
theorem headsT_no {far : Int} {hs rs : List (List Int)} (fr : (rs.length : Int) ≤ far) (h : hs ∈ headsT far) : ¬ CodeParts hs rs := by
  intro c
  unfold headsT at h
  have h0 : ∀ s p b, hs[0]? = some [s, p, b] → HeadOk s p b 0 rs.length := fun s p b e => isHead_is (c.heads 0 _ e)
  have h1 : ∀ s p b, hs[1]? = some [s, p, b] → HeadOk s p b 1 rs.length := fun s p b e => isHead_is (c.heads 1 _ e)
  have hn := c.h1
  have hx := c.h16
  simp only [List.mem_cons, List.not_mem_nil, or_false] at h
  rcases h with rfl | rfl | rfl | rfl | rfl | rfl | rfl | rfl | rfl | rfl
  · have := h0 _ _ _ rfl; unfold HeadOk at this; (first | lia | omega)
  · have := h0 _ _ _ rfl; unfold HeadOk at this; (first | lia | omega)
  · have := h0 _ _ _ rfl; unfold HeadOk at this; (first | lia | omega)
  · have := h0 _ _ _ rfl; unfold HeadOk at this; (first | lia | omega)
  · have := h0 _ _ _ rfl; unfold HeadOk at this; (first | lia | omega)
  · rw [List.length_replicate] at hx; (first | lia | omega)
  · have := h1 _ _ _ rfl; unfold HeadOk at this; (first | lia | omega)
  · have := h1 _ _ _ rfl; unfold HeadOk at this; (first | lia | omega)
  · have := h1 _ _ _ rfl; unfold HeadOk at this; (first | lia | omega)
  · exact absurd hn (by decide)
theorem rowsT_no {far to : Int} {hs rs : List (List Int)} {g : List Int} (fr : (rs.length : Int) ≤ far) (ft : (hs.length : Int) ≤ to) (h : g ∈ rowsT far to) (hg : g ∈ rs) : ¬ CodeParts hs rs := by
  intro c
  have k := c.rows g hg
  unfold rowsT at h
  simp only [List.mem_cons, List.not_mem_nil, or_false] at h
  rcases h with rfl | rfl | rfl | rfl | rfl | rfl | rfl | rfl | rfl | rfl | rfl | rfl <;> (have := isRow_is k; unfold RowOk at this; (first | lia | omega))
theorem headsT_F {far : Int} {hs : List (List Int)} (f0 : 0 ≤ far) (f1 : far ≤ 1000) (h : hs ∈ headsT far) : HeadsF hs ∧ hs.length ≤ 17 := by
  have b : ∀ s p b : Int, -1000 ≤ s ∧ s ≤ 1000 → -1000 ≤ p ∧ p ≤ 1000 → -1000 ≤ b ∧ b ≤ 1000 → ∃ s' p' b' : Int, [s, p, b] = [s', p', b'] ∧ ∀ x ∈ [s', p', b'], x.natAbs < 10 ^ 60 := by
    intro s p b h1 h2 h3
    refine ⟨s, p, b, rfl, fun x hx => Nat.lt_of_le_of_lt (m := 1000) ?_ (by decide +kernel)⟩
    simp only [List.mem_cons, List.not_mem_nil, or_false] at hx
    rcases hx with rfl | rfl | rfl <;> (first | lia | omega)
  unfold headsT at h
  simp only [List.mem_cons, List.not_mem_nil, or_false] at h
  have one : ∀ s p q : Int, -1000 ≤ s ∧ s ≤ 1000 → -1000 ≤ p ∧ p ≤ 1000 → -1000 ≤ q ∧ q ≤ 1000 → HeadsF [[s, p, q]] := fun s p q h1 h2 h3 g hg => by
    rw [List.mem_singleton.mp hg]; exact b s p q h1 h2 h3
  have two : ∀ s p q : Int, -1000 ≤ s ∧ s ≤ 1000 → -1000 ≤ p ∧ p ≤ 1000 → -1000 ≤ q ∧ q ≤ 1000 → HeadsF [[0, 0, 0], [s, p, q]] := fun s p q h1 h2 h3 g hg => by
    rcases List.mem_cons.mp hg with z | z
    · rw [z]; exact b 0 0 0 (by decide) (by decide) (by decide)
    · rw [List.mem_singleton.mp z]; exact b s p q h1 h2 h3
  rcases h with rfl | rfl | rfl | rfl | rfl | rfl | rfl | rfl | rfl | rfl
  · exact ⟨one _ _ _ (by (first | lia | omega)) (by (first | lia | omega)) (by (first | lia | omega)), by decide⟩
  · exact ⟨one _ _ _ (by (first | lia | omega)) (by (first | lia | omega)) (by (first | lia | omega)), by show 1 ≤ 17; decide⟩
  · exact ⟨one _ _ _ (by (first | lia | omega)) (by (first | lia | omega)) (by (first | lia | omega)), by decide⟩
  · exact ⟨one _ _ _ (by (first | lia | omega)) (by (first | lia | omega)) (by (first | lia | omega)), by decide⟩
  · exact ⟨one _ _ _ (by (first | lia | omega)) (by (first | lia | omega)) (by (first | lia | omega)), by decide⟩
  · refine ⟨fun g hg => ?_, by rw [List.length_replicate]; exact Nat.le_refl _⟩
    rw [List.eq_of_mem_replicate hg]; exact b 0 0 0 (by decide) (by decide) (by decide)
  · exact ⟨two _ _ _ (by (first | lia | omega)) (by (first | lia | omega)) (by (first | lia | omega)), by decide⟩
  · exact ⟨two _ _ _ (by (first | lia | omega)) (by (first | lia | omega)) (by (first | lia | omega)), by decide⟩
  · exact ⟨two _ _ _ (by (first | lia | omega)) (by (first | lia | omega)) (by (first | lia | omega)), by decide⟩
  · exact ⟨fun g hg => (by cases hg), by decide⟩
theorem rowsT_F {far to : Int} {g : List Int} (f0 : 0 ≤ far) (f1 : far ≤ 1000) (t0 : 0 ≤ to) (t1 : to ≤ 1000) (h : g ∈ rowsT far to) : ∃ op n : Int, g = [op, n] ∧ RowF op n := by
  have b : ∀ op n : Int, (op = 1 ∨ op = 2 ∨ op = 4 ∨ op = 5 ∨ op = 6 ∨ op = 11) → -1000 ≤ n ∧ n ≤ 1000 → ∃ op' n' : Int, [op, n] = [op', n'] ∧ RowF op' n' := by
    intro op n ho hn
    exact ⟨op, n, rfl, by (first | lia | omega), by (first | lia | omega), by (first | lia | omega), by (first | lia | omega), Nat.lt_of_le_of_lt (m := 1000) (by (first | lia | omega)) (by decide +kernel), fun _ => Nat.lt_of_le_of_lt (m := 1000) (by (first | lia | omega)) (by decide +kernel)⟩
  unfold rowsT at h
  simp only [List.mem_cons, List.not_mem_nil, or_false] at h
  rcases h with rfl | rfl | rfl | rfl | rfl | rfl | rfl | rfl | rfl | rfl | rfl | rfl <;> exact b _ _ (by (first | lia | omega)) (by (first | lia | omega))

end
section
variable {P : Program} {w : World} {K : PySem.W.Frag} {mg : Str → Option Value} {base : Heap} {f : Addr} {fd : FuncData}
set_option maxHeartbeats 4000000


variable {CT CC CX CN CR CS : Addr}
theorem head_far (n : Int) : headG [n, 0, 0] = Str.ofString "fun " ++ numS n ++ Str.ofString " 0 0" := by
  show Str.empty ++ Str.ofString "fun" ++ Str.ofString " " ++ numS n ++ Str.ofString " " ++ numS 0 ++ Str.ofString " " ++ numS 0 = _
  rw [show Str.empty ++ Str.ofString "fun" ++ Str.ofString " " = Str.ofString "fun " by decide +kernel]
  simp only [cat_assoc]
  rw [show Str.ofString " " ++ (numS 0 ++ (Str.ofString " " ++ numS 0)) = Str.ofString " 0 0" by decide +kernel]
noncomputable def headTx (far : Int) : List (List Str) := [["fun 0 1 1"], [Str.ofString "fun " ++ numS far ++ Str.ofString " 0 0"], ["fun -1 0 0"], ["fun 0 0 13"], ["fun 0 0 -1"], (List.replicate 17 [Str.ofString "fun 0 0 0"]).flatten, ["fun 0 0 0", "fun 0 5 5"], ["fun 0 0 0", "fun 0 2 1"], ["fun 0 0 0", "fun 0 -1 0"], []]
theorem headTx_is (far : Int) : headTx far = (headsT far).map (·.map headG) := by
  unfold headTx headsT
  simp only [List.map_cons, List.map_nil, head_far, List.map_replicate]
  rw [show headG [0, 1, 1] = Str.ofString "fun 0 1 1" by decide +kernel, show Str.ofString "fun " ++ numS (-1) ++ Str.ofString " 0 0" = Str.ofString "fun -1 0 0" by decide +kernel, show headG [0, 0, 13] = Str.ofString "fun 0 0 13" by decide +kernel, show headG [0, 0, -1] = Str.ofString "fun 0 0 -1" by decide +kernel, show Str.ofString "fun " ++ numS 0 ++ Str.ofString " 0 0" = Str.ofString "fun 0 0 0" by decide +kernel, show headG [0, 5, 5] = Str.ofString "fun 0 5 5" by decide +kernel, show headG [0, 2, 1] = Str.ofString "fun 0 2 1" by decide +kernel, show headG [0, -1, 0] = Str.ofString "fun 0 -1 0" by decide +kernel] <;> rfl
noncomputable def rowTx (far to : Int) : List Str := [Str.ofString "jump " ++ numS far, "unless -1", Str.ofString "call " ++ numS to, "call -1", "get 12", "set 12", "get -1", "pick 1", "pick 13", "pick 0", Str.ofString "unless " ++ numS far, "jump -7"]
theorem rowTx_is (far to : Int) : rowTx far to = (rowsT far to).map rowG := by
  unfold rowTx rowsT
  simp only [List.map_cons, List.map_nil]
  rw [show rowG [5, -1] = Str.ofString "unless -1" by decide +kernel, show rowG [6, -1] = Str.ofString "call -1" by decide +kernel, show rowG [1, 12] = Str.ofString "get 12" by decide +kernel, show rowG [2, 12] = Str.ofString "set 12" by decide +kernel, show rowG [1, -1] = Str.ofString "get -1" by decide +kernel, show rowG [11, 1] = Str.ofString "pick 1" by decide +kernel, show rowG [11, 13] = Str.ofString "pick 13" by decide +kernel, show rowG [11, 0] = Str.ofString "pick 0" by decide +kernel, show rowG [4, -7] = Str.ofString "jump -7" by decide +kernel]
  have e4 : rowG [4, far] = Str.ofString "jump " ++ numS far := by
    show Str.empty ++ rowN.getD 4 "" ++ Str.ofString " " ++ numS far = _
    rw [show Str.empty ++ rowN.getD 4 "" ++ Str.ofString " " = Str.ofString "jump " by decide +kernel]
  have e5 : rowG [5, far] = Str.ofString "unless " ++ numS far := by
    show Str.empty ++ rowN.getD 5 "" ++ Str.ofString " " ++ numS far = _
    rw [show Str.empty ++ rowN.getD 5 "" ++ Str.ofString " " = Str.ofString "unless " by decide +kernel]
  have e6 : rowG [6, to] = Str.ofString "call " ++ numS to := by
    show Str.empty ++ rowN.getD 6 "" ++ Str.ofString " " ++ numS to = _
    rw [show Str.empty ++ rowN.getD 6 "" ++ Str.ofString " " = Str.ofString "call " by decide +kernel]
  rw [e4, e5, e6] <;> rfl
theorem small500 {n : Int} (h0 : -5000 ≤ n) (h1 : n ≤ 5000) : n.natAbs < 10 ^ 500 := Nat.lt_trans (show n.natAbs < 5001 by (first | lia | omega)) (by decide +kernel)
noncomputable def TableAt (H : Hp) (hl : Addr) (tss : List (List Str)) : Prop := ∃ rs : List Addr, H hl = some (.lst (rs.map V.ref)) ∧ Paired (fun r ts => H r = some (.lst (ts.map V.str))) rs tss
theorem str_ne {H : Hp} {st a : Addr} {m : Int} {ts : List Str} (d : Pen3 H st m) (h : H a = some (.lst (ts.map V.str))) : a ≠ st := by
  rintro rfl
  obtain ⟨c, s, t, e, _⟩ := d
  rw [h] at e
  cases ts with
  | nil => cases e
  | cons t ts => rw [List.map_cons] at e; cases e
theorem linesOf_drop (hs rs : List (List Int)) : (linesOf hs rs).drop hs.length = rs.map rowG := by
  unfold linesOf
  have e : hs.length = (hs.map headG).length := by rw [List.length_map]
  rw [e, List.drop_left]
theorem linesOf_take (hs rs : List (List Int)) : (linesOf hs rs).take hs.length = linesOf hs [] := by
  unfold linesOf
  have e : hs.length = (hs.map headG).length := by rw [List.length_map]
  rw [e, List.take_left, List.map_nil, List.append_nil]
theorem RowsF.nil : RowsF [] := fun g hg => by cases hg
theorem lines_set (hs rs : List (List Int)) (k : Nat) (g : List Int) : linesOf hs (rs.take k ++ g :: rs.drop (k + 1)) = (linesOf hs rs).take (hs.length + k) ++ rowG g :: (linesOf hs rs).drop (hs.length + (k + 1)) := by
  unfold linesOf
  have e : hs.length = (hs.map headG).length := by rw [List.length_map]
  rw [e, List.take_length_add_append, List.drop_length_add_append, List.map_append, List.map_cons, List.map_take, List.map_drop, List.append_assoc]
theorem lines_ne {hs rs : List (List Int)} (h : 0 < hs.length + rs.length) : linesOf hs rs ≠ [] := fun z => by
  have := congrArg List.length z
  unfold linesOf at this
  rw [List.length_append, List.length_map, List.length_map, List.length_nil] at this
  (first | lia | omega)
theorem TableAt.pick {H : Hp} {hl : Addr} {tss : List (List Str)} (h : TableAt H hl tss) : ∃ rs : List Addr, H hl = some (.lst (rs.map V.ref)) ∧ ∀ k : Int, 0 ≤ k → k < (tss.length : Int) → ∃ r ts, ts ∈ tss ∧ atI (rs.map V.ref) k = some (.ref r) ∧ H r = some (.lst (ts.map V.str)) := by
  obtain ⟨rs, e, pr⟩ := h
  refine ⟨rs, e, fun k k0 k1 => ?_⟩
  have l : rs.length = tss.length := Paired.len pr
  have l1 : k.toNat < rs.length := by (first | lia | omega)
  obtain ⟨ts, ht, hk⟩ := Paired.yonder pr (List.getElem?_eq_getElem l1)
  have a := atI_nat (xs := rs.map V.ref) (j := k.toNat) (v := .ref rs[k.toNat]) (by rw [List.getElem?_map, List.getElem?_eq_getElem l1]; rfl)
  rw [Int.toNat_of_nonneg k0] at a
  exact ⟨_, ts, List.mem_of_getElem? ht, a, hk⟩
theorem TableAt.keep {H H' : Hp} {st hl : Addr} {m n : Int} {tss : List (List Str)} (d : Pen3 H st n) (h : TableAt H hl tss) (p : Penned3 st m H H') : TableAt H' hl tss := by
  obtain ⟨rs, e, pr⟩ := h
  refine ⟨rs, p.keep _ _ ?_ e, Paired.mapP pr fun r ts k => p.keep _ _ (str_ne d k) k⟩
  rintro rfl
  obtain ⟨c, s, t, e2, _⟩ := d
  rw [e] at e2
  cases rs with
  | nil => cases e2
  | cons t ts => rw [List.map_cons] at e2; cases e2
noncomputable def spNoCode : Sp := fun vs H Q _ => ∃ (st la : Addr) (m : Int) (hs rs : List (List Int)), vs = [.ref st, .ref la, .int (hs.length : Int)] ∧ Lines H st la m hs rs ∧
  ∀ (hs' rs' : List (List Int)) (H' : Hp), Penned3 st (m + 5) H H' → HeadsF hs' → RowsF rs' → hs'.length ≤ 100 → rs'.length ≤ 100 → linesOf hs' rs' ≠ [] → ¬ CodeOk (codeL hs' rs') → Q (.str (Txt.join (Str.ofString "\n") (linesOf hs' rs'))) H'
theorem ok_nocode (T : TxtL K mg) (F : Fun K "_law_no_code" "_law_no_code" s__law_no_code f fd) (C_law_draw : Cal P w K mg base (CXE P w) 1 "_law_draw" ["_law_pen_here", "_law_many"] spDraw3) : FnOk P w K mg base (CXE P w) 2 f fd ["_law_pen_here", "_law_lines", "_law_many"] spNoCode := by
  refine F.okN sc__law_no_code (fun vs H Q E h => ?_) (fun cdv A outer s H vs Q E hr h => ?_)
  · obtain ⟨st, la, m, hs, rs, rfl, _⟩ := h
    rfl
  obtain ⟨st, la, m, hs, rs, rfl, L, q⟩ := h
  refine ⟨_, (pss_cons (ps_set (i := 3) sc__law_no_code.nd rfl (Or.inl rfl) (pe_op op_sub (pe_callB call_len_seq rfl T.n_len bt_len (pa_cons (pv 1) pa_nil)) (pv 2)))
      (pss_cons (ps_set (i := 4) sc__law_no_code.nd rfl (Or.inl rfl) (pe_callTy call_str_int rfl T.n_str bt_str (pa_cons (pe_op op_add (pv 3) (pe_callC C_law_draw hr rfl (pa_cons (pv 0) (pa_cons pe_int pa_nil)) passN)) pa_nil)))
      (pss_cons (ps_set (i := 5) sc__law_no_code.nd rfl (Or.inl rfl) (pe_lst (pa_cons (pe_lst (pa_cons pe_str pa_nil)) (pa_cons (pe_lst (pa_cons (pe_op op_add_str (pe_op op_add_str pe_str (pv 4)) pe_str) pa_nil)) (pa_cons (pe_lst (pa_cons pe_str pa_nil)) (pa_cons (pe_lst (pa_cons pe_str pa_nil)) (pa_cons (pe_lst (pa_cons pe_str pa_nil)) (pa_cons (pe_op op_rep (pe_lst (pa_cons pe_str pa_nil)) pe_int) pa_nil))))))))
      (pss_cons (ps_set (i := 5) sc__law_no_code.nd rfl (Or.inl rfl) (pe_op op_cat (pv 5) (pe_lst (pa_cons (pe_lst (pa_consts (.str (.str .nil)))) (pa_cons (pe_lst (pa_consts (.str (.str .nil)))) (pa_cons (pe_lst (pa_consts (.str (.str .nil)))) (pa_cons (pe_lst pa_nil) pa_nil)))))))
      (pss_cons (ps_set (i := 6) sc__law_no_code.nd rfl (Or.inl rfl) (pe_lst (pa_cons (pe_op op_add_str pe_str (pv 4)) (pa_cons pe_str (pa_cons (pe_op op_add_str pe_str (pe_callTy call_str_int rfl T.n_str bt_str (pa_cons (pe_op op_add (pv 2) (pe_callC C_law_draw hr rfl (pa_cons (pv 0) (pa_cons pe_int pa_nil)) passN)) pa_nil))) (pa_cons pe_str (pa_cons pe_str (pa_cons pe_str pa_nil))))))))
      (pss_cons (ps_set (i := 6) sc__law_no_code.nd rfl (Or.inl rfl) (pe_op op_cat (pv 6) (pe_lst (pa_cons pe_str (pa_cons pe_str (pa_cons pe_str (pa_cons pe_str (pa_cons (pe_op op_add_str pe_str (pv 4)) (pa_cons pe_str pa_nil)))))))))
      (pss_cons (ps_set (i := 7) sc__law_no_code.nd rfl (Or.inl rfl) (pe_callC C_law_draw hr rfl (pa_cons (pv 0) (pa_cons pe_int pa_nil)) passN))
      (pss_cons (ps_if (pt_cmpR op_eq (pv 7) pe_int (nomark _)) (pss_one (ps_ret (pe_bm PySem.F.plainAttrs_str PySem.F.slot_str_join PySem.F.type_str_join mt_join pe_str (pa_cons (pe_op op_cat (pe_ix ix_list (pv 5) (pe_callC C_law_draw hr rfl (pa_cons (pv 0) (pa_cons pe_int pa_nil)) passN) (fun _ _ => rfl)) (pe_slice sl_list (pv 1) (po_some (pv 2)) po_none)) pa_nil)))) pss_nil)
      (pss_cons (ps_if (pt_cmpR op_eq (pv 7) pe_int (nomark _)) (pss_one (ps_ret (pe_bm PySem.F.plainAttrs_str PySem.F.slot_str_join PySem.F.type_str_join mt_join pe_str (pa_cons (pe_slice sl_list (pv 1) po_none (po_some (pv 2))) pa_nil)))) pss_nil)
      (pss_cons (ps_set (i := 8) sc__law_no_code.nd rfl (Or.inl rfl) (pe_op op_add (pv 2) (pe_callC C_law_draw hr rfl (pa_cons (pv 0) (pa_cons (pv 3) pa_nil)) passN)))
      (pss_one (ps_ret (pe_bm PySem.F.plainAttrs_str PySem.F.slot_str_join PySem.F.type_str_join mt_join pe_str (pa_cons (pe_op op_cat (pe_op op_cat (pe_slice sl_list (pv 1) po_none (po_some (pv 8))) (pe_lst (pa_cons (pe_ix ix_list (pv 6) (pe_callC C_law_draw hr rfl (pa_cons (pv 0) (pa_cons pe_int pa_nil)) passN) (fun _ _ => rfl)) pa_nil))) (pe_slice sl_list (pv 1) (po_some (pe_op op_add (pv 8) pe_int)) po_none)) pa_nil)))))))))))))), ?_⟩
  try dsimp only [Cx.nox, Cx.exc, Cx.wish, cxOf_K]
  have ll := L.len
  have lm : ((linesOf hs rs).map V.str).length = hs.length + rs.length := by rw [List.length_map, ll]
  have := L.lh
  have := L.lr
  have := L.h0
  have := L.r0
  have := L.few
  refine ⟨_, rfl, la, _, rfl, .inl (.of L.at_), _, rfl, _, _, rfl, rfl, ?_⟩
  have er : (((linesOf hs rs).map V.str).length : Int) - (hs.length : Int) = (rs.length : Int) := by (first | lia | omega)
  refine ⟨_, rfl, _, rfl, st, _, m, rfl, by decide, by decide, by (first | lia | omega), L.pen, fun d H1 d0 d1 p1 => ⟨_, _, rfl, rfl, _, rfl, log_small (small500 (by (first | lia | omega)) (by (first | lia | omega))), ?_⟩⟩
  have e1 := p1.keep _ _ L.ne L.at_
  have hfl := num_len (n := ((((linesOf hs rs).map V.str).length : Int) - (hs.length : Int) + d)) (small500 (by (first | lia | omega)) (by (first | lia | omega)))
  have sl : sizeLine = 16777216 := sizeLine_eq
  have c1 : (Str.ofString "fun ").length + (numS ((((linesOf hs rs).map V.str).length : Int) - (hs.length : Int) + d)).length ≤ sizeLine := by rw [show (Str.ofString "fun ").length = 4 by decide]; (first | lia | omega)
  have c2 : (Str.ofString "fun " ++ numS ((((linesOf hs rs).map V.str).length : Int) - (hs.length : Int) + d)).length + (Str.ofString " 0 0").length ≤ sizeLine := by rw [strLen_append, show (Str.ofString "fun ").length = 4 by decide, show (Str.ofString " 0 0").length = 4 by decide]; (first | lia | omega)
  refine ⟨small (show 1 ≤ 1000 by decide), fun a1 n1 => ?_⟩
  have s1 := same_new n1 (.lst [.str (Str.ofString "fun 0 1 1")])
  refine ⟨_, rfl, _, _, rfl, rfl, c1, _, _, rfl, rfl, c2, small (show 1 ≤ 1000 by decide), fun a2 n2 => ?_⟩
  have s2 := same_new n2 (.lst [.str (Str.ofString "fun " ++ numS ((((linesOf hs rs).map V.str).length : Int) - (hs.length : Int) + d) ++ Str.ofString " 0 0")])
  refine ⟨small (show 1 ≤ 1000 by decide), fun a3 n3 => ?_⟩
  have s3 := same_new n3 (.lst [.str (Str.ofString "fun -1 0 0")])
  refine ⟨small (show 1 ≤ 1000 by decide), fun a4 n4 => ?_⟩
  have s4 := same_new n4 (.lst [.str (Str.ofString "fun 0 0 13")])
  refine ⟨small (show 1 ≤ 1000 by decide), fun a5 n5 => ?_⟩
  have s5 := same_new n5 (.lst [.str (Str.ofString "fun 0 0 -1")])
  refine ⟨small (show 1 ≤ 1000 by decide), fun a6 n6 => ?_⟩
  have s6 := same_new n6 (.lst [.str (Str.ofString "fun 0 0 0")])
  refine ⟨a6, _, _, rfl, rfl, upd_same, by decide, by decide, smallL (by decide), fun a7 n7 => ?_⟩
  have s7 := same_new n7 (.lst (List.replicate (17 : Int).toNat [.str (Str.ofString "fun 0 0 0")]).flatten)
  refine ⟨small (show 6 ≤ 1000 by decide), fun a8 n8 => ?_⟩
  have s8 := same_new n8 (.lst [.ref a1, .ref a2, .ref a3, .ref a4, .ref a5, .ref a7])
  refine ⟨_, rfl, small (show 2 ≤ 1000 by decide), fun a9 n9 => ?_⟩
  have s9 := same_new n9 (.lst [.str (Str.ofString "fun 0 0 0"), .str (Str.ofString "fun 0 5 5")])
  refine ⟨small (show 2 ≤ 1000 by decide), fun a10 n10 => ?_⟩
  have s10 := same_new n10 (.lst [.str (Str.ofString "fun 0 0 0"), .str (Str.ofString "fun 0 2 1")])
  refine ⟨small (show 2 ≤ 1000 by decide), fun a11 n11 => ?_⟩
  have s11 := same_new n11 (.lst [.str (Str.ofString "fun 0 0 0"), .str (Str.ofString "fun 0 -1 0")])
  refine ⟨small (show 0 ≤ 1000 by decide), fun a12 n12 => ?_⟩
  have s12 := same_new n12 (.lst [])
  refine ⟨small (show 4 ≤ 1000 by decide), fun a13 n13 => ?_⟩
  have s13 := same_new n13 (.lst [.ref a9, .ref a10, .ref a11, .ref a12])
  refine ⟨a8, a13, _, _, rfl, rfl, (s9.trans (s10.trans (s11.trans (s12.trans s13)))) _ _ upd_same, upd_same, smallL (show 6 + 4 ≤ 1000 by decide), fun a14 n14 => ?_⟩
  have s14 := same_new n14 (.lst [.ref a1, .ref a2, .ref a3, .ref a4, .ref a5, .ref a7, .ref a9, .ref a10, .ref a11, .ref a12])
  have t13 := s14
  have t12 := s13.trans t13
  have t11 := s12.trans t12
  have t10 := s11.trans t11
  have t9 := s10.trans t10
  have t8 := s9.trans t9
  have t7 := s8.trans t8
  have t6 := s7.trans t7
  have t5 := s6.trans t6
  have t4 := s5.trans t5
  have t3 := s4.trans t4
  have t2 := s3.trans t3
  have t1 := s2.trans t2
  have t0 := s1.trans t1
  have b1 := t1 _ _ (upd_same (a := a1))
  have b2 := t2 _ _ (upd_same (a := a2))
  have b3 := t3 _ _ (upd_same (a := a3))
  have b4 := t4 _ _ (upd_same (a := a4))
  have b5 := t5 _ _ (upd_same (a := a5))
  have b7 := t7 _ _ (upd_same (a := a7))
  have b9 := t9 _ _ (upd_same (a := a9))
  have b10 := t10 _ _ (upd_same (a := a10))
  have b11 := t11 _ _ (upd_same (a := a11))
  have b12 := t12 _ _ (upd_same (a := a12))
  have q1 := p1.trans (p1.pen.more t0)
  have tb := show TableAt _ a14 (headTx ((((linesOf hs rs).map V.str).length : Int) - (hs.length : Int) + d)) from ⟨[a1, a2, a3, a4, a5, a7, a9, a10, a11, a12], upd_same, .cons b1 (.cons b2 (.cons b3 (.cons b4 (.cons b5 (.cons b7 (.cons b9 (.cons b10 (.cons b11 (.cons b12 .nil)))))))))⟩
  have c3 : (Str.ofString "jump ").length + (numS ((((linesOf hs rs).map V.str).length : Int) - (hs.length : Int) + d)).length ≤ sizeLine := by rw [show (Str.ofString "jump ").length = 5 by decide]; (first | lia | omega)
  refine ⟨_, rfl, _, _, rfl, rfl, c3, _, rfl, _, rfl, st, _, m + 1, rfl, by decide, by decide, by (first | lia | omega), q1.pen, fun d2 H2 d20 d21 p2 => ?_⟩
  have hf2 := num_len (n := (hs.length : Int) + d2) (small500 (by (first | lia | omega)) (by (first | lia | omega)))
  have c4 : (Str.ofString "call ").length + (numS ((hs.length : Int) + d2)).length ≤ sizeLine := by rw [show (Str.ofString "call ").length = 5 by decide]; (first | lia | omega)
  have tb2 := tb.keep q1.pen p2
  have e2 := p2.keep _ _ L.ne (t0 _ _ e1)
  refine ⟨_, _, rfl, rfl, _, rfl, log_small (small500 (by (first | lia | omega)) (by (first | lia | omega))), _, _, rfl, rfl, c4, small (show 6 ≤ 1000 by decide), fun g1 k1 => ?_⟩
  have v1 := same_new k1 (.lst [.str (Str.ofString "jump " ++ numS ((((linesOf hs rs).map V.str).length : Int) - (hs.length : Int) + d)), .str (Str.ofString "unless -1"), .str (Str.ofString "call " ++ numS ((hs.length : Int) + d2)), .str (Str.ofString "call -1"), .str (Str.ofString "get 12"), .str (Str.ofString "set 12")])
  have c5 : (Str.ofString "unless ").length + (numS ((((linesOf hs rs).map V.str).length : Int) - (hs.length : Int) + d)).length ≤ sizeLine := by rw [show (Str.ofString "unless ").length = 7 by decide]; (first | lia | omega)
  refine ⟨_, rfl, _, rfl, _, _, rfl, rfl, c5, small (show 6 ≤ 1000 by decide), fun g2 k2 => ?_⟩
  have v2 := same_new k2 (.lst [.str (Str.ofString "get -1"), .str (Str.ofString "pick 1"), .str (Str.ofString "pick 13"), .str (Str.ofString "pick 0"), .str (Str.ofString "unless " ++ numS ((((linesOf hs rs).map V.str).length : Int) - (hs.length : Int) + d)), .str (Str.ofString "jump -7")])
  refine ⟨g1, g2, _, _, rfl, rfl, v2 _ _ upd_same, upd_same, smallL (show 6 + 6 ≤ 1000 by decide), fun g3 k3 => ?_⟩
  have v3 := same_new k3 (.lst ((rowTx ((((linesOf hs rs).map V.str).length : Int) - (hs.length : Int) + d) ((hs.length : Int) + d2)).map V.str))
  have v := v1.trans (v2.trans v3)
  have p3 := p2.pen.more v
  have tb3 := tb2.keep p2.pen p3
  have e3 := v _ _ e2
  refine ⟨_, rfl, st, _, m + 2, rfl, by decide, by decide, by (first | lia | omega), p3.pen.mono (by (first | lia | omega)), fun way H4 w0 w1 p4 => ?_⟩
  have tb4 := tb3.keep p3.pen p4
  have e4 := p4.keep _ _ L.ne e3
  have r4 := p4.keep _ _ (str_ne p3.pen upd_same) (upd_same (a := g3) (o := .lst ((rowTx ((((linesOf hs rs).map V.str).length : Int) - (hs.length : Int) + d) ((hs.length : Int) + d2)).map V.str)))
  have p04 : Penned3 st (m + 3) H H4 := ((q1.trans p2).trans p3).trans (p4.mono (by (first | lia | omega)))
  refine ⟨_, rfl, rfl, _, rfl, ite2 (fun c => ?_) (fun c => ?_)⟩
  · refine ⟨tyS, ?_⟩
    refine ⟨_, rfl, _, rfl, st, _, m + 3, rfl, by decide, by decide, by (first | lia | omega), p04.pen, fun r H5 r0 r1 p5 => ?_⟩
    obtain ⟨as, ea, hat⟩ := (tb4.keep p04.pen p5).pick
    obtain ⟨u, ts, mts, au, eu⟩ := hat r r0 (by rw [show (headTx ((((linesOf hs rs).map V.str).length : Int) - (hs.length : Int) + d)).length = 10 from rfl]; exact r1)
    have e5 := p5.keep _ _ L.ne e4
    rw [headTx_is] at mts
    obtain ⟨hs', mh, rfl⟩ := List.mem_map.mp mts
    obtain ⟨fh', lh'⟩ := headsT_F (by (first | lia | omega)) (by (first | lia | omega)) mh
    refine ⟨a14, _, _, _, rfl, rfl, .of ea, au, _, rfl, _, rfl, _, rfl, la, _, rfl, .of e5, fun j1 o1 => ?_⟩
    have y1 := same_new o1 (.lst (cutV ((linesOf hs rs).map V.str) (some (hs.length : Int)) none))
    refine ⟨u, j1, _, _, rfl, rfl, y1 _ _ eu, upd_same, smallL (by have := cutV_length ((linesOf hs rs).map V.str) (some (hs.length : Int)) none; rw [List.length_map, List.length_map]; (first | lia | omega)), fun j2 o2 => ?_⟩
    have ec : (hs'.map headG).map V.str ++ cutV ((linesOf hs rs).map V.str) (some (hs.length : Int)) none = (linesOf hs' rs).map V.str := by
      rw [cut_drop, ← List.map_drop, linesOf_drop, ← List.map_append] <;> rfl
    have y2 := same_new o2 (.lst ((hs'.map headG).map V.str ++ cutV ((linesOf hs rs).map V.str) (some (hs.length : Int)) none))
    have y3 : (upd (upd H5 j1 (.lst (cutV ((linesOf hs rs).map V.str) (some (hs.length : Int)) none))) j2 (.lst ((hs'.map headG).map V.str ++ cutV ((linesOf hs rs).map V.str) (some (hs.length : Int)) none))) j2 = some (.lst ((linesOf hs' rs).map V.str)) := by rw [upd_same, ec]
    refine ⟨_, _, _, rfl, rfl, .of y3, join_room (linesF fh' L.fr) (by unfold linesOf; rw [List.length_append, List.length_map, List.length_map]; (first | lia | omega)), ?_⟩
    exact q hs' rs _ ((p04.trans p5).trans ((p5.pen.mono (by (first | lia | omega))).more (y1.trans y2))) fh' L.fr (by (first | lia | omega)) (by (first | lia | omega)) (lines_ne (by (first | lia | omega))) fun z => headsT_no (by (first | lia | omega)) mh (parts_of fh'.h3 L.fr.r2 (by (first | lia | omega)) z)
  refine ⟨_, rfl, rfl, _, rfl, ite2 (fun c => ?_) (fun c => ?_)⟩
  · refine ⟨tyS, ?_⟩
    refine ⟨_, rfl, _, rfl, _, rfl, la, _, rfl, .of e4, fun j1 o1 => ?_⟩
    have y1 := same_new o1 (.lst (cutV ((linesOf hs rs).map V.str) none (some (hs.length : Int))))
    have y3 : (upd H4 j1 (.lst (cutV ((linesOf hs rs).map V.str) none (some (hs.length : Int))))) j1 = some (.lst ((linesOf hs []).map V.str)) := by rw [upd_same, cut_take, ← List.map_take, linesOf_take]
    refine ⟨_, _, _, rfl, rfl, .of y3, join_room (linesF L.fh RowsF.nil) (by unfold linesOf; rw [List.length_append, List.length_map, List.length_map]; show _ + 0 ≤ 200; (first | lia | omega)), ?_⟩
    exact q hs [] _ (p04.trans ((p04.pen.mono (by (first | lia | omega))).more y1)) L.fh RowsF.nil (by (first | lia | omega)) (by decide) (lines_ne (by (first | lia | omega))) fun z => absurd (parts_of L.fh.h3 RowsF.nil.r2 (by decide) z).r1 (by decide)
  refine ⟨_, rfl, _, rfl, _, rfl, st, _, m + 3, rfl, by (first | lia | omega), by (first | lia | omega), by (first | lia | omega), p04.pen, fun r H5 r0 r1 p5 => ⟨_, _, rfl, rfl, tyS, ?_⟩⟩
  obtain ⟨k, rfl⟩ := Int.eq_ofNat_of_zero_le r0
  have e5 := p5.keep _ _ L.ne e4
  have r5 := p5.keep _ _ (str_ne p04.pen r4) r4
  refine ⟨_, rfl, _, rfl, _, rfl, la, _, rfl, .of e5, fun j1 o1 => ?_⟩
  have y1 := same_new o1 (.lst (cutV ((linesOf hs rs).map V.str) none (some ((hs.length : Int) + (k : Int)))))
  refine ⟨_, rfl, _, rfl, st, _, m + 4, rfl, by decide, by decide, by (first | lia | omega), (p5.pen.mono (by (first | lia | omega))).same y1, fun r6 H6 r60 r61 p6 => ?_⟩
  obtain ⟨t, mt, at6⟩ := atI_str (ts := rowTx ((((linesOf hs rs).map V.str).length : Int) - (hs.length : Int) + d) ((hs.length : Int) + d2)) r60 r61
  rw [rowTx_is] at mt
  obtain ⟨g, mg', rfl⟩ := List.mem_map.mp mt
  obtain ⟨op, n, rfl, rf⟩ := rowsT_F (by (first | lia | omega)) (by (first | lia | omega)) (by (first | lia | omega)) (by (first | lia | omega)) mg'
  have ej1 := p6.keep _ _ (Ne.symm (p5.pen.ne o1)) (upd_same (a := j1))
  have e6 := p6.keep _ _ L.ne (y1 _ _ e5)
  have r6' := p6.keep _ _ (str_ne p04.pen r4) (y1 _ _ r5)
  refine ⟨g3, _, _, _, rfl, rfl, .of r6', at6, small (show 1 ≤ 1000 by decide), fun j2 o2 => ?_⟩
  have y2 := same_new o2 (.lst [.str (rowG [op, n])])
  have lc := cutV_length ((linesOf hs rs).map V.str) none (some ((hs.length : Int) + (k : Int)))
  refine ⟨j1, j2, _, _, rfl, rfl, y2 _ _ ej1, upd_same, smallL (by rw [List.length_singleton]; (first | lia | omega)), fun j3 o3 => ?_⟩
  have y3 := same_new o3 (.lst (cutV ((linesOf hs rs).map V.str) none (some ((hs.length : Int) + (k : Int))) ++ [.str (rowG [op, n])]))
  refine ⟨_, rfl, _, rfl, _, _, rfl, rfl, _, rfl, la, _, rfl, .of (y3 _ _ (y2 _ _ e6)), fun j4 o4 => ?_⟩
  have y4 := same_new o4 (.lst (cutV ((linesOf hs rs).map V.str) (some ((hs.length : Int) + (k : Int) + 1)) none))
  have lc2 := cutV_length ((linesOf hs rs).map V.str) (some ((hs.length : Int) + (k : Int) + 1)) none
  refine ⟨j3, j4, _, _, rfl, rfl, y4 _ _ upd_same, upd_same, smallL (by rw [List.length_append, List.length_singleton]; (first | lia | omega)), fun j5 o5 => ?_⟩
  have kl : k < rs.length := by (first | lia | omega)
  have ef : cutV ((linesOf hs rs).map V.str) none (some ((hs.length : Int) + (k : Int))) ++ [.str (rowG [op, n])] ++ cutV ((linesOf hs rs).map V.str) (some ((hs.length : Int) + (k : Int) + 1)) none = (linesOf hs (rs.take k ++ [op, n] :: rs.drop (k + 1))).map V.str := by
    rw [show (hs.length : Int) + (k : Int) = ((hs.length + k : Nat) : Int) from by (first | lia | omega), cut_take, show ((hs.length + k : Nat) : Int) + 1 = ((hs.length + (k + 1) : Nat) : Int) from by (first | lia | omega), cut_drop, ← List.map_take, ← List.map_drop, lines_set]
    simp only [List.map_append, List.map_cons, List.append_assoc, List.singleton_append, List.cons_append, List.nil_append]
  rw [ef]
  have y5 := same_new o5 (.lst ((linesOf hs (rs.take k ++ [op, n] :: rs.drop (k + 1))).map V.str))
  have fr' : RowsF (rs.take k ++ [op, n] :: rs.drop (k + 1)) := fun x hx => by
    rcases List.mem_append.mp hx with z | z
    · exact L.fr x (List.mem_of_mem_take z)
    · rcases List.mem_cons.mp z with z | z
      · exact ⟨op, n, z, rf⟩
      · exact L.fr x (List.mem_of_mem_drop z)
  have lr' : (rs.take k ++ [op, n] :: rs.drop (k + 1)).length = rs.length := by
    rw [List.length_append, List.length_cons, List.length_take, List.length_drop]; (first | lia | omega)
  refine ⟨_, _, _, rfl, rfl, .of upd_same, join_room (linesF L.fh fr') (by unfold linesOf; rw [List.length_append, List.length_map, List.length_map, lr']; (first | lia | omega)), ?_⟩
  have pz := ((((p04.trans p5).trans (p5.pen.more y1)).trans p6).trans (p6.pen.more (y2.trans (y3.trans (y4.trans y5))))).mono (n := m + 5) (by (first | lia | omega))
  exact q hs _ _ pz L.fh fr' (by (first | lia | omega)) (by (first | lia | omega)) (lines_ne (by (first | lia | omega))) fun z => rowsT_no (g := [op, n]) (by (first | lia | omega)) (by (first | lia | omega)) mg' (List.mem_append.mpr (.inr (List.mem_cons_self ..))) (parts_of L.fh.h3 fr'.r2 (by (first | lia | omega)) z)

end
section
variable {P : Program} {w : World} {K : PySem.W.Frag} {mg : Str → Option Value} {base : Heap} {f : Addr} {fd : FuncData}
set_option maxHeartbeats 4000000


variable {CT CC CX CN CR CS : Addr}
theorem parts_HF {hs rs : List (List Int)} (c : CodeParts hs rs) : HeadsF hs := fun g hg => by
  obtain ⟨j, hj⟩ := List.mem_iff_getElem?.mp hg
  obtain ⟨s, p, b, rfl, _⟩ := c.heads j g hj
  have r := c.r24
  obtain ⟨_, _, _, e, ho⟩ := c.heads j _ hj
  cases e
  refine ⟨s, p, b, rfl, fun x hx => ?_⟩
  unfold HeadOk at ho
  have big : 100 < 10 ^ 60 := by decide
  have : x = s ∨ x = p ∨ x = b := by simpa using hx
  refine Nat.lt_trans ?_ big
  (first | lia | omega)
theorem row_RF {op n : Int} {nf nr : Nat} (h : RowOk op n nf nr) (hf : nf ≤ 16) (hr : nr ≤ 30) (fit : Fits n) : RowF op n := by
  unfold RowOk at h
  have big : 100 < 10 ^ 60 := by decide
  refine ⟨by (first | lia | omega), by (first | lia | omega), fun e => by (first | lia | omega), fun e => by (first | lia | omega), fit, fun e => ?_⟩
  refine Nat.lt_trans ?_ big
  (first | lia | omega)
theorem parts_RF {hs rs : List (List Int)} (c : CodeParts hs rs) (fr : ∀ g ∈ rs, ∀ x ∈ g, Fits x) : RowsF rs := fun g hg => by
  obtain ⟨op, n, rfl, ho⟩ := c.rows g hg
  exact ⟨op, n, rfl, row_RF ho c.h16 c.r24 (fr _ hg n (by simp))⟩
theorem HeadsF.take {hs : List (List Int)} (h : HeadsF hs) (a : Nat) : HeadsF (hs.take a) := fun g hg => h g (List.mem_of_mem_take hg)
theorem RowsF.take {hs : List (List Int)} (h : RowsF hs) (a : Nat) : RowsF (hs.take a) := fun g hg => h g (List.mem_of_mem_take hg)
theorem lines_take (hs rs : List (List Int)) (a : Nat) : (linesOf hs rs).take a = linesOf (hs.take a) (rs.take (a - hs.length)) := by
  unfold linesOf
  rw [List.take_append, List.length_map, List.map_take, List.map_take]
theorem take_empty {rs : List (List Int)} {a n : Nat} (r0 : 0 < rs.length) : (rs.take (a - n)).isEmpty = decide ((a : Int) ≤ (n : Int)) := by
  rw [Bool.eq_iff_iff, List.isEmpty_iff, decide_eq_true_eq, List.take_eq_nil_iff]
  constructor
  · rintro (h | h)
    · (first | lia | omega)
    · rw [h] at r0; cases r0
  · intro h
    exact .inl (by (first | lia | omega))
theorem nil_bad (b : Bool) : badLine b "" = true := (badL_bad (b := b) (List.mem_append_left _ (by decide))).1
theorem join_end (z : Str) : ∀ {ls : List Str}, ls ≠ [] → Str.join z (ls ++ [Str.ofString ""]) = Str.join z ls ++ z
  | [], h => absurd rfl h
  | [x], _ => by
    show x ++ z ++ Str.ofString "" = x ++ z
    rw [cat_assoc, show z ++ Str.ofString "" = z by cases z with | mk c => show (⟨c ++ (Str.ofString "").cps⟩ : Str) = ⟨c⟩; rw [show (Str.ofString "").cps = #[] by decide, Array.append_empty]]
  | x :: y :: ls, _ => by
    show x ++ z ++ Str.join z (y :: ls ++ [Str.ofString ""]) = x ++ z ++ Str.join z (y :: ls) ++ z
    rw [join_end z (ls := y :: ls) (by simp), cat_assoc, cat_assoc, cat_assoc]
theorem caught_bad {H : Hp} {Q : VK} {E : XK} {hs rs : List (List Int)} {a : Nat} {bad : Str} {more : List Str} (fh : HeadsF hs) (fr : RowsF rs) (lh : hs.length ≤ 16) (lr : rs.length ≤ 30) (r0 : 0 < rs.length) (ha : a < hs.length + rs.length) (hb : bad ∈ badL (decide ((a : Int) ≤ (hs.length : Int)))) (lm : more.length ≤ 46) (gm : GoodT more)
    (q : ∀ H2, Same H H2 → Q (.int (a : Int)) H2) : spCaught K CT CC [.str (Txt.join (Str.ofString "\n") ((linesOf hs rs).take a ++ bad :: more))] H Q E := by
  obtain ⟨b1, b2, b3⟩ := badL_bad hb
  have l1 := List.length_take (l := hs) (i := a)
  have l2 := List.length_take (l := rs) (i := a - hs.length)
  have el : (hs.take a).length + (rs.take (a - hs.length)).length = a := by (first | lia | omega)
  refine ⟨_, rfl, .inr ⟨hs.take a, rs.take (a - hs.length), bad :: more, by rw [lines_take], fh.take a, fr.take _, by (first | lia | omega), by (first | lia | omega), (by rw [List.length_cons]; (first | lia | omega)), fun t ht => ?_, by simp, .inr ⟨bad, more, rfl, by rw [take_empty r0]; exact b1, fun d H' s e => .inr ⟨rfl, d, _, rfl, e, s, ?_⟩⟩⟩⟩
  · rcases List.mem_cons.mp ht with rfl | ht
    · exact ⟨b2, b3⟩
    · exact gm t ht
  · rw [el]; exact q
theorem caught_no {H : Hp} {Q : VK} {E : XK} {hs rs : List (List Int)} (fh : HeadsF hs) (fr : RowsF rs) (lh : hs.length ≤ 100) (lr : rs.length ≤ 100) (ne : linesOf hs rs ≠ []) (no : ¬ CodeOk (codeL hs rs)) (q : ∀ H2, Same H H2 → Q (.str (Str.ofString "code")) H2) :
    spCaught K CT CC [.str (Txt.join (Str.ofString "\n") (linesOf hs rs))] H Q E :=
  ⟨_, rfl, .inr ⟨hs, rs, [], by rw [List.append_nil], fh, fr, lh, lr, by decide, fun _ ht => (by cases ht), by rw [List.append_nil]; exact ne, .inl ⟨rfl, fun z => absurd z no, fun _ H' s => .inl ⟨rfl, rfl, s, q⟩⟩⟩⟩
theorem caught_end {H : Hp} {Q : VK} {E : XK} {hs rs : List (List Int)} (fh : HeadsF hs) (fr : RowsF rs) (lh : hs.length ≤ 16) (lr : rs.length ≤ 30) (r0 : 0 < rs.length) (q : ∀ H2, Same H H2 → Q (.int ((hs.length + rs.length : Nat) : Int)) H2) :
    spCaught K CT CC [.str (Txt.join (Str.ofString "\n") (linesOf hs rs) ++ Str.ofString "\n")] H Q E := by
  have ne : linesOf hs rs ≠ [] := lines_ne (by (first | lia | omega))
  have e : Txt.join (Str.ofString "\n") (linesOf hs rs) ++ Str.ofString "\n" = Txt.join (Str.ofString "\n") (linesOf hs rs ++ [Str.ofString ""]) := by
    rw [show Txt.join (Str.ofString "\n") (linesOf hs rs) = Str.join (Str.ofString "\n") (linesOf hs rs) from StrLaws.glued_eq_join _ _, show Txt.join (Str.ofString "\n") (linesOf hs rs ++ [Str.ofString ""]) = Str.join (Str.ofString "\n") (linesOf hs rs ++ [Str.ofString ""]) from StrLaws.glued_eq_join _ _, join_end _ ne]
  rw [e]
  have bl := nil_bad rs.isEmpty
  refine ⟨_, rfl, .inr ⟨hs, rs, [Str.ofString ""], rfl, fh, fr, by (first | lia | omega), by (first | lia | omega), by decide, fun t ht => ?_, by simp, .inr ⟨_, [], rfl, bl, fun d H' s e => .inr ⟨rfl, d, _, rfl, e, s, q⟩⟩⟩⟩
  rw [List.mem_singleton.mp ht]
  decide
theorem caught_thing {H : Hp} {Q : VK} {E : XK} {v : V} {t : Value} (ty : TyOf K H v t) (kt : PySem.W.kitOne K t (.type "str") = some false) (q : ∀ H2, Same H H2 → Q (.int 0) H2) : spCaught K CT CC [v] H Q E :=
  ⟨_, rfl, .inl ⟨t, ty, kt, fun d H' s e => .inr ⟨rfl, d, _, rfl, e, s, q⟩⟩⟩
theorem caught_nil {H : Hp} {Q : VK} {E : XK} (q : ∀ H2, Same H H2 → Q (.int 0) H2) : spCaught K CT CC [.str (Str.ofString "")] H Q E := by
  refine ⟨_, rfl, .inr ⟨[], [], [Str.ofString ""], by decide +kernel, fun g hg => (by cases hg), RowsF.nil, by decide, by decide, by decide, fun t ht => ?_, by simp, .inr ⟨_, [], rfl, nil_bad _, fun d H' s e => .inr ⟨rfl, d, _, rfl, e, s, q⟩⟩⟩⟩
  rw [List.mem_singleton.mp ht]
  decide
theorem read_ok {H : Hp} {Q : VK} {E : XK} {hs rs : List (List Int)} (c : CodeParts hs rs) (fh : HeadsF hs) (fr : RowsF rs) (q : ∀ l H', Same H H' → H l = none → H' l = some (.lst ((codeL hs rs).map V.int)) → Q (.ref l) H') :
    spReadCodeX K CT CC [.str (Txt.join (Str.ofString "\n") (linesOf hs rs))] H Q E := by
  have h16 := c.h16
  have r24 := c.r24
  have h1 := c.h1
  exact ⟨_, rfl, .inr ⟨hs, rs, [], by rw [List.append_nil], fh, fr, by (first | lia | omega), by (first | lia | omega), by decide, fun _ ht => (by cases ht), by rw [List.append_nil]; exact lines_ne (by (first | lia | omega)), .inl ⟨rfl, fun _ => q, fun z => absurd c.ok z⟩⟩⟩
theorem join_room2 {ts : List Str} (h : GoodT ts) (l : ts.length ≤ 200) : (Txt.join (Str.ofString "\n") ts).length + (Str.ofString "\n").length ≤ sizeLine := by
  have h2 := StrLaws.sumLen_le _ fun t ht => (h t ht).2
  have e1 : (Str.ofString "\n").length = 1 := by decide
  have h3 := join_len (Str.ofString "\n") ts
  rw [show Txt.join (Str.ofString "\n") ts = Str.join (Str.ofString "\n") ts from StrLaws.glued_eq_join _ _, sizeLine_eq]
  rw [e1] at h3 ⊢
  (first | lia | omega)
structure TxtZ (K : PySem.W.Frag) : Prop where
  knon : PySem.W.kitOne K (.type "NoneType") (.type "str") = some false
  kint : PySem.W.kitOne K (.type "int") (.type "str") = some false
  kbl : PySem.W.kitOne K (.type "bool") (.type "str") = some false
  klst : PySem.W.kitOne K (.type "list") (.type "str") = some false
  ktup : PySem.W.kitOne K (.type "tuple") (.type "str") = some false
  kdct : PySem.W.kitOne K (.type "dict") (.type "str") = some false
section
theorem ok_law13 (T : TxtL K mg) (TZ : TxtZ K) (F : Fun K "law" "law" s_law f fd) (C_law_pen : Cal P w K mg base (CXE P w) 1 "_law_pen" ["_law_script", "_law_k"] (spPen3 K)) (C_law_code : Cal P w K mg base (CXE P w) 4 "_law_code" ["_law_pen_here", "_law_most", "_law_longest", "_law_greats"] spCode3)
    (C_law_line_exchanged : Cal P w K mg base (CXE P w) 2 "_law_line_exchanged" ["_law_pen_here", "_law_lines", "_law_many"] spExch) (C_law_no_code : Cal P w K mg base (CXE P w) 2 "_law_no_code" ["_law_pen_here", "_law_lines", "_law_many"] spNoCode)
    (C_law_caught : Cal P w K mg base (CXE P w) 6 "_law_caught" ["_law_text"] (spCaught K CT CC)) (Cread_code : Cal P w K mg base (CXE P w) 5 "read_code" ["text"] (spReadCodeX K CT CC)) : FnOk P w K mg base (CXE P w) 7 f fd ["_law_script"] (spLaw K) := by
  refine F.okN sc_law (fun vs H Q E h => ?_) (fun cdv A outer s H vs Q E hr h => ?_)
  · obtain ⟨a, ns, rfl, _⟩ := h
    rfl
  obtain ⟨a, ns, rfl, hs, hl, q⟩ := h
  refine ⟨_, (pss_cons (ps_for PassesOwn.never rfl (pi_range1 rfl T.n_range (pa_cons pe_int pa_nil)) (pg_name (i := 1) sc_law.nd rfl (Or.inl rfl)) (pss_cons (ps_set (i := 2) sc_law.nd rfl (Or.inl rfl) (pe_callC C_law_pen hr rfl (pa_cons (pv 0) (pa_cons (pv 1) pa_nil)) passN))
      (pss_cons (ps_asg (pe_callC C_law_code hr rfl (pa_cons (pv 2) (pa_cons pe_int (pa_cons pe_int (pa_cons pe_int pa_nil)))) passN) (pg_tup rfl (pgs_cons (pg_name (i := 3) sc_law.nd rfl (Or.inl rfl)) (pgs_cons (pg_name (i := 4) sc_law.nd rfl (Or.inl rfl)) pgs_nil))))
      (pss_cons (ps_for PassesOwn.never rfl (pi_range1 rfl T.n_range (pa_cons pe_int pa_nil)) (pg_name (i := 5) sc_law.nd rfl (Or.inl rfl)) (pss_cons (ps_asg (pe_callC C_law_line_exchanged hr rfl (pa_cons (pv 2) (pa_cons (pv 4) (pa_cons (pe_ix ix_list (pv 3) pe_int (fun _ _ => rfl)) pa_nil))) passN) (pg_tup rfl (pgs_cons (pg_name (i := 6) sc_law.nd rfl (Or.inl rfl)) (pgs_cons (pg_name (i := 7) sc_law.nd rfl (Or.inl rfl)) pgs_nil))))
      (pss_cons (ps_if (pt_cmpR op_ne (pe_callC C_law_caught hr rfl (pa_cons (pv 6) pa_nil) passN) (pv 7) (nomark _)) (pss_one (ps_ret pe_bl)) pss_nil)
      (pss_one (ps_if (pt_cmpR op_ne (pe_callC C_law_caught hr rfl (pa_cons (pe_callC C_law_no_code hr rfl (pa_cons (pv 2) (pa_cons (pv 4) (pa_cons (pe_ix ix_list (pv 3) pe_int (fun _ _ => rfl)) pa_nil))) passN) pa_nil) passN) pe_str (nomark _)) (pss_one (ps_ret pe_bl)) pss_nil)))))
      (pss_one (ps_if (PW.pt (pw_or (pt_cmpR op_ne (pe_callC C_law_caught hr rfl (pa_cons (pe_op op_add_str (pe_bm PySem.F.plainAttrs_str PySem.F.slot_str_join PySem.F.type_str_join mt_join pe_str (pa_cons (pv 4) pa_nil)) pe_str) pa_nil) passN) (pe_callB call_len_seq rfl T.n_len bt_len (pa_cons (pv 4) pa_nil)) (nomark _)) (pw_or1 (pt_cmpR (op_neD hr) (pe_callC Cread_code hr rfl (pa_cons (pe_bm PySem.F.plainAttrs_str PySem.F.slot_str_join PySem.F.type_str_join mt_join pe_str (pa_cons (pv 4) pa_nil)) pa_nil) passN) (pv 3) (nomark _))))) (pss_one (ps_ret pe_bl)) pss_nil))))))
      (pss_cons (ps_for PassesOwn.never rfl (pi_list (pe_lst (pa_cons pe_non (pa_cons pe_int (pa_cons pe_bl (pa_cons (pe_lst pa_nil) (pa_cons (pe_lst (pa_cons pe_str pa_nil)) (pa_cons (pe_tup (pa_cons pe_str pa_nil)) (pa_cons pe_dnewK (pa_cons pe_str pa_nil)))))))))) (pg_name (i := 8) sc_law.nd rfl (Or.inl rfl)) (pss_one (ps_if (pt_cmpR op_ne (pe_callC C_law_caught hr rfl (pa_cons (pv 8) pa_nil) passN) pe_int (nomark _)) (pss_one (ps_ret pe_bl)) pss_nil)))
      (pss_one (ps_ret pe_bl)))), ?_⟩
  try dsimp only [Cx.nox, Cx.exc, Cx.wish, cxOf_K]
  have sl : sizeLine = 16777216 := sizeLine_eq
  refine ⟨2, rfl, by decide, by decide, for_range (lo := 0) (n := 2) (fun i σ' H' => (∃ v1 v2 v3 v4 v5 v6 v7 v8, σ' = [some (.ref a), v1, v2, v3, v4, v5, v6, v7, v8]) ∧ Same H H') ⟨⟨_, _, _, _, _, _, _, _, rfl⟩, Same.refl H⟩ ?_ ?_⟩
  · rintro i σ' H1 hi ⟨⟨v1, v2, v3, v4, v5, v6, v7, v8, rfl⟩, s1⟩
    refine ⟨_, rfl, _, rfl, a, ns, _, rfl, by (first | lia | omega), by (first | lia | omega), hs.imp (fun ⟨o, z⟩ => ⟨o, s1 _ _ z⟩) id, hl, fun st H2 hst s2 D2 => ?_⟩
    refine ⟨_, rfl, st, 4, 12, 4, 0, rfl, by decide, by decide, by decide, by decide, by decide, by decide, by decide, D2, fun t ca la gs rs H4 D4 et f1 f2 n12 eca ela c fr lrs lgs => ?_⟩
    refine ⟨t, _, rfl, .of et, rfl, _, _, rfl, _, _, rfl, rfl, ?_⟩
    have nca : ca ≠ st := Ne.symm (D2.ne f1)
    have nla : la ≠ st := Ne.symm (D2.ne f2)
    have h16 := c.h16
    have r24 := c.r24
    have h1 := c.h1
    have r1 := c.r1
    have fh := parts_HF c
    have fR := parts_RF c fr
    have hix : atI ((codeL gs rs).map V.int) 0 = some (.int (gs.length : Int)) := atI_nat (j := 0) rfl
    refine ⟨5, rfl, by decide, by decide, for_range (lo := 0) (n := 5) (fun j σ' H' => (∃ v5 v6 v7 v8, σ' = [some (.ref a), some (.int (0 + (i : Int))), some (.ref st), some (.ref ca), some (.ref la), v5, v6, v7, v8]) ∧ Penned3 st (400 + 10 * (j : Int)) H4 H') ⟨⟨_, _, _, _, rfl⟩, (D4.pen.mono (by (first | lia | omega))).refl⟩ ?_ ?_⟩
    · rintro j σ' H5 hj ⟨⟨w5, w6, w7, w8, rfl⟩, p5⟩
      have eca5 := p5.keep _ _ nca eca
      have ela5 := p5.keep _ _ nla ela
      have L5 : Lines H5 st la (400 + 10 * (j : Int)) gs rs := ⟨nla, p5.pen, by (first | lia | omega), ela5, fh, fR, h16, r24, by (first | lia | omega), by (first | lia | omega)⟩
      refine ⟨_, rfl, _, rfl, _, rfl, ca, _, _, _, rfl, rfl, .of eca5, hix, st, la, _, gs, rs, rfl, L5, fun t6 at6 bad more H6 p6 et6 ha hb lm gm => ?_⟩
      refine ⟨t6, _, rfl, .of et6, rfl, _, _, rfl, _, _, rfl, rfl, ?_⟩
      refine ⟨_, rfl, caught_bad (E := E) fh fR h16 r24 (by (first | lia | omega)) ha hb lm gm fun H7 s7 => ?_⟩
      refine ⟨_, rfl, rfl, _, rfl, iteNS rfl ?_⟩
      have p7 : Penned3 st (400 + 10 * (j : Int) + 4) H4 H7 := p5.trans (p6.trans (p6.pen.more s7))
      have eca7 := p7.keep _ _ nca eca
      have L7 : Lines H7 st la (400 + 10 * (j : Int) + 4) gs rs := ⟨nla, p7.pen, by (first | lia | omega), p7.keep _ _ nla ela, fh, fR, h16, r24, by (first | lia | omega), by (first | lia | omega)⟩
      refine ⟨_, rfl, _, rfl, _, rfl, ca, _, _, _, rfl, rfl, .of eca7, hix, st, la, _, gs, rs, rfl, L7, fun hs' rs' H8 p8 fh8 fr8 lh8 lr8 ne8 no8 => caught_no (E := E) fh8 fr8 lh8 lr8 ne8 no8 fun H9 s9 => ?_⟩
      refine ⟨rfl, _, rfl, iteNS rfl ?_⟩
      exact ⟨⟨_, _, _, _, rfl⟩, (p7.trans (p8.trans (p8.pen.more s9))).mono (by (first | lia | omega))⟩
    · rintro σ' H5 ⟨⟨w5, w6, w7, w8, rfl⟩, p5⟩
      have eca5 := p5.keep _ _ nca eca
      have ela5 := p5.keep _ _ nla ela
      have ll : (linesOf gs rs).length = gs.length + rs.length := by unfold linesOf; rw [List.length_append, List.length_map, List.length_map]
      have lm : ((linesOf gs rs).map V.str).length = gs.length + rs.length := by rw [List.length_map, ll]
      refine ⟨tyS, _, rfl, _, la, _, rfl, rfl, .of ela5, join_room (linesF fh fR) (by (first | lia | omega)), _, _, rfl, rfl, join_room2 (linesF fh fR) (by (first | lia | omega)), caught_end (E := E) fh fR h16 r24 (by (first | lia | omega)) fun H6 s6 => ?_⟩
      refine ⟨_, rfl, la, _, rfl, .inl (.of (s6 _ _ ela5)), rfl, _, rfl, iteNS (by rw [lm]) ?_⟩
      refine ⟨tyS, _, rfl, _, la, _, rfl, rfl, .of (s6 _ _ ela5), join_room (linesF fh fR) (by (first | lia | omega)), read_ok c fh fR fun l H7 s7 hl7 el7 => ?_⟩
      refine ⟨_, rfl, l, ca, _, _, 0, rfl, rfl, .inl ⟨.of el7, .of (s7 _ _ (s6 _ _ eca5))⟩, EqD.ints _, by decide, _, rfl, iteF ⟨⟨_, _, _, _, _, _, _, _, rfl⟩, fun b o e => ?_⟩⟩
      have nb : b ≠ st := fun z => by rw [z] at e; rw [s1 _ _ e] at hst; cases hst
      exact s7 _ _ (s6 _ _ (p5.keep b o nb (D4.keep b o nb (s2 _ _ (s1 _ _ e)))))
  · rintro σ' H1 ⟨⟨v1, v2, v3, v4, v5, v6, v7, v8, rfl⟩, s1⟩
    refine ⟨small (show 0 ≤ 1000 by decide), fun b1 n1 => ⟨small (show 1 ≤ 1000 by decide), fun b2 n2 => ⟨small (show 1 ≤ 1000 by decide), fun b3 n3 => fun b4 n4 => ⟨small (show 8 ≤ 1000 by decide), fun b5 n5 => ?_⟩⟩⟩⟩
    have z2 := same_new n2 (.lst [.str (Str.ofString "push 1")])
    have z3 := same_new n3 (.tup [.str (Str.ofString "fun 0 0 0")])
    have z4 := same_new n4 (.dK [])
    have z5 := same_new n5 (.lst [.non, .int 7, .bl true, .ref b1, .ref b2, .ref b3, .ref b4, .str (Str.ofString "")])
    have e4 := z5 _ _ (upd_same (a := b4))
    have e3 := (z4.trans z5) _ _ (upd_same (a := b3))
    have e2 := (z3.trans (z4.trans z5)) _ _ (upd_same (a := b2))
    have e1 := (z2.trans (z3.trans (z4.trans z5))) _ _ (upd_same (a := b1))
    refine ⟨b5, rfl, ⟨_, .of upd_same⟩, for_list (xs := [.non, .int 7, .bl true, .ref b1, .ref b2, .ref b3, .ref b4, .str (Str.ofString "")]) (fun i σ' H' => (∃ w1 w2 w3 w4 w5 w6 w7 w8, σ' = [some (.ref a), w1, w2, w3, w4, w5, w6, w7, w8]) ∧ Same _ H') ⟨⟨_, _, _, _, _, _, _, _, rfl⟩, Same.refl _⟩ (fun i σ' H' _ h => .of (h.2 _ _ upd_same)) ?_ ?_⟩
    · rintro i x σ' H6 hx ⟨⟨w1, w2, w3, w4, w5, w6, w7, w8, rfl⟩, s6⟩
      have cau : ∀ (Q : VK) (E : XK), (∀ H2, Same H6 H2 → Q (.int 0) H2) → spCaught K CT CC [x] H6 Q E := fun Q E q => by
        match i, hx with
        | 0, hx => cases hx; exact caught_thing .non TZ.knon q
        | 1, hx => cases hx; exact caught_thing (.int _) TZ.kint q
        | 2, hx => cases hx; exact caught_thing (.bl _) TZ.kbl q
        | 3, hx => cases hx; exact caught_thing (.lst (s6 _ _ e1)) TZ.klst q
        | 4, hx => cases hx; exact caught_thing (.lst (s6 _ _ e2)) TZ.klst q
        | 5, hx => cases hx; exact caught_thing (.tup (s6 _ _ e3)) TZ.ktup q
        | 6, hx => cases hx; exact caught_thing (.dK (s6 _ _ e4)) TZ.kdct q
        | 7, hx => cases hx; exact caught_nil q
        | n + 8, hx => cases hx
      exact ⟨_, rfl, cau _ E fun H7 s7 => ⟨rfl, _, rfl, iteNS rfl ⟨⟨_, _, _, _, _, _, _, _, rfl⟩, s6.trans s7⟩⟩⟩
    · rintro σ' H6 ⟨_, s6⟩
      exact q H6
end

end
set_option maxHeartbeats 4000000
theorem kit_ref {K : PySem.W.Frag} {t : Value} {C : Addr} {b : Bool} (ty : PySem.W.typeIn K (.ref C) = some (.type "type")) (cl : PySem.W.isClsIn K C = true) (self : PySem.W.subIn K (.ref C) (.ref C) = some true) (s : PySem.W.subIn K t (.ref C) = some b) : PySem.W.kitOne K t (.ref C) = some b := by
  unfold PySem.W.kitOne
  by_cases h : (t == Value.ref C) = true
  · rw [if_pos h]
    rw [beq_iff_eq.mp h, self] at s
    exact s
  · rw [if_neg h]
    unfold PySem.W.kitCls
    have cl' : (PySem.W.clsIn K C).isSome = true := cl
    simp only [cl', ty, beq_self_eq_true, Bool.and_self, if_true]
    exact s
theorem kit_any3 {K : PySem.W.Frag} {t a b c : Value} (h1 : PySem.W.kitOne K t a = some false) (h2 : PySem.W.kitOne K t b = some false) (h3 : PySem.W.kitOne K t c = some false) : PySem.W.kitAny K t [a, b, c] = some false := by
  unfold PySem.W.kitAny
  rw [h1]
  unfold PySem.W.kitAny
  rw [h2]
  unfold PySem.W.kitAny
  rw [h3] <;> rfl
theorem bare_of {K : PySem.W.Frag} {C CE N nsC : Addr} {nm q : Str} {bs : List Value} {sn : List Str} {sub : List Value} {ab : Bool} {col : Option Bool} {dd ddC ddD ddY : Option Addr} {k0 k1 k2 k3 k5 : Option Value} {ccC ccD ccY : Value} {cd : ClassData} {slC slD slY : Array (Option Value)} {esD esY : Array DictEntry} {nD nY : Nat}
    (h : K.lookup C = some (excClassObj nm q C N bs (.ref CE :: bmValue) true sn sub ab col dd k0 k1 k2 k3 k5 "ValueError.__new__"))
    (hC : K.lookup CE = some ⟨ccC, ddC, .cls cd, slC⟩) (hn : cd.ns = nsC) (hD : K.lookup nsC = some ⟨ccD, ddD, .dict esD nD, slD⟩) (eD : (esD.toList.all fun e => match e.key with | .str _ _ => true | _ => false) = true) (fD : PySem.W.nsIn K nsC "__init__" = some none)
    (hY : K.lookup N = some ⟨ccY, ddY, .dict esY nY, slY⟩) (eY : (esY.toList.all fun e => match e.key with | .str _ _ => true | _ => false) = true) (fY : PySem.W.nsIn K N "__init__" = some none) : ExBare K C :=
  ⟨_, _, _, _, _, _, _, _, _, _, _, _, _, _, _, _, h, rfl, exc_tail hC hn (ns_ok hD eD) fD, fun _ X => ⟨_, .of_isNs (PySem.W.isNs_of_in X (ns_ok hY eY)), PySem.W.nsMap_none_of_in X (ns_ok hY eY) fY⟩⟩


theorem ln1 {α : Type} {us : List α} (h : us.length = 1) : ∃ a0, us = [a0] := match us, h with | [a0], _ => ⟨a0, rfl⟩
theorem ln2 {α : Type} {us : List α} (h : us.length = 2) : ∃ a0 a1, us = [a0, a1] := match us, h with | [a0, a1], _ => ⟨a0, a1, rfl⟩
theorem ln3 {α : Type} {us : List α} (h : us.length = 3) : ∃ a0 a1 a2, us = [a0, a1, a2] := match us, h with | [a0, a1, a2], _ => ⟨a0, a1, a2, rfl⟩
theorem ln4 {α : Type} {us : List α} (h : us.length = 4) : ∃ a0 a1 a2 a3, us = [a0, a1, a2, a3] := match us, h with | [a0, a1, a2, a3], _ => ⟨a0, a1, a2, a3, rfl⟩
theorem all_mk {l : PySem.W.OpenLaw} {w : World} {K : PySem.W.Frag} {h : Heap} {mg : Str → Option Value} {fa f0 f1 f2 f3 f4 f5 f6 f7 f8 f9 f10 f11 f12 f13 f14 f15 f16 f17 f18 f19 f20 f21 f22 f23 f24 f25 f26 f27 f28 f29 : Addr} {tADD tNEW tMOST_FUNCTIONS tMOST_PARAMS tMOST_BOXES tMOST_MANY tLEAST_PICK tOP_PUSH tOP_GET tOP_SET tOP_DROP tOP_JUMP tOP_UNLESS tOP_CALL tOP_BACK tOP_FAIL tOP_BREATH tOP_DO tOP_PICK tHEAD_SIZE tROW_SIZE tSET tMOST_FIGURES tHEAD_LENGTH tMOST_PUSHED_FIGURES tFIGURES tHEAD_WORD : Tok} {aW aR : Addr} {tWORDS0 tWORDS1 tWORDS2 tWORDS3 tWORDS4 tWORDS5 tWORDS6 tWORDS7 tWORDS8 tWORDS9 tWORDS10 tWORDS11 tWORDS12 tWORDS13 tWORDS14 tWORDS15 tWORDS16 tWORDS17 : Tok} {nWORDS : Nat} {sWORDS : Array (Option Value)} {tROW0 tROW1 tROW2 tROW3 tROW4 tROW5 tROW6 tROW7 tROW8 tROW9 tROW11 : Tok} {nROW : Nat} {sROW : Array (Option Value)} {cNoText cNoCode cChainError cNoName cNoRow cNoSheet : Addr} {nmN qN : Str} {NN : Addr} {bsN subN : List Value} {snN : List Str} {abN : Bool} {colN : Option Bool} {ddN : Option Addr} {k0N k1N k2N k3N k5N : Option Value} {nmY qY : Str} {NY : Addr} {bsY subY : List Value} {snY : List Str} {abY : Bool} {colY : Option Bool} {ddY : Option Addr} {k0Y k1Y k2Y k3Y k5Y : Option Value} {nmC qC : Str} {nsC : Addr} {bsC mroC subC : List Value} {snC : List Str} {hdC abC delC : Bool} {colC : Option Bool} {ddC ddD ddE : Option Addr} {ccC ccD ccE : Value} {slC slD slE : Array (Option Value)} {esD esE : Array DictEntry} {nD nE : Nat}  (X : K.In h) (G : h.Ns mainGlobals mg) (hfa : mg "law" = some (.ref fa))
    {od0 an0 od1 an1 od2 an2 od3 an3 od4 an4 od5 an5 od6 an6 od7 an7 od8 an8 od9 an9 od10 an10 od11 an11 od12 an12 od13 an13 od14 an14 od15 an15 od16 an16 od17 an17 od18 an18 od19 an19 od20 an20 od21 an21 od22 an22 od23 an23 od24 an24 od25 an25 od26 an26 od27 an27 od28 an28 od29 an29 : Option Addr} {sl0 sl1 sl2 sl3 sl4 sl5 sl6 sl7 sl8 sl9 sl10 sl11 sl12 sl13 sl14 sl15 sl16 sl17 sl18 sl19 sl20 sl21 sl22 sl23 sl24 sl25 sl26 sl27 sl28 sl29 : Array (Option Value)} {oc0 kV0 dc0 pm0 cd0 ct0 oc1 kV1 dc1 pm1 cd1 ct1 oc2 kV2 dc2 pm2 cd2 ct2 oc3 kV3 dc3 pm3 cd3 ct3 oc4 kV4 dc4 pm4 cd4 ct4 oc5 kV5 dc5 pm5 cd5 ct5 oc6 kV6 dc6 pm6 cd6 ct6 oc7 kV7 dc7 pm7 cd7 ct7 oc8 kV8 dc8 pm8 cd8 ct8 oc9 kV9 dc9 pm9 cd9 ct9 oc10 kV10 dc10 pm10 cd10 ct10 oc11 kV11 dc11 pm11 cd11 ct11 oc12 kV12 dc12 pm12 cd12 ct12 oc13 kV13 dc13 pm13 cd13 ct13 oc14 kV14 dc14 pm14 cd14 ct14 oc15 kV15 dc15 pm15 cd15 ct15 oc16 kV16 dc16 pm16 cd16 ct16 oc17 kV17 dc17 pm17 cd17 ct17 oc18 kV18 dc18 pm18 cd18 ct18 oc19 kV19 dc19 pm19 cd19 ct19 oc20 kV20 dc20 pm20 cd20 ct20 oc21 kV21 dc21 pm21 cd21 ct21 oc22 kV22 dc22 pm22 cd22 ct22 oc23 kV23 dc23 pm23 cd23 ct23 oc24 kV24 dc24 pm24 cd24 ct24 oc25 kV25 dc25 pm25 cd25 ct25 oc26 kV26 dc26 pm26 cd26 ct26 oc27 kV27 dc27 pm27 cd27 ct27 oc28 kV28 dc28 pm28 cd28 ct28 oc29 kV29 dc29 pm29 cd29 ct29 : Value}
    (c_NoText : PySem.W.nsIn K mainGlobals "NoText" = some (some (.ref cNoText)))
    (c_NoCode : PySem.W.nsIn K mainGlobals "NoCode" = some (some (.ref cNoCode)))
    (c_ChainError : PySem.W.nsIn K mainGlobals "ChainError" = some (some (.ref cChainError)))
    (c_NoName : PySem.W.nsIn K mainGlobals "NoName" = some (some (.ref cNoName)))
    (c_NoRow : PySem.W.nsIn K mainGlobals "NoRow" = some (some (.ref cNoRow)))
    (c_NoSheet : PySem.W.nsIn K mainGlobals "NoSheet" = some (some (.ref cNoSheet)))
    (a0 : PySem.W.findIn K (.ref cNoText) "__init__" = some (some (.ref f0))) (l0 : K.lookup f0 = some ⟨oc0, od0, .func (PySem.W.fnOf "__init__" "NoText.__init__" (defArgs s_NoText___init__) (defBody s_NoText___init__) (defScope s_NoText___init__) .none kV0 dc0 pm0 an0 cd0 ct0), sl0⟩) (c0 : PySem.W.codeIn K cd0 "NoText.__init__" = true) (k0 : PySem.W.keepIn K (.ref f0) = true)
    (a1 : PySem.W.nsIn K mainGlobals "is_whole" = some (some (.ref f1))) (l1 : K.lookup f1 = some ⟨oc1, od1, .func (PySem.W.fnOf "is_whole" "is_whole" (defArgs s_is_whole) (defBody s_is_whole) (defScope s_is_whole) .none kV1 dc1 pm1 an1 cd1 ct1), sl1⟩) (c1 : PySem.W.codeIn K cd1 "is_whole" = true) (k1 : PySem.W.keepIn K (.ref f1) = true)
    (a2 : PySem.W.nsIn K mainGlobals "is_head" = some (some (.ref f2))) (l2 : K.lookup f2 = some ⟨oc2, od2, .func (PySem.W.fnOf "is_head" "is_head" (defArgs s_is_head) (defBody s_is_head) (defScope s_is_head) .none kV2 dc2 pm2 an2 cd2 ct2), sl2⟩) (c2 : PySem.W.codeIn K cd2 "is_head" = true) (k2 : PySem.W.keepIn K (.ref f2) = true)
    (a3 : PySem.W.nsIn K mainGlobals "stands_alone" = some (some (.ref f3))) (l3 : K.lookup f3 = some ⟨oc3, od3, .func (PySem.W.fnOf "stands_alone" "stands_alone" (defArgs s_stands_alone) (defBody s_stands_alone) (defScope s_stands_alone) .none kV3 dc3 pm3 an3 cd3 ct3), sl3⟩) (c3 : PySem.W.codeIn K cd3 "stands_alone" = true) (k3 : PySem.W.keepIn K (.ref f3) = true)
    (a4 : PySem.W.nsIn K mainGlobals "is_row" = some (some (.ref f4))) (l4 : K.lookup f4 = some ⟨oc4, od4, .func (PySem.W.fnOf "is_row" "is_row" (defArgs s_is_row) (defBody s_is_row) (defScope s_is_row) .none kV4 dc4 pm4 an4 cd4 ct4), sl4⟩) (c4 : PySem.W.codeIn K cd4 "is_row" = true) (k4 : PySem.W.keepIn K (.ref f4) = true)
    (a5 : PySem.W.nsIn K mainGlobals "grouped" = some (some (.ref f5))) (l5 : K.lookup f5 = some ⟨oc5, od5, .func (PySem.W.fnOf "grouped" "grouped" (defArgs s_grouped) (defBody s_grouped) (defScope s_grouped) .none kV5 dc5 pm5 an5 cd5 ct5), sl5⟩) (c5 : PySem.W.codeIn K cd5 "grouped" = true) (k5 : PySem.W.keepIn K (.ref f5) = true)
    (a6 : PySem.W.nsIn K mainGlobals "heads_in" = some (some (.ref f6))) (l6 : K.lookup f6 = some ⟨oc6, od6, .func (PySem.W.fnOf "heads_in" "heads_in" (defArgs s_heads_in) (defBody s_heads_in) (defScope s_heads_in) .none kV6 dc6 pm6 an6 cd6 ct6), sl6⟩) (c6 : PySem.W.codeIn K cd6 "heads_in" = true) (k6 : PySem.W.keepIn K (.ref f6) = true)
    (a7 : PySem.W.nsIn K mainGlobals "rows_in" = some (some (.ref f7))) (l7 : K.lookup f7 = some ⟨oc7, od7, .func (PySem.W.fnOf "rows_in" "rows_in" (defArgs s_rows_in) (defBody s_rows_in) (defScope s_rows_in) .none kV7 dc7 pm7 an7 cd7 ct7), sl7⟩) (c7 : PySem.W.codeIn K cd7 "rows_in" = true) (k7 : PySem.W.keepIn K (.ref f7) = true)
    (a8 : PySem.W.nsIn K mainGlobals "is_list_of_wholes" = some (some (.ref f8))) (l8 : K.lookup f8 = some ⟨oc8, od8, .func (PySem.W.fnOf "is_list_of_wholes" "is_list_of_wholes" (defArgs s_is_list_of_wholes) (defBody s_is_list_of_wholes) (defScope s_is_list_of_wholes) .none kV8 dc8 pm8 an8 cd8 ct8), sl8⟩) (c8 : PySem.W.codeIn K cd8 "is_list_of_wholes" = true) (k8 : PySem.W.keepIn K (.ref f8) = true)
    (a9 : PySem.W.nsIn K mainGlobals "is_code" = some (some (.ref f9))) (l9 : K.lookup f9 = some ⟨oc9, od9, .func (PySem.W.fnOf "is_code" "is_code" (defArgs s_is_code) (defBody s_is_code) (defScope s_is_code) .none kV9 dc9 pm9 an9 cd9 ct9), sl9⟩) (c9 : PySem.W.codeIn K cd9 "is_code" = true) (k9 : PySem.W.keepIn K (.ref f9) = true)
    (a10 : PySem.W.nsIn K mainGlobals "joined" = some (some (.ref f10))) (l10 : K.lookup f10 = some ⟨oc10, od10, .func (PySem.W.fnOf "joined" "joined" (defArgs s_joined) (defBody s_joined) (defScope s_joined) .none kV10 dc10 pm10 an10 cd10 ct10), sl10⟩) (c10 : PySem.W.codeIn K cd10 "joined" = true) (k10 : PySem.W.keepIn K (.ref f10) = true)
    (a11 : PySem.W.nsIn K mainGlobals "code_of" = some (some (.ref f11))) (l11 : K.lookup f11 = some ⟨oc11, od11, .func (PySem.W.fnOf "code_of" "code_of" (defArgs s_code_of) (defBody s_code_of) (defScope s_code_of) .none kV11 dc11 pm11 an11 cd11 ct11), sl11⟩) (c11 : PySem.W.codeIn K cd11 "code_of" = true) (k11 : PySem.W.keepIn K (.ref f11) = true)
    (a12 : PySem.W.nsIn K mainGlobals "is_written_in" = some (some (.ref f12))) (l12 : K.lookup f12 = some ⟨oc12, od12, .func (PySem.W.fnOf "is_written_in" "is_written_in" (defArgs s_is_written_in) (defBody s_is_written_in) (defScope s_is_written_in) .none kV12 dc12 pm12 an12 cd12 ct12), sl12⟩) (c12 : PySem.W.codeIn K cd12 "is_written_in" = true) (k12 : PySem.W.keepIn K (.ref f12) = true)
    (a13 : PySem.W.nsIn K mainGlobals "is_number_of" = some (some (.ref f13))) (l13 : K.lookup f13 = some ⟨oc13, od13, .func (PySem.W.fnOf "is_number_of" "is_number_of" (defArgs s_is_number_of) (defBody s_is_number_of) (defScope s_is_number_of) .none kV13 dc13 pm13 an13 cd13 ct13), sl13⟩) (c13 : PySem.W.codeIn K cd13 "is_number_of" = true) (k13 : PySem.W.keepIn K (.ref f13) = true)
    (a14 : PySem.W.nsIn K mainGlobals "is_number" = some (some (.ref f14))) (l14 : K.lookup f14 = some ⟨oc14, od14, .func (PySem.W.fnOf "is_number" "is_number" (defArgs s_is_number) (defBody s_is_number) (defScope s_is_number) .none kV14 dc14 pm14 an14 cd14 ct14), sl14⟩) (c14 : PySem.W.codeIn K cd14 "is_number" = true) (k14 : PySem.W.keepIn K (.ref f14) = true)
    (a15 : PySem.W.nsIn K mainGlobals "kind_of" = some (some (.ref f15))) (l15 : K.lookup f15 = some ⟨oc15, od15, .func (PySem.W.fnOf "kind_of" "kind_of" (defArgs s_kind_of) (defBody s_kind_of) (defScope s_kind_of) .none kV15 dc15 pm15 an15 cd15 ct15), sl15⟩) (c15 : PySem.W.codeIn K cd15 "kind_of" = true) (k15 : PySem.W.keepIn K (.ref f15) = true)
    (a16 : PySem.W.nsIn K mainGlobals "read_head" = some (some (.ref f16))) (l16 : K.lookup f16 = some ⟨oc16, od16, .func (PySem.W.fnOf "read_head" "read_head" (defArgs s_read_head) (defBody s_read_head) (defScope s_read_head) .none kV16 dc16 pm16 an16 cd16 ct16), sl16⟩) (c16 : PySem.W.codeIn K cd16 "read_head" = true) (k16 : PySem.W.keepIn K (.ref f16) = true)
    (a17 : PySem.W.nsIn K mainGlobals "most_figures" = some (some (.ref f17))) (l17 : K.lookup f17 = some ⟨oc17, od17, .func (PySem.W.fnOf "most_figures" "most_figures" (defArgs s_most_figures) (defBody s_most_figures) (defScope s_most_figures) .none kV17 dc17 pm17 an17 cd17 ct17), sl17⟩) (c17 : PySem.W.codeIn K cd17 "most_figures" = true) (k17 : PySem.W.keepIn K (.ref f17) = true)
    (a18 : PySem.W.nsIn K mainGlobals "read_row" = some (some (.ref f18))) (l18 : K.lookup f18 = some ⟨oc18, od18, .func (PySem.W.fnOf "read_row" "read_row" (defArgs s_read_row) (defBody s_read_row) (defScope s_read_row) .none kV18 dc18 pm18 an18 cd18 ct18), sl18⟩) (c18 : PySem.W.codeIn K cd18 "read_row" = true) (k18 : PySem.W.keepIn K (.ref f18) = true)
    (a19 : PySem.W.nsIn K mainGlobals "read_code" = some (some (.ref f19))) (l19 : K.lookup f19 = some ⟨oc19, od19, .func (PySem.W.fnOf "read_code" "read_code" (defArgs s_read_code) (defBody s_read_code) (defScope s_read_code) .none kV19 dc19 pm19 an19 cd19 ct19), sl19⟩) (c19 : PySem.W.codeIn K cd19 "read_code" = true) (k19 : PySem.W.keepIn K (.ref f19) = true)
    (a20 : PySem.W.nsIn K mainGlobals "_law_pen" = some (some (.ref f20))) (l20 : K.lookup f20 = some ⟨oc20, od20, .func (PySem.W.fnOf "_law_pen" "_law_pen" (defArgs s__law_pen) (defBody s__law_pen) (defScope s__law_pen) .none kV20 dc20 pm20 an20 cd20 ct20), sl20⟩) (c20 : PySem.W.codeIn K cd20 "_law_pen" = true) (k20 : PySem.W.keepIn K (.ref f20) = true)
    (a21 : PySem.W.nsIn K mainGlobals "_law_draw" = some (some (.ref f21))) (l21 : K.lookup f21 = some ⟨oc21, od21, .func (PySem.W.fnOf "_law_draw" "_law_draw" (defArgs s__law_draw) (defBody s__law_draw) (defScope s__law_draw) .none kV21 dc21 pm21 an21 cd21 ct21), sl21⟩) (c21 : PySem.W.codeIn K cd21 "_law_draw" = true) (k21 : PySem.W.keepIn K (.ref f21) = true)
    (a22 : PySem.W.nsIn K mainGlobals "_law_number" = some (some (.ref f22))) (l22 : K.lookup f22 = some ⟨oc22, od22, .func (PySem.W.fnOf "_law_number" "_law_number" (defArgs s__law_number) (defBody s__law_number) (defScope s__law_number) .none kV22 dc22 pm22 an22 cd22 ct22), sl22⟩) (c22 : PySem.W.codeIn K cd22 "_law_number" = true) (k22 : PySem.W.keepIn K (.ref f22) = true)
    (a23 : PySem.W.nsIn K mainGlobals "_law_row" = some (some (.ref f23))) (l23 : K.lookup f23 = some ⟨oc23, od23, .func (PySem.W.fnOf "_law_row" "_law_row" (defArgs s__law_row) (defBody s__law_row) (defScope s__law_row) .none kV23 dc23 pm23 an23 cd23 ct23), sl23⟩) (c23 : PySem.W.codeIn K cd23 "_law_row" = true) (k23 : PySem.W.keepIn K (.ref f23) = true)
    (a24 : PySem.W.nsIn K mainGlobals "_law_code" = some (some (.ref f24))) (l24 : K.lookup f24 = some ⟨oc24, od24, .func (PySem.W.fnOf "_law_code" "_law_code" (defArgs s__law_code) (defBody s__law_code) (defScope s__law_code) .none kV24 dc24 pm24 an24 cd24 ct24), sl24⟩) (c24 : PySem.W.codeIn K cd24 "_law_code" = true) (k24 : PySem.W.keepIn K (.ref f24) = true)
    (a25 : PySem.W.nsIn K mainGlobals "_law_caught" = some (some (.ref f25))) (l25 : K.lookup f25 = some ⟨oc25, od25, .func (PySem.W.fnOf "_law_caught" "_law_caught" (defArgs s__law_caught) (defBody s__law_caught) (defScope s__law_caught) .none kV25 dc25 pm25 an25 cd25 ct25), sl25⟩) (c25 : PySem.W.codeIn K cd25 "_law_caught" = true) (k25 : PySem.W.keepIn K (.ref f25) = true)
    (a26 : PySem.W.nsIn K mainGlobals "_law_bad_lines" = some (some (.ref f26))) (l26 : K.lookup f26 = some ⟨oc26, od26, .func (PySem.W.fnOf "_law_bad_lines" "_law_bad_lines" (defArgs s__law_bad_lines) (defBody s__law_bad_lines) (defScope s__law_bad_lines) .none kV26 dc26 pm26 an26 cd26 ct26), sl26⟩) (c26 : PySem.W.codeIn K cd26 "_law_bad_lines" = true) (k26 : PySem.W.keepIn K (.ref f26) = true)
    (a27 : PySem.W.nsIn K mainGlobals "_law_line_exchanged" = some (some (.ref f27))) (l27 : K.lookup f27 = some ⟨oc27, od27, .func (PySem.W.fnOf "_law_line_exchanged" "_law_line_exchanged" (defArgs s__law_line_exchanged) (defBody s__law_line_exchanged) (defScope s__law_line_exchanged) .none kV27 dc27 pm27 an27 cd27 ct27), sl27⟩) (c27 : PySem.W.codeIn K cd27 "_law_line_exchanged" = true) (k27 : PySem.W.keepIn K (.ref f27) = true)
    (a28 : PySem.W.nsIn K mainGlobals "_law_no_code" = some (some (.ref f28))) (l28 : K.lookup f28 = some ⟨oc28, od28, .func (PySem.W.fnOf "_law_no_code" "_law_no_code" (defArgs s__law_no_code) (defBody s__law_no_code) (defScope s__law_no_code) .none kV28 dc28 pm28 an28 cd28 ct28), sl28⟩) (c28 : PySem.W.codeIn K cd28 "_law_no_code" = true) (k28 : PySem.W.keepIn K (.ref f28) = true)
    (a29 : PySem.W.nsIn K mainGlobals "law" = some (some (.ref f29))) (l29 : K.lookup f29 = some ⟨oc29, od29, .func (PySem.W.fnOf "law" "law" (defArgs s_law) (defBody s_law) (defScope s_law) .none kV29 dc29 pm29 an29 cd29 ct29), sl29⟩) (c29 : PySem.W.codeIn K cd29 "law" = true) (k29 : PySem.W.keepIn K (.ref f29) = true)
    (z_len : PySem.W.nsIn K mainGlobals "len" = some none)
    (z_range : PySem.W.nsIn K mainGlobals "range" = some none)
    (z_all : PySem.W.nsIn K mainGlobals "all" = some none)
    (z_max : PySem.W.nsIn K mainGlobals "max" = some none)
    (z_enumerate : PySem.W.nsIn K mainGlobals "enumerate" = some none)
    (z_isinstance : PySem.W.nsIn K mainGlobals "isinstance" = some none)
    (z_int : PySem.W.nsIn K mainGlobals "int" = some none)
    (z_bool : PySem.W.nsIn K mainGlobals "bool" = some none)
    (z_tuple : PySem.W.nsIn K mainGlobals "tuple" = some none)
    (z_list : PySem.W.nsIn K mainGlobals "list" = some none)
    (z_str : PySem.W.nsIn K mainGlobals "str" = some none)
    (z_ValueError : PySem.W.nsIn K mainGlobals "ValueError" = some none)
    (i_ADD : PySem.W.nsIn K mainGlobals "ADD" = some (some (.int 8 tADD)))
    (i_NEW : PySem.W.nsIn K mainGlobals "NEW" = some (some (.int 19 tNEW)))
    (i_MOST_FUNCTIONS : PySem.W.nsIn K mainGlobals "MOST_FUNCTIONS" = some (some (.int 16 tMOST_FUNCTIONS)))
    (i_MOST_PARAMS : PySem.W.nsIn K mainGlobals "MOST_PARAMS" = some (some (.int 4 tMOST_PARAMS)))
    (i_MOST_BOXES : PySem.W.nsIn K mainGlobals "MOST_BOXES" = some (some (.int 12 tMOST_BOXES)))
    (i_MOST_MANY : PySem.W.nsIn K mainGlobals "MOST_MANY" = some (some (.int 12 tMOST_MANY)))
    (i_LEAST_PICK : PySem.W.nsIn K mainGlobals "LEAST_PICK" = some (some (.int 2 tLEAST_PICK)))
    (i_OP_PUSH : PySem.W.nsIn K mainGlobals "OP_PUSH" = some (some (.int 0 tOP_PUSH)))
    (i_OP_GET : PySem.W.nsIn K mainGlobals "OP_GET" = some (some (.int 1 tOP_GET)))
    (i_OP_SET : PySem.W.nsIn K mainGlobals "OP_SET" = some (some (.int 2 tOP_SET)))
    (i_OP_DROP : PySem.W.nsIn K mainGlobals "OP_DROP" = some (some (.int 3 tOP_DROP)))
    (i_OP_JUMP : PySem.W.nsIn K mainGlobals "OP_JUMP" = some (some (.int 4 tOP_JUMP)))
    (i_OP_UNLESS : PySem.W.nsIn K mainGlobals "OP_UNLESS" = some (some (.int 5 tOP_UNLESS)))
    (i_OP_CALL : PySem.W.nsIn K mainGlobals "OP_CALL" = some (some (.int 6 tOP_CALL)))
    (i_OP_BACK : PySem.W.nsIn K mainGlobals "OP_BACK" = some (some (.int 7 tOP_BACK)))
    (i_OP_FAIL : PySem.W.nsIn K mainGlobals "OP_FAIL" = some (some (.int 8 tOP_FAIL)))
    (i_OP_BREATH : PySem.W.nsIn K mainGlobals "OP_BREATH" = some (some (.int 9 tOP_BREATH)))
    (i_OP_DO : PySem.W.nsIn K mainGlobals "OP_DO" = some (some (.int 10 tOP_DO)))
    (i_OP_PICK : PySem.W.nsIn K mainGlobals "OP_PICK" = some (some (.int 11 tOP_PICK)))
    (i_HEAD_SIZE : PySem.W.nsIn K mainGlobals "HEAD_SIZE" = some (some (.int 3 tHEAD_SIZE)))
    (i_ROW_SIZE : PySem.W.nsIn K mainGlobals "ROW_SIZE" = some (some (.int 2 tROW_SIZE)))
    (i_SET : PySem.W.nsIn K mainGlobals "SET" = some (some (.int 2 tSET)))
    (i_MOST_FIGURES : PySem.W.nsIn K mainGlobals "MOST_FIGURES" = some (some (.int 60 tMOST_FIGURES)))
    (i_HEAD_LENGTH : PySem.W.nsIn K mainGlobals "HEAD_LENGTH" = some (some (.int 4 tHEAD_LENGTH)))
    (i_MOST_PUSHED_FIGURES : PySem.W.nsIn K mainGlobals "MOST_PUSHED_FIGURES" = some (some (.int 100 tMOST_PUSHED_FIGURES)))
    (s_FIGURES : PySem.W.nsIn K mainGlobals "FIGURES" = some (some (.str "0123456789" tFIGURES)))
    (s_HEAD_WORD : PySem.W.nsIn K mainGlobals "HEAD_WORD" = some (some (.str "fun" tHEAD_WORD)))
    (g_WORDS : PySem.W.nsIn K mainGlobals "WORDS" = some (some (.ref aW)))
    (o_WORDS : K.lookup aW = some ⟨.type "tuple", none, .seq #[.str "set" tWORDS0, .str "all" tWORDS1, .str "pick" tWORDS2, .str "loop" tWORDS3, .str "call" tWORDS4, .str "fail" tWORDS5, .str "add" tWORDS6, .str "sub" tWORDS7, .str "mul" tWORDS8, .str "quo" tWORDS9, .str "rest" tWORDS10, .str "less" tWORDS11, .str "same" tWORDS12, .str "push" tWORDS13, .str "at" tWORDS14, .str "put" tWORDS15, .str "size" tWORDS16, .str "new" tWORDS17] nWORDS, sWORDS⟩)
    (g_ROW : PySem.W.nsIn K mainGlobals "ROW_WORDS" = some (some (.ref aR)))
    (o_ROW : K.lookup aR = some ⟨.type "tuple", none, .seq #[.str "push" tROW0, .str "get" tROW1, .str "set" tROW2, .str "drop" tROW3, .str "jump" tROW4, .str "unless" tROW5, .str "call" tROW6, .str "back" tROW7, .str "fail" tROW8, .str "breath" tROW9, .none, .str "pick" tROW11] nROW, sROW⟩)
    (u_bool : PySem.W.subIn K (.type "int") (.type "bool") = some false)
    (u_tl : PySem.W.subIn K (.type "tuple") (.type "list") = some false)
    (v_NoneType : PySem.W.subIn K (.type "NoneType") (.type "str") = some false)
    (v_int : PySem.W.subIn K (.type "int") (.type "str") = some false)
    (v_bool : PySem.W.subIn K (.type "bool") (.type "str") = some false)
    (v_list : PySem.W.subIn K (.type "list") (.type "str") = some false)
    (v_tuple : PySem.W.subIn K (.type "tuple") (.type "str") = some false)
    (v_dict : PySem.W.subIn K (.type "dict") (.type "str") = some false)
    (ty_NoText : PySem.W.typeIn K (.ref cNoText) = some (.type "type"))
    (ty_NoCode : PySem.W.typeIn K (.ref cNoCode) = some (.type "type"))
    (ty_ChainError : PySem.W.typeIn K (.ref cChainError) = some (.type "type"))
    (ty_NoName : PySem.W.typeIn K (.ref cNoName) = some (.type "type"))
    (ty_NoRow : PySem.W.typeIn K (.ref cNoRow) = some (.type "type"))
    (ty_NoSheet : PySem.W.typeIn K (.ref cNoSheet) = some (.type "type"))
    (cl_NoText : PySem.W.isClsIn K cNoText = true)
    (cl_NoCode : PySem.W.isClsIn K cNoCode = true)
    (cl_ChainError : PySem.W.isClsIn K cChainError = true)
    (cl_NoName : PySem.W.isClsIn K cNoName = true)
    (cl_NoRow : PySem.W.isClsIn K cNoRow = true)
    (cl_NoSheet : PySem.W.isClsIn K cNoSheet = true)
    (se_NoText : PySem.W.subIn K (.ref cNoText) (.ref cNoText) = some true)
    (se_NoCode : PySem.W.subIn K (.ref cNoCode) (.ref cNoCode) = some true)
    (se_NoName : PySem.W.subIn K (.ref cNoName) (.ref cNoName) = some true)
    (se_NoRow : PySem.W.subIn K (.ref cNoRow) (.ref cNoRow) = some true)
    (se_NoSheet : PySem.W.subIn K (.ref cNoSheet) (.ref cNoSheet) = some true)
    (xb_ChainError : PySem.W.subIn K (.ref cChainError) (.type "BaseException") = some true)
    (su_NoText_ChainError : PySem.W.subIn K (.ref cNoText) (.ref cChainError) = some true)
    (ve_NoText : PySem.W.subIn K (.ref cNoText) (.type "ValueError") = some true)
    (su_NoText_NoName : PySem.W.subIn K (.ref cNoText) (.ref cNoName) = some false)
    (su_NoText_NoRow : PySem.W.subIn K (.ref cNoText) (.ref cNoRow) = some false)
    (su_NoText_NoSheet : PySem.W.subIn K (.ref cNoText) (.ref cNoSheet) = some false)
    (su_NoText_NoCode : PySem.W.subIn K (.ref cNoText) (.ref cNoCode) = some false)
    (xobj_NoText : PySem.W.mroIn K cNoText (.type "object") = some true)
    (xbase_NoText : PySem.W.mroIn K cNoText (.type "BaseException") = some true)
    (xsa_NoText : PySem.W.findIn K (.ref cNoText) "__setattr__" = some (some (.builtin "object.__setattr__")))
    (xga_NoText : PySem.W.findIn K (.ref cNoText) "__getattribute__" = some (some (.builtin "BaseException.__getattribute__")))
    (xnh_NoText : PySem.W.findIn K (.ref cNoText) "__getattr__" = some none)
    (xha_NoText : PySem.W.findIn K (.ref cNoText) "__class__" = some (some (.builtin "object.__class__")))
    (su_NoCode_ChainError : PySem.W.subIn K (.ref cNoCode) (.ref cChainError) = some true)
    (ve_NoCode : PySem.W.subIn K (.ref cNoCode) (.type "ValueError") = some true)
    (su_NoCode_NoName : PySem.W.subIn K (.ref cNoCode) (.ref cNoName) = some false)
    (su_NoCode_NoRow : PySem.W.subIn K (.ref cNoCode) (.ref cNoRow) = some false)
    (su_NoCode_NoSheet : PySem.W.subIn K (.ref cNoCode) (.ref cNoSheet) = some false)
    (su_NoCode_NoText : PySem.W.subIn K (.ref cNoCode) (.ref cNoText) = some false)
    (xobj_NoCode : PySem.W.mroIn K cNoCode (.type "object") = some true)
    (xbase_NoCode : PySem.W.mroIn K cNoCode (.type "BaseException") = some true)
    (xsa_NoCode : PySem.W.findIn K (.ref cNoCode) "__setattr__" = some (some (.builtin "object.__setattr__")))
    (xga_NoCode : PySem.W.findIn K (.ref cNoCode) "__getattribute__" = some (some (.builtin "BaseException.__getattribute__")))
    (xnh_NoCode : PySem.W.findIn K (.ref cNoCode) "__getattr__" = some none)
    (xha_NoCode : PySem.W.findIn K (.ref cNoCode) "__class__" = some (some (.builtin "object.__class__")))
    (xhn : PySem.W.specialIn K (.builtin "object.__class__") "__get__" = some (some (.builtin "getset_descriptor.__get__")))
    (xtk : PySem.W.takesIn K (.builtin "object.__class__") = some true)
    (xN : K.lookup cNoText = some (excClassObj nmN qN cNoText NN bsN (.ref cChainError :: bmValue) true snN subN abN colN ddN k0N k1N k2N k3N k5N "ValueError.__new__"))
    (yN : K.lookup cNoCode = some (excClassObj nmY qY cNoCode NY bsY (.ref cChainError :: bmValue) true snY subY abY colY ddY k0Y k1Y k2Y k3Y k5Y "ValueError.__new__"))
    (xC : K.lookup cChainError = some ⟨ccC, ddC, .cls ⟨nmC, bsC, mroC, nsC, qC, hdC, snC, subC, abC, colC, delC⟩, slC⟩)
    (xD : K.lookup nsC = some ⟨ccD, ddD, .dict esD nD, slD⟩)
    (xF : PySem.W.nsIn K nsC "__init__" = some none)
    (yD : K.lookup NY = some ⟨ccE, ddE, .dict esE nE, slE⟩)
    (yF : PySem.W.nsIn K NY "__init__" = some none)
    (xkp : PySem.W.keepIn K (.ref cNoText) = true)
    (xty : PySem.W.typeIn K (.ref f0) = some (.type "function"))
    (xat : PySem.W.findIn K (.ref cNoText) "at" = some none)
    (xE : (esD.toList.all fun e => match e.key with | .str _ _ => true | _ => false) = true)
    (yE : (esE.toList.all fun e => match e.key with | .str _ _ => true | _ => false) = true)
    : ∃ fd : FuncData, (∀ (s : Shared) (v : Value), BindsTo s fd ⟨[v], []⟩ [("_law_script", v)]) ∧ ∀ base : Heap, K.In base → base.Ns mainGlobals mg → FnOk l.prog w K mg base (CXE l.prog w) 7 fa fd ["_law_script"] (spLaw K) := by
  have e := hfa.symm.trans (PySem.W.mg_of X G a29)
  cases e
  have F0 := fun_mk (st := s_NoText___init__) l0 c0 k0
  have b0 := F0.binds (ps := ["self", "at"]) fun _ _ _ _ _ _ us hl => by obtain ⟨_, _, rfl⟩ := ln2 hl; rfl
  have F1 := fun_mk (st := s_is_whole) l1 c1 k1
  have b1 := F1.binds (ps := ["thing"]) fun _ _ _ _ _ _ us hl => by obtain ⟨_, rfl⟩ := ln1 hl; rfl
  have m1 := PySem.W.mg_of X G a1
  have F2 := fun_mk (st := s_is_head) l2 c2 k2
  have b2 := F2.binds (ps := ["head", "function", "many_rows"]) fun _ _ _ _ _ _ us hl => by obtain ⟨_, _, _, rfl⟩ := ln3 hl; rfl
  have m2 := PySem.W.mg_of X G a2
  have F3 := fun_mk (st := s_stands_alone) l3 c3 k3
  have b3 := F3.binds (ps := ["op"]) fun _ _ _ _ _ _ us hl => by obtain ⟨_, rfl⟩ := ln1 hl; rfl
  have m3 := PySem.W.mg_of X G a3
  have F4 := fun_mk (st := s_is_row) l4 c4 k4
  have b4 := F4.binds (ps := ["row", "many_functions", "many_rows"]) fun _ _ _ _ _ _ us hl => by obtain ⟨_, _, _, rfl⟩ := ln3 hl; rfl
  have m4 := PySem.W.mg_of X G a4
  have F5 := fun_mk (st := s_grouped) l5 c5 k5
  have b5 := F5.binds (ps := ["numbers", "size"]) fun _ _ _ _ _ _ us hl => by obtain ⟨_, _, rfl⟩ := ln2 hl; rfl
  have m5 := PySem.W.mg_of X G a5
  have F6 := fun_mk (st := s_heads_in) l6 c6 k6
  have b6 := F6.binds (ps := ["numbers"]) fun _ _ _ _ _ _ us hl => by obtain ⟨_, rfl⟩ := ln1 hl; rfl
  have m6 := PySem.W.mg_of X G a6
  have F7 := fun_mk (st := s_rows_in) l7 c7 k7
  have b7 := F7.binds (ps := ["numbers"]) fun _ _ _ _ _ _ us hl => by obtain ⟨_, rfl⟩ := ln1 hl; rfl
  have m7 := PySem.W.mg_of X G a7
  have F8 := fun_mk (st := s_is_list_of_wholes) l8 c8 k8
  have b8 := F8.binds (ps := ["thing"]) fun _ _ _ _ _ _ us hl => by obtain ⟨_, rfl⟩ := ln1 hl; rfl
  have m8 := PySem.W.mg_of X G a8
  have F9 := fun_mk (st := s_is_code) l9 c9 k9
  have b9 := F9.binds (ps := ["thing"]) fun _ _ _ _ _ _ us hl => by obtain ⟨_, rfl⟩ := ln1 hl; rfl
  have m9 := PySem.W.mg_of X G a9
  have F10 := fun_mk (st := s_joined) l10 c10 k10
  have b10 := F10.binds (ps := ["things", "size"]) fun _ _ _ _ _ _ us hl => by obtain ⟨_, _, rfl⟩ := ln2 hl; rfl
  have m10 := PySem.W.mg_of X G a10
  have F11 := fun_mk (st := s_code_of) l11 c11 k11
  have b11 := F11.binds (ps := ["heads", "rows"]) fun _ _ _ _ _ _ us hl => by obtain ⟨_, _, rfl⟩ := ln2 hl; rfl
  have m11 := PySem.W.mg_of X G a11
  have F12 := fun_mk (st := s_is_written_in) l12 c12 k12
  have b12 := F12.binds (ps := ["word", "signs"]) fun _ _ _ _ _ _ us hl => by obtain ⟨_, _, rfl⟩ := ln2 hl; rfl
  have m12 := PySem.W.mg_of X G a12
  have F13 := fun_mk (st := s_is_number_of) l13 c13 k13
  have b13 := F13.binds (ps := ["word", "most_figures"]) fun _ _ _ _ _ _ us hl => by obtain ⟨_, _, rfl⟩ := ln2 hl; rfl
  have m13 := PySem.W.mg_of X G a13
  have F14 := fun_mk (st := s_is_number) l14 c14 k14
  have b14 := F14.binds (ps := ["word"]) fun _ _ _ _ _ _ us hl => by obtain ⟨_, rfl⟩ := ln1 hl; rfl
  have m14 := PySem.W.mg_of X G a14
  have F15 := fun_mk (st := s_kind_of) l15 c15 k15
  have b15 := F15.binds (ps := ["word"]) fun _ _ _ _ _ _ us hl => by obtain ⟨_, rfl⟩ := ln1 hl; rfl
  have m15 := PySem.W.mg_of X G a15
  have F16 := fun_mk (st := s_read_head) l16 c16 k16
  have b16 := F16.binds (ps := ["words", "at"]) fun _ _ _ _ _ _ us hl => by obtain ⟨_, _, rfl⟩ := ln2 hl; rfl
  have m16 := PySem.W.mg_of X G a16
  have F17 := fun_mk (st := s_most_figures) l17 c17 k17
  have b17 := F17.binds (ps := ["op"]) fun _ _ _ _ _ _ us hl => by obtain ⟨_, rfl⟩ := ln1 hl; rfl
  have m17 := PySem.W.mg_of X G a17
  have F18 := fun_mk (st := s_read_row) l18 c18 k18
  have b18 := F18.binds (ps := ["words", "at"]) fun _ _ _ _ _ _ us hl => by obtain ⟨_, _, rfl⟩ := ln2 hl; rfl
  have m18 := PySem.W.mg_of X G a18
  have F19 := fun_mk (st := s_read_code) l19 c19 k19
  have b19 := F19.binds (ps := ["text"]) fun _ _ _ _ _ _ us hl => by obtain ⟨_, rfl⟩ := ln1 hl; rfl
  have m19 := PySem.W.mg_of X G a19
  have F20 := fun_mk (st := s__law_pen) l20 c20 k20
  have b20 := F20.binds (ps := ["_law_script", "_law_k"]) fun _ _ _ _ _ _ us hl => by obtain ⟨_, _, rfl⟩ := ln2 hl; rfl
  have m20 := PySem.W.mg_of X G a20
  have F21 := fun_mk (st := s__law_draw) l21 c21 k21
  have b21 := F21.binds (ps := ["_law_pen_here", "_law_many"]) fun _ _ _ _ _ _ us hl => by obtain ⟨_, _, rfl⟩ := ln2 hl; rfl
  have m21 := PySem.W.mg_of X G a21
  have F22 := fun_mk (st := s__law_number) l22 c22 k22
  have b22 := F22.binds (ps := ["_law_pen_here", "_law_greats"]) fun _ _ _ _ _ _ us hl => by obtain ⟨_, _, rfl⟩ := ln2 hl; rfl
  have m22 := PySem.W.mg_of X G a22
  have F23 := fun_mk (st := s__law_row) l23 c23 k23
  have b23 := F23.binds (ps := ["_law_pen_here", "_law_many", "_law_rows", "_law_greats"]) fun _ _ _ _ _ _ us hl => by obtain ⟨_, _, _, _, rfl⟩ := ln4 hl; rfl
  have m23 := PySem.W.mg_of X G a23
  have F24 := fun_mk (st := s__law_code) l24 c24 k24
  have b24 := F24.binds (ps := ["_law_pen_here", "_law_most", "_law_longest", "_law_greats"]) fun _ _ _ _ _ _ us hl => by obtain ⟨_, _, _, _, rfl⟩ := ln4 hl; rfl
  have m24 := PySem.W.mg_of X G a24
  have F25 := fun_mk (st := s__law_caught) l25 c25 k25
  have b25 := F25.binds (ps := ["_law_text"]) fun _ _ _ _ _ _ us hl => by obtain ⟨_, rfl⟩ := ln1 hl; rfl
  have m25 := PySem.W.mg_of X G a25
  have F26 := fun_mk (st := s__law_bad_lines) l26 c26 k26
  have b26 := F26.binds (ps := ["_law_is_head"]) fun _ _ _ _ _ _ us hl => by obtain ⟨_, rfl⟩ := ln1 hl; rfl
  have m26 := PySem.W.mg_of X G a26
  have F27 := fun_mk (st := s__law_line_exchanged) l27 c27 k27
  have b27 := F27.binds (ps := ["_law_pen_here", "_law_lines", "_law_many"]) fun _ _ _ _ _ _ us hl => by obtain ⟨_, _, _, rfl⟩ := ln3 hl; rfl
  have m27 := PySem.W.mg_of X G a27
  have F28 := fun_mk (st := s__law_no_code) l28 c28 k28
  have b28 := F28.binds (ps := ["_law_pen_here", "_law_lines", "_law_many"]) fun _ _ _ _ _ _ us hl => by obtain ⟨_, _, _, rfl⟩ := ln3 hl; rfl
  have m28 := PySem.W.mg_of X G a28
  have F29 := fun_mk (st := s_law) l29 c29 k29
  refine ⟨PySem.W.fnOf "law" "law" (defArgs s_law) (defBody s_law) (defScope s_law) .none kV29 dc29 pm29 an29 cd29 ct29, fun s v => .of_eq rfl, fun base _ _ => ?_⟩
  have T : Txt K mg := ⟨PySem.W.mg_none_of X G z_len, PySem.W.mg_none_of X G z_range, PySem.W.mg_none_of X G z_all, PySem.W.mg_none_of X G z_max, PySem.W.mg_none_of X G z_enumerate, PySem.W.mg_none_of X G z_isinstance, PySem.W.mg_none_of X G z_int, PySem.W.mg_none_of X G z_bool, PySem.W.mg_none_of X G z_tuple, PySem.W.mg_none_of X G z_list, ⟨_, PySem.W.mg_of X G i_ADD⟩, ⟨_, PySem.W.mg_of X G i_NEW⟩, ⟨_, PySem.W.mg_of X G i_MOST_FUNCTIONS⟩, ⟨_, PySem.W.mg_of X G i_MOST_PARAMS⟩, ⟨_, PySem.W.mg_of X G i_MOST_BOXES⟩, ⟨_, PySem.W.mg_of X G i_MOST_MANY⟩, ⟨_, PySem.W.mg_of X G i_LEAST_PICK⟩, ⟨_, PySem.W.mg_of X G i_OP_PUSH⟩, ⟨_, PySem.W.mg_of X G i_OP_GET⟩, ⟨_, PySem.W.mg_of X G i_OP_SET⟩, ⟨_, PySem.W.mg_of X G i_OP_DROP⟩, ⟨_, PySem.W.mg_of X G i_OP_JUMP⟩, ⟨_, PySem.W.mg_of X G i_OP_UNLESS⟩, ⟨_, PySem.W.mg_of X G i_OP_CALL⟩, ⟨_, PySem.W.mg_of X G i_OP_BACK⟩, ⟨_, PySem.W.mg_of X G i_OP_FAIL⟩, ⟨_, PySem.W.mg_of X G i_OP_BREATH⟩, ⟨_, PySem.W.mg_of X G i_OP_DO⟩, ⟨_, PySem.W.mg_of X G i_OP_PICK⟩, ⟨_, PySem.W.mg_of X G i_HEAD_SIZE⟩, ⟨_, PySem.W.mg_of X G i_ROW_SIZE⟩, kit_self, kit_of u_bool, kit_self, kit_any1 kit_self, kit_any2 (kit_of u_tl) kit_self, kit_self⟩
  have TS : TxtS K mg := ⟨PySem.W.mg_none_of X G z_len, ⟨_, PySem.W.mg_of X G s_FIGURES⟩, ⟨_, PySem.W.mg_of X G i_MOST_FIGURES⟩⟩
  have TR : TxtR K mg aW aR := ⟨⟨_, PySem.W.mg_of X G i_SET⟩, ⟨_, PySem.W.mg_of X G i_OP_DO⟩, PySem.W.mg_of X G g_WORDS, PySem.W.mg_of X G g_ROW, fun H => sqT_of (xs := [V.str "set", V.str "all", V.str "pick", V.str "loop", V.str "call", V.str "fail", V.str "add", V.str "sub", V.str "mul", V.str "quo", V.str "rest", V.str "less", V.str "same", V.str "push", V.str "at", V.str "put", V.str "size", V.str "new"]) o_WORDS (small (show 18 ≤ 1000 by decide)) (.cons ⟨_, rfl⟩ (.cons ⟨_, rfl⟩ (.cons ⟨_, rfl⟩ (.cons ⟨_, rfl⟩ (.cons ⟨_, rfl⟩ (.cons ⟨_, rfl⟩ (.cons ⟨_, rfl⟩ (.cons ⟨_, rfl⟩ (.cons ⟨_, rfl⟩ (.cons ⟨_, rfl⟩ (.cons ⟨_, rfl⟩ (.cons ⟨_, rfl⟩ (.cons ⟨_, rfl⟩ (.cons ⟨_, rfl⟩ (.cons ⟨_, rfl⟩ (.cons ⟨_, rfl⟩ (.cons ⟨_, rfl⟩ (.cons ⟨_, rfl⟩ (.nil))))))))))))))))))) H, ⟨_, o_WORDS, rfl, rfl⟩, fun H => sqT_of (xs := [V.str "push", V.str "get", V.str "set", V.str "drop", V.str "jump", V.str "unless", V.str "call", V.str "back", V.str "fail", V.str "breath", V.non, V.str "pick"]) o_ROW (small (show 12 ≤ 1000 by decide)) (.cons ⟨_, rfl⟩ (.cons ⟨_, rfl⟩ (.cons ⟨_, rfl⟩ (.cons ⟨_, rfl⟩ (.cons ⟨_, rfl⟩ (.cons ⟨_, rfl⟩ (.cons ⟨_, rfl⟩ (.cons ⟨_, rfl⟩ (.cons ⟨_, rfl⟩ (.cons ⟨_, rfl⟩ (.cons rfl (.cons ⟨_, rfl⟩ .nil)))))))))))) H, ⟨_, o_ROW, rfl, rfl⟩⟩
  have TH : TxtH mg := ⟨⟨_, PySem.W.mg_of X G s_HEAD_WORD⟩⟩
  have TF : TxtF mg := ⟨⟨_, PySem.W.mg_of X G i_OP_PUSH⟩, ⟨_, PySem.W.mg_of X G i_MOST_FIGURES⟩, ⟨_, PySem.W.mg_of X G i_MOST_PUSHED_FIGURES⟩⟩
  have TQ : TxtQ K mg aR := ⟨PySem.W.mg_none_of X G z_len, PySem.W.mg_none_of X G z_int, ⟨_, PySem.W.mg_of X G i_ADD⟩, ⟨_, PySem.W.mg_of X G i_OP_DO⟩, PySem.W.mg_of X G g_ROW, TR.roww, TR.rowT⟩
  have TN : TxtN K mg := ⟨PySem.W.mg_none_of X G z_len, PySem.W.mg_none_of X G z_all, PySem.W.mg_none_of X G z_int, PySem.W.mg_none_of X G z_tuple, ⟨_, PySem.W.mg_of X G i_HEAD_LENGTH⟩⟩
  have TC : TxtC K mg := ⟨PySem.W.mg_none_of X G z_isinstance, PySem.W.mg_none_of X G z_str, PySem.W.mg_none_of X G z_enumerate, kit_self⟩
  have TL : TxtL K mg := ⟨PySem.W.mg_none_of X G z_len, PySem.W.mg_none_of X G z_range, PySem.W.mg_none_of X G z_int, PySem.W.mg_none_of X G z_str, PySem.W.mg_none_of X G z_all, PySem.W.mg_none_of X G z_list, PySem.W.mg_none_of X G z_bool, PySem.W.mg_none_of X G z_isinstance, kit_self, kit_self, kit_self, kit_of u_bool⟩
  have e_NoText : ExCls K cNoText := ⟨exc_cd xN, xobj_NoText, xbase_NoText, xsa_NoText, xga_NoText, xnh_NoText⟩
  have q_NoText : IsCls K cNoText := ⟨xha_NoText, xhn, xtk⟩
  have h_NoText : Mch K cNoText cChainError := ⟨su_NoText_ChainError, ty_ChainError, cl_ChainError, xb_ChainError⟩
  have e_NoCode : ExCls K cNoCode := ⟨exc_cd yN, xobj_NoCode, xbase_NoCode, xsa_NoCode, xga_NoCode, xnh_NoCode⟩
  have q_NoCode : IsCls K cNoCode := ⟨xha_NoCode, xhn, xtk⟩
  have h_NoCode : Mch K cNoCode cChainError := ⟨su_NoCode_ChainError, ty_ChainError, cl_ChainError, xb_ChainError⟩
  have B : ExBare K cNoCode := bare_of yN xC rfl xD xE xF yD yE yF
  have TE : TxtE K mg cNoText cNoCode := ⟨e_NoText, xat, B, PySem.W.mg_of X G c_NoCode⟩
  have TX : TxtX K mg cNoText cNoCode cChainError cNoName cNoRow cNoSheet := ⟨PySem.W.mg_of X G c_ChainError, PySem.W.mg_of X G c_NoName, PySem.W.mg_of X G c_NoRow, PySem.W.mg_of X G c_NoSheet, PySem.W.mg_of X G c_NoText, PySem.W.mg_of X G c_NoCode, PySem.W.mg_none_of X G z_isinstance, PySem.W.mg_none_of X G z_ValueError, PySem.W.mg_none_of X G z_int, PySem.W.mg_none_of X G z_bool, h_NoText, h_NoCode, e_NoText, e_NoCode, q_NoText, q_NoCode, xat, kit_of ve_NoText rfl, kit_of ve_NoCode rfl, kit_any3 (kit_ref ty_NoName cl_NoName se_NoName su_NoText_NoName) (kit_ref ty_NoRow cl_NoRow se_NoRow su_NoText_NoRow) (kit_ref ty_NoSheet cl_NoSheet se_NoSheet su_NoText_NoSheet), kit_any3 (kit_ref ty_NoName cl_NoName se_NoName su_NoCode_NoName) (kit_ref ty_NoRow cl_NoRow se_NoRow su_NoCode_NoRow) (kit_ref ty_NoSheet cl_NoSheet se_NoSheet su_NoCode_NoSheet), kit_ref ty_NoText cl_NoText se_NoText se_NoText, kit_ref ty_NoCode cl_NoCode se_NoCode su_NoText_NoCode, kit_ref ty_NoText cl_NoText se_NoText su_NoCode_NoText, kit_ref ty_NoCode cl_NoCode se_NoCode se_NoCode, kit_self, kit_of u_bool⟩
  have TZ : TxtZ K := ⟨kit_of v_NoneType, kit_of v_int, kit_of v_bool, kit_of v_list, kit_of v_tuple, kit_of v_dict⟩
  have X0 : CalX l.prog w K mg base 1 "NoText" cNoText _ _ := ⟨⟨_, _, ExMk.ofValue ⟨_, _, _, _, _, _, _, _, _, _, _, _, _, _, _, _, xN, exc_tail xC rfl (ns_ok xD xE) xF⟩ a0 xty xkp e_NoText, ok_init1 TE F0, PySem.W.mg_of X G c_NoText, b0⟩⟩
  have C1 : Cal l.prog w K mg base (CXE l.prog w) 1 "is_whole" _ _ := ⟨⟨_, _, ok_whole T F1, m1, k1, b1⟩⟩
  have C2 : Cal l.prog w K mg base (CXE l.prog w) 1 "is_head" _ _ := ⟨⟨_, _, ok_is_head T F2, m2, k2, b2⟩⟩
  have C3 : Cal l.prog w K mg base (CXE l.prog w) 1 "stands_alone" _ _ := ⟨⟨_, _, ok_alone T F3, m3, k3, b3⟩⟩
  have C4 : Cal l.prog w K mg base (CXE l.prog w) 2 "is_row" _ _ := ⟨⟨_, _, ok_is_row T F4 C3, m4, k4, b4⟩⟩
  have C5 : Cal l.prog w K mg base (CXE l.prog w) 1 "grouped" _ _ := ⟨⟨_, _, ok_grouped T F5, m5, k5, b5⟩⟩
  have C6 : Cal l.prog w K mg base (CXE l.prog w) 2 "heads_in" _ _ := ⟨⟨_, _, ok_heads_in T F6 C5, m6, k6, b6⟩⟩
  have C7 : Cal l.prog w K mg base (CXE l.prog w) 2 "rows_in" _ _ := ⟨⟨_, _, ok_rows_in T F7 C5, m7, k7, b7⟩⟩
  have C8 : Cal l.prog w K mg base (CXE l.prog w) 2 "is_list_of_wholes" _ _ := ⟨⟨_, _, ok_wholes T F8 C1, m8, k8, b8⟩⟩
  have C9 : Cal l.prog w K mg base (CXE l.prog w) 3 "is_code" _ _ := ⟨⟨_, _, ok_is_code T F9 C8 C6 C7 C2 C4, m9, k9, b9⟩⟩
  have C10 : Cal l.prog w K mg base (CXE l.prog w) 1 "joined" _ _ := ⟨⟨_, _, ok_joined T F10, m10, k10, b10⟩⟩
  have C11 : Cal l.prog w K mg base (CXE l.prog w) 4 "code_of" _ _ := ⟨⟨_, _, ok_code_ofX T TE F11 C10 C9, m11, k11, b11⟩⟩
  have C12 : Cal l.prog w K mg base (CXE l.prog w) 1 "is_written_in" _ _ := ⟨⟨_, _, ok_written_in F12, m12, k12, b12⟩⟩
  have C13 : Cal l.prog w K mg base (CXE l.prog w) 2 "is_number_of" _ _ := ⟨⟨_, _, ok_number_of TS F13 C12, m13, k13, b13⟩⟩
  have C14 : Cal l.prog w K mg base (CXE l.prog w) 3 "is_number" _ _ := ⟨⟨_, _, ok_number TS F14 C13, m14, k14, b14⟩⟩
  have C15 : Cal l.prog w K mg base (CXE l.prog w) 1 "kind_of" _ _ := ⟨⟨_, _, ok_kind TR F15, m15, k15, b15⟩⟩
  have C16 : Cal l.prog w K mg base (CXE l.prog w) 4 "read_head" _ _ := ⟨⟨_, _, ok_read_headX TN F16 X0 C14, m16, k16, b16⟩⟩
  have C17 : Cal l.prog w K mg base (CXE l.prog w) 1 "most_figures" _ _ := ⟨⟨_, _, ok_most TF F17, m17, k17, b17⟩⟩
  have C18 : Cal l.prog w K mg base (CXE l.prog w) 3 "read_row" _ _ := ⟨⟨_, _, ok_read_rowX TQ F18 X0 C15 C3 C17 C13, m18, k18, b18⟩⟩
  have C19 : Cal l.prog w K mg base (CXE l.prog w) 5 "read_code" _ _ := ⟨⟨_, _, ok_read_codeX TC TH F19 X0 C16 C18 C11, m19, k19, b19⟩⟩
  have C20 : Cal l.prog w K mg base (CXE l.prog w) 1 "_law_pen" _ _ := ⟨⟨_, _, ok_pen3 TL F20, m20, k20, b20⟩⟩
  have C21 : Cal l.prog w K mg base (CXE l.prog w) 1 "_law_draw" _ _ := ⟨⟨_, _, ok_draw3 F21, m21, k21, b21⟩⟩
  have C22 : Cal l.prog w K mg base (CXE l.prog w) 2 "_law_number" _ _ := ⟨⟨_, _, ok_number3 F22 C21, m22, k22, b22⟩⟩
  have C23 : Cal l.prog w K mg base (CXE l.prog w) 3 "_law_row" _ _ := ⟨⟨_, _, ok_row3 TL F23 C21 C22, m23, k23, b23⟩⟩
  have C24 : Cal l.prog w K mg base (CXE l.prog w) 4 "_law_code" _ _ := ⟨⟨_, _, ok_code3 TL F24 C21 C23, m24, k24, b24⟩⟩
  have C25 : Cal l.prog w K mg base (CXE l.prog w) 6 "_law_caught" _ _ := ⟨⟨_, _, ok_caught TX F25 C19, m25, k25, b25⟩⟩
  have C26 : Cal l.prog w K mg base (CXE l.prog w) 1 "_law_bad_lines" _ _ := ⟨⟨_, _, ok_badlines TX F26, m26, k26, b26⟩⟩
  have C27 : Cal l.prog w K mg base (CXE l.prog w) 2 "_law_line_exchanged" _ _ := ⟨⟨_, _, ok_exch TL F27 C21 C26, m27, k27, b27⟩⟩
  have C28 : Cal l.prog w K mg base (CXE l.prog w) 2 "_law_no_code" _ _ := ⟨⟨_, _, ok_nocode TL F28 C21, m28, k28, b28⟩⟩
  exact ok_law13 TL TZ F29 C20 C24 C27 C28 C25 C19
theorem walk {l : PySem.W.OpenLaw} {q : Program} {loose : List Str} {XP : (Str → Option Value) → Heap → Prop} {YP : World → Heap → Prop} {d : DefRec} {K : Params → PySem.W.Frag} (hn : l.most = some 63) (hdf : d.params.defaults = [])
    (hY : ∀ (w : World) (h : Heap), YP w h → (K w.params).In h)
    (F : ∀ (w : World) (mg : Str → Option Value) (fa : Addr) (h : Heap), (K w.params).In h → h.Ns mainGlobals mg → mg d.name = some (.ref fa) →
      ∃ fd : FuncData, (∀ (s : Shared) (u : Value), BindsTo s fd ⟨[u], []⟩ [("_law_script", u)]) ∧ ∀ base : Heap, (K w.params).In base → base.Ns mainGlobals mg → FnOk l.prog w (K w.params) mg base (CXE l.prog w) 7 fa fd ["_law_script"] (spLaw (K w.params))) :
    PySem.W.WalkO q loose XP YP l.row.toRowW d [] (fun f vs => PySem.call f vs) :=
  L2.walk_of (n := 63) (k := 7) (x := "_law_script") (CX := fun w => (CXE l.prog w)) (sp := fun w => spLaw (K w.params)) hn (by decide) hdf ⟨rfl, by decide, by decide⟩ hY F (fun _ _ a ns hl hO hS => ⟨a, ns, rfl, Scr.of hO hS, hl, fun _ => rfl⟩) (fun _ _ _ _ _ => cxe_none)
end OcL
namespace OcP
open PySem
set_option maxRecDepth 100000
set_option compiler.extract_closed false
def s0 : Stmt := let_mvar% ?s := (_ : Stmt); let_mvar% ?f := (fun (_ : (PySem.Challenge.pw_ownchain_k13_no_codes_texts.main.body)[0]? = some ?s) => ?s); ?f rfl
def s1 : Stmt := let_mvar% ?s := (_ : Stmt); let_mvar% ?f := (fun (_ : (PySem.Challenge.pw_ownchain_k13_no_codes_texts.main.body)[1]? = some ?s) => ?s); ?f rfl
def s2 : Stmt := let_mvar% ?s := (_ : Stmt); let_mvar% ?f := (fun (_ : (PySem.Challenge.pw_ownchain_k13_no_codes_texts.main.body)[2]? = some ?s) => ?s); ?f rfl
def s3 : Stmt := let_mvar% ?s := (_ : Stmt); let_mvar% ?f := (fun (_ : (PySem.Challenge.pw_ownchain_k13_no_codes_texts.main.body)[3]? = some ?s) => ?s); ?f rfl
def s4 : Stmt := let_mvar% ?s := (_ : Stmt); let_mvar% ?f := (fun (_ : (PySem.Challenge.pw_ownchain_k13_no_codes_texts.main.body)[4]? = some ?s) => ?s); ?f rfl
def s5 : Stmt := let_mvar% ?s := (_ : Stmt); let_mvar% ?f := (fun (_ : (PySem.Challenge.pw_ownchain_k13_no_codes_texts.main.body)[5]? = some ?s) => ?s); ?f rfl
def s6 : Stmt := let_mvar% ?s := (_ : Stmt); let_mvar% ?f := (fun (_ : (PySem.Challenge.pw_ownchain_k13_no_codes_texts.main.body)[6]? = some ?s) => ?s); ?f rfl
def s7 : Stmt := let_mvar% ?s := (_ : Stmt); let_mvar% ?f := (fun (_ : (PySem.Challenge.pw_ownchain_k13_no_codes_texts.main.body)[7]? = some ?s) => ?s); ?f rfl
def s8 : Stmt := let_mvar% ?s := (_ : Stmt); let_mvar% ?f := (fun (_ : (PySem.Challenge.pw_ownchain_k13_no_codes_texts.main.body)[8]? = some ?s) => ?s); ?f rfl
def s9 : Stmt := let_mvar% ?s := (_ : Stmt); let_mvar% ?f := (fun (_ : (PySem.Challenge.pw_ownchain_k13_no_codes_texts.main.body)[9]? = some ?s) => ?s); ?f rfl
def s10 : Stmt := let_mvar% ?s := (_ : Stmt); let_mvar% ?f := (fun (_ : (PySem.Challenge.pw_ownchain_k13_no_codes_texts.main.body)[10]? = some ?s) => ?s); ?f rfl
def s11 : Stmt := let_mvar% ?s := (_ : Stmt); let_mvar% ?f := (fun (_ : (PySem.Challenge.pw_ownchain_k13_no_codes_texts.main.body)[11]? = some ?s) => ?s); ?f rfl
def s12 : Stmt := let_mvar% ?s := (_ : Stmt); let_mvar% ?f := (fun (_ : (PySem.Challenge.pw_ownchain_k13_no_codes_texts.main.body)[12]? = some ?s) => ?s); ?f rfl
def s13 : Stmt := let_mvar% ?s := (_ : Stmt); let_mvar% ?f := (fun (_ : (PySem.Challenge.pw_ownchain_k13_no_codes_texts.main.body)[13]? = some ?s) => ?s); ?f rfl
def s14 : Stmt := let_mvar% ?s := (_ : Stmt); let_mvar% ?f := (fun (_ : (PySem.Challenge.pw_ownchain_k13_no_codes_texts.main.body)[14]? = some ?s) => ?s); ?f rfl
def s15 : Stmt := let_mvar% ?s := (_ : Stmt); let_mvar% ?f := (fun (_ : (PySem.Challenge.pw_ownchain_k13_no_codes_texts.main.body)[15]? = some ?s) => ?s); ?f rfl
def s16 : Stmt := let_mvar% ?s := (_ : Stmt); let_mvar% ?f := (fun (_ : (PySem.Challenge.pw_ownchain_k13_no_codes_texts.main.body)[16]? = some ?s) => ?s); ?f rfl
def s17 : Stmt := let_mvar% ?s := (_ : Stmt); let_mvar% ?f := (fun (_ : (PySem.Challenge.pw_ownchain_k13_no_codes_texts.main.body)[17]? = some ?s) => ?s); ?f rfl
def s18 : Stmt := let_mvar% ?s := (_ : Stmt); let_mvar% ?f := (fun (_ : (PySem.Challenge.pw_ownchain_k13_no_codes_texts.main.body)[18]? = some ?s) => ?s); ?f rfl
def s19 : Stmt := let_mvar% ?s := (_ : Stmt); let_mvar% ?f := (fun (_ : (PySem.Challenge.pw_ownchain_k13_no_codes_texts.main.body)[19]? = some ?s) => ?s); ?f rfl
def s20 : Stmt := let_mvar% ?s := (_ : Stmt); let_mvar% ?f := (fun (_ : (PySem.Challenge.pw_ownchain_k13_no_codes_texts.main.body)[20]? = some ?s) => ?s); ?f rfl
def s21 : Stmt := let_mvar% ?s := (_ : Stmt); let_mvar% ?f := (fun (_ : (PySem.Challenge.pw_ownchain_k13_no_codes_texts.main.body)[21]? = some ?s) => ?s); ?f rfl
def s22 : Stmt := let_mvar% ?s := (_ : Stmt); let_mvar% ?f := (fun (_ : (PySem.Challenge.pw_ownchain_k13_no_codes_texts.main.body)[22]? = some ?s) => ?s); ?f rfl
def s23 : Stmt := let_mvar% ?s := (_ : Stmt); let_mvar% ?f := (fun (_ : (PySem.Challenge.pw_ownchain_k13_no_codes_texts.main.body)[23]? = some ?s) => ?s); ?f rfl
def s24 : Stmt := let_mvar% ?s := (_ : Stmt); let_mvar% ?f := (fun (_ : (PySem.Challenge.pw_ownchain_k13_no_codes_texts.main.body)[24]? = some ?s) => ?s); ?f rfl
def s25 : Stmt := let_mvar% ?s := (_ : Stmt); let_mvar% ?f := (fun (_ : (PySem.Challenge.pw_ownchain_k13_no_codes_texts.main.body)[25]? = some ?s) => ?s); ?f rfl
def s26 : Stmt := let_mvar% ?s := (_ : Stmt); let_mvar% ?f := (fun (_ : (PySem.Challenge.pw_ownchain_k13_no_codes_texts.main.body)[26]? = some ?s) => ?s); ?f rfl
def s27 : Stmt := let_mvar% ?s := (_ : Stmt); let_mvar% ?f := (fun (_ : (PySem.Challenge.pw_ownchain_k13_no_codes_texts.main.body)[27]? = some ?s) => ?s); ?f rfl
def s28 : Stmt := let_mvar% ?s := (_ : Stmt); let_mvar% ?f := (fun (_ : (PySem.Challenge.pw_ownchain_k13_no_codes_texts.main.body)[28]? = some ?s) => ?s); ?f rfl
def s29 : Stmt := let_mvar% ?s := (_ : Stmt); let_mvar% ?f := (fun (_ : (PySem.Challenge.pw_ownchain_k13_no_codes_texts.main.body)[29]? = some ?s) => ?s); ?f rfl
def s30 : Stmt := let_mvar% ?s := (_ : Stmt); let_mvar% ?f := (fun (_ : (PySem.Challenge.pw_ownchain_k13_no_codes_texts.main.body)[30]? = some ?s) => ?s); ?f rfl
def s31 : Stmt := let_mvar% ?s := (_ : Stmt); let_mvar% ?f := (fun (_ : (PySem.Challenge.pw_ownchain_k13_no_codes_texts.main.body)[31]? = some ?s) => ?s); ?f rfl
def s32 : Stmt := let_mvar% ?s := (_ : Stmt); let_mvar% ?f := (fun (_ : (PySem.Challenge.pw_ownchain_k13_no_codes_texts.main.body)[32]? = some ?s) => ?s); ?f rfl
def s33 : Stmt := let_mvar% ?s := (_ : Stmt); let_mvar% ?f := (fun (_ : (PySem.Challenge.pw_ownchain_k13_no_codes_texts.main.body)[33]? = some ?s) => ?s); ?f rfl
def s34 : Stmt := let_mvar% ?s := (_ : Stmt); let_mvar% ?f := (fun (_ : (PySem.Challenge.pw_ownchain_k13_no_codes_texts.main.body)[34]? = some ?s) => ?s); ?f rfl
def s35 : Stmt := let_mvar% ?s := (_ : Stmt); let_mvar% ?f := (fun (_ : (PySem.Challenge.pw_ownchain_k13_no_codes_texts.main.body)[35]? = some ?s) => ?s); ?f rfl
def s36 : Stmt := let_mvar% ?s := (_ : Stmt); let_mvar% ?f := (fun (_ : (PySem.Challenge.pw_ownchain_k13_no_codes_texts.main.body)[36]? = some ?s) => ?s); ?f rfl
def s37 : Stmt := let_mvar% ?s := (_ : Stmt); let_mvar% ?f := (fun (_ : (PySem.Challenge.pw_ownchain_k13_no_codes_texts.main.body)[37]? = some ?s) => ?s); ?f rfl
def s38 : Stmt := let_mvar% ?s := (_ : Stmt); let_mvar% ?f := (fun (_ : (PySem.Challenge.pw_ownchain_k13_no_codes_texts.main.body)[38]? = some ?s) => ?s); ?f rfl
def s39 : Stmt := let_mvar% ?s := (_ : Stmt); let_mvar% ?f := (fun (_ : (PySem.Challenge.pw_ownchain_k13_no_codes_texts.main.body)[39]? = some ?s) => ?s); ?f rfl
def s40 : Stmt := let_mvar% ?s := (_ : Stmt); let_mvar% ?f := (fun (_ : (PySem.Challenge.pw_ownchain_k13_no_codes_texts.main.body)[40]? = some ?s) => ?s); ?f rfl
def s41 : Stmt := let_mvar% ?s := (_ : Stmt); let_mvar% ?f := (fun (_ : (PySem.Challenge.pw_ownchain_k13_no_codes_texts.main.body)[41]? = some ?s) => ?s); ?f rfl
def s42 : Stmt := let_mvar% ?s := (_ : Stmt); let_mvar% ?f := (fun (_ : (PySem.Challenge.pw_ownchain_k13_no_codes_texts.main.body)[42]? = some ?s) => ?s); ?f rfl
def s43 : Stmt := let_mvar% ?s := (_ : Stmt); let_mvar% ?f := (fun (_ : (PySem.Challenge.pw_ownchain_k13_no_codes_texts.main.body)[43]? = some ?s) => ?s); ?f rfl
def s44 : Stmt := let_mvar% ?s := (_ : Stmt); let_mvar% ?f := (fun (_ : (PySem.Challenge.pw_ownchain_k13_no_codes_texts.main.body)[44]? = some ?s) => ?s); ?f rfl
def s45 : Stmt := let_mvar% ?s := (_ : Stmt); let_mvar% ?f := (fun (_ : (PySem.Challenge.pw_ownchain_k13_no_codes_texts.main.body)[45]? = some ?s) => ?s); ?f rfl
def s46 : Stmt := let_mvar% ?s := (_ : Stmt); let_mvar% ?f := (fun (_ : (PySem.Challenge.pw_ownchain_k13_no_codes_texts.main.body)[46]? = some ?s) => ?s); ?f rfl
def s47 : Stmt := let_mvar% ?s := (_ : Stmt); let_mvar% ?f := (fun (_ : (PySem.Challenge.pw_ownchain_k13_no_codes_texts.main.body)[47]? = some ?s) => ?s); ?f rfl
def s48 : Stmt := let_mvar% ?s := (_ : Stmt); let_mvar% ?f := (fun (_ : (PySem.Challenge.pw_ownchain_k13_no_codes_texts.main.body)[48]? = some ?s) => ?s); ?f rfl
def s49 : Stmt := let_mvar% ?s := (_ : Stmt); let_mvar% ?f := (fun (_ : (PySem.Challenge.pw_ownchain_k13_no_codes_texts.main.body)[49]? = some ?s) => ?s); ?f rfl
def s50 : Stmt := let_mvar% ?s := (_ : Stmt); let_mvar% ?f := (fun (_ : (PySem.Challenge.pw_ownchain_k13_no_codes_texts.main.body)[50]? = some ?s) => ?s); ?f rfl
def s51 : Stmt := let_mvar% ?s := (_ : Stmt); let_mvar% ?f := (fun (_ : (PySem.Challenge.pw_ownchain_k13_no_codes_texts.main.body)[51]? = some ?s) => ?s); ?f rfl
def s52 : Stmt := let_mvar% ?s := (_ : Stmt); let_mvar% ?f := (fun (_ : (PySem.Challenge.pw_ownchain_k13_no_codes_texts.main.body)[52]? = some ?s) => ?s); ?f rfl
def s53 : Stmt := let_mvar% ?s := (_ : Stmt); let_mvar% ?f := (fun (_ : (PySem.Challenge.pw_ownchain_k13_no_codes_texts.main.body)[53]? = some ?s) => ?s); ?f rfl
def s54 : Stmt := let_mvar% ?s := (_ : Stmt); let_mvar% ?f := (fun (_ : (PySem.Challenge.pw_ownchain_k13_no_codes_texts.main.body)[54]? = some ?s) => ?s); ?f rfl
def s55 : Stmt := let_mvar% ?s := (_ : Stmt); let_mvar% ?f := (fun (_ : (PySem.Challenge.pw_ownchain_k13_no_codes_texts.main.body)[55]? = some ?s) => ?s); ?f rfl
def s56 : Stmt := let_mvar% ?s := (_ : Stmt); let_mvar% ?f := (fun (_ : (PySem.Challenge.pw_ownchain_k13_no_codes_texts.main.body)[56]? = some ?s) => ?s); ?f rfl
def s57 : Stmt := let_mvar% ?s := (_ : Stmt); let_mvar% ?f := (fun (_ : (PySem.Challenge.pw_ownchain_k13_no_codes_texts.main.body)[57]? = some ?s) => ?s); ?f rfl
def s58 : Stmt := let_mvar% ?s := (_ : Stmt); let_mvar% ?f := (fun (_ : (PySem.Challenge.pw_ownchain_k13_no_codes_texts.main.body)[58]? = some ?s) => ?s); ?f rfl
def s59 : Stmt := let_mvar% ?s := (_ : Stmt); let_mvar% ?f := (fun (_ : (PySem.Challenge.pw_ownchain_k13_no_codes_texts.main.body)[59]? = some ?s) => ?s); ?f rfl
def s60 : Stmt := let_mvar% ?s := (_ : Stmt); let_mvar% ?f := (fun (_ : (PySem.Challenge.pw_ownchain_k13_no_codes_texts.main.body)[60]? = some ?s) => ?s); ?f rfl
def s61 : Stmt := let_mvar% ?s := (_ : Stmt); let_mvar% ?f := (fun (_ : (PySem.Challenge.pw_ownchain_k13_no_codes_texts.main.body)[61]? = some ?s) => ?s); ?f rfl
def s62 : Stmt := let_mvar% ?s := (_ : Stmt); let_mvar% ?f := (fun (_ : (PySem.Challenge.pw_ownchain_k13_no_codes_texts.main.body)[62]? = some ?s) => ?s); ?f rfl
def s63 : Stmt := let_mvar% ?s := (_ : Stmt); let_mvar% ?f := (fun (_ : (PySem.Challenge.pw_ownchain_k13_no_codes_texts.main.body)[63]? = some ?s) => ?s); ?f rfl
def s64 : Stmt := let_mvar% ?s := (_ : Stmt); let_mvar% ?f := (fun (_ : (PySem.Challenge.pw_ownchain_k13_no_codes_texts.main.body)[64]? = some ?s) => ?s); ?f rfl
def s65 : Stmt := let_mvar% ?s := (_ : Stmt); let_mvar% ?f := (fun (_ : (PySem.Challenge.pw_ownchain_k13_no_codes_texts.main.body)[65]? = some ?s) => ?s); ?f rfl
def s66 : Stmt := let_mvar% ?s := (_ : Stmt); let_mvar% ?f := (fun (_ : (PySem.Challenge.pw_ownchain_k13_no_codes_texts.main.body)[66]? = some ?s) => ?s); ?f rfl
def s67 : Stmt := let_mvar% ?s := (_ : Stmt); let_mvar% ?f := (fun (_ : (PySem.Challenge.pw_ownchain_k13_no_codes_texts.main.body)[67]? = some ?s) => ?s); ?f rfl
def s68 : Stmt := let_mvar% ?s := (_ : Stmt); let_mvar% ?f := (fun (_ : (PySem.Challenge.pw_ownchain_k13_no_codes_texts.main.body)[68]? = some ?s) => ?s); ?f rfl
def s69 : Stmt := let_mvar% ?s := (_ : Stmt); let_mvar% ?f := (fun (_ : (PySem.Challenge.pw_ownchain_k13_no_codes_texts.main.body)[69]? = some ?s) => ?s); ?f rfl
def s70 : Stmt := let_mvar% ?s := (_ : Stmt); let_mvar% ?f := (fun (_ : (PySem.Challenge.pw_ownchain_k13_no_codes_texts.main.body)[70]? = some ?s) => ?s); ?f rfl
def sc : Scope := let_mvar% ?s := (_ : Scope); let_mvar% ?f := (fun (_ : PySem.Challenge.pw_ownchain_k13_no_codes_texts.main.scope = ?s) => ?s); ?f rfl
def gi : Given := let_mvar% ?s := (_ : Given); let_mvar% ?f := (fun (_ : PySem.Challenge.pw_ownchain_k13_no_codes_texts.given = ?s) => ?s); ?f rfl
def fi : Str := let_mvar% ?s := (_ : Str); let_mvar% ?f := (fun (_ : PySem.Challenge.pw_ownchain_k13_no_codes_texts.main.file = ?s) => ?s); ?f rfl
def pw : Program := { main := { body := [s0, s1, s2, s3, s4, s5, s6, s7, s8, s9, s10, s11, s12, s13, s14, s15, s16, s17, s18, s19, s20, s21, s22, s23, s24, s25, s26, s27, s28, s29, s30, s31, s32, s33, s34, s35, s36, s37, s38, s39, s40, s41, s42, s43, s44, s45, s46, s47, s48, s49, s50, s51, s52, s53, s54, s55, s56, s57, s58, s59, s60, s61, s62, s63, s64, s65, s66, s67, s68, s69, s70], scope := sc, futureAnnotations := false, file := fi, more := [] }, modules := [], parses := [], absent := [], harvested := [], given := gi }
def rw : PySem.W.OpenLaw := { prog := pw, name := (let_mvar% ?sname := (_ : Str); let_mvar% ?fname := (fun (_ : PySem.Challenge.rw_ownchain_k13_no_codes_texts.name = ?sname) => ?sname); ?fname rfl), about := (let_mvar% ?sabout := (_ : List Str); let_mvar% ?fabout := (fun (_ : PySem.Challenge.rw_ownchain_k13_no_codes_texts.about = ?sabout) => ?sabout); ?fabout rfl), foot := (let_mvar% ?sfoot := (_ : Nat); let_mvar% ?ffoot := (fun (_ : PySem.Challenge.rw_ownchain_k13_no_codes_texts.foot = ?sfoot) => ?sfoot); ?ffoot rfl), most := some 63, bound := none, writes := false }
theorem rw_eq : PySem.Challenge.rw_ownchain_k13_no_codes_texts = rw := rfl
end OcP

noncomputable def PySem.W.Fast.tw3600972012386557334 : Unit := ()
noncomputable def PySem.W.Fast.tw2965761636485331074 : Unit := ()
noncomputable def PySem.W.Fast.tw9874273354854138803 : Unit := ()
noncomputable def PySem.W.Fast.tw13428874043469489916 : Unit := ()
noncomputable def PySem.W.Fast.tw14978706205620940648 : Unit := ()
noncomputable def PySem.W.Fast.tw1705008983666405379 : Unit := ()
noncomputable def PySem.W.Fast.tw12798287469073374000 : Unit := ()
noncomputable def PySem.W.Fast.tw16604523446579539480 : Unit := ()
noncomputable def PySem.W.Fast.tw333952492305313090 : Unit := ()
noncomputable def PySem.W.Fast.tw8691992353595848283 : Unit := ()
noncomputable def PySem.W.Fast.tw3368686002103881449 : Unit := ()
noncomputable def PySem.W.Fast.tw15798571617686847648 : Unit := ()
open PySem PySem.W PyProof.Rows
set_option maxRecDepth 100000 in
set_option maxHeartbeats 0 in
theorem PySem.Challenge.cw_ownchain_k13_no_codes_texts_holds : PySem.Challenge.rw_ownchain_k13_no_codes_texts.Holds := by
  rw [OcP.rw_eq]
  w_on; o_law; z_head; (case hw => w_witness2)
  k_fill
  refine L2.walkX_of (fun P => rfl) ?_
  refine OcL.walk (l := OcP.rw) rfl rfl (fun w h Y => Y) ?F
  case F =>
    intro w mg fa h KX G hmg
    refine' OcL.all_mk KX G hmg ?c_NoText ?c_NoCode ?c_ChainError ?c_NoName ?c_NoRow ?c_NoSheet ?a0 ?l0 ?c0 ?k0 ?a1 ?l1 ?c1 ?k1 ?a2 ?l2 ?c2 ?k2 ?a3 ?l3 ?c3 ?k3 ?a4 ?l4 ?c4 ?k4 ?a5 ?l5 ?c5 ?k5 ?a6 ?l6 ?c6 ?k6 ?a7 ?l7 ?c7 ?k7 ?a8 ?l8 ?c8 ?k8 ?a9 ?l9 ?c9 ?k9 ?a10 ?l10 ?c10 ?k10 ?a11 ?l11 ?c11 ?k11 ?a12 ?l12 ?c12 ?k12 ?a13 ?l13 ?c13 ?k13 ?a14 ?l14 ?c14 ?k14 ?a15 ?l15 ?c15 ?k15 ?a16 ?l16 ?c16 ?k16 ?a17 ?l17 ?c17 ?k17 ?a18 ?l18 ?c18 ?k18 ?a19 ?l19 ?c19 ?k19 ?a20 ?l20 ?c20 ?k20 ?a21 ?l21 ?c21 ?k21 ?a22 ?l22 ?c22 ?k22 ?a23 ?l23 ?c23 ?k23 ?a24 ?l24 ?c24 ?k24 ?a25 ?l25 ?c25 ?k25 ?a26 ?l26 ?c26 ?k26 ?a27 ?l27 ?c27 ?k27 ?a28 ?l28 ?c28 ?k28 ?a29 ?l29 ?c29 ?k29 ?z_len ?z_range ?z_all ?z_max ?z_enumerate ?z_isinstance ?z_int ?z_bool ?z_tuple ?z_list ?z_str ?z_ValueError ?i_ADD ?i_NEW ?i_MOST_FUNCTIONS ?i_MOST_PARAMS ?i_MOST_BOXES ?i_MOST_MANY ?i_LEAST_PICK ?i_OP_PUSH ?i_OP_GET ?i_OP_SET ?i_OP_DROP ?i_OP_JUMP ?i_OP_UNLESS ?i_OP_CALL ?i_OP_BACK ?i_OP_FAIL ?i_OP_BREATH ?i_OP_DO ?i_OP_PICK ?i_HEAD_SIZE ?i_ROW_SIZE ?i_SET ?i_MOST_FIGURES ?i_HEAD_LENGTH ?i_MOST_PUSHED_FIGURES ?s_FIGURES ?s_HEAD_WORD ?g_WORDS ?o_WORDS ?g_ROW ?o_ROW ?u_bool ?u_tl ?v_NoneType ?v_int ?v_bool ?v_list ?v_tuple ?v_dict ?ty_NoText ?ty_NoCode ?ty_ChainError ?ty_NoName ?ty_NoRow ?ty_NoSheet ?cl_NoText ?cl_NoCode ?cl_ChainError ?cl_NoName ?cl_NoRow ?cl_NoSheet ?se_NoText ?se_NoCode ?se_NoName ?se_NoRow ?se_NoSheet ?xb_ChainError ?su_NoText_ChainError ?ve_NoText ?su_NoText_NoName ?su_NoText_NoRow ?su_NoText_NoSheet ?su_NoText_NoCode ?xobj_NoText ?xbase_NoText ?xsa_NoText ?xga_NoText ?xnh_NoText ?xha_NoText ?su_NoCode_ChainError ?ve_NoCode ?su_NoCode_NoName ?su_NoCode_NoRow ?su_NoCode_NoSheet ?su_NoCode_NoText ?xobj_NoCode ?xbase_NoCode ?xsa_NoCode ?xga_NoCode ?xnh_NoCode ?xha_NoCode ?xhn ?xtk ?xN ?yN ?xC ?xD ?xF ?yD ?yF ?xkp ?xty ?xat ?xE ?yE
    (case c_NoText => k_is)
    (case c_NoCode => k_is)
    (case c_ChainError => k_is)
    (case c_NoName => k_is)
    (case c_NoRow => k_is)
    (case c_NoSheet => k_is)
    (case a0 => k_is)
    (case l0 => k_is)
    (case c0 => k_is)
    (case k0 => k_is)
    (case a1 => k_is)
    (case l1 => k_is)
    (case c1 => k_is)
    (case k1 => k_is)
    (case a2 => k_is)
    (case l2 => k_is)
    (case c2 => k_is)
    (case k2 => k_is)
    (case a3 => k_is)
    (case l3 => k_is)
    (case c3 => k_is)
    (case k3 => k_is)
    (case a4 => k_is)
    (case l4 => k_is)
    (case c4 => k_is)
    (case k4 => k_is)
    (case a5 => k_is)
    (case l5 => k_is)
    (case c5 => k_is)
    (case k5 => k_is)
    (case a6 => k_is)
    (case l6 => k_is)
    (case c6 => k_is)
    (case k6 => k_is)
    (case a7 => k_is)
    (case l7 => k_is)
    (case c7 => k_is)
    (case k7 => k_is)
    (case a8 => k_is)
    (case l8 => k_is)
    (case c8 => k_is)
    (case k8 => k_is)
    (case a9 => k_is)
    (case l9 => k_is)
    (case c9 => k_is)
    (case k9 => k_is)
    (case a10 => k_is)
    (case l10 => k_is)
    (case c10 => k_is)
    (case k10 => k_is)
    (case a11 => k_is)
    (case l11 => k_is)
    (case c11 => k_is)
    (case k11 => k_is)
    (case a12 => k_is)
    (case l12 => k_is)
    (case c12 => k_is)
    (case k12 => k_is)
    (case a13 => k_is)
    (case l13 => k_is)
    (case c13 => k_is)
    (case k13 => k_is)
    (case a14 => k_is)
    (case l14 => k_is)
    (case c14 => k_is)
    (case k14 => k_is)
    (case a15 => k_is)
    (case l15 => k_is)
    (case c15 => k_is)
    (case k15 => k_is)
    (case a16 => k_is)
    (case l16 => k_is)
    (case c16 => k_is)
    (case k16 => k_is)
    (case a17 => k_is)
    (case l17 => k_is)
    (case c17 => k_is)
    (case k17 => k_is)
    (case a18 => k_is)
    (case l18 => k_is)
    (case c18 => k_is)
    (case k18 => k_is)
    (case a19 => k_is)
    (case l19 => k_is)
    (case c19 => k_is)
    (case k19 => k_is)
    (case a20 => k_is)
    (case l20 => k_is)
    (case c20 => k_is)
    (case k20 => k_is)
    (case a21 => k_is)
    (case l21 => k_is)
    (case c21 => k_is)
    (case k21 => k_is)
    (case a22 => k_is)
    (case l22 => k_is)
    (case c22 => k_is)
    (case k22 => k_is)
    (case a23 => k_is)
    (case l23 => k_is)
    (case c23 => k_is)
    (case k23 => k_is)
    (case a24 => k_is)
    (case l24 => k_is)
    (case c24 => k_is)
    (case k24 => k_is)
    (case a25 => k_is)
    (case l25 => k_is)
    (case c25 => k_is)
    (case k25 => k_is)
    (case a26 => k_is)
    (case l26 => k_is)
    (case c26 => k_is)
    (case k26 => k_is)
    (case a27 => k_is)
    (case l27 => k_is)
    (case c27 => k_is)
    (case k27 => k_is)
    (case a28 => k_is)
    (case l28 => k_is)
    (case c28 => k_is)
    (case k28 => k_is)
    (case a29 => k_is)
    (case l29 => k_is)
    (case c29 => k_is)
    (case k29 => k_is)
    (case z_len => k_is)
    (case z_range => k_is)
    (case z_all => k_is)
    (case z_max => k_is)
    (case z_enumerate => k_is)
    (case z_isinstance => k_is)
    (case z_int => k_is)
    (case z_bool => k_is)
    (case z_tuple => k_is)
    (case z_list => k_is)
    (case z_str => k_is)
    (case z_ValueError => k_is)
    (case i_ADD => k_is)
    (case i_NEW => k_is)
    (case i_MOST_FUNCTIONS => k_is)
    (case i_MOST_PARAMS => k_is)
    (case i_MOST_BOXES => k_is)
    (case i_MOST_MANY => k_is)
    (case i_LEAST_PICK => k_is)
    (case i_OP_PUSH => k_is)
    (case i_OP_GET => k_is)
    (case i_OP_SET => k_is)
    (case i_OP_DROP => k_is)
    (case i_OP_JUMP => k_is)
    (case i_OP_UNLESS => k_is)
    (case i_OP_CALL => k_is)
    (case i_OP_BACK => k_is)
    (case i_OP_FAIL => k_is)
    (case i_OP_BREATH => k_is)
    (case i_OP_DO => k_is)
    (case i_OP_PICK => k_is)
    (case i_HEAD_SIZE => k_is)
    (case i_ROW_SIZE => k_is)
    (case i_SET => k_is)
    (case i_MOST_FIGURES => k_is)
    (case i_HEAD_LENGTH => k_is)
    (case i_MOST_PUSHED_FIGURES => k_is)
    (case s_FIGURES => k_is)
    (case s_HEAD_WORD => k_is)
    (case g_WORDS => k_is)
    (case o_WORDS => k_is)
    (case g_ROW => k_is)
    (case o_ROW => k_is)
    (case u_bool => k_is)
    (case u_tl => k_is)
    (case v_NoneType => k_is)
    (case v_int => k_is)
    (case v_bool => k_is)
    (case v_list => k_is)
    (case v_tuple => k_is)
    (case v_dict => k_is)
    (case ty_NoText => k_is)
    (case ty_NoCode => k_is)
    (case ty_ChainError => k_is)
    (case ty_NoName => k_is)
    (case ty_NoRow => k_is)
    (case ty_NoSheet => k_is)
    (case cl_NoText => k_is)
    (case cl_NoCode => k_is)
    (case cl_ChainError => k_is)
    (case cl_NoName => k_is)
    (case cl_NoRow => k_is)
    (case cl_NoSheet => k_is)
    (case se_NoText => k_is)
    (case se_NoCode => k_is)
    (case se_NoName => k_is)
    (case se_NoRow => k_is)
    (case se_NoSheet => k_is)
    (case xb_ChainError => k_is)
    (case su_NoText_ChainError => k_is)
    (case ve_NoText => k_is)
    (case su_NoText_NoName => k_is)
    (case su_NoText_NoRow => k_is)
    (case su_NoText_NoSheet => k_is)
    (case su_NoText_NoCode => k_is)
    (case xobj_NoText => k_is)
    (case xbase_NoText => k_is)
    (case xsa_NoText => k_is)
    (case xga_NoText => k_is)
    (case xnh_NoText => k_is)
    (case xha_NoText => k_is)
    (case su_NoCode_ChainError => k_is)
    (case ve_NoCode => k_is)
    (case su_NoCode_NoName => k_is)
    (case su_NoCode_NoRow => k_is)
    (case su_NoCode_NoSheet => k_is)
    (case su_NoCode_NoText => k_is)
    (case xobj_NoCode => k_is)
    (case xbase_NoCode => k_is)
    (case xsa_NoCode => k_is)
    (case xga_NoCode => k_is)
    (case xnh_NoCode => k_is)
    (case xha_NoCode => k_is)
    (case xhn => k_is)
    (case xtk => k_is)
    (case xN => k_is)
    (case yN => k_is)
    (case xC => k_is)
    (case xD => k_is)
    (case xF => k_is)
    (case yD => k_is)
    (case yF => k_is)
    (case xkp => k_is)
    (case xty => k_is)
    (case xat => k_is)
    (case xE => rfl)
    (case yE => rfl)
